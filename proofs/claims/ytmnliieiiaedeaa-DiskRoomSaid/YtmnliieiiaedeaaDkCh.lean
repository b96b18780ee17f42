/-
  Changes of the files: what they do, and the closures that do it.
-/
import Derived.Test.YtmnliieiiaedeaaDkFi4
namespace Go.Proofs.Ytmnliieiiaedeaa.dk
open Go.ChangeShapes Go.WideShapes Go.ChangeAt Go.RowKit Go.Maps Go.Sort Go.Shelf plain words ord mem al

/-- a name's bytes as a string -/
def bs (a : Nm) : ByteArray := ⟨a.toArray⟩
theorem bs_list (a : Nm) : (bs a).data.toList = a := by simp [bs]
theorem bs_size (a : Nm) : (bs a).size = a.length := by show a.toArray.size = _; simp
theorem ba_bs (s : ByteArray) : ∃ a, s = bs a := ⟨s.data.toList, by cases s; simp [bs]⟩
inductive Chn
  | app (a b : Nm)
  | ren (a b : Nm)
  | rem (a : Nm)
def done (fs : AL Nm) : Chn → AL Nm
  | .app a b => al.put fs a ((al.get fs a).getD [] ++ b)
  | .ren a b => mv fs a b
  | .rem a => al.del fs a
def okc (fs : AL Nm) : Chn → Prop
  | .app a _ => a.length ≤ 40
  | .ren a b => a.length ≤ 40 ∧ b.length ≤ 40 ∧ al.get fs a ≠ none
  | .rem a => a.length ≤ 40
def chlen : Chn → Nat
  | .app _ b => b.length
  | _ => 0
theorem mv_srt {fs : AL Nm} (h : Srt fs) (a b : Nm) : Srt (mv fs a b) := by
  unfold mv
  split
  · exact h
  · split
    · exact h
    · exact srt_put (srt_del h _) _ _
theorem done_srt {fs : AL Nm} (h : Srt fs) (c : Chn) : Srt (done fs c) := by
  cases c with
  | app a b => exact srt_put h _ _
  | ren a b => exact mv_srt h a b
  | rem a => exact srt_del h _
theorem del_sum {fs : AL Nm} (h : Srt fs) (a : Nm) : fsum (al.del fs a) + ((al.get fs a).getD []).length = fsum fs := by
  cases hg : al.get fs a with
  | none => rw [del_absent hg]; simp
  | some y => have := sum_del (f := List.length) h hg; simpa [fsum] using this
theorem put_sum {fs : AL Nm} (h : Srt fs) (a b : Nm) : fsum (al.put fs a b) + ((al.get fs a).getD []).length = fsum fs + b.length := by
  cases hg : al.get fs a with
  | none => have := sum_put_new (f := List.length) (x := b) hg; simpa [fsum] using this
  | some y => have := sum_put_old (f := List.length) (x := b) h hg; simpa [fsum] using this
theorem done_sum {fs : AL Nm} (h : Srt fs) (c : Chn) : fsum (done fs c) ≤ fsum fs + chlen c := by
  cases c with
  | app a b =>
    have := put_sum h a ((al.get fs a).getD [] ++ b)
    rw [List.length_append] at this
    simp only [done, chlen]; omega
  | ren a b =>
    simp only [done, chlen, mv]
    split
    · omega
    · split
      · omega
      · rename_i s hs
        have h1 := del_sum h a
        have h2 := put_sum (srt_del h a) b s
        rw [hs] at h1
        simp only [Option.getD_some] at h1
        omega
  | rem a =>
    have := del_sum h a
    simp only [done, chlen]; omega
theorem put_len {fs : AL Nm} (a b : Nm) : (al.put fs a b).length ≤ fs.length + 1 := len_put
theorem done_len (fs : AL Nm) (c : Chn) : (done fs c).length ≤ fs.length + 1 := by
  cases c with
  | app a b => exact len_put
  | ren a b =>
    simp only [done, mv]
    split
    · omega
    · split
      · omega
      · have h1 : (al.del fs a).length ≤ fs.length := List.length_filter_le _ _
        rename_i s _
        have := @len_put Nm (al.del fs a) b s
        omega
  | rem a => exact Nat.le_succ_of_le (List.length_filter_le _ _)
/-- a change that is pending: and the boxes that its closure holds -/
structure Pd where
  c : Chn
  ba : Nat
  bb : Nat
abbrev ptr (b : Nat) : Value := .pointer (some ⟨b, 0, none⟩)
def Pd.fn (q : Pd) : Value := match q.c with
  | .app _ _ => .func (.func 44) #[] #[ptr q.ba, ptr q.bb]
  | .ren _ _ => .func (.func 63) #[] #[ptr q.ba, ptr q.bb]
  | .rem _ => .func (.func 61) #[] #[ptr q.ba]
def Pd.isApp (q : Pd) : Bool := match q.c with
  | .app _ _ => true
  | _ => false
def boxS (w : World) (b : Nat) (a : Nm) : Prop := w.heap[b]? = some (.cells #[.string (bs a)] 9 (0, 0))
def Pd.boxes (w : World) (q : Pd) : Prop := match q.c with
  | .app a b => boxS w q.ba a ∧ boxS w q.bb b
  | .ren a b => boxS w q.ba a ∧ boxS w q.bb b
  | .rem a => boxS w q.ba a
def Pd.foot (q : Pd) (k : Nat) : Prop := match q.c with
  | .rem _ => k = q.ba
  | _ => k = q.ba ∨ k = q.bb
theorem Pd.boxes_chg {S : Nat → Prop} {w w' : World} {q : Pd} (h : q.boxes w) (hc : Chg S w w') (hS : ∀ k, q.foot k → ¬ S k) : q.boxes w' := by
  obtain ⟨c, ba, bb⟩ := q
  cases c with
  | app a b => exact ⟨hc.blk h.1 (hS _ (.inl rfl)), hc.blk h.2 (hS _ (.inr rfl))⟩
  | ren a b => exact ⟨hc.blk h.1 (hS _ (.inl rfl)), hc.blk h.2 (hS _ (.inr rfl))⟩
  | rem a => exact hc.blk h (hS _ rfl)
theorem Pd.boxes_lt {w : World} {q : Pd} (h : q.boxes w) {k : Nat} (hk : q.foot k) : k < w.heap.size := by
  obtain ⟨c, ba, bb⟩ := q
  cases c with
  | app a b =>
    rcases hk with e | e
    · subst e; exact blk_lt h.1
    · subst e; exact blk_lt h.2
  | ren a b =>
    rcases hk with e | e
    · subst e; exact blk_lt h.1
    · subst e; exact blk_lt h.2
  | rem a => cases hk; exact blk_lt h
theorem RetFil.drew {w : World} {f : Nat} {F : Nat → Prop} {fs : AL Nm} {e : Ending} {w' : World} (h : RetFil w.drew f F fs e w') : RetFil w f F fs e w' :=
  ⟨h.1, h.2.1, ((Chg.refl F w).drew).trans h.2.2 (fun _ _ e => e)⟩
set_option maxRecDepth 100000 in
set_option maxHeartbeats 1000000 in
theorem app_x (w : World) (f : Nat) (F : Nat → Prop) (fs : AL Nm) (a b : Nm) (ba bb M : Nat) (part : Int) (h : Fil w f F fs) (h1 : boxS w ba a) (h2 : boxS w bb b) (hl : a.length ≤ 40)
    (hp0 : 0 ≤ part) (hM : (min part (b.length : Int)).toNat = M) (hbig : fsum fs + b.length ≤ 1099511627776) (hfew : fs.length < 1099511627776) :
    Calls Try.prog 44 #[ptr f, .int .i64 part, ptr ba, ptr bb] w (RetFil w f F (done fs (.app a (b.take M)))) := by
  have hMb : M ≤ b.length := by omega
  have c1 : w.cell? ⟨ba, 0, none⟩ = some (.string (bs a)) := by rw [cell_of_row _ _ _ _ _ _ h1]; rfl
  have c2 : w.cell? ⟨bb, 0, none⟩ = some (.string (bs b)) := by rw [cell_of_row _ _ _ _ _ _ h2]; rfl
  have q1 := Wb.at_ c1
  have q2 := Wb.at_ c2
  have l1 : ba < w.heap.size := blk_lt h1
  have l2 : bb < w.heap.size := blk_lt h2
  have hsz : (bs b).size = b.length := bs_size b
  have hex : ((bs b).extract 0 M).data.toList = b.take M := by simp [bs]
  have hexs : ((bs b).extract 0 M).size = M := by show ((bs b).extract 0 M).data.size = M; rw [← Array.length_toList, hex, List.length_take]; omega
  have m0 : (0 : Int) ≤ min part (b.length : Int) := by omega
  have m1 : min part (b.length : Int) ≤ (b.length : Int) := by omega
  have HA := Lib.hid (add_f w.drew f F fs (bs a) ((bs b).extract 0 M) (h.chg (Chg.refl (fun _ => False) _).drew (fun _ _ e => e)) (by rw [bs_size]; unfold maxLen; omega) (by rw [hexs]; omega) hfew)
  rw [bs_list, hex] at HA
  have HM := Lib.hid hM
  clear h h1 h2 c1 c2 hex hexs hM
  go_enter Try.func44, Try.ntmps44
  go_wp2_with fail
  refine wp_region_plan [([0, 1, 2, 3, 4, 5, 6, 7], some (8, true)), ([], none)] (by kernel_rfl) (by kernel_rfl) ?_
  refine seg_write _ (by dsimp only [pick, at_]) _ (by dsimp only [pick, at_]) ?_
  repeat (go_big_quiet_step (fail))
  refine wpQuiet_nil ?_
  rw [HM.out]
  intro K1 g1
  clear q1 q2
  go_wp2_with (fail)
  refine HA.out.mono ?_
  rintro e w1 hr
  obtain ⟨rfl, hr3, hr4⟩ := RetFil.drew hr
  have R3 := Lib.hid hr3
  have R4 := Lib.hid hr4
  clear hr hr3 hr4
  go_wp2_with (fail)
  refine seg_end _ (by dsimp only [pick, at_]) ?_
  repeat (go_big_quiet_step (fail))
  refine wpQuiet_nil (NoPanic.normal ?_)
  go_wp2_with (fail)
  go_end0
  exact ⟨rfl, R3.out, R4.out⟩
set_option maxRecDepth 100000 in
theorem ren_x (w : World) (f : Nat) (F : Nat → Prop) (fs : AL Nm) (a b : Nm) (ba bb : Nat) (part : Int) (h : Fil w f F fs) (h1 : boxS w ba a) (h2 : boxS w bb b) (hl : a.length ≤ 40) (hl2 : b.length ≤ 40) (hth : al.get fs a ≠ none)
    (hbig : fsum fs ≤ 1099511627776) (hfew : fs.length < 1099511627776) :
    Calls Try.prog 63 #[ptr f, .int .i64 part, ptr ba, ptr bb] w (RetFil w f F (done fs (.ren a b))) := by
  have c1 : w.cell? ⟨ba, 0, none⟩ = some (.string (bs a)) := by rw [cell_of_row _ _ _ _ _ _ h1]; rfl
  have c2 : w.cell? ⟨bb, 0, none⟩ = some (.string (bs b)) := by rw [cell_of_row _ _ _ _ _ _ h2]; rfl
  have l1 : ba < w.heap.size := blk_lt h1
  have l2 : bb < w.heap.size := blk_lt h2
  have HA := Lib.hid (move_f w f F fs (bs a) (bs b) h (by rw [bs_size]; unfold maxLen; omega) (by rw [bs_size]; unfold maxLen; omega) (by omega) hfew (by rw [bs_list]; exact hth))
  rw [bs_list, bs_list] at HA
  clear h h1 h2 hth
  go_enter Try.func63, Try.ntmps63
  go_wp2_with fail
  refine HA.out.mono ?_
  rintro e w1 ⟨rfl, hr3, hr4⟩
  have R3 := Lib.hid hr3
  have R4 := Lib.hid hr4
  clear hr3 hr4
  go_wp2_with (fail)
  go_end0
  exact ⟨rfl, R3.out, R4.out⟩
set_option maxRecDepth 100000 in
theorem rem_x (w : World) (f : Nat) (F : Nat → Prop) (fs : AL Nm) (a : Nm) (ba : Nat) (part : Int) (h : Fil w f F fs) (h1 : boxS w ba a) (hl : a.length ≤ 40) (hbig : fsum fs ≤ 1099511627776) :
    Calls Try.prog 61 #[ptr f, .int .i64 part, ptr ba] w (RetFil w f F (done fs (.rem a))) := by
  have c1 : w.cell? ⟨ba, 0, none⟩ = some (.string (bs a)) := by rw [cell_of_row _ _ _ _ _ _ h1]; rfl
  have l1 : ba < w.heap.size := blk_lt h1
  have HA := Lib.hid (remove_f w f F fs (bs a) h (by rw [bs_size]; unfold maxLen; omega) (by omega))
  rw [bs_list] at HA
  clear h h1
  go_enter Try.func61, Try.ntmps61
  go_wp2_with fail
  refine HA.out.mono ?_
  rintro e w1 ⟨rfl, hr3, hr4⟩
  have R3 := Lib.hid hr3
  have R4 := Lib.hid hr4
  clear hr3 hr4
  go_wp2_with (fail)
  go_end0
  exact ⟨rfl, R3.out, R4.out⟩
/-- all bytes of a change -/
def whole : Int := 9223372036854775807
def Pd.fid (q : Pd) : FuncId := match q.c with
  | .app _ _ => 44
  | .ren _ _ => 63
  | .rem _ => 61
def Pd.caps (q : Pd) : Array Value := match q.c with
  | .rem _ => #[ptr q.ba]
  | _ => #[ptr q.ba, ptr q.bb]
theorem Pd.fn_eq (q : Pd) : q.fn = .func (.func q.fid) #[] q.caps := by
  obtain ⟨c, ba, bb⟩ := q
  cases c <;> rfl
/-- a change made whole -/
theorem whole_x (w : World) (f : Nat) (F : Nat → Prop) (fs : AL Nm) (q : Pd) (h : Fil w f F fs) (hq : q.boxes w) (ho : okc fs q.c) (hbig : fsum fs + chlen q.c ≤ 1099511627776) (hfew : fs.length < 1099511627776) :
    Calls Try.prog q.fid (#[ptr f, .int .i64 whole] ++ q.caps) w (RetFil w f F (done fs q.c)) := by
  obtain ⟨c, ba, bb⟩ := q
  cases c with
  | app a b =>
    have := app_x w f F fs a b ba bb b.length whole h hq.1 hq.2 ho (by unfold whole; omega) (by simp only [chlen] at hbig; unfold whole; omega) hbig hfew
    rw [List.take_length] at this
    exact this
  | ren a b => exact ren_x w f F fs a b ba bb whole h hq.1 hq.2 ho.1 ho.2.1 ho.2.2 hbig hfew
  | rem a => exact rem_x w f F fs a ba whole h hq ho hbig
end Go.Proofs.Ytmnliieiiaedeaa.dk
