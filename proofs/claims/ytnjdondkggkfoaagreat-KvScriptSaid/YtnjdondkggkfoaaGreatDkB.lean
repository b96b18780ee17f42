/-
  Changes of the files: what they do, and the closures that do it.
-/
import Derived.Test.YtnjdondkggkfoaaGreatDkA
import Derived.Test.YtnjdondkggkfoaaGreatLst
import Derived.Test.YtnjdondkggkfoaaGreatRow
namespace Go.Proofs.YtnjdondkggkfoaaGreat.dk
open Go.ChangeShapes Go.WideShapes Go.ChangeAt Go.RowKit Go.Maps Go.Sort Go.Shelf plain words ord mem al

/-- a name's bytes as a string -/
def bs (a : Nm) : ByteArray := ⟨a.toArray⟩
theorem bs_list (a : Nm) : (bs a).data.toList = a := by simp [bs]
theorem bs_size (a : Nm) : (bs a).size = a.length := by show a.toArray.size = _; simp
theorem ba_bs (s : ByteArray) : ∃ a, s = bs a := ⟨s.data.toList, by cases s; simp [bs]⟩
inductive Chn
  | app (a b : Nm)
  | ren (a b : Nm)
  | rem (a : Nm)
def done (fs : AL Nm) : Chn → AL Nm
  | .app a b => al.put fs a ((al.get fs a).getD [] ++ b)
  | .ren a b => mv fs a b
  | .rem a => al.del fs a
def okc (fs : AL Nm) : Chn → Prop
  | .app a _ => a.length ≤ 40
  | .ren a b => a.length ≤ 40 ∧ b.length ≤ 40 ∧ al.get fs a ≠ none
  | .rem a => a.length ≤ 40
def chlen : Chn → Nat
  | .app _ b => b.length
  | _ => 0
theorem mv_srt {fs : AL Nm} (h : Srt fs) (a b : Nm) : Srt (mv fs a b) := by
  unfold mv
  split
  · exact h
  · split
    · exact h
    · exact srt_put (srt_del h _) _ _
theorem done_srt {fs : AL Nm} (h : Srt fs) (c : Chn) : Srt (done fs c) := by
  cases c with
  | app a b => exact srt_put h _ _
  | ren a b => exact mv_srt h a b
  | rem a => exact srt_del h _
theorem del_sum {fs : AL Nm} (h : Srt fs) (a : Nm) : fsum (al.del fs a) + ((al.get fs a).getD []).length = fsum fs := by
  cases hg : al.get fs a with
  | none => rw [del_absent hg]; simp
  | some y => have := sum_del (f := List.length) h hg; simpa [fsum] using this
theorem put_sum {fs : AL Nm} (h : Srt fs) (a b : Nm) : fsum (al.put fs a b) + ((al.get fs a).getD []).length = fsum fs + b.length := by
  cases hg : al.get fs a with
  | none => have := sum_put_new (f := List.length) (x := b) hg; simpa [fsum] using this
  | some y => have := sum_put_old (f := List.length) (x := b) h hg; simpa [fsum] using this
theorem done_sum {fs : AL Nm} (h : Srt fs) (c : Chn) : fsum (done fs c) ≤ fsum fs + chlen c := by
  cases c with
  | app a b =>
    have := put_sum h a ((al.get fs a).getD [] ++ b)
    rw [List.length_append] at this
    simp only [done, chlen]; omega
  | ren a b =>
    simp only [done, chlen, mv]
    split
    · omega
    · split
      · omega
      · rename_i s hs
        have h1 := del_sum h a
        have h2 := put_sum (srt_del h a) b s
        rw [hs] at h1
        simp only [Option.getD_some] at h1
        omega
  | rem a =>
    have := del_sum h a
    simp only [done, chlen]; omega
theorem done_len (fs : AL Nm) (c : Chn) : (done fs c).length ≤ fs.length + 1 := by
  cases c with
  | app a b => exact len_put
  | ren a b =>
    simp only [done, mv]
    split
    · omega
    · split
      · omega
      · have h1 : (al.del fs a).length ≤ fs.length := List.length_filter_le _ _
        rename_i s _
        have := @len_put Nm (al.del fs a) b s
        omega
  | rem a => exact Nat.le_succ_of_le (List.length_filter_le _ _)
/-- a change that is pending: and the boxes that its closure holds -/
structure Pd where
  c : Chn
  ba : Nat
  bb : Nat
abbrev ptr (b : Nat) : Value := .pointer (some ⟨b, 0, none⟩)
def Pd.fn (q : Pd) : Value := match q.c with
  | .app _ _ => .func (.func 98) #[] #[ptr q.ba, ptr q.bb]
  | .ren _ _ => .func (.func 100) #[] #[ptr q.ba, ptr q.bb]
  | .rem _ => .func (.func 102) #[] #[ptr q.ba]
def Pd.isApp (q : Pd) : Bool := match q.c with
  | .app _ _ => true
  | _ => false
def boxS (w : World) (b : Nat) (a : Nm) : Prop := w.heap[b]? = some (.cells #[.string (bs a)] 9 (0, 0))
def Pd.boxes (w : World) (q : Pd) : Prop := match q.c with
  | .app a b => boxS w q.ba a ∧ boxS w q.bb b
  | .ren a b => boxS w q.ba a ∧ boxS w q.bb b
  | .rem a => boxS w q.ba a
def Pd.foot (q : Pd) (k : Nat) : Prop := match q.c with
  | .rem _ => k = q.ba
  | _ => k = q.ba ∨ k = q.bb
theorem Pd.boxes_chg {S : Nat → Prop} {w w' : World} {q : Pd} (h : q.boxes w) (hc : Chg S w w') (hS : ∀ k, q.foot k → ¬ S k) : q.boxes w' := by
  obtain ⟨c, ba, bb⟩ := q
  cases c with
  | app a b => exact ⟨hc.blk h.1 (hS _ (.inl rfl)), hc.blk h.2 (hS _ (.inr rfl))⟩
  | ren a b => exact ⟨hc.blk h.1 (hS _ (.inl rfl)), hc.blk h.2 (hS _ (.inr rfl))⟩
  | rem a => exact hc.blk h (hS _ rfl)
theorem Pd.boxes_lt {w : World} {q : Pd} (h : q.boxes w) {k : Nat} (hk : q.foot k) : k < w.heap.size := by
  obtain ⟨c, ba, bb⟩ := q
  cases c with
  | app a b =>
    rcases hk with e | e
    · subst e; exact blk_lt h.1
    · subst e; exact blk_lt h.2
  | ren a b =>
    rcases hk with e | e
    · subst e; exact blk_lt h.1
    · subst e; exact blk_lt h.2
  | rem a => cases hk; exact blk_lt h
theorem RetFil.drew {w : World} {f : Nat} {F : Nat → Prop} {fs : AL Nm} {e : Ending} {w' : World} (h : RetFil w.drew f F fs e w') : RetFil w f F fs e w' :=
  ⟨h.1, h.2.1, ((Chg.refl F w).drew).trans h.2.2 (fun _ _ e => e)⟩
set_option maxRecDepth 100000 in
set_option maxHeartbeats 1000000 in
theorem app_x (w : World) (f : Nat) (F : Nat → Prop) (fs : AL Nm) (a b : Nm) (ba bb M : Nat) (part : Int) (h : Fil w f F fs) (h1 : boxS w ba a) (h2 : boxS w bb b) (hl : a.length ≤ 40)
    (hp0 : 0 ≤ part) (hM : (min part (b.length : Int)).toNat = M) (hbig : fsum fs + b.length ≤ 1099511627776) (hfew : fs.length < 1099511627776) :
    Calls Tryz.prog 98 #[ptr f, .int .i64 part, ptr ba, ptr bb] w (RetFil w f F (done fs (.app a (b.take M)))) := by
  have hMb : M ≤ b.length := by omega
  have c1 : w.cell? ⟨ba, 0, none⟩ = some (.string (bs a)) := by rw [cell_of_row _ _ _ _ _ _ h1]; rfl
  have c2 : w.cell? ⟨bb, 0, none⟩ = some (.string (bs b)) := by rw [cell_of_row _ _ _ _ _ _ h2]; rfl
  have q1 := Wb.at_ c1
  have q2 := Wb.at_ c2
  have l1 : ba < w.heap.size := blk_lt h1
  have l2 : bb < w.heap.size := blk_lt h2
  have hsz : (bs b).size = b.length := bs_size b
  have hex : ((bs b).extract 0 M).data.toList = b.take M := by simp [bs]
  have hexs : ((bs b).extract 0 M).size = M := by show ((bs b).extract 0 M).data.size = M; rw [← Array.length_toList, hex, List.length_take]; omega
  have m0 : (0 : Int) ≤ min part (b.length : Int) := by omega
  have m1 : min part (b.length : Int) ≤ (b.length : Int) := by omega
  have HA := Lib.hid (add_f w.drew f F fs (bs a) ((bs b).extract 0 M) (h.chg (Chg.refl (fun _ => False) _).drew (fun _ _ e => e)) (by rw [bs_size]; unfold maxLen; omega) (by rw [hexs]; omega) hfew)
  rw [bs_list, hex] at HA
  have HM := Lib.hid hM
  clear h h1 h2 c1 c2 hex hexs hM
  go_enter Tryz.func98, Tryz.ntmps98
  go_wp2_with fail
  refine wp_region_plan [([0, 1, 2, 3, 4, 5, 6, 7], some (8, true)), ([], none)] (by kernel_rfl) (by kernel_rfl) ?_
  refine seg_write _ (by dsimp only [pick, at_]) _ (by dsimp only [pick, at_]) ?_
  repeat (go_big_quiet_step (fail))
  refine wpQuiet_nil ?_
  rw [HM.out]
  intro K1 g1
  clear q1 q2
  go_wp2_with (fail)
  refine HA.out.mono ?_
  rintro e w1 hr
  obtain ⟨rfl, hr3, hr4⟩ := RetFil.drew hr
  have R3 := Lib.hid hr3
  have R4 := Lib.hid hr4
  clear hr hr3 hr4
  go_wp2_with (fail)
  refine seg_end _ (by dsimp only [pick, at_]) ?_
  repeat (go_big_quiet_step (fail))
  refine wpQuiet_nil (NoPanic.normal ?_)
  go_wp2_with (fail)
  go_end0
  exact ⟨rfl, R3.out, R4.out⟩
set_option maxRecDepth 100000 in
theorem ren_x (w : World) (f : Nat) (F : Nat → Prop) (fs : AL Nm) (a b : Nm) (ba bb : Nat) (part : Int) (h : Fil w f F fs) (h1 : boxS w ba a) (h2 : boxS w bb b) (hl : a.length ≤ 40) (hl2 : b.length ≤ 40) (hth : al.get fs a ≠ none)
    (hbig : fsum fs ≤ 1099511627776) (hfew : fs.length < 1099511627776) :
    Calls Tryz.prog 100 #[ptr f, .int .i64 part, ptr ba, ptr bb] w (RetFil w f F (done fs (.ren a b))) := by
  have c1 : w.cell? ⟨ba, 0, none⟩ = some (.string (bs a)) := by rw [cell_of_row _ _ _ _ _ _ h1]; rfl
  have c2 : w.cell? ⟨bb, 0, none⟩ = some (.string (bs b)) := by rw [cell_of_row _ _ _ _ _ _ h2]; rfl
  have l1 : ba < w.heap.size := blk_lt h1
  have l2 : bb < w.heap.size := blk_lt h2
  have HA := Lib.hid (move_f w f F fs (bs a) (bs b) h (by rw [bs_size]; unfold maxLen; omega) (by rw [bs_size]; unfold maxLen; omega) (by omega) hfew (by rw [bs_list]; exact hth))
  rw [bs_list, bs_list] at HA
  clear h h1 h2 hth
  go_enter Tryz.func100, Tryz.ntmps100
  go_wp2_with fail
  refine HA.out.mono ?_
  rintro e w1 ⟨rfl, hr3, hr4⟩
  have R3 := Lib.hid hr3
  have R4 := Lib.hid hr4
  clear hr3 hr4
  go_wp2_with (fail)
  go_end0
  exact ⟨rfl, R3.out, R4.out⟩
set_option maxRecDepth 100000 in
theorem rem_x (w : World) (f : Nat) (F : Nat → Prop) (fs : AL Nm) (a : Nm) (ba : Nat) (part : Int) (h : Fil w f F fs) (h1 : boxS w ba a) (hl : a.length ≤ 40) (hbig : fsum fs ≤ 1099511627776) :
    Calls Tryz.prog 102 #[ptr f, .int .i64 part, ptr ba] w (RetFil w f F (done fs (.rem a))) := by
  have c1 : w.cell? ⟨ba, 0, none⟩ = some (.string (bs a)) := by rw [cell_of_row _ _ _ _ _ _ h1]; rfl
  have l1 : ba < w.heap.size := blk_lt h1
  have HA := Lib.hid (remove_f w f F fs (bs a) h (by rw [bs_size]; unfold maxLen; omega) (by omega))
  rw [bs_list] at HA
  clear h h1
  go_enter Tryz.func102, Tryz.ntmps102
  go_wp2_with fail
  refine HA.out.mono ?_
  rintro e w1 ⟨rfl, hr3, hr4⟩
  have R3 := Lib.hid hr3
  have R4 := Lib.hid hr4
  clear hr3 hr4
  go_wp2_with (fail)
  go_end0
  exact ⟨rfl, R3.out, R4.out⟩
/-- all bytes of a change -/
def whole : Int := 9223372036854775807
def Pd.fid (q : Pd) : FuncId := match q.c with
  | .app _ _ => 98
  | .ren _ _ => 100
  | .rem _ => 102
def Pd.caps (q : Pd) : Array Value := match q.c with
  | .rem _ => #[ptr q.ba]
  | _ => #[ptr q.ba, ptr q.bb]
/-- a change made whole -/
theorem whole_x (w : World) (f : Nat) (F : Nat → Prop) (fs : AL Nm) (q : Pd) (h : Fil w f F fs) (hq : q.boxes w) (ho : okc fs q.c) (hbig : fsum fs + chlen q.c ≤ 1099511627776) (hfew : fs.length < 1099511627776) :
    Calls Tryz.prog q.fid (#[ptr f, .int .i64 whole] ++ q.caps) w (RetFil w f F (done fs q.c)) := by
  obtain ⟨c, ba, bb⟩ := q
  cases c with
  | app a b =>
    have := app_x w f F fs a b ba bb b.length whole h hq.1 hq.2 ho (by unfold whole; omega) (by simp only [chlen] at hbig; unfold whole; omega) hbig hfew
    rw [List.take_length] at this
    exact this
  | ren a b => exact ren_x w f F fs a b ba bb whole h hq.1 hq.2 ho.1 ho.2.1 ho.2.2 hbig hfew
  | rem a => exact rem_x w f F fs a ba whole h hq ho hbig
end Go.Proofs.YtnjdondkggkfoaaGreat.dk
/-
  The disk as memory: its own block, two lots of files, the changes that are pending, the order.
-/
namespace Go.Proofs.YtnjdondkggkfoaaGreat.dk
open Go.ChangeShapes Go.WideShapes Go.ChangeAt Go.RowKit Go.Maps Go.Sort Go.Shelf plain words ord mem al

theorem infoC : (Tryz.prog.info? 97).map (fun i => (i.zero, i.size, i.bytes)) = some (some (.agg #[.nilFunc, .bool false]), 2, 16) := by kernel_rfl
def pdE (q : Pd) : List Value := [.func (.func q.fid) #[] q.caps, .bool q.isApp]
theorem pdE_one (q : Pd) : ∀ v ∈ pdE q, v.oneCell' = true := by
  intro v hv
  simp only [pdE, List.mem_cons, List.not_mem_nil, or_false] at hv
  rcases hv with rfl | rfl <;> rfl
def CE : El Pd := ⟨pdE, 2, 97, fun _ => rfl, pdE_one, by decide⟩
/-- a list in a row that a slice shows from its head on -/
def Rw {α : Type} (E : El α) (w : World) (v : Value) (n : Nat) (l : List α) : Prop := l.length = n ∧ Row w E.e E.k v n (cs E.enc l)
section
variable {α : Type} {E : El α} {w w' : World} {A : Option Addr} {v : Value} {n c g : Nat} {l : List α}
theorem Rw.nil (w : World) : Rw E w (.slice none 0 0) 0 [] := ⟨rfl, Row.nil _ _ _⟩
theorem Rw.lt (h : Rw E w v n l) (hg : v.ownBlock = some g) : g < w.heap.size := h.2.lt hg
theorem Rw.type (h : Rw E w v n l) (hg : v.ownBlock = some g) : ∃ cur, w.heap[g]? = some (.cells cur E.e (0, 0)) := h.2.type hg
theorem Rw.chg {S : Nat → Prop} (h : Rw E w v n l) (hc : Chg S w w') (hS : ∀ g, v.ownBlock = some g → ¬ S g) : Rw E w' v n l := ⟨h.1, h.2.chg hc hS⟩
theorem Rw.form (h : Rw E w v n l) : ∃ A c, v = .slice A n c ∧ (A = none → c = 0) ∧ n ≤ c ∧ c ≤ 9223372036854775807 := by
  obtain ⟨A, c, e, h1, h2, h3⟩ := h.2.form
  exact ⟨A, c, e, h3, h1, h2⟩
theorem Rw.ls (h : Rw E w (.slice A n c) n l) : Ls E w w.heap.size A n l := ⟨h.1, h.2.rd A c rfl⟩
end
abbrev Due := Option (Int × Int × Int)
def lossO (x : Int × Int × Int) : Obj := .cells #[.int .i64 x.1, .int .i64 x.2.1, .int .i64 x.2.2] 93 (0, 0)
/-- the order, as memory -/
def IsDue (w : World) (Fo : Nat → Prop) (due : Due) (dv : Option Nat) : Prop := match due, dv with
  | none, none => True
  | some x, some b => w.heap[b]? = some (lossO x) ∧ Fo b
  | _, _ => False
def dptr (dv : Option Nat) : Value := .pointer (dv.map fun b => ⟨b, 0, none⟩)
def diskO (room : Int) (fs fh : Nat) (v : Value) (dv : Option Nat) (dead : Bool) (ops : Int) : Obj :=
  .cells #[.int .i64 room, ptr fs, ptr fh, v, dptr dv, .bool dead, .int .i64 ops] 78 (0, 0)
/-- all but the disk's own block -/
structure Parts (w : World) (p fs fh : Nat) (Fs Fh Fo : Nat → Prop) (ls sh : AL Nm) (v : Value) (ps : List Pd) (due : Due) (dv : Option Nat) : Prop where
  hs : Fil w fs Fs ls
  hh : Fil w fh Fh sh
  row : Rw CE w v ps.length ps
  box : ∀ q ∈ ps, q.boxes w
  due_ : IsDue w Fo due dv
  po : Fo p
  ro : ∀ g, v.ownBlock = some g → Fo g
  bo : ∀ q ∈ ps, ∀ k, q.foot k → Fo k
  ap1 : ∀ k, Fs k → ¬ Fh k
  ap2 : ∀ k, Fs k → ¬ Fo k
  ap3 : ∀ k, Fh k → ¬ Fo k
  lto : ∀ k, Fo k → k < w.heap.size
theorem IsDue.chg {S Fo : Nat → Prop} {w w' : World} {due : Due} {dv : Option Nat} (h : IsDue w Fo due dv) (hc : Chg S w w') (hS : ∀ b, dv = some b → ¬ S b) : IsDue w' Fo due dv := by
  cases due with
  | none => cases dv with
    | none => trivial
    | some b => exact h.elim
  | some x => cases dv with
    | none => exact h.elim
    | some b => exact ⟨hc.blk h.1 (hS b rfl), h.2⟩
theorem IsDue.mono {Fo Go : Nat → Prop} {w : World} {due : Due} {dv : Option Nat} (h : IsDue w Fo due dv) (hs : ∀ k, Fo k → Go k) : IsDue w Go due dv := by
  cases due with
  | none => cases dv with
    | none => trivial
    | some b => exact h.elim
  | some x => cases dv with
    | none => exact h.elim
    | some b => exact ⟨h.1, hs b h.2⟩
section
variable {w w' : World} {p fs fh : Nat} {Fs Fh Fo : Nat → Prop} {ls sh : AL Nm} {v : Value} {ps : List Pd} {due : Due} {dv : Option Nat}
theorem Parts.chg {S : Nat → Prop} (h : Parts w p fs fh Fs Fh Fo ls sh v ps due dv) (hc : Chg S w w') (h1 : ∀ k, Fs k → ¬ S k) (h2 : ∀ k, Fh k → ¬ S k) (h3 : ∀ g, v.ownBlock = some g → ¬ S g) (h4 : ∀ q ∈ ps, ∀ k, q.foot k → ¬ S k) (h5 : ∀ b, dv = some b → ¬ S b) :
    Parts w' p fs fh Fs Fh Fo ls sh v ps due dv :=
  ⟨h.hs.chg hc h1, h.hh.chg hc h2, h.row.chg hc h3, fun q hq => Pd.boxes_chg (h.box q hq) hc (h4 q hq), h.due_.chg hc h5, h.po, h.ro, h.bo, h.ap1, h.ap2, h.ap3, fun k hk => Nat.lt_of_lt_of_le (h.lto k hk) hc.size⟩
theorem Parts.quiet (h : Parts w p fs fh Fs Fh Fo ls sh v ps due dv) (hb : Below w.heap.size w w') : Parts w' p fs fh Fs Fh Fo ls sh v ps due dv :=
  h.chg (Chg.of_below hb) (fun _ _ e => e) (fun _ _ e => e) (fun _ _ e => e) (fun _ _ _ _ e => e) (fun _ _ e => e)
theorem Parts.dueo (h : Parts w p fs fh Fs Fh Fo ls sh v ps due dv) {b : Nat} (hb : dv = some b) : Fo b ∧ ∃ x, w.heap[b]? = some (lossO x) := by
  have := h.due_
  rw [hb] at this
  cases due with
  | none => exact this.elim
  | some x => exact ⟨this.2, x, this.1⟩
theorem box_type {q : Pd} (h : q.boxes w) {k : Nat} (hk : q.foot k) : ∃ c, w.heap[k]? = some (.cells c 9 (0, 0)) := by
  obtain ⟨c, ba, bb⟩ := q
  cases c with
  | app a b =>
    rcases hk with e | e
    · subst e; exact ⟨_, h.1⟩
    · subst e; exact ⟨_, h.2⟩
  | ren a b =>
    rcases hk with e | e
    · subst e; exact ⟨_, h.1⟩
    · subst e; exact ⟨_, h.2⟩
  | rem a => cases hk; exact ⟨_, h⟩
/-- the disk's own block is written -/
theorem Parts.setp (h : Parts w p fs fh Fs Fh Fo ls sh v ps due dv) {c : Array Value} {f : Nat × Nat} (hb : w.heap[p]? = some (.cells c 78 f)) (hc : Chg (fun k => k = p) w w') : Parts w' p fs fh Fs Fh Fo ls sh v ps due dv := by
  refine h.chg hc (fun k hk e => h.ap2 k hk (e ▸ h.po)) (fun k hk e => h.ap3 k hk (e ▸ h.po)) (fun g hg e => ?_) (fun q hq k hk e => ?_) (fun b hb2 e => ?_)
  · obtain ⟨c2, hc2⟩ := h.row.type hg
    exact blk_type hb hc2 (by decide) e.symm
  · obtain ⟨c2, hc2⟩ := box_type (h.box q hq) hk
    exact blk_type hb hc2 (by decide) e.symm
  · obtain ⟨_, x, hx⟩ := h.dueo hb2
    exact blk_type hb hx (by decide) e.symm
/-- the lasting files have changed -/
theorem Parts.fils {Fs' : Nat → Prop} {ls' : AL Nm} (h : Parts w p fs fh Fs Fh Fo ls sh v ps due dv) (hc : Chg Fs w w') (hf : Fil w' fs Fs' ls') (hn : ∀ k, Fs' k → Fs k ∨ w.heap.size ≤ k) : Parts w' p fs fh Fs' Fh Fo ls' sh v ps due dv := by
  have h1 := h.chg hc
  have hlh : ∀ k, Fh k → k < w.heap.size := by obtain ⟨_, _, _, _, _, _, h9⟩ := h.hh; exact h9
  refine ⟨hf, h.hh.chg hc (fun k hk e => h.ap1 k e hk), h.row.chg hc (fun g hg e => h.ap2 g e (h.ro g hg)), fun q hq => Pd.boxes_chg (h.box q hq) hc (fun k hk e => h.ap2 k e (h.bo q hq k hk)), h.due_.chg hc (fun b hb e => h.ap2 b e (h.dueo hb).1), h.po, h.ro, h.bo, fun k hk e => ?_, fun k hk e => ?_, h.ap3, fun k hk => Nat.lt_of_lt_of_le (h.lto k hk) hc.size⟩
  · rcases hn k hk with h2 | h2
    · exact h.ap1 k h2 e
    · have := hlh k e; omega
  · rcases hn k hk with h2 | h2
    · exact h.ap2 k h2 e
    · have := h.lto k e; omega
/-- the files that are shown have changed -/
theorem Parts.filh {Fh' : Nat → Prop} {sh' : AL Nm} (h : Parts w p fs fh Fs Fh Fo ls sh v ps due dv) (hc : Chg Fh w w') (hf : Fil w' fh Fh' sh') (hn : ∀ k, Fh' k → Fh k ∨ w.heap.size ≤ k) : Parts w' p fs fh Fs Fh' Fo ls sh' v ps due dv := by
  have hls : ∀ k, Fs k → k < w.heap.size := by obtain ⟨_, _, _, _, _, _, h9⟩ := h.hs; exact h9
  refine ⟨h.hs.chg hc (fun k hk e => h.ap1 k hk e), hf, h.row.chg hc (fun g hg e => h.ap3 g e (h.ro g hg)), fun q hq => Pd.boxes_chg (h.box q hq) hc (fun k hk e => h.ap3 k e (h.bo q hq k hk)), h.due_.chg hc (fun b hb e => h.ap3 b e (h.dueo hb).1), h.po, h.ro, h.bo, fun k hk e => ?_, h.ap2, fun k hk e => ?_, fun k hk => Nat.lt_of_lt_of_le (h.lto k hk) hc.size⟩
  · rcases hn k e with h2 | h2
    · exact h.ap1 k hk h2
    · have := hls k hk; omega
  · rcases hn k hk with h2 | h2
    · exact h.ap3 k h2 e
    · have := h.lto k e; omega
end
theorem Ext.new {F : Nat → Prop} {w w' : World} {k : Nat} (h : Ext F w w' k) : F k ∨ w.heap.size ≤ k := h.imp id (fun e => e.1)
theorem disk_cell {w : World} {p : Nat} {room : Int} {fs fh : Nat} {v : Value} {dv : Option Nat} {dead : Bool} {ops : Int} (h : w.heap[p]? = some (diskO room fs fh v dv dead ops)) :
    w.cell? ⟨p, 0, none⟩ = some (.int .i64 room) ∧ w.cell? ⟨p, 1, none⟩ = some (ptr fs) ∧ w.cell? ⟨p, 2, none⟩ = some (ptr fh) ∧ w.cell? ⟨p, 3, none⟩ = some v ∧ w.cell? ⟨p, 4, none⟩ = some (dptr dv) ∧ w.cell? ⟨p, 5, none⟩ = some (.bool dead) ∧ w.cell? ⟨p, 6, none⟩ = some (.int .i64 ops) := by
  refine ⟨?_, ?_, ?_, ?_, ?_, ?_, ?_⟩ <;> (rw [cell_of_row _ _ _ _ _ _ h]; rfl)
theorem disk_froz {w : World} {p : Nat} {room : Int} {fs fh : Nat} {v : Value} {dv : Option Nat} {dead : Bool} {ops : Int} (h : w.heap[p]? = some (diskO room fs fh v dv dead ops)) (o : Nat) : w.frozen? ⟨p, o, none⟩ = false := by
  simp [World.frozen?, h, diskO]
/-- what settling makes of the files -/
def fold (ls : AL Nm) (l : List Chn) : AL Nm := l.foldl done ls
def legal : AL Nm → List Chn → Prop
  | _, [] => True
  | fs, c :: r => okc fs c ∧ legal (done fs c) r
def sumc (l : List Chn) : Nat := (l.map chlen).sum
theorem fold_srt {ls : AL Nm} (h : Srt ls) (l : List Chn) : Srt (fold ls l) := by
  induction l generalizing ls with
  | nil => exact h
  | cons c r ih => exact ih (done_srt h c)
theorem fold_sum {ls : AL Nm} (h : Srt ls) (l : List Chn) : fsum (fold ls l) ≤ fsum ls + sumc l := by
  induction l generalizing ls with
  | nil => simp [fold, sumc]
  | cons c r ih =>
    have h1 := ih (done_srt h c)
    have h2 := done_sum h c
    simp only [fold, List.foldl_cons, sumc, List.map_cons, List.sum_cons] at h1 ⊢
    omega
theorem fold_len (ls : AL Nm) (l : List Chn) : (fold ls l).length ≤ ls.length + l.length := by
  induction l generalizing ls with
  | nil => simp [fold]
  | cons c r ih =>
    have h1 := ih (ls := done ls c)
    have h2 := done_len ls c
    simp only [fold, List.foldl_cons, List.length_cons] at h1 ⊢
    omega
theorem fold_snoc (ls : AL Nm) (l : List Chn) (c : Chn) : fold ls (l ++ [c]) = done (fold ls l) c := by simp [fold]
theorem legal_snoc {ls : AL Nm} {l : List Chn} {c : Chn} (h : legal ls l) (k : okc (fold ls l) c) : legal ls (l ++ [c]) := by
  induction l generalizing ls with
  | nil => exact ⟨k, trivial⟩
  | cons d r ih => exact ⟨h.1, ih h.2 k⟩
theorem legal_at {ls : AL Nm} {l : List Chn} (h : legal ls l) {i : Nat} {c : Chn} (hi : l[i]? = some c) : okc (fold ls (l.take i)) c := by
  induction l generalizing ls i with
  | nil => cases hi
  | cons d r ih =>
    cases i with
    | zero => simp at hi; subst hi; exact h.1
    | succ i => exact ih h.2 (by simpa using hi)
theorem sumc_at {l : List Chn} {i : Nat} {c : Chn} (hi : l[i]? = some c) : sumc (l.take i) + chlen c ≤ sumc l := by
  induction l generalizing i with
  | nil => cases hi
  | cons d r ih =>
    cases i with
    | zero => simp at hi; subst hi; simp [sumc]
    | succ i =>
      have := ih (i := i) (by simpa using hi)
      simp only [sumc, List.take_succ_cons, List.map_cons, List.sum_cons] at this ⊢
      omega
theorem fold_take {ls : AL Nm} {l : List Chn} {i : Nat} {c : Chn} (hi : l[i]? = some c) : fold ls (l.take (i + 1)) = done (fold ls (l.take i)) c := by
  have h1 : i < l.length := by
    rcases Nat.lt_or_ge i l.length with h | h
    · exact h
    · rw [List.getElem?_eq_none h] at hi; cases hi
  rw [List.getElem?_eq_getElem h1] at hi
  injection hi with hi
  rw [List.take_succ_eq_append_getElem h1, hi, fold_snoc]
end Go.Proofs.YtnjdondkggkfoaaGreat.dk
/-
  The disk's calls that only look.
-/
namespace Go.Proofs.YtnjdondkggkfoaaGreat.dk
open Go.ChangeShapes Go.WideShapes Go.ChangeAt Go.RowKit Go.Maps Go.Sort Go.Shelf plain words ord mem al

structure St where
  room : Int
  last : AL Nm
  pend : List Chn
  due : Due
  dead : Bool
  ops : Int
def St.shown (s : St) : AL Nm := fold s.last s.pend
/-- the disk at block p is in state st, and lies within F -/
def Dk (w : World) (p : Nat) (F : Nat → Prop) (st : St) : Prop :=
  ∃ fs fh Fs Fh Fo v ps dv, w.heap[p]? = some (diskO st.room fs fh v dv st.dead st.ops) ∧ Parts w p fs fh Fs Fh Fo st.last st.shown v ps st.due dv ∧ ps.map (·.c) = st.pend ∧ legal st.last st.pend ∧
    (∀ k, Fs k ∨ Fh k ∨ Fo k → F k) ∧ ∀ k, F k → k < w.heap.size
theorem Parts.all {w : World} {p fs fh : Nat} {Fs Fh Fo : Nat → Prop} {ls sh : AL Nm} {v : Value} {ps : List Pd} {due : Due} {dv : Option Nat} (h : Parts w p fs fh Fs Fh Fo ls sh v ps due dv) {S : Nat → Prop} {w' : World} (hc : Chg S w w') (hS : ∀ k, Fs k ∨ Fh k ∨ Fo k → ¬ S k) :
    Parts w' p fs fh Fs Fh Fo ls sh v ps due dv :=
  h.chg hc (fun k hk => hS k (.inl hk)) (fun k hk => hS k (.inr (.inl hk))) (fun g hg => hS g (.inr (.inr (h.ro g hg)))) (fun q hq k hk => hS k (.inr (.inr (h.bo q hq k hk)))) (fun b hb => hS b (.inr (.inr (h.dueo hb).1)))
theorem Dk.chg {w w' : World} {p : Nat} {F S : Nat → Prop} {st : St} (h : Dk w p F st) (hc : Chg S w w') (hS : ∀ k, F k → ¬ S k) : Dk w' p F st := by
  obtain ⟨fs, fh, Fs, Fh, Fo, v, ps, dv, h1, h2, h3, h4, h5, h6⟩ := h
  exact ⟨fs, fh, Fs, Fh, Fo, v, ps, dv, hc.blk h1 (hS p (h5 p (.inr (.inr h2.po)))), h2.all hc (fun k hk => hS k (h5 k hk)), h3, h4, h5, fun k hk => Nat.lt_of_lt_of_le (h6 k hk) hc.size⟩
theorem Dk.mono {w : World} {p : Nat} {F G : Nat → Prop} {st : St} (h : Dk w p F st) (hs : ∀ k, F k → G k) (hG : ∀ k, G k → k < w.heap.size) : Dk w p G st := by
  obtain ⟨fs, fh, Fs, Fh, Fo, v, ps, dv, h1, h2, h3, h4, h5, h6⟩ := h
  exact ⟨fs, fh, Fs, Fh, Fo, v, ps, dv, h1, h2, h3, h4, fun k hk => hs k (h5 k hk), hG⟩
theorem Dk.lt {w : World} {p : Nat} {F : Nat → Prop} {st : St} (h : Dk w p F st) : ∀ k, F k → k < w.heap.size := by
  obtain ⟨fs, fh, Fs, Fh, Fo, v, ps, dv, h1, h2, h3, h4, h5, h6⟩ := h
  exact h6
theorem Dk.srt {w : World} {p : Nat} {F : Nat → Prop} {st : St} (h : Dk w p F st) : Srt st.last := by
  obtain ⟨fs, fh, Fs, Fh, Fo, v, ps, dv, h1, h2, h3, h4, h5, h6⟩ := h
  exact h2.hs.srt
theorem Fil.used {w : World} {f : Nat} {F : Nat → Prop} {fs : AL Nm} (h : Fil w f F fs) : w.cell? ⟨f, 1, none⟩ = some (.int .i64 (fsum fs : Nat)) ∧ f < w.heap.size := by
  obtain ⟨mb, D, es, h1, rfl, _⟩ := h
  rw [fsum_mapv]
  exact ⟨by rw [cell_of_row _ _ _ _ _ _ h1.blk]; rfl, blk_lt h1.blk⟩
theorem valid_d (w : World) (a : Nm) : Calls Tryz.prog 96 #[.string (bs a)] w fun e w' => e = .returned (.bool (decide (1 ≤ a.length) && decide (a.length ≤ 40))) ∧ w = w' := by
  have hsz := bs_size a
  obtain ⟨n, hn⟩ : ∃ n, a.length = n := ⟨_, rfl⟩
  rw [hn] at hsz ⊢
  clear hn
  go_enter Tryz.func96, Tryz.ntmps96
  rcases Nat.lt_or_ge n 1 with h | h
  · have e1 : ¬ (1 : Int) ≤ (n : Int) := by omega
    have e2 : decide (1 ≤ n) = false := by simp; omega
    rw [e2]
    go_wp2_with fail
    go_ret
    exact ⟨rfl, rfl⟩
  · have e1 : (1 : Int) ≤ (n : Int) := by omega
    have e2 : decide (1 ≤ n) = true := by simp; omega
    rw [e2, Bool.true_and]
    rcases Nat.lt_or_ge 40 n with h3 | h3
    · have e3 : ¬ (n : Int) ≤ 40 := by omega
      have e4 : decide (n ≤ 40) = false := by simp; omega
      rw [e4]
      go_wp2_with fail
      go_ret
      exact ⟨ret_bool (by simp [e3]), rfl⟩
    · have e3 : (n : Int) ≤ 40 := by omega
      have e4 : decide (n ≤ 40) = true := by simp; omega
      rw [e4]
      go_wp2_with fail
      go_ret
      exact ⟨ret_bool (by simp [e3]), rfl⟩
set_option maxRecDepth 100000 in
theorem pending_d (w : World) (p : Nat) (F : Nat → Prop) (st : St) (h : Dk w p F st) : Calls Tryz.prog 14 #[ptr p] w fun e w' => e = .returned (.int .i64 (st.pend.length : Nat)) ∧ w = w' := by
  obtain ⟨fs, fh, Fs, Fh, Fo, v, ps, dv, h1, h2, h3, _⟩ := h
  obtain ⟨c0, c1, c2, c3, c4, c5, c6⟩ := disk_cell h1
  obtain ⟨A, c, e1, _⟩ := h2.row.form
  subst e1
  have hp := blk_lt h1
  have hl : ps.length = st.pend.length := by rw [← h3]; simp
  rw [hl] at c3
  clear h1 h2 h3 hl c0 c1 c2 c4 c5 c6
  go_enter Tryz.func14, Tryz.ntmps14
  go_wp2_with fail
  go_ret
  exact ⟨rfl, rfl⟩
set_option maxRecDepth 100000 in
theorem ops_d (w : World) (p : Nat) (F : Nat → Prop) (st : St) (h : Dk w p F st) : Calls Tryz.prog 55 #[ptr p] w fun e w' => e = .returned (.int .i64 st.ops) ∧ w = w' := by
  obtain ⟨fs, fh, Fs, Fh, Fo, v, ps, dv, h1, h2, _⟩ := h
  obtain ⟨c0, c1, c2, c3, c4, c5, c6⟩ := disk_cell h1
  have hp := blk_lt h1
  clear h1 h2 c0 c1 c2 c3 c4 c5
  go_enter Tryz.func55, Tryz.ntmps55
  go_wp2_with fail
  go_ret
  exact ⟨rfl, rfl⟩
set_option maxRecDepth 100000 in
theorem dead_d (w : World) (p : Nat) (F : Nat → Prop) (st : St) (h : Dk w p F st) : Calls Tryz.prog 56 #[ptr p] w fun e w' => e = .returned (.bool st.dead) ∧ w = w' := by
  obtain ⟨fs, fh, Fs, Fh, Fo, v, ps, dv, h1, h2, _⟩ := h
  obtain ⟨c0, c1, c2, c3, c4, c5, c6⟩ := disk_cell h1
  have hp := blk_lt h1
  clear h1 h2 c0 c1 c2 c3 c4 c6
  go_enter Tryz.func56, Tryz.ntmps56
  go_wp2_with fail
  go_ret
  exact ⟨rfl, rfl⟩
def RetDk (w : World) (p : Nat) (F : Nat → Prop) (st : St) (r : Value) (e : Ending) (w' : World) : Prop :=
  e = .returned r ∧ Dk w' p (Ext F w w') st ∧ Chg F w w'
theorem ext_lt {F : Nat → Prop} {w w' : World} (hF : ∀ k, F k → k < w.heap.size) (hs : w.heap.size ≤ w'.heap.size) : ∀ k, Ext F w w' k → k < w'.heap.size := fun k hk => by
  rcases hk with e | e
  · exact Nat.lt_of_lt_of_le (hF k e) hs
  · exact e.2
theorem ans_some (t : Nm) : ans (some t) = .tuple #[.string (bs t), .bool true] := rfl
theorem ans_none : ans none = .tuple #[.string (bs []), .bool false] := rfl
theorem ans_eq (o : Option Nm) : ans o = .tuple #[.string (bs (o.getD [])), .bool o.isSome] := by cases o <;> rfl
set_option maxRecDepth 100000 in
theorem read_d (w : World) (p : Nat) (F : Nat → Prop) (st : St) (a : Nm) (h : Dk w p F st) (hl : a.length ≤ maxLen) : Calls Tryz.prog 32 #[ptr p, .string (bs a)] w (RetDk w p F st (ans (al.get st.shown a))) := by
  have hlt := h.lt
  obtain ⟨fs, fh, Fs, Fh, Fo, v, ps, dv, h1, h2, h3, h4, h5, h6⟩ := h
  obtain ⟨c0, c1, c2, c3, c4, c5, c6⟩ := disk_cell h1
  have hp := blk_lt h1
  have HR := Lib.hid (read_f w fh Fh st.shown (bs a) h2.hh (by rw [bs_size]; exact hl))
  rw [bs_list, ans_eq] at HR
  rw [ans_eq]
  obtain ⟨s, hs⟩ : ∃ s, bs ((al.get st.shown a).getD []) = s := ⟨_, rfl⟩
  obtain ⟨b, hb⟩ : ∃ b, (al.get st.shown a).isSome = b := ⟨_, rfl⟩
  rw [hs, hb] at HR ⊢
  have H1 := Lib.hid h1
  have H2 := Lib.hid h2
  have HX := Lib.hid (And.intro h3 (And.intro h4 (And.intro h5 h6)))
  have LT := Lib.hid hlt
  clear h1 h2 h3 h4 h5 h6 hlt c0 c1 c3 c4 c5 c6 hs hb
  go_enter Tryz.func32, Tryz.ntmps32
  go_wp2_with fail
  refine HR.out.mono ?_
  rintro e w1 ⟨rfl, hf, hc⟩
  have F1 := Lib.hid hf
  have C1 := Lib.hid hc
  clear hf hc HR
  go_wp2_with fail
  go_ret2
  have hcF : Chg F w w1 := C1.out.mono fun k _ e => HX.out.2.2.1 k (.inr (.inl e))
  refine ⟨rfl, ?_, hcF⟩
  refine Dk.mono (F := F) ⟨fs, fh, Fs, Fh, Fo, v, ps, dv, C1.out.blk H1.out (fun e => H2.out.ap3 p e H2.out.po), H2.out.filh C1.out F1.out (fun k hk => .inl hk), HX.out.1, HX.out.2.1, HX.out.2.2.1, fun k hk => Nat.lt_of_lt_of_le (LT.out k hk) C1.out.size⟩ (fun k hk => .inl hk) (ext_lt LT.out C1.out.size)
set_option maxRecDepth 100000 in
theorem names_d (w : World) (p : Nat) (F : Nat → Prop) (st : St) (h : Dk w p F st) (hfew : st.shown.length < 1099511627776) : Calls Tryz.prog 13 #[ptr p] w (RetNames w st.shown) := by
  obtain ⟨fs, fh, Fs, Fh, Fo, v, ps, dv, h1, h2, h3, h4, h5, h6⟩ := h
  obtain ⟨c0, c1, c2, c3, c4, c5, c6⟩ := disk_cell h1
  have hp := blk_lt h1
  have HR := Lib.hid (names_f w fh Fh st.shown h2.hh hfew)
  clear h1 h2 h3 h4 h5 h6 c0 c1 c3 c4 c5 c6
  go_enter Tryz.func13, Tryz.ntmps13
  go_wp2_with fail
  refine HR.out.mono ?_
  rintro e w1 ⟨v1, rfl, ho, hb⟩
  have O := Lib.hid ho
  have B := Lib.hid hb
  clear ho hb HR
  go_wp2_with fail
  go_ret
  exact ⟨v1, rfl, O.out, B.out⟩
end Go.Proofs.YtnjdondkggkfoaaGreat.dk
/-
  The disk's changes settle.
-/
namespace Go.Proofs.YtnjdondkggkfoaaGreat.dk
open Go.ChangeShapes Go.WideShapes Go.ChangeAt Go.RowKit Go.Maps Go.Sort Go.Shelf plain words ord mem al

theorem store_fn (w : World) (fid : FuncId) (caps : Array Value) : (store ⟨w.heap.size, 0, none⟩ (.func (.func fid) #[] caps)).run Tryz.prog (w.alloc (.cells #[.nilFunc, .bool false] 97)) = .ok () ((w.alloc (.cells #[.nilFunc, .bool false] 97)).setCell ⟨w.heap.size, 0, none⟩ (.func (.func fid) #[] caps)) := by
  rw [run_store Tryz.prog _ ⟨w.heap.size, 0, none⟩ (.func (.func fid) #[] caps) .plain rfl]
  have h1 := alloc_new w (.cells #[.nilFunc, .bool false] 97)
  have hc : (w.alloc (.cells #[.nilFunc, .bool false] 97)).cell? ⟨w.heap.size, 0, none⟩ = some .nilFunc := by rw [cell_of_row _ _ _ _ _ _ h1]; rfl
  have hf : (w.alloc (.cells #[.nilFunc, .bool false] 97)).frozen? ⟨w.heap.size, 0, none⟩ = false := by unfold World.frozen?; rw [h1]; rfl
  simp only [stored, hc, hf]
  rfl
theorem enters_q (q : Pd) : ∀ (args : Array Value) (w : World), (callFunc q.fid args).run Tryz.prog w = .ok (.enter q.fid args) w := by
  obtain ⟨c, ba, bb⟩ := q
  cases c with
  | app a b => exact enters_of Tryz.func98 (by kernel_rfl) rfl
  | ren a b => exact enters_of Tryz.func100 (by kernel_rfl) rfl
  | rem a => exact enters_of Tryz.func102 (by kernel_rfl) rfl
def RetSettle (w : World) (p fs fh : Nat) (Fs Fh Fo : Nat → Prop) (ls sh : AL Nm) (v : Value) (ps : List Pd) (due : Due) (dv : Option Nat) (e : Ending) (w' : World) : Prop :=
  e = .returned (.tuple #[]) ∧ ∃ Fs', Parts w' p fs fh Fs' Fh Fo ls sh v ps due dv ∧ Chg Fs w w' ∧ ∀ k, Fs' k → Fs k ∨ w.heap.size ≤ k
set_option maxRecDepth 100000 in
set_option maxHeartbeats 2000000 in
theorem settle_p (w : World) (p : Nat) (room : Int) (fs fh : Nat) (Fs Fh Fo : Nat → Prop) (ls sh : AL Nm) (v : Value) (ps : List Pd) (due : Due) (dv : Option Nat) (dead : Bool) (ops : Int) (n : Nat)
    (hb : w.heap[p]? = some (diskO room fs fh v dv dead ops)) (hP : Parts w p fs fh Fs Fh Fo ls sh v ps due dv) (hn : n ≤ ps.length) (hleg : legal ls (ps.map (·.c)))
    (hpot : fsum ls + sumc (ps.map (·.c)) ≤ 1073741824) (hpl : ls.length + ps.length ≤ 1073741824) :
    Calls Tryz.prog 51 #[ptr p, .int .i64 (n : Nat)] w (RetSettle w p fs fh Fs Fh Fo (fold ls ((ps.map (·.c)).take n)) sh v ps due dv) := by
  obtain ⟨c0, c1, c2, c3, c4, c5, c6⟩ := disk_cell hb
  obtain ⟨A, c, e1, hA, hNc, hcm⟩ := hP.row.form
  subst e1
  have hp := blk_lt hb
  obtain ⟨N, hN⟩ : ∃ N, ps.length = N := ⟨_, rfl⟩
  rw [hN] at c3 hNc hn hpl
  have n0 : (0 : Int) ≤ (n : Int) := by omega
  have n1 : (n : Int) ≤ (N : Int) := by omega
  have n2 : (n : Int) ≤ (c : Int) := by omega
  have HB := Lib.hid hb
  have HP := Lib.hid hP
  have HN := Lib.hid hN
  have HLEG := Lib.hid hleg
  have HSRT := Lib.hid hP.hs.srt
  clear hb hP hN hleg c0 c1 c2 c4 c5 c6
  go_enter Tryz.func51, Tryz.ntmps51
  go_wp2_with fail
  go_loopg [5, 13] n (fun gg s5 s13 wr => ∃ (i : Nat) (Fs' : Nat → Prop), s13 = .int .i64 i ∧ i ≤ n ∧ n - i ≤ gg ∧ Aside (Parts wr p fs fh Fs' Fh Fo (fold ls ((ps.map (·.c)).take i)) sh (.slice A ps.length c) ps due dv) ∧ Aside (Chg Fs w wr) ∧ Aside (∀ k, Fs' k → Fs k ∨ w.heap.size ≤ k))
  case atStart => exact ⟨0, Fs, rfl, Nat.zero_le _, by omega, HP.out, Chg.refl _ _, fun k hk => .inl hk⟩
  case round =>
    obtain ⟨i, Fs', rfl, hi, hg, PT, CH, NW⟩ := hrel
    obtain ⟨wv, rfl⟩ : ∃ wv, wv = wr := ⟨wr, rfl⟩
    by_cases hlt : i < n
    · have hrow := PT.out.row.ls
      obtain ⟨q, hq⟩ := hrow.get (show i < ps.length by rw [HN.out]; omega)
      obtain ⟨b, off, eA, hbl, hcell⟩ := hrow.at_ hq
      have x0 := hcell 0 (by decide)
      have x1 := hcell 1 (by decide)
      have hCE : CE.k = 2 := rfl
      rw [hCE] at x0 x1
      simp only [CE, pdE, Nat.add_zero, List.getElem?_cons_zero, List.getElem?_cons_succ] at x0 x1
      subst eA
      rw [← Nat.add_assoc] at x1
      have i1 : (i : Int) < (n : Int) := by omega
      have i0 : (0 : Int) ≤ (i : Int) := by omega
      have hbp := CH.out.blk HB.out (fun e => HP.out.ap2 p e HP.out.po)
      have d1 := (disk_cell hbp).2.1
      have hpl2 := blk_lt hbp
      have hqc : (ps.map (·.c))[i]? = some q.c := by rw [List.getElem?_map, hq]; rfl
      obtain ⟨fid, hfid⟩ : ∃ fid, q.fid = fid := ⟨_, rfl⟩
      obtain ⟨caps, hcaps⟩ : ∃ caps, q.caps = caps := ⟨_, rfl⟩
      obtain ⟨isA, hisA⟩ : ∃ isA, q.isApp = isA := ⟨_, rfl⟩
      rw [hfid, hcaps] at x0
      rw [hisA] at x1
      have HQ := Lib.hid hq
      have HQC := Lib.hid hqc
      have HF := Lib.hid (And.intro hfid hcaps)
      have hent := enters_q q
      rw [hfid] at hent
      clear hrow hcell hq hqc hfid hcaps hisA hbp
      have hsf := store_fn wv fid caps
      have x0a : (wv.alloc (.cells #[.nilFunc, .bool false] 97)).cell? ⟨wv.heap.size, 0, none⟩ = some .nilFunc := by rw [cell_of_row _ _ _ _ _ _ (alloc_new _ _)]; rfl
      go_wp2_with fail
      obtain ⟨w4, hw4⟩ : ∃ w4, wv.alloc (.cells #[.func (.func fid) #[] caps, .bool isA] 97) = w4 := ⟨_, rfl⟩
      have hb4 : Below wv.heap.size wv w4 := by rw [← hw4]; exact (Below.refl _ _).alloc (Nat.le_refl _) _
      have hal : w4.heap[wv.heap.size]? = some (.cells #[.func (.func fid) #[] caps, .bool isA] 97 (0, 0)) := by rw [← hw4]; exact alloc_new _ _
      have y0 : w4.cell? ⟨wv.heap.size, 0, none⟩ = some (.func (.func fid) #[] caps) := by rw [cell_of_row _ _ _ _ _ _ hal]; rfl
      have y1 : w4.cell? ⟨p, 1, none⟩ = some (ptr fs) := (hb4.cell (p := ⟨p, 1, none⟩) hpl2).trans d1
      have l1 : wv.heap.size < w4.heap.size := blk_lt hal
      have l2 : p < w4.heap.size := by omega
      have z0 := Wb.at_ y0
      have z1 := Wb.at_ y1
      have hP4 := PT.out.quiet hb4
      have hsum1 := fold_sum HSRT.out ((ps.map (·.c)).take i)
      have hsum2 := sumc_at HQC.out
      have hlen1 := fold_len ls ((ps.map (·.c)).take i)
      have hlen2 : ((ps.map (·.c)).take i).length ≤ i := by rw [List.length_take]; omega
      have hP5 := hP4.quiet (w' := w4.drew) (Below.refl _ _).drew
      have HW := Lib.hid (whole_x w4.drew fs Fs' (fold ls ((ps.map (·.c)).take i)) q hP5.hs (hP5.box q (List.mem_of_getElem? HQ.out)) (legal_at HLEG.out HQC.out) (by omega) (by omega))
      rw [HF.out.1, HF.out.2, show whole = 9223372036854775807 from rfl] at HW
      have W4 := Lib.hid hw4
      have B4 := Lib.hid hb4
      have P4 := Lib.hid hP4
      rw [hw4]
      clear hw4 hb4 hal hP4 hP5 hsum1 hsum2 hlen1 hlen2 hsf x0a x0 x1 d1
      refine wp_region_plan [([0, 1, 2, 3, 4, 5], some (6, true)), ([], none)] (by kernel_rfl) (by kernel_rfl) ?_
      refine seg_write _ (by dsimp only [pick, at_]) _ (by dsimp only [pick, at_]) ?_
      repeat (go_big_quiet_step (fail))
      refine wpQuiet_nil ?_
      intro K2 g1
      clear z0 z1
      go_wp2_with (fail)
      refine HW.out.mono ?_
      rintro e w5 hr
      obtain ⟨rfl, hf5, hc5⟩ := RetFil.drew hr
      have hP6 := P4.out.fils hc5 hf5 (fun k hk => hk.new)
      have hs4 : wv.heap.size ≤ w4.heap.size := B4.out.size
      have hch := (CH.out.then_below B4.out).trans hc5 (fun k hk e => (NW.out k e).resolve_right (by omega))
      have P6 := Lib.hid hP6
      have CH6 := Lib.hid hch
      have FT := Lib.hid (fold_take (ls := ls) HQC.out)
      have hwv := CH.out.size
      have NW6 := Lib.hid (show ∀ k, Ext Fs' w4 w5 k → Fs k ∨ w.heap.size ≤ k from fun k hk => by
        rcases hk with e | e
        · exact NW.out k e
        · exact .inr (by omega))
      clear hr hf5 hc5 hP6 hch hent HW
      go_wp2_with (fail)
      refine seg_end _ (by dsimp only [pick, at_]) ?_
      repeat (go_big_quiet_step (fail))
      refine wpQuiet_nil (NoPanic.normal ?_)
      go_wp2_with (fail)
      go_roundg (n - (i + 1))
      case measure => omega
      case rel =>
        refine ⟨i + 1, _, by go_num, by omega, by omega, ?_, CH6.out, NW6.out⟩
        show Parts _ _ _ _ _ _ _ _ _ _ _ _ _
        rw [FT.out]
        exact P6.out
    · have i1 : ¬ (i : Int) < (n : Int) := by omega
      have hin : i = n := by omega
      subst hin
      go_wp2_with fail
      go_end0
      exact ⟨rfl, Fs', PT.out, CH.out, NW.out⟩
end Go.Proofs.YtnjdondkggkfoaaGreat.dk
/-
  The power goes.
-/
namespace Go.Proofs.YtnjdondkggkfoaaGreat.dk
open Go.ChangeShapes Go.WideShapes Go.ChangeAt Go.RowKit Go.Maps Go.Sort Go.Shelf plain words ord mem al

/-- what of a change is kept of which only a part is -/
def partOf (ls : AL Nm) (c : Option Chn) (part : Int) : AL Nm := match c with
  | some (.app a b) => if 0 < part then done ls (.app a (b.take (min part (b.length : Int)).toNat)) else ls
  | _ => ls
def keptN (keep : Int) (n : Nat) : Nat := (min (max keep 0) (n : Int)).toNat
def crashSt (st : St) (keep part : Int) : St := if st.dead then st else
  { st with last := partOf (fold st.last (st.pend.take (keptN keep st.pend.length))) st.pend[keptN keep st.pend.length]? part, pend := [], due := none, dead := true }
theorem setp_obj {w : World} {p o : Nat} {c : Array Value} {t : TypeId} {f : Nat × Nat} {u : Value} (h : w.heap[p]? = some (.cells c t f)) : (w.setCell ⟨p, o, none⟩ u).heap[p]? = some (.cells (c.setIfInBounds o u) t f) := by
  simp [World.setCell, Array.getElem?_modify, h]
theorem sumc_take (l : List Chn) (n : Nat) : sumc (l.take n) ≤ sumc l := by
  induction l generalizing n with
  | nil => simp [sumc]
  | cons c r ih =>
    cases n with
    | zero => simp [sumc]
    | succ n =>
      have := ih n
      simp only [sumc, List.take_succ_cons, List.map_cons, List.sum_cons] at this ⊢
      omega
theorem crash_end {w wt w5 : World} {due : Due} {p fs fh c5 : Nat} {Fs Ft Fh Fo F : Nat → Prop} {lt sh : AL Nm} {v : Value} {ps : List Pd} {st : St} {dv : Option Nat} {room : Int} {ops : Int} {dead : Bool}
    (hst : st = { room := room, last := lt, pend := [], due := none, dead := true, ops := ops })
    (hb : wt.heap[p]? = some (diskO room fs fh v dv dead ops)) (hP : Parts wt p fs fh Ft Fh Fo lt sh v ps due dv) (hch : Chg Fs w wt) (hnw : ∀ k, Ft k → Fs k ∨ w.heap.size ≤ k)
    (hFs : ∀ k, Fs k ∨ Fo k → F k) (hlt : ∀ k, F k → k < w.heap.size) (hb5 : w5.heap[p]? = some (diskO room fs fh v dv dead ops)) (hc5 : wt.heap.size ≤ c5) (hf5 : Fil w5 c5 (fun k => wt.heap.size ≤ k ∧ k < w5.heap.size) lt) (hs5 : Fil w5 fs Ft lt) (hch5 : Chg Ft wt w5) :
    RetDk w p F st (.tuple #[]) (.returned (.tuple #[])) ((((w5.setCell ⟨p, 2, none⟩ (ptr c5)).setCell ⟨p, 3, none⟩ (.slice none 0 0)).setCell ⟨p, 4, none⟩ (.pointer none)).setCell ⟨p, 5, none⟩ (.bool true)) := by
  obtain ⟨w6, hw6⟩ : ∃ w6, (((w5.setCell ⟨p, 2, none⟩ (ptr c5)).setCell ⟨p, 3, none⟩ (.slice none 0 0)).setCell ⟨p, 4, none⟩ (.pointer none)).setCell ⟨p, 5, none⟩ (.bool true) = w6 := ⟨_, rfl⟩
  have hc6 : Chg (fun k => k = p) w5 w6 := by
    rw [← hw6]
    exact (((chg_set _ _ _ _).trans (chg_set _ _ _ _) (fun _ _ e => e)).trans (chg_set _ _ _ _) (fun _ _ e => e)).trans (chg_set _ _ _ _) (fun _ _ e => e)
  have hb6 : w6.heap[p]? = some (diskO room fs c5 (.slice none 0 0) none true ops) := by
    rw [← hw6, setp_obj (setp_obj (setp_obj (setp_obj hb5)))]
    rfl
  rw [hw6]
  have hFo := hP.po
  have hpt : p < wt.heap.size := blk_lt hb
  have hpFt : ¬ Ft p := fun e => hP.ap2 p e hFo
  have hFtl : ∀ k, Ft k → k < wt.heap.size := by obtain ⟨_, _, _, _, _, _, h9⟩ := hP.hs; exact h9
  have hs05 : w.heap.size ≤ wt.heap.size := hch.size
  have hs5' : wt.heap.size ≤ w5.heap.size := hch5.size
  have hs6 : w5.heap.size ≤ w6.heap.size := hc6.size
  have hcF : Chg F w w6 := by
    have h1 := hch.trans hch5 (fun k hk e => (hnw k e).resolve_right (by omega))
    refine ((h1.mono (S' := fun k => Fs k ∨ k = p) (fun _ _ e => .inl e)).trans hc6 (fun k _ e => .inr e)).mono (fun k _ e => ?_)
    rcases e with e | e
    · exact hFs k (.inl e)
    · subst e; exact hFs _ (.inr hFo)
  refine ⟨rfl, ?_, hcF⟩
  subst hst
  refine ⟨fs, c5, Ft, (fun k => wt.heap.size ≤ k ∧ k < w5.heap.size), (fun k => k = p), .slice none 0 0, [], none, hb6, ?_, rfl, trivial, fun k hk => ?_, ext_lt hlt (by omega)⟩
  · exact ⟨hs5.chg hc6 (fun k hk e => hpFt (e ▸ hk)), hf5.chg hc6 (fun k hk e => by omega), Rw.nil _, fun q hq => (by cases hq), trivial, rfl, fun g hg => (by cases hg), fun q hq => (by cases hq), fun k hk e => by have := hFtl k hk; omega, fun k hk e => hpFt (e ▸ hk), fun k hk e => by omega, fun k hk => by subst hk; exact blk_lt hb6⟩
  · rcases hk with e | e | e
    · rcases hnw k e with h | h
      · exact .inl (hFs k (.inl h))
      · exact .inr ⟨h, by have := hFtl k e; omega⟩
    · exact .inr ⟨by omega, by omega⟩
    · subst e; exact .inl (hFs _ (.inr hFo))
set_option maxRecDepth 100000 in
set_option maxHeartbeats 4000000 in
theorem crash_d (w : World) (p : Nat) (F : Nat → Prop) (st : St) (keep part : Int) (h : Dk w p F st) (hpot : fsum st.last + sumc st.pend ≤ 1073741824) (hpl : st.last.length + st.pend.length ≤ 1073741824) :
    Calls Tryz.prog 21 #[ptr p, .int .i64 keep, .int .i64 part] w (RetDk w p F (crashSt st keep part) (.tuple #[])) := by
  have HD := Lib.hid h
  have hlt := h.lt
  obtain ⟨fs, fh, Fs, Fh, Fo, v, ps, dv, h1, h2, h3, h4, h5, h6⟩ := h
  obtain ⟨c0, c1, c2, c3, c4, c5, c6⟩ := disk_cell h1
  have hp := blk_lt h1
  obtain ⟨room, ls, pd, due, dead, ops⟩ := st
  simp only [St.shown] at h1 h2 h3 h4 c0 c1 c2 c3 c4 c5 c6 hpot hpl
  cases dead with
  | true =>
    have he : crashSt ⟨room, ls, pd, due, true, ops⟩ keep part = ⟨room, ls, pd, due, true, ops⟩ := rfl
    rw [he]
    clear h1 h2 h3 h4 h5 h6 c0 c1 c2 c3 c4 c6 he
    go_enter Tryz.func21, Tryz.ntmps21
    go_wp2_with fail
    go_end0
    exact ⟨rfl, HD.out.mono (fun k hk => .inl hk) (ext_lt hlt (Nat.le_refl _)), Chg.refl _ _⟩
  | false =>
    obtain ⟨A, c, e1, hA, hNc, hcm⟩ := h2.row.form
    subst e1
    obtain ⟨N, hN⟩ : ∃ N, ps.length = N := ⟨_, rfl⟩
    have hNp : pd.length = N := by rw [← h3, List.length_map, hN]
    obtain ⟨n, hn⟩ : ∃ n : Nat, min (max keep 0) (N : Int) = (n : Int) := ⟨(min (max keep 0) (N : Int)).toNat, by omega⟩
    have hnN : n ≤ N := by omega
    have hkn : keptN keep pd.length = n := by
      unfold keptN
      rw [hNp]
      omega
    have hcs : crashSt ⟨room, ls, pd, due, false, ops⟩ keep part = ⟨room, partOf (fold ls (pd.take n)) pd[n]? part, [], none, true, ops⟩ := by
      unfold crashSt
      rw [hkn]
      rfl
    rw [hcs]
    rw [hN] at c3
    have hleg' : legal ls (ps.map (·.c)) := by rw [h3]; exact h4
    have HSE := Lib.hid (settle_p w p room fs fh Fs Fh Fo ls (fold ls pd) (.slice A ps.length c) ps due dv false ops n h1 h2 (by rw [hN]; exact hnN) hleg' (by rw [h3]; exact hpot) (by rw [← h3, List.length_map] at hpl; exact hpl))
    have HB := Lib.hid h1
    have HP := Lib.hid h2
    have H3 := Lib.hid h3
    have HN := Lib.hid hN
    have LTO := Lib.hid (show ∀ k, Fs k ∨ Fo k → F k from fun k hk => h5 k (by rcases hk with e | e; exact .inl e; exact .inr (.inr e)))
    have LTF := Lib.hid hlt
    have HSRT := Lib.hid h2.hs.srt
    have HS1 := Lib.hid (fold_sum h2.hs.srt (pd.take n))
    have HL1 := Lib.hid (fold_len ls (pd.take n))
    have HL2 := Lib.hid (show (pd.take n).length ≤ pd.length by rw [List.length_take]; omega)
    have HNN := Lib.hid hn
    have HLG := Lib.hid h4
    clear h1 h2 h3 h4 h5 h6 hlt hN hNp hcs hkn hleg' hn c0 c1 c2 c4 c6
    go_enter Tryz.func21, Tryz.ntmps21
    go_wp2_with fail
    rw [HNN.out]
    refine HSE.out.mono ?_
    rintro e w1 ⟨rfl, Ft, hP1, hch1, hnw1⟩
    rw [H3.out] at hP1
    have hb1 := hch1.blk HB.out (fun e => HP.out.ap2 p e HP.out.po)
    obtain ⟨_, d1, _, d3, _, d5, _⟩ := disk_cell hb1
    have hp1 := blk_lt hb1
    rw [HN.out] at d3
    have CHT := Lib.hid hch1
    have NWT := Lib.hid hnw1
    have PTT := Lib.hid hP1
    have HBT := Lib.hid hb1
    clear hP1 hch1 hnw1 hb1 HSE c3 c5
    rcases Nat.lt_or_ge n N with hlt | hge
    · have i1 : (n : Int) < (N : Int) := by omega
      have i0 : (0 : Int) ≤ (n : Int) := by omega
      obtain ⟨q, hq⟩ := PTT.out.row.ls.get (show n < ps.length by rw [HN.out]; exact hlt)
      obtain ⟨b, off, eA, hbl, hcell⟩ := PTT.out.row.ls.at_ hq
      have x0 := hcell 0 (by decide)
      have x1 := hcell 1 (by decide)
      have hCE : CE.k = 2 := rfl
      rw [hCE] at x0 x1
      simp only [CE, pdE, Nat.add_zero, List.getElem?_cons_zero, List.getElem?_cons_succ] at x0 x1
      subst eA
      rw [← Nat.add_assoc] at x1
      have hqc : pd[n]? = some q.c := by rw [← H3.out, List.getElem?_map, hq]; rfl
      have hbox := PTT.out.box q (List.mem_of_getElem? hq)
      have HQC := Lib.hid hqc
      clear hcell hq
      obtain ⟨qc, ba, bb⟩ := q
      cases qc with
      | app a bt =>
        by_cases hpart : 0 < part
        · have hlt3 : (partOf (fold ls (pd.take n)) pd[n]? part) = done (fold ls (pd.take n)) (.app a (bt.take (min part (bt.length : Int)).toNat)) := by
            rw [HQC.out]; simp only [partOf]; rw [if_pos hpart]
          have hsc := sumc_at HQC.out
          simp only [chlen] at hsc
          have PART := Lib.hid hlt3
          have BOX := Lib.hid hbox
          simp only [Pd.fid, Pd.caps] at x0
          simp only [Pd.isApp] at x1
          have HLT := Lib.hid hlt3
          have hok : okc (fold ls (pd.take n)) (.app a bt) := legal_at HLG.out HQC.out
          have HAP := Lib.hid (app_x w1.drew fs Ft (fold ls (pd.take n)) a bt ba bb (min part (bt.length : Int)).toNat part (PTT.out.quiet (w' := w1.drew) (Below.refl _ _).drew).hs (Pd.boxes_chg hbox (Chg.refl (fun _ => False) _).drew (fun _ _ e => e)).1 (Pd.boxes_chg hbox (Chg.refl (fun _ => False) _).drew (fun _ _ e => e)).2 hok (by omega) rfl (by have := HS1.out; have : fsum (fold ls (pd.take n)) ≤ fsum ls + sumc (pd.take n) := HS1.out; omega) (by have := HL1.out; have := HL2.out; omega))
          have z0 := Wb.at_ x0
          have z1 := Wb.at_ d1
          have z3 := Wb.at_ d3
          have lb : b < w1.heap.size := World.block_lt_of_cell? w1 _ x0
          clear hbox hqc hlt3 hsc hok
          go_wp2_with fail
          refine wp_region_plan [([0, 1, 2, 3, 4, 5, 6, 7, 8, 9, 10, 11, 12], some (13, true)), ([], none)] (by kernel_rfl) (by kernel_rfl) ?_
          refine seg_write _ (by dsimp only [pick, at_]) _ (by dsimp only [pick, at_]) ?_
          repeat (go_big_quiet_step (fail))
          refine wpQuiet_nil ?_
          intro K2 g1
          clear z0 z1 z3
          go_wp2_with (fail)
          refine HAP.out.mono ?_
          rintro e w2 hr
          obtain ⟨rfl, hf2, hc2⟩ := RetFil.drew hr
          obtain ⟨lt, hlt9⟩ : ∃ lt, done (fold ls (pd.take n)) (.app a (bt.take (min part (bt.length : Int)).toNat)) = lt := ⟨_, rfl⟩
          rw [hlt9] at hf2
          have hlt4 := PART.out
          rw [hlt9] at hlt4
          have HLT2 := Lib.hid hlt4
          have HBT2 := Lib.hid (hc2.blk HBT.out (fun e => PTT.out.ap2 p e PTT.out.po))
          have PTT2 := Lib.hid (PTT.out.fils hc2 hf2 (fun k hk => hk.new))
          have hs01 : w.heap.size ≤ w1.heap.size := CHT.out.size
          have CHT2 := Lib.hid (CHT.out.trans hc2 (fun k hk e => (NWT.out k e).resolve_right (by omega)))
          have NWT2 := Lib.hid (show ∀ k, Ext Ft w1 w2 k → Fs k ∨ w.heap.size ≤ k from fun k hk => by
            rcases hk with e | e
            · exact NWT.out k e
            · exact .inr (by omega))
          have hds : fsum lt ≤ fsum ls + sumc pd := by
            have h7 := done_sum (fold_srt HSRT.out (pd.take n)) (.app a (bt.take (min part (bt.length : Int)).toNat))
            have h8 := sumc_at HQC.out
            have h9 := HS1.out
            rw [hlt9] at h7
            simp only [chlen, List.length_take] at h7 h8
            omega
          have hdl : lt.length ≤ ls.length + pd.length + 1 := by
            have h7 := done_len (fold ls (pd.take n)) (.app a (bt.take (min part (bt.length : Int)).toNat))
            have h8 := HL1.out
            have h9 := HL2.out
            rw [hlt9] at h7
            omega
          clear hr hf2 hc2 hlt4 hlt9 HAP
          go_wp2_with (fail)
          refine seg_end _ (by dsimp only [pick, at_]) ?_
          repeat (go_big_quiet_step (fail))
          refine wpQuiet_nil (NoPanic.normal ?_)
          have hlast : fsum lt ≤ 1099511627776 := by
            omega
          have hlen9 : (lt).length < 1099511627776 := by
            omega
          have HCL := Lib.hid (clone_f w2 fs (Ext Ft w1 w2) (lt) PTT2.out.hs hlast hlen9)
          obtain ⟨_, e1t, e2t, _⟩ := disk_cell HBT2.out
          have hplt : p < w2.heap.size := blk_lt HBT2.out
          clear hlast hlen9
          go_wp2_with fail
          refine HCL.out.mono ?_
          rintro e w5 ⟨c5, rfl, hc5, hf5, hs5, hch5⟩
          have hb5 := hch5.blk HBT2.out (fun e => PTT2.out.ap2 p e PTT2.out.po)
          obtain ⟨g0, g1, g2, g3, g4, g5, g6⟩ := disk_cell hb5
          have fz2 := disk_froz hb5 2
          have fz3 := disk_froz hb5 3
          have fz4 := disk_froz hb5 4
          have fz5 := disk_froz hb5 5
          have hpl5 : p < w5.heap.size := blk_lt hb5
          have HB5 := Lib.hid hb5
          have F5 := Lib.hid hf5
          have S5 := Lib.hid hs5
          have CH5 := Lib.hid hch5
          clear hb5 hf5 hs5 hch5 g0 g1 g6 HCL
          go_wp2_with fail
          go_end0
          exact crash_end (w := w) (wt := w2) (by rw [HLT2.out]) HBT2.out PTT2.out CHT2.out NWT2.out LTO.out LTF.out HB5.out hc5 F5.out S5.out CH5.out
        · have hlt3 : (partOf (fold ls (pd.take n)) pd[n]? part) = fold ls (pd.take n) := by
            rw [HQC.out]; simp only [partOf]; rw [if_neg hpart]
          have HLT := Lib.hid hlt3
          simp only [Pd.isApp] at x1
          clear hbox hqc hlt3 x0
          go_wp2_with fail
          have hlast : fsum (fold ls (pd.take n)) ≤ 1099511627776 := by
            have := HS1.out; have h8 : sumc (pd.take n) ≤ sumc pd := sumc_take pd n; omega
          have hlen9 : (fold ls (pd.take n)).length < 1099511627776 := by
            have := HL1.out; have := HL2.out; omega
          have HCL := Lib.hid (clone_f w1 fs Ft (fold ls (pd.take n)) PTT.out.hs hlast hlen9)
          obtain ⟨_, e1t, e2t, _⟩ := disk_cell HBT.out
          have hplt : p < w1.heap.size := blk_lt HBT.out
          clear hlast hlen9
          go_wp2_with fail
          refine HCL.out.mono ?_
          rintro e w5 ⟨c5, rfl, hc5, hf5, hs5, hch5⟩
          have hb5 := hch5.blk HBT.out (fun e => PTT.out.ap2 p e PTT.out.po)
          obtain ⟨g0, g1, g2, g3, g4, g5, g6⟩ := disk_cell hb5
          have fz2 := disk_froz hb5 2
          have fz3 := disk_froz hb5 3
          have fz4 := disk_froz hb5 4
          have fz5 := disk_froz hb5 5
          have hpl5 : p < w5.heap.size := blk_lt hb5
          have HB5 := Lib.hid hb5
          have F5 := Lib.hid hf5
          have S5 := Lib.hid hs5
          have CH5 := Lib.hid hch5
          clear hb5 hf5 hs5 hch5 g0 g1 g6 HCL
          go_wp2_with fail
          go_end0
          exact crash_end (w := w) (wt := w1) (by rw [HLT.out]) HBT.out PTT.out CHT.out NWT.out LTO.out LTF.out HB5.out hc5 F5.out S5.out CH5.out
      | ren a bt =>
        have hlt3 : (partOf (fold ls (pd.take n)) pd[n]? part) = fold ls (pd.take n) := by
          rw [HQC.out]; rfl
        have HLT := Lib.hid hlt3
        simp only [Pd.isApp] at x1
        clear hbox hqc hlt3 x0
        go_wp2_with fail
        have hlast : fsum (fold ls (pd.take n)) ≤ 1099511627776 := by
          have := HS1.out; have h8 : sumc (pd.take n) ≤ sumc pd := sumc_take pd n; omega
        have hlen9 : (fold ls (pd.take n)).length < 1099511627776 := by
          have := HL1.out; have := HL2.out; omega
        have HCL := Lib.hid (clone_f w1 fs Ft (fold ls (pd.take n)) PTT.out.hs hlast hlen9)
        obtain ⟨_, e1t, e2t, _⟩ := disk_cell HBT.out
        have hplt : p < w1.heap.size := blk_lt HBT.out
        clear hlast hlen9
        go_wp2_with fail
        refine HCL.out.mono ?_
        rintro e w5 ⟨c5, rfl, hc5, hf5, hs5, hch5⟩
        have hb5 := hch5.blk HBT.out (fun e => PTT.out.ap2 p e PTT.out.po)
        obtain ⟨g0, g1, g2, g3, g4, g5, g6⟩ := disk_cell hb5
        have fz2 := disk_froz hb5 2
        have fz3 := disk_froz hb5 3
        have fz4 := disk_froz hb5 4
        have fz5 := disk_froz hb5 5
        have hpl5 : p < w5.heap.size := blk_lt hb5
        have HB5 := Lib.hid hb5
        have F5 := Lib.hid hf5
        have S5 := Lib.hid hs5
        have CH5 := Lib.hid hch5
        clear hb5 hf5 hs5 hch5 g0 g1 g6 HCL
        go_wp2_with fail
        go_end0
        exact crash_end (w := w) (wt := w1) (by rw [HLT.out]) HBT.out PTT.out CHT.out NWT.out LTO.out LTF.out HB5.out hc5 F5.out S5.out CH5.out
      | rem a =>
        have hlt3 : (partOf (fold ls (pd.take n)) pd[n]? part) = fold ls (pd.take n) := by
          rw [HQC.out]; rfl
        have HLT := Lib.hid hlt3
        simp only [Pd.isApp] at x1
        clear hbox hqc hlt3 x0
        go_wp2_with fail
        have hlast : fsum (fold ls (pd.take n)) ≤ 1099511627776 := by
          have := HS1.out; have h8 : sumc (pd.take n) ≤ sumc pd := sumc_take pd n; omega
        have hlen9 : (fold ls (pd.take n)).length < 1099511627776 := by
          have := HL1.out; have := HL2.out; omega
        have HCL := Lib.hid (clone_f w1 fs Ft (fold ls (pd.take n)) PTT.out.hs hlast hlen9)
        obtain ⟨_, e1t, e2t, _⟩ := disk_cell HBT.out
        have hplt : p < w1.heap.size := blk_lt HBT.out
        clear hlast hlen9
        go_wp2_with fail
        refine HCL.out.mono ?_
        rintro e w5 ⟨c5, rfl, hc5, hf5, hs5, hch5⟩
        have hb5 := hch5.blk HBT.out (fun e => PTT.out.ap2 p e PTT.out.po)
        obtain ⟨g0, g1, g2, g3, g4, g5, g6⟩ := disk_cell hb5
        have fz2 := disk_froz hb5 2
        have fz3 := disk_froz hb5 3
        have fz4 := disk_froz hb5 4
        have fz5 := disk_froz hb5 5
        have hpl5 : p < w5.heap.size := blk_lt hb5
        have HB5 := Lib.hid hb5
        have F5 := Lib.hid hf5
        have S5 := Lib.hid hs5
        have CH5 := Lib.hid hch5
        clear hb5 hf5 hs5 hch5 g0 g1 g6 HCL
        go_wp2_with fail
        go_end0
        exact crash_end (w := w) (wt := w1) (by rw [HLT.out]) HBT.out PTT.out CHT.out NWT.out LTO.out LTF.out HB5.out hc5 F5.out S5.out CH5.out
    · have i1 : ¬ (n : Int) < (N : Int) := by omega
      have hqn : pd[n]? = none := List.getElem?_eq_none (by rw [← H3.out, List.length_map, HN.out]; omega)
      have hlt3 : (partOf (fold ls (pd.take n)) pd[n]? part) = fold ls (pd.take n) := by
        rw [hqn]; rfl
      have HLT := Lib.hid hlt3
      clear hlt3 hqn
      go_wp2_with fail
      have hlast : fsum (fold ls (pd.take n)) ≤ 1099511627776 := by
        have := HS1.out; have h8 : sumc (pd.take n) ≤ sumc pd := sumc_take pd n; omega
      have hlen9 : (fold ls (pd.take n)).length < 1099511627776 := by
        have := HL1.out; have := HL2.out; omega
      have HCL := Lib.hid (clone_f w1 fs Ft (fold ls (pd.take n)) PTT.out.hs hlast hlen9)
      obtain ⟨_, e1t, e2t, _⟩ := disk_cell HBT.out
      have hplt : p < w1.heap.size := blk_lt HBT.out
      clear hlast hlen9
      go_wp2_with fail
      refine HCL.out.mono ?_
      rintro e w5 ⟨c5, rfl, hc5, hf5, hs5, hch5⟩
      have hb5 := hch5.blk HBT.out (fun e => PTT.out.ap2 p e PTT.out.po)
      obtain ⟨g0, g1, g2, g3, g4, g5, g6⟩ := disk_cell hb5
      have fz2 := disk_froz hb5 2
      have fz3 := disk_froz hb5 3
      have fz4 := disk_froz hb5 4
      have fz5 := disk_froz hb5 5
      have hpl5 : p < w5.heap.size := blk_lt hb5
      have HB5 := Lib.hid hb5
      have F5 := Lib.hid hf5
      have S5 := Lib.hid hs5
      have CH5 := Lib.hid hch5
      clear hb5 hf5 hs5 hch5 g0 g1 g6 HCL
      go_wp2_with fail
      go_end0
      exact crash_end (w := w) (wt := w1) (by rw [HLT.out]) HBT.out PTT.out CHT.out NWT.out LTO.out LTF.out HB5.out hc5 F5.out S5.out CH5.out
end Go.Proofs.YtnjdondkggkfoaaGreat.dk
/-
  The disk's power, its order, its count of calls.
-/
namespace Go.Proofs.YtnjdondkggkfoaaGreat.dk
open Go.ChangeShapes Go.WideShapes Go.ChangeAt Go.RowKit Go.Maps Go.Sort Go.Shelf plain words ord mem al

def dec (x : Int × Int × Int) : Int × Int × Int := (x.1 - 1, x.2)
def cnt (st : St) : St := { st with ops := st.ops + 1, due := st.due.map dec }
/-- the order's block is written -/
theorem Parts.setdue {w w' : World} {p fs fh b : Nat} {Fs Fh Fo : Nat → Prop} {ls sh : AL Nm} {v : Value} {ps : List Pd} {due due' : Due} (h : Parts w p fs fh Fs Fh Fo ls sh v ps due (some b)) (hc : Chg (fun k => k = b) w w') (hd : IsDue w' Fo due' (some b)) : Parts w' p fs fh Fs Fh Fo ls sh v ps due' (some b) := by
  obtain ⟨hb, x, hx⟩ := h.dueo rfl
  refine ⟨h.hs.chg hc (fun k hk e => h.ap2 k hk (e ▸ hb)), h.hh.chg hc (fun k hk e => h.ap3 k hk (e ▸ hb)), h.row.chg hc (fun g hg e => ?_), fun q hq => Pd.boxes_chg (h.box q hq) hc (fun k hk e => ?_), hd, h.po, h.ro, h.bo, h.ap1, h.ap2, h.ap3, fun k hk => Nat.lt_of_lt_of_le (h.lto k hk) hc.size⟩
  · obtain ⟨c2, hc2⟩ := h.row.type hg
    exact blk_type hx hc2 (by decide) e.symm
  · obtain ⟨c2, hc2⟩ := box_type (h.box q hq) hk
    exact blk_type hx hc2 (by decide) e.symm
/-- a state whose own cells alone have turned -/
theorem Dk.retp {w w' : World} {p fs fh : Nat} {Fs Fh Fo F : Nat → Prop} {v v' : Value} {ps ps' : List Pd} {due due' : Due} {dv dv' : Option Nat} {room : Int} {ls sh : AL Nm} {dead dead' : Bool} {ops ops' : Int} {pd : List Chn} {r : Value} {S : Nat → Prop}
    (hP : Parts w' p fs fh Fs Fh Fo ls (fold ls pd) v' ps' due' dv') (hb : w'.heap[p]? = some (diskO room fs fh v' dv' dead' ops')) (h3 : ps'.map (·.c) = pd) (h4 : legal ls pd) (h5 : ∀ k, Fs k ∨ Fh k ∨ Fo k → F k ∨ (w.heap.size ≤ k ∧ k < w'.heap.size)) (h6 : ∀ k, F k → k < w.heap.size) (hc : Chg S w w') (hS : ∀ k, k < w.heap.size → S k → F k) :
    RetDk w p F ⟨room, ls, pd, due', dead', ops'⟩ r (.returned r) w' :=
  ⟨rfl, ⟨fs, fh, Fs, Fh, Fo, v', ps', dv', hb, hP, h3, h4, h5, ext_lt h6 hc.size⟩, hc.mono hS⟩
set_option maxRecDepth 100000 in
set_option maxHeartbeats 1000000 in
theorem count_d (w : World) (p : Nat) (F : Nat → Prop) (st : St) (h : Dk w p F st) (h0 : 0 ≤ st.ops) (h1 : st.ops < 4611686018427387904) (hd : ∀ x, st.due = some x → 0 < x.1 ∧ x.1 ≤ 9223372036854775807) :
    Calls Tryz.prog 70 #[ptr p] w (RetDk w p F (cnt st) (.tuple #[])) := by
  obtain ⟨fs, fh, Fs, Fh, Fo, v, ps, dv, hb, hP, h3, h4, h5, h6⟩ := h
  obtain ⟨room, ls, pd, due, dead, ops⟩ := st
  simp only [St.shown] at hb hP h3 h4 h0 h1 hd
  obtain ⟨c0, c1, c2, c3, c4, c5, c6⟩ := disk_cell hb
  have fz := disk_froz hb 6
  have hp := blk_lt hb
  have hw : IntKind.i64.wrap (ops + 1) = ops + 1 := by rw [IntWalk.i64_in _ (by omega)]
  have hs := setp_obj (o := 6) (u := .int .i64 (ops + 1)) hb
  have hb2 : (w.setCell ⟨p, 6, none⟩ (.int .i64 (ops + 1))).heap[p]? = some (diskO room fs fh v dv dead (ops + 1)) := hs
  have hP2 := hP.setp hb (chg_set w p 6 (.int .i64 (ops + 1)))
  have hpF : F p := h5 p (.inr (.inr hP.po))
  cases dv with
  | none =>
    have hdue : due = none := by
      have := hP.due_
      cases due with
      | none => rfl
      | some x => exact this.elim
    subst hdue
    have e4 := (disk_cell hb2).2.2.2.2.1
    simp only [dptr, Option.map_none] at e4
    have HP2 := Lib.hid hP2
    have HB2 := Lib.hid hb2
    have H3 := Lib.hid h3
    have H4 := Lib.hid h4
    have H5 := Lib.hid h5
    have H6 := Lib.hid h6
    clear hb hP h3 h4 h5 h6 c0 c1 c2 c3 c4 c5 hs hb2 hP2
    go_enter Tryz.func70, Tryz.ntmps70
    go_wp2_with fail
    go_end0
    exact Dk.retp (due := none) (dv := none) (sh := []) (v := v) (ps := ps) (dead := dead) (ops := ops) HP2.out HB2.out H3.out H4.out (fun k hk => .inl (H5.out k hk)) H6.out (chg_set _ _ _ _) (fun k _ e => by subst e; exact hpF)
  | some b =>
    obtain ⟨hbo, _⟩ := hP.dueo rfl
    cases due with
    | none => exact hP.due_.elim
    | some x =>
      obtain ⟨hx, _⟩ := hP2.due_
      obtain ⟨hx1, hx2⟩ := hd x rfl
      have e4 := (disk_cell hb2).2.2.2.2.1
      simp only [dptr, Option.map_some] at e4
      have l0 : (w.setCell ⟨p, 6, none⟩ (.int .i64 (ops + 1))).cell? ⟨b, 0, none⟩ = some (.int .i64 x.1) := by rw [cell_of_row _ _ _ _ _ _ hx]; rfl
      have f0 : (w.setCell ⟨p, 6, none⟩ (.int .i64 (ops + 1))).frozen? ⟨b, 0, none⟩ = false := by simp [World.frozen?, hx, lossO]
      have hw2 : IntKind.i64.wrap (x.1 - 1) = x.1 - 1 := by rw [IntWalk.i64_in _ (by omega)]
      have hbl : b < (w.setCell ⟨p, 6, none⟩ (.int .i64 (ops + 1))).heap.size := blk_lt hx
      have hpb : p ≠ b := blk_type hb2 hx (by decide)
      have hx3 : ((w.setCell ⟨p, 6, none⟩ (.int .i64 (ops + 1))).setCell ⟨b, 0, none⟩ (.int .i64 (x.1 - 1))).heap[b]? = some (lossO (dec x)) := setp_obj (o := 0) (u := .int .i64 (x.1 - 1)) hx
      have hP3 := hP2.setdue (due' := some (dec x)) (chg_set _ b 0 (.int .i64 (x.1 - 1))) ⟨hx3, hbo⟩
      have hb3 := (chg_set (w.setCell ⟨p, 6, none⟩ (.int .i64 (ops + 1))) b 0 (.int .i64 (x.1 - 1))).blk hb2 hpb
      have hbF : F b := h5 b (.inr (.inr hbo))
      have HP3 := Lib.hid hP3
      have HB3 := Lib.hid hb3
      have H3 := Lib.hid h3
      have H4 := Lib.hid h4
      have H5 := Lib.hid h5
      have H6 := Lib.hid h6
      clear hb hP h3 h4 h5 h6 c0 c1 c2 c3 c4 c5 hs hb2 hP2 hP3 hb3 hx hx3 hd
      go_enter Tryz.func70, Tryz.ntmps70
      go_wp2_with fail
      go_end0
      exact Dk.retp (due := none) (dv := none) (sh := []) (v := v) (ps := ps) (dead := dead) (ops := ops) HP3.out HB3.out H3.out H4.out (fun k hk => .inl (H5.out k hk)) H6.out ((chg_set w p 6 (.int .i64 (ops + 1))).mono (S' := fun k => k = p ∨ k = b) (fun _ _ e => .inl e) |>.trans (chg_set _ b 0 (.int .i64 (x.1 - 1))) (fun _ _ e => .inr e)) (fun k _ e => by
        rcases e with e | e
        · subst e; exact hpF
        · subst e; exact hbF)
/-- what the power is, behind what was ordered -/
def pw (st : St) : St := match st.due with
  | some (l, k, q) => if st.dead = false ∧ l = 0 then crashSt st k q else st
  | none => st
theorem RetDk.refl {w : World} {p : Nat} {F : Nat → Prop} {st : St} (h : Dk w p F st) (r : Value) : RetDk w p F st r (.returned r) w :=
  ⟨rfl, h.mono (fun k hk => .inl hk) (ext_lt h.lt (Nat.le_refl _)), Chg.refl _ _⟩
theorem crash_dead (st : St) (k q : Int) : (crashSt st k q).dead = true := by
  unfold crashSt
  split
  · assumption
  · rfl
theorem ext_trans {F : Nat → Prop} {w w1 w2 : World} (h1 : w.heap.size ≤ w1.heap.size) (h2 : w1.heap.size ≤ w2.heap.size) (k : Nat) (hk : Ext (Ext F w w1) w1 w2 k) : Ext F w w2 k := by
  rcases hk with (e | e) | e
  · exact .inl e
  · exact .inr ⟨e.1, by omega⟩
  · exact .inr ⟨by omega, e.2⟩
set_option maxRecDepth 100000 in
set_option maxHeartbeats 1000000 in
theorem powered_d (w : World) (p : Nat) (F : Nat → Prop) (st : St) (h : Dk w p F st) (hpot : fsum st.last + sumc st.pend ≤ 1073741824) (hpl : st.last.length + st.pend.length ≤ 1073741824) :
    Calls Tryz.prog 69 #[ptr p] w (RetDk w p F (pw st) (.bool (!(pw st).dead))) := by
  have HD := Lib.hid h
  obtain ⟨fs, fh, Fs, Fh, Fo, v, ps, dv, hb, hP, h3, h4, h5, h6⟩ := h
  obtain ⟨room, ls, pd, due, dead, ops⟩ := st
  simp only [St.shown] at hb hP h3 h4 hpot hpl
  obtain ⟨c0, c1, c2, c3, c4, c5, c6⟩ := disk_cell hb
  have hp := blk_lt hb
  cases dead with
  | true =>
    have hpw : pw ⟨room, ls, pd, due, true, ops⟩ = ⟨room, ls, pd, due, true, ops⟩ := by
      unfold pw
      cases due with
      | none => rfl
      | some x => obtain ⟨l, k, q⟩ := x; simp
    rw [hpw]
    clear hb hP h3 h4 h5 h6 c0 c1 c2 c3 c6 hpw
    go_enter Tryz.func69, Tryz.ntmps69
    go_wp2_with fail
    go_ret
    exact RetDk.refl HD.out _
  | false =>
    cases dv with
    | none =>
      have hdue : due = none := by
        have := hP.due_
        cases due with
        | none => rfl
        | some x => exact this.elim
      subst hdue
      have hpw : pw ⟨room, ls, pd, none, false, ops⟩ = ⟨room, ls, pd, none, false, ops⟩ := rfl
      rw [hpw]
      simp only [dptr, Option.map_none] at c4
      clear hb hP h3 h4 h5 h6 c0 c1 c2 c3 c6 hpw
      go_enter Tryz.func69, Tryz.ntmps69
      go_wp2_with fail
      go_ret
      exact RetDk.refl HD.out _
    | some b =>
      cases due with
      | none => exact hP.due_.elim
      | some x =>
        obtain ⟨l, k, q⟩ := x
        obtain ⟨hx, _⟩ := hP.due_
        have l0 : w.cell? ⟨b, 0, none⟩ = some (.int .i64 l) := by rw [cell_of_row _ _ _ _ _ _ hx]; rfl
        have l1 : w.cell? ⟨b, 1, none⟩ = some (.int .i64 k) := by rw [cell_of_row _ _ _ _ _ _ hx]; rfl
        have l2 : w.cell? ⟨b, 2, none⟩ = some (.int .i64 q) := by rw [cell_of_row _ _ _ _ _ _ hx]; rfl
        have hbl : b < w.heap.size := blk_lt hx
        simp only [dptr, Option.map_some] at c4
        by_cases hl : l = 0
        · subst hl
          have hpw : pw ⟨room, ls, pd, some (0, k, q), false, ops⟩ = crashSt ⟨room, ls, pd, some (0, k, q), false, ops⟩ k q := by simp [pw]
          rw [hpw]
          have HCR := Lib.hid (crash_d w.drew p F ⟨room, ls, pd, some (0, k, q), false, ops⟩ k q (HD.out.chg (Chg.refl (fun _ => False) _).drew (fun _ _ e => e)) hpot hpl)
          have z4 := Wb.at_ c4
          have z1 := Wb.at_ l1
          have z2 := Wb.at_ l2
          clear hb hP h3 h4 h5 h6 c0 c1 c2 c3 c6 hpw hx
          go_enter Tryz.func69, Tryz.ntmps69
          go_wp2_with fail
          refine wp_region_plan [([0, 1, 2, 3, 4, 5, 6, 7, 8, 9, 10, 11, 12, 13, 14], some (15, true)), ([], none)] (by kernel_rfl) (by kernel_rfl) ?_
          refine seg_write _ (by dsimp only [pick, at_]) _ (by dsimp only [pick, at_]) ?_
          repeat (go_big_quiet_step (fail))
          refine wpQuiet_nil ?_
          intro K2 g1
          clear z4 z1 z2
          go_wp2_with (fail)
          refine HCR.out.mono ?_
          rintro e w2 ⟨rfl, hd2, hc2⟩
          have D2 := Lib.hid hd2
          have C2 := Lib.hid hc2
          obtain ⟨fs2, fh2, Fs2, Fh2, Fo2, v2, ps2, dv2, hb2, _⟩ := hd2
          have d5 := (disk_cell hb2).2.2.2.2.2.1
          rw [crash_dead] at d5
          have hp2 : p < w2.heap.size := blk_lt hb2
          clear hb2 hc2 HCR l0 l1 l2 c4 c5
          go_wp2_with (fail)
          refine seg_end _ (by dsimp only [pick, at_]) ?_
          repeat (go_big_quiet_step (fail))
          refine wpQuiet_nil (NoPanic.normal ?_)
          go_wp2_with fail
          go_ret
          exact ⟨by rw [crash_dead]; rfl, D2.out, ((Chg.refl F w).drew).trans C2.out (fun _ _ e => e)⟩
        · have hpw : pw ⟨room, ls, pd, some (l, k, q), false, ops⟩ = ⟨room, ls, pd, some (l, k, q), false, ops⟩ := by simp [pw, hl]
          rw [hpw]
          have hl' : (l == 0) = false := by simpa using hl
          clear hb hP h3 h4 h5 h6 c0 c1 c2 c3 c6 hpw hx l1 l2
          go_enter Tryz.func69, Tryz.ntmps69
          go_wp2_with fail
          go_ret
          exact RetDk.refl HD.out _
end Go.Proofs.YtnjdondkggkfoaaGreat.dk
/-
  The disk makes a change.
-/
namespace Go.Proofs.YtnjdondkggkfoaaGreat.dk
open Go.ChangeShapes Go.WideShapes Go.ChangeAt Go.RowKit Go.Maps Go.Sort Go.Shelf plain words ord mem al

/-- small enough for the machine's numbers -/
structure Small (st : St) : Prop where
  sum : fsum st.last + sumc st.pend ≤ 536870912
  len : st.last.length + st.pend.length ≤ 536870912
  ops0 : 0 ≤ st.ops
  ops1 : st.ops < 4611686018427387904
  due : ∀ x, st.due = some x → 0 ≤ x.1 ∧ x.1 ≤ 9223372036854775807
def doSt (st : St) (c : Chn) : St := if (pw st).dead then pw st else cnt { st with pend := st.pend ++ [c] }
def doE (st : St) : Int := if (pw st).dead then 13 else 0
theorem pw_alive {st : St} (h : (pw st).dead = false) : pw st = st ∧ st.dead = false ∧ ∀ x, st.due = some x → x.1 ≠ 0 := by
  unfold pw at h ⊢
  cases hd : st.due with
  | none => rw [hd] at h; exact ⟨rfl, h, fun x hx => by cases hx⟩
  | some x =>
    obtain ⟨l, k, q⟩ := x
    rw [hd] at h
    simp only at h ⊢
    split at h
    · rw [crash_dead] at h; cases h
    · rename_i hn
      rw [if_neg hn]
      exact ⟨rfl, h, fun x hx => by injection hx with hx; subst hx; exact fun e => hn ⟨h, e⟩⟩
theorem append_c {w : World} {ops : Array Oper} {rest : List Oper} {o : Oper} {a : Act} {Q : Exit → Act → World → Prop} (hgd : o.guard = none) (s x : Operand)
    (ho : o.op = .call { callee := .builtin .append, args := #[s, x], argTypes := #[75, 75] })
    (v : Value) (n : Nat) (l : List Pd) (hs : a.eval s = v) (hown : Rw CE w v n l)
    (B : Nat) (A : Option Addr) (m c : Nat) (hA : A = none → c = 0) (news : List Pd) (hx : a.eval x = .slice A m c) (hr : Ls CE w B A m news)
    (hn : n + m ≤ 1099511627776)
    (h : ∀ v' w', Rw CE w' v' (n + m) (l ++ news) → w.grownBy w' v.ownBlock → (v'.ownBlock = v.ownBlock ∨ v'.ownBlock = some w.heap.size) → wpList Tryz.prog ops Q rest (a.put o.dst v') w') : wpList Tryz.prog ops Q (o :: rest) a w := by
  obtain ⟨i0, hi, hz0, hz1, hz2⟩ := info_parts infoC
  refine wpList_append_row (P := Tryz.prog) _ hgd s x 75 ho CE.e i0 _ 2 16 Tryz.underlying75 hi hz0 hz1 hz2 rfl (by decide) v n (cs CE.enc l) hs hown.2 B A m c hA (cs CE.enc news) hx hr.2 (cs_oneCell CE.one _) (by unfold maxLen; omega) (by omega) ?_
  intro v' w' h1 h2 h3 _
  exact h v' w' ⟨by rw [List.length_append, hown.1, hr.1], by rw [cs_append]; exact h1⟩ h2 h3
def RetDo (w : World) (p : Nat) (F G : Nat → Prop) (st : St) (r : Value) (e : Ending) (w' : World) : Prop :=
  e = .returned r ∧ Dk w' p (fun k => Ext F w w' k ∨ G k) st ∧ Chg (fun k => F k ∨ G k) w w'
theorem Parts.push {w w' : World} {p fs fh : Nat} {Fs Fh Fo : Nat → Prop} {ls sh : AL Nm} {v v' : Value} {ps : List Pd} {q : Pd} {due : Due} {dv : Option Nat} (h : Parts w p fs fh Fs Fh Fo ls sh v ps due dv) {c : Array Value} {f : Nat × Nat} (hb : w.heap[p]? = some (.cells c 78 f))
    (hc : Chg (fun k => k = p ∨ v.ownBlock = some k) w w') (hr : Rw CE w' v' (ps ++ [q]).length (ps ++ [q])) (hat : ∀ g, v'.ownBlock = some g → v.ownBlock = some g ∨ w.heap.size ≤ g) (hq : q.boxes w) (hqS : ∀ k, q.foot k → ¬ Fs k ∧ ¬ Fh k) :
    Parts w' p fs fh Fs Fh (fun k => Fo k ∨ q.foot k ∨ (w.heap.size ≤ k ∧ k < w'.heap.size)) ls sh v' (ps ++ [q]) due dv := by
  have hls : ∀ k, Fs k → k < w.heap.size := by obtain ⟨_, _, _, _, _, _, h9⟩ := h.hs; exact h9
  have hlh : ∀ k, Fh k → k < w.heap.size := by obtain ⟨_, _, _, _, _, _, h9⟩ := h.hh; exact h9
  have hbox : ∀ r : Pd, r.boxes w → ∀ k, r.foot k → ¬ (k = p ∨ v.ownBlock = some k) := fun r hr k hk e => by
    obtain ⟨c2, hc2⟩ := box_type hr hk
    rcases e with e | e
    · subst e; exact blk_type hb hc2 (by decide) rfl
    · obtain ⟨c3, hc3⟩ := h.row.type e
      exact blk_type hc2 hc3 (by decide) rfl
  have hs := hc.size
  refine ⟨h.hs.chg hc (fun k hk e => ?_), h.hh.chg hc (fun k hk e => ?_), hr, fun r hrm => ?_, (h.due_.chg hc (fun b hb2 e => ?_)).mono (fun k hk => .inl hk), .inl h.po, fun g hg => ?_, fun r hrm k hk => ?_, h.ap1, fun k hk e => ?_, fun k hk e => ?_, fun k hk => ?_⟩
  · rcases e with e | e
    · subst e; exact h.ap2 _ hk h.po
    · exact h.ap2 k hk (h.ro k e)
  · rcases e with e | e
    · subst e; exact h.ap3 _ hk h.po
    · exact h.ap3 k hk (h.ro k e)
  · rcases List.mem_append.1 hrm with h1 | h1
    · exact Pd.boxes_chg (h.box r h1) hc (hbox r (h.box r h1))
    · simp at h1; subst h1; exact Pd.boxes_chg hq hc (hbox r hq)
  · obtain ⟨_, x, hx⟩ := h.dueo hb2
    rcases e with e | e
    · subst e; exact blk_type hb hx (by decide) rfl
    · obtain ⟨c3, hc3⟩ := h.row.type e
      exact blk_type hx hc3 (by decide) rfl
  · rcases hat g hg with e | e
    · exact .inl (h.ro g e)
    · exact .inr (.inr ⟨e, hr.lt hg⟩)
  · rcases List.mem_append.1 hrm with h1 | h1
    · exact .inl (h.bo r h1 k hk)
    · simp at h1; subst h1; exact .inr (.inl hk)
  · rcases e with e | e | e
    · exact h.ap2 k hk e
    · exact (hqS k e).1 hk
    · have := hls k hk; omega
  · rcases e with e | e | e
    · exact h.ap3 k hk e
    · exact (hqS k e).2 hk
    · have := hlh k hk; omega
  · rcases hk with e | e | e
    · exact Nat.lt_of_lt_of_le (h.lto k e) hs
    · exact Nat.lt_of_lt_of_le (Pd.boxes_lt hq e) hs
    · exact e.2
set_option maxRecDepth 100000 in
set_option maxHeartbeats 2000000 in
theorem do_d (w : World) (p : Nat) (F : Nat → Prop) (st : St) (q : Pd) (h : Dk w p F st) (hq : q.boxes w) (hqF : ∀ k, q.foot k → ¬ F k) (ho : okc st.shown q.c) (hs : Small st) (hcl : chlen q.c ≤ 1073741824) :
    Calls Tryz.prog 97 #[ptr p, .agg #[.func (.func q.fid) #[] q.caps, .bool q.isApp]] w (RetDo w p F q.foot (doSt st q.c) (.int .i64 (doE st))) := by
  obtain ⟨w1, hw1⟩ : ∃ w1, w.alloc (.cells #[.func (.func q.fid) #[] q.caps, .bool q.isApp] 97) = w1 := ⟨_, rfl⟩
  have hb1 : Below w.heap.size w w1 := by rw [← hw1]; exact (Below.refl _ _).alloc (Nat.le_refl _) _
  have hs1 : w1.heap.size = w.heap.size + 1 := by rw [← hw1]; simp
  have hbx : w1.heap[w.heap.size]? = some (.cells #[.func (.func q.fid) #[] q.caps, .bool q.isApp] 97 (0, 0)) := by rw [← hw1]; exact alloc_new _ _
  have hd1 := h.chg (Chg.of_below hb1) (fun _ _ e => e)
  have HPW := Lib.hid (powered_d w1 p F st hd1 (by have := hs.sum; omega) (by have := hs.len; omega))
  have hlt := h.lt
  have hq1 := Pd.boxes_chg hq (Chg.of_below hb1) (fun _ _ e => e)
  have hent := enters_q q
  obtain ⟨fid, hfid⟩ : ∃ fid, q.fid = fid := ⟨_, rfl⟩
  obtain ⟨caps, hcaps⟩ : ∃ caps, q.caps = caps := ⟨_, rfl⟩
  obtain ⟨isA, hisA⟩ : ∃ isA, q.isApp = isA := ⟨_, rfl⟩
  rw [hfid] at hent
  rw [hfid, hcaps, hisA] at hw1 hbx
  rw [hfid, hcaps, hisA]
  have W1 := Lib.hid hw1
  have B1 := Lib.hid hb1
  have BX := Lib.hid hbx
  have LT := Lib.hid hlt
  have Q1 := Lib.hid hq1
  have HF := Lib.hid (And.intro hfid (And.intro hcaps hisA))
  have HS := Lib.hid hs
  have HQF := Lib.hid hqF
  have HO := Lib.hid ho
  have QLT := Lib.hid (show ∀ k, q.foot k → k < w.heap.size from fun k hk => Pd.boxes_lt hq hk)
  have S1 := Lib.hid hs1
  clear h hq hw1 hb1 hbx hd1 hlt hq1 hfid hcaps hisA hs hqF ho hs1
  go_enter Tryz.func97, Tryz.ntmps97
  go_wp2_with fail
  rw [W1.out]
  refine HPW.out.mono ?_
  rintro e w2 ⟨rfl, hd2, hc2⟩
  have hcw2 : Chg F w w2 := (((Chg.of_below B1.out).mono (S' := F) (fun _ _ e => e.elim)).trans hc2 (fun _ _ e => e))
  have hs12 : w1.heap.size ≤ w2.heap.size := hc2.size
  cases hdead : (pw st).dead with
  | true =>
    have hst : doSt st q.c = pw st := by unfold doSt; rw [if_pos hdead]
    have he : doE st = 13 := by unfold doE; rw [if_pos hdead]
    have HST := Lib.hid hst
    have HE := Lib.hid he
    have D2 := Lib.hid hd2
    have C2 := Lib.hid hcw2
    clear hst he hd2 hc2 hcw2 hdead HPW hent
    go_wp2_with fail
    go_ret
    refine ⟨by rw [HE.out]; rfl, ?_, C2.out.mono (fun _ _ e => .inl e)⟩
    rw [HST.out]
    exact D2.out.mono (fun k hk => .inl (by
      rcases hk with e | e
      · exact .inl e
      · exact .inr ⟨by have := S1.out; omega, e.2⟩)) (fun k hk => by
      rcases hk with e | e
      · exact ext_lt LT.out (by have := S1.out; omega) k e
      · have := QLT.out k e; have := S1.out; omega)
  | false =>
    obtain ⟨hpw, hal, hdue⟩ := pw_alive hdead
    rw [hpw] at hd2
    have hst : doSt st q.c = cnt { st with pend := st.pend ++ [q.c] } := by unfold doSt; rw [if_neg (by rw [hdead]; simp)]
    have he : doE st = 0 := by unfold doE; rw [if_neg (by rw [hdead]; simp)]
    have HST := Lib.hid hst
    have HE := Lib.hid he
    have HDUE := Lib.hid hdue
    have hbx2 := hc2.blk BX.out (fun e => by have := LT.out _ e; omega)
    have hq2 := Pd.boxes_chg Q1.out hc2 HQF.out
    obtain ⟨fs, fh, Fs, Fh, Fo, v, ps, dv, hb2, hP2, h3, h4, h5, h6⟩ := hd2
    have x0 : w2.cell? ⟨w.heap.size, 0, none⟩ = some (.func (.func fid) #[] caps) := by rw [cell_of_row _ _ _ _ _ _ hbx2]; rfl
    have d2 := (disk_cell hb2).2.2.1
    have z0 := Wb.at_ x0
    have z2 := Wb.at_ d2
    have lp : p < w2.heap.size := blk_lt hb2
    have lx : w.heap.size < w2.heap.size := blk_lt hbx2
    have hsum1 := fold_sum hP2.hs.srt st.pend
    have hlen1 := fold_len st.last st.pend
    have HW := Lib.hid (whole_x w2.drew fh Fh st.shown q (hP2.quiet (w' := w2.drew) (Below.refl _ _).drew).hh (Pd.boxes_chg hq2 (Chg.refl (fun _ => False) _).drew (fun _ _ e => e)) HO.out (by have := HS.out.sum; unfold St.shown; omega) (by have := HS.out.len; unfold St.shown; omega))
    rw [HF.out.1, HF.out.2.1, show whole = 9223372036854775807 from rfl] at HW
    have P2 := Lib.hid hP2
    have HB2 := Lib.hid hb2
    have BX2 := Lib.hid hbx2
    have Q2 := Lib.hid hq2
    have C2 := Lib.hid hcw2
    have HH := Lib.hid (And.intro h3 (And.intro h4 (And.intro h5 h6)))
    clear hst he hdue hbx2 hq2 hb2 hP2 h3 h4 h5 h6 x0 d2 hsum1 hlen1 hc2 hcw2 hdead hpw hal HPW
    go_wp2_with fail
    refine wp_region_plan [([0, 1, 2, 3, 4, 5], some (6, true)), ([], none)] (by kernel_rfl) (by kernel_rfl) ?_
    refine seg_write _ (by dsimp only [pick, at_]) _ (by dsimp only [pick, at_]) ?_
    repeat (go_big_quiet_step (fail))
    refine wpQuiet_nil ?_
    intro K2 g1
    clear z0 z2
    go_wp2_with (fail)
    refine HW.out.mono ?_
    rintro e w3 hr
    obtain ⟨rfl, hf3, hc3⟩ := RetFil.drew hr
    have hP3 := P2.out.filh hc3 hf3 (fun k hk => hk.new)
    have hb3 := hc3.blk HB2.out (fun e => P2.out.ap3 p e P2.out.po)
    have hFhF : ∀ k, Fh k → F k ∨ w.heap.size + 1 ≤ k := fun k hk => by
      rcases HH.out.2.2.1 k (.inr (.inl hk)) with e | e
      · exact .inl e
      · exact .inr (by have := S1.out; omega)
    have hbx3 := hc3.blk BX2.out (fun e => by
      rcases hFhF _ e with e | e
      · have := LT.out _ e; omega
      · omega)
    have hq3 := Pd.boxes_chg Q2.out hc3 (fun k hk e => by
      rcases hFhF _ e with e | e
      · exact HQF.out k hk e
      · have := QLT.out k hk; omega)
    have hcw3 : Chg F w w3 := C2.out.trans hc3 (fun k hk e => (hFhF k e).resolve_right (by omega))
    have P3 := Lib.hid hP3
    have HB3 := Lib.hid hb3
    have BX3 := Lib.hid hbx3
    have Q3 := Lib.hid hq3
    have C3 := Lib.hid hcw3
    have hs23 : w2.heap.size ≤ w3.heap.size := hc3.size
    clear hr hf3 hc3 hP3 hb3 hbx3 hq3 hcw3 HW hent
    go_wp2_with (fail)
    refine seg_end _ (by dsimp only [pick, at_]) ?_
    repeat (go_big_quiet_step (fail))
    refine wpQuiet_nil (NoPanic.normal ?_)
    have d3 := (disk_cell HB3.out).2.2.2.1
    have y0 : w3.cell? ⟨w.heap.size, 0, none⟩ = some (.func (.func fid) #[] caps) := by rw [cell_of_row _ _ _ _ _ _ BX3.out]; rfl
    have y1 : w3.cell? ⟨w.heap.size, 1, none⟩ = some (.bool isA) := by rw [cell_of_row _ _ _ _ _ _ BX3.out]; rfl
    have lp3 : p < w3.heap.size := blk_lt HB3.out
    have lx3 : w.heap.size < w3.heap.size := by omega
    have z3 := Wb.at_ d3
    have z0 := Wb.at_ y0
    have z1 := Wb.at_ y1
    go_wp2_with fail
    refine wp_region_plan [([0, 1, 2, 3, 4, 5], some (6, false)), ([], some (7, true)), ([8, 9], some (10, true)), ([], none)] (by kernel_rfl) (by kernel_rfl) ?_
    refine seg_act _ (by dsimp only [pick, at_]) _ (by dsimp only [pick, at_]) ?_
    repeat (go_big_quiet_step (fail))
    refine wpQuiet_nil ?_
    intro K3 g1 g2
    clear g1 z0 z1 z3
    go_wp2_with (fail)
    obtain ⟨w4, hw4⟩ : ∃ w4, (w3.alloc (.cells #[.func (.func fid) #[] caps, .bool isA] 97)).drew = w4 := ⟨_, rfl⟩
    have hb34 : Below w3.heap.size w3 w4 := by rw [← hw4]; exact ((Below.refl _ _).alloc (Nat.le_refl _) _).drew
    have hpd : pdE q = [.func (.func fid) #[] caps, .bool isA] := by unfold pdE; rw [HF.out.1, HF.out.2.1, HF.out.2.2]
    have hnews : Ls CE w4 (w3.heap.size + 1) (some ⟨w3.heap.size, 0, none⟩) 1 [q] := by
      rw [← hw4]
      have h9 := (ls_new (E := CE) (w := w3) 97 q).drew
      have h10 : (CE.enc q).toArray = #[.func (.func fid) #[] caps, .bool isA] := by show (pdE q).toArray = _; rw [hpd]
      rw [h10] at h9
      exact h9
    have hrow4 : Rw CE w4 v ps.length ps := P3.out.row.chg (Chg.of_below hb34) (fun _ _ e => e)
    have hlp : ps.length ≤ 536870912 := by have h9 := congrArg List.length HH.out.1; rw [List.length_map] at h9; have := HS.out.len; omega
    have B34 := Lib.hid hb34
    have W4 := Lib.hid hw4
    rw [hw4]
    refine g2 _ _ hb34 ?_
    clear g2 hw4 hb34 hpd y0 y1 d3
    refine seg_write _ (by dsimp only [pick, at_]) _ (by dsimp only [pick, at_]) ?_
    refine wpQuiet_nil ?_
    intro K4 g1
    go_wp2_with (at_builtin; refine append_c rfl (.tmp 19) (.tmp 21) rfl v ps.length ps (by rfl) hrow4 _ _ 1 1 (fun e => by cases e) [q] (by rfl) hnews (by omega) ?_; intro v5 w5 hown5 hgrow5 hat5)
    obtain ⟨A5, c5, e5, _⟩ := hown5.form
    subst e5
    have hb4 := (Chg.of_below B34.out).blk HB3.out (fun e => e)
    have hvp : v.ownBlock ≠ some p := fun e => by
      obtain ⟨c9, hc9⟩ := P3.out.row.type e
      exact blk_type HB3.out hc9 (by decide) rfl
    have hb5 : w5.heap[p]? = some (diskO st.room fs fh v dv st.dead st.ops) := (hgrow5.block p (blk_lt hb4) (fun e => hvp e.symm)).trans hb4
    have d5 := (disk_cell hb5).2.2.2.1
    have fz := disk_froz hb5 3
    have lp5 : p < w5.heap.size := blk_lt hb5
    have z5 := Wb.at_ d5
    have O5 := Lib.hid hown5
    have G5 := Lib.hid hgrow5
    have A5L := Lib.hid hat5
    have HB5 := Lib.hid hb5
    clear hown5 hgrow5 hat5 hb5 hb4 hrow4 hnews
    refine seg_write _ (by dsimp only [pick, at_]) _ (by dsimp only [pick, at_]) ?_
    repeat (go_big_quiet_step (fail))
    refine wpQuiet_nil ?_
    intro K5 g1
    clear z5
    go_wp2_with (fail)
    refine seg_end _ (by dsimp only [pick, at_]) ?_
    repeat (go_big_quiet_step (fail))
    refine wpQuiet_nil (NoPanic.normal ?_)
    obtain ⟨w6, hw6⟩ : ∃ w6, w5.setCell ⟨p, 3, none⟩ (.slice A5 (ps.length + 1) c5) = w6 := ⟨_, rfl⟩
    rw [hw6]
    have hc56 : Chg (fun k => k = p) w5 w6 := by rw [← hw6]; exact chg_set _ _ _ _
    have hc36 : Chg (fun k => k = p ∨ v.ownBlock = some k) w3 w6 := (((Chg.of_below B34.out).mono (S' := fun k => k = p ∨ v.ownBlock = some k) (fun _ _ e => e.elim)).grown G5.out (fun k e _ => .inr e)).trans hc56 (fun _ _ e => .inl e)
    have hb6 : w6.heap[p]? = some (diskO st.room fs fh (.slice A5 (ps.length + 1) c5) dv st.dead st.ops) := by rw [← hw6]; exact setp_obj (o := 3) HB5.out
    have hrow6 : Rw CE w6 (.slice A5 (ps.length + 1) c5) (ps ++ [q]).length (ps ++ [q]) := by
      rw [List.length_append, List.length_singleton]
      exact O5.out.chg hc56 (fun g hg e => by
        obtain ⟨c9, hc9⟩ := O5.out.type hg
        exact blk_type HB5.out hc9 (by decide) e.symm)
    have hs34 : w3.heap.size ≤ w4.heap.size := B34.out.size
    have hs36 : w3.heap.size ≤ w6.heap.size := hc36.size
    have hs1 := S1.out
    have hat6 : ∀ g, (Value.slice A5 (ps.length + 1) c5).ownBlock = some g → v.ownBlock = some g ∨ w3.heap.size ≤ g := fun g hg => by
      rcases A5L.out with e | e
      · exact .inl (e.symm.trans hg)
      · rw [hg] at e; injection e with e; exact .inr (by omega)
    have hqS : ∀ k, q.foot k → ¬ Fs k ∧ ¬ Ext Fh w2.drew w3 k := fun k hk => by
      have h8 := QLT.out k hk
      have h9 := HQF.out k hk
      refine ⟨fun e => ?_, fun e => ?_⟩
      · rcases HH.out.2.2.1 k (.inl e) with e | e
        · exact h9 e
        · omega
      · rcases e with e | e
        · rcases HH.out.2.2.1 k (.inr (.inl e)) with e | e
          · exact h9 e
          · omega
        · have : w2.heap.size ≤ k := e.1
          omega
    have hP6 := P3.out.push HB3.out hc36 hrow6 hat6 Q3.out hqS
    obtain ⟨F6, hF6⟩ : ∃ F6 : Nat → Prop, F6 = fun k => Ext F w w6 k ∨ q.foot k := ⟨_, rfl⟩
    have hF6l : ∀ k, F6 k → k < w6.heap.size := fun k hk => by
      rw [hF6] at hk
      rcases hk with e | e
      · exact ext_lt LT.out (by omega) k e
      · have := QLT.out k e; omega
    have hd6 : Dk w6 p F6 { st with pend := st.pend ++ [q.c] } := by
      refine ⟨fs, fh, Fs, Ext Fh w2.drew w3, (fun k => Fo k ∨ q.foot k ∨ (w3.heap.size ≤ k ∧ k < w6.heap.size)), .slice A5 (ps.length + 1) c5, ps ++ [q], dv, hb6, ?_, ?_, legal_snoc HH.out.2.1 HO.out, fun k hk => ?_, hF6l⟩
      · have : St.shown { st with pend := st.pend ++ [q.c] } = done st.shown q.c := fold_snoc _ _ _
        rw [this]
        exact hP6
      · rw [List.map_append, HH.out.1]; rfl
      · rw [hF6]
        have old : ∀ k, Ext F w1 w2 k → Ext F w w6 k := fun k hk => by
          rcases hk with e | e
          · exact .inl e
          · exact .inr ⟨by omega, by omega⟩
        rcases hk with e | e | e
        · exact .inl (old k (HH.out.2.2.1 k (.inl e)))
        · rcases e with e | e
          · exact .inl (old k (HH.out.2.2.1 k (.inr (.inl e))))
          · have h9 : w2.heap.size ≤ k := e.1
            exact .inl (.inr ⟨by omega, by omega⟩)
        · rcases e with e | e | e
          · exact .inl (old k (HH.out.2.2.1 k (.inr (.inr e))))
          · exact .inr e
          · exact .inl (.inr ⟨by omega, e.2⟩)
    have HCO := Lib.hid (count_d w6 p F6 { st with pend := st.pend ++ [q.c] } hd6 HS.out.ops0 HS.out.ops1 (fun x hx => by have h8 := HS.out.due x hx; have h9 := HDUE.out x hx; omega))
    have hcw6 : Chg F w w6 := C3.out.trans hc36 (fun k hk e => by
      rcases e with e | e
      · subst e
        rcases HH.out.2.2.1 _ (.inr (.inr P2.out.po)) with e | e
        · exact e
        · omega
      · rcases HH.out.2.2.1 _ (.inr (.inr (P2.out.ro k e))) with e | e
        · exact e
        · omega)
    have C6 := Lib.hid hcw6
    have HF6 := Lib.hid hF6
    have HF6L := Lib.hid hF6l
    have hs06 : w.heap.size ≤ w6.heap.size := hcw6.size
    clear hc56 hc36 hb6 hrow6 hat6 hqS hP6 hF6 hF6l hd6 hcw6 d5 fz hw6
    go_wp2_with fail
    refine HCO.out.mono ?_
    rintro e w7 ⟨rfl, hd7, hc7⟩
    have hs67 : w6.heap.size ≤ w7.heap.size := hc7.size
    have hfin : RetDo w p F q.foot (doSt st q.c) (.int .i64 (doE st)) (.returned (.int .i64 0)) w7 := by
      refine ⟨by rw [HE.out], ?_, ?_⟩
      · rw [HST.out]
        refine hd7.mono (fun k hk => ?_) (fun k hk => ?_)
        · rcases hk with e | e
          · rw [HF6.out] at e
            rcases e with e | e
            · rcases e with e | e
              · exact .inl (.inl e)
              · exact .inl (.inr ⟨e.1, by omega⟩)
            · exact .inr e
          · exact .inl (.inr ⟨by omega, e.2⟩)
        · rcases hk with e | e
          · exact ext_lt LT.out (by omega) k e
          · have := QLT.out k e; omega
      · refine (C6.out.mono (S' := fun k => F k ∨ q.foot k) (fun _ _ e => .inl e)).trans hc7 (fun k hk e => ?_)
        rw [HF6.out] at e
        rcases e with e | e
        · rcases e with e | e
          · exact .inl e
          · omega
        · exact .inr e
    have FIN := Lib.hid hfin
    clear hd7 hc7 hfin HCO
    go_wp2_with fail
    go_ret
    exact FIN.out
end Go.Proofs.YtnjdondkggkfoaaGreat.dk
/-
  The disk's calls: New, Append, Power, Cut.
-/
namespace Go.Proofs.YtnjdondkggkfoaaGreat.dk
open Go.ChangeShapes Go.WideShapes Go.ChangeAt Go.RowKit Go.Maps Go.Sort Go.Shelf plain words ord mem al

def okn (a : Nm) : Bool := decide (1 ≤ a.length) && decide (a.length ≤ 40)
def appSt (st : St) (a b : Nm) : St × Int := if okn a = false then (st, 10) else if st.room < (fsum st.shown : Int) + (b.length : Int) then (st, 12) else (doSt st (.app a b), doE st)
theorem RetDo.ret {w w2 w' : World} {p : Nat} {F G : Nat → Prop} {st : St} {r : Value} {e : Ending} (h : RetDo w2 p F G st r e w') (hb : Below w.heap.size w w2) (hF : ∀ k, F k → k < w.heap.size) (hG : ∀ k, G k → w.heap.size ≤ k ∧ k < w2.heap.size) : RetDk w p F st r e w' := by
  obtain ⟨h1, h2, h3⟩ := h
  have hs := hb.size
  have hs2 := h3.size
  refine ⟨h1, h2.mono (fun k hk => ?_) (ext_lt hF (by omega)), ?_⟩
  · rcases hk with e | e
    · rcases e with e | e
      · exact .inl e
      · exact .inr ⟨by omega, e.2⟩
    · exact .inr ⟨(hG k e).1, by have := (hG k e).2; omega⟩
  · refine ((Chg.of_below hb).mono (S' := F) (fun _ _ e => e.elim)).trans h3 (fun k hk e => ?_)
    rcases e with e | e
    · exact e
    · have := (hG k e).1; omega
theorem RetDk.keep {w w' : World} {p : Nat} {F : Nat → Prop} {st : St} (h : Dk w p F st) (hb : Below w.heap.size w w') (r : Value) : RetDk w p F st r (.returned r) w' :=
  ⟨rfl, (h.chg (Chg.of_below hb) (fun _ _ e => e)).mono (fun k hk => .inl hk) (ext_lt h.lt hb.size), (Chg.of_below hb).mono (fun _ _ e => e.elim)⟩
theorem alloc2 (w : World) (x y : Obj) : ((w.alloc x).alloc y).heap[w.heap.size]? = some x ∧ ((w.alloc x).alloc y).heap[w.heap.size + 1]? = some y ∧ Below w.heap.size w ((w.alloc x).alloc y) ∧ ((w.alloc x).alloc y).heap.size = w.heap.size + 2 := by
  refine ⟨alloc_old y (alloc_new w x), ?_, ((Below.refl _ _).alloc (Nat.le_refl _) _).alloc (by simp) _, by simp⟩
  have := alloc_new (w.alloc x) y
  rwa [show (w.alloc x).heap.size = w.heap.size + 1 by simp] at this
set_option maxRecDepth 100000 in
set_option maxHeartbeats 1000000 in
theorem append_d (w : World) (p : Nat) (F : Nat → Prop) (st : St) (a b : Nm) (h : Dk w p F st) (hs : Small st) (hr0 : 0 ≤ st.room) (hr1 : st.room ≤ 1073741824) (hbl : b.length ≤ 1125899906842624) :
    Calls Tryz.prog 65 #[ptr p, .string (bs a), .string (bs b)] w (RetDk w p F (appSt st a b).1 (.int .i64 (appSt st a b).2)) := by
  obtain ⟨ha1, ha2, hb2, hs2⟩ := alloc2 w (.cells #[.string (bs a)] 9) (.cells #[.string (bs b)] 9)
  obtain ⟨w2, hw2⟩ : ∃ w2, (w.alloc (.cells #[.string (bs a)] 9)).alloc (.cells #[.string (bs b)] 9) = w2 := ⟨_, rfl⟩
  rw [hw2] at ha1 ha2 hb2 hs2
  have HV := Lib.hid (valid_d w2 a)
  have x0 : w2.cell? ⟨w.heap.size, 0, none⟩ = some (.string (bs a)) := by rw [cell_of_row _ _ _ _ _ _ ha1]; rfl
  have x1 : w2.cell? ⟨w.heap.size + 1, 0, none⟩ = some (.string (bs b)) := by rw [cell_of_row _ _ _ _ _ _ ha2]; rfl
  have hd2 := h.chg (Chg.of_below hb2) (fun _ _ e => e)
  have W2 := Lib.hid hw2
  have B2 := Lib.hid hb2
  have S2 := Lib.hid hs2
  have HD := Lib.hid h
  have HD2 := Lib.hid hd2
  have LT := Lib.hid h.lt
  have HS := Lib.hid hs
  have A1 := Lib.hid ha1
  have A2 := Lib.hid ha2
  have l0 : w.heap.size < w2.heap.size := blk_lt ha1
  have l1 : w.heap.size + 1 < w2.heap.size := blk_lt ha2
  have hszb := bs_size b
  clear h hs hw2 hb2 hs2 hd2 ha1 ha2
  have X0 := Lib.hid x0
  have X1 := Lib.hid x1
  cases hok : okn a with
  | false =>
    have hap : appSt st a b = (st, 10) := by unfold appSt; rw [if_pos hok]
    rw [hap]
    unfold okn at hok
    rw [hok] at HV
    clear hok hap x1
    go_enter Tryz.func65, Tryz.ntmps65
    go_wp2_with fail
    rw [W2.out]
    clear x0
    have x0 := X0.out
    go_wp2_with fail
    refine HV.out.mono ?_
    rintro e w3 ⟨rfl, rfl⟩
    go_wp2_with fail
    go_ret
    exact RetDk.keep HD.out B2.out _
  | true =>
    have hok2 := hok
    unfold okn at hok
    rw [hok] at HV
    obtain ⟨fs, fh, Fs, Fh, Fo, v, ps, dv, hb, hP, h3, h4, h5, h6⟩ := HD2.out
    obtain ⟨c0, _, c2, _⟩ := disk_cell hb
    obtain ⟨u1, lf⟩ := hP.hh.used
    have lp := blk_lt hb
    have hsum := fold_sum hP.hs.srt st.pend
    obtain ⟨U, hU⟩ : ∃ U, fsum st.shown = U := ⟨_, rfl⟩
    obtain ⟨L, hL⟩ : ∃ L, b.length = L := ⟨_, rfl⟩
    have hUs : U ≤ 536870912 := by rw [← hU]; have := HS.out.sum; unfold St.shown; omega
    rw [hU] at u1
    rw [hL] at hszb hbl
    obtain ⟨R, hR⟩ : ∃ R, st.room = R := ⟨_, rfl⟩
    rw [hR] at c0 hr0 hr1
    have hwr : IntKind.i64.wrap (R - (U : Int)) = R - (U : Int) := by rw [IntWalk.i64_in _ (by omega)]
    have z0 := Wb.at_ c0
    have z2 := Wb.at_ c2
    have z1 := Wb.at_ u1
    have zx := Wb.at_ x1
    by_cases hfit : R < (U : Int) + (L : Int)
    · have hap : appSt st a b = (st, 12) := by unfold appSt; rw [if_neg (by rw [hok2]; simp), if_pos (by rw [hU, hL, hR]; exact hfit)]
      rw [hap]
      have hg : (R - (U : Int)) < (L : Int) := by omega
      clear hok hok2 hap x1 hb hP h3 h4 h5 h6 c0 c2 u1 hsum hU hL hR
      go_enter Tryz.func65, Tryz.ntmps65
      go_wp2_with fail
      rw [W2.out]
      clear x0
      have x0 := X0.out
      go_wp2_with fail
      refine HV.out.mono ?_
      rintro e w3 ⟨rfl, rfl⟩
      go_wp2_with fail
      refine wp_region_plan [([0, 1, 2, 3, 4, 5, 6, 7, 8, 9, 10, 11, 12, 13, 14], none)] (by kernel_rfl) (by kernel_rfl) ?_
      refine seg_end _ (by dsimp only [pick, at_]) ?_
      repeat (go_big_quiet_step (fail))
      refine wpQuiet_nil (NoPanic.normal ?_)
      clear z0 z2 z1 zx
      go_wp2_with fail
      go_ret
      exact RetDk.keep HD.out B2.out.drew _
    · have hap : appSt st a b = (doSt st (.app a b), doE st) := by unfold appSt; rw [if_neg (by rw [hok2]; simp), if_neg (by rw [hU, hL, hR]; exact hfit)]
      rw [hap]
      have hg : ¬ (R - (U : Int)) < (L : Int) := by omega
      have HDO := Lib.hid (do_d w2.drew p F st ⟨.app a b, w.heap.size, w.heap.size + 1⟩ (HD2.out.chg (Chg.refl (fun _ => False) _).drew (fun _ _ e => e)) ⟨A1.out, A2.out⟩ (fun k hk e => by
        have := LT.out k e
        rcases hk with e | e
        · subst e; simp at this
        · subst e; simp at this; omega) (by have := hok2; unfold okn at this; simp at this; exact this.2) HS.out (by simp only [chlen]; omega))
      have hUR : (U : Int) + (L : Int) ≤ R := by omega
      clear hok hok2 hap x1 hb hP h3 h4 h5 h6 c0 c2 u1 hsum hU hL hR
      go_enter Tryz.func65, Tryz.ntmps65
      go_wp2_with fail
      rw [W2.out]
      clear x0
      have x0 := X0.out
      go_wp2_with fail
      refine HV.out.mono ?_
      rintro e w3 ⟨rfl, rfl⟩
      go_wp2_with fail
      refine wp_region_plan [([0, 1, 2, 3, 4, 5, 6, 7, 8, 9, 10, 11, 12, 13, 14], none)] (by kernel_rfl) (by kernel_rfl) ?_
      refine seg_end _ (by dsimp only [pick, at_]) ?_
      repeat (go_big_quiet_step (fail))
      refine wpQuiet_nil (NoPanic.normal ?_)
      clear z0 z2 z1 zx
      go_wp2_with fail
      refine HDO.out.mono ?_
      rintro e w4 hr
      have hr2 := hr.ret B2.out.drew LT.out (fun k hk => by
        have h9 := S2.out
        rcases hk with e | e
        · subst e; exact ⟨by simp, by show w.heap.size < w2.heap.size; omega⟩
        · subst e; exact ⟨by simp, by show w.heap.size + 1 < w2.heap.size; omega⟩)
      have R2 := Lib.hid hr2
      obtain ⟨rfl, _, _⟩ := hr
      clear hr2 HDO
      go_wp2_with fail
      go_ret
      exact R2.out
end Go.Proofs.YtnjdondkggkfoaaGreat.dk
/-
  The disk's calls: Rename, Remove.
-/
namespace Go.Proofs.YtnjdondkggkfoaaGreat.dk
open Go.ChangeShapes Go.WideShapes Go.ChangeAt Go.RowKit Go.Maps Go.Sort Go.Shelf plain words ord mem al

def renSt (st : St) (a b : Nm) : St × Int := if okn a = false ∨ okn b = false then (st, 10) else if al.get st.shown a = none then (st, 11) else (doSt st (.ren a b), doE st)
def remSt (st : St) (a : Nm) : St × Int := if okn a = false then (st, 10) else if al.get st.shown a = none then (st, 11) else (doSt st (.rem a), doE st)
set_option maxRecDepth 100000 in
set_option maxHeartbeats 1000000 in
theorem rename_d (w : World) (p : Nat) (F : Nat → Prop) (st : St) (a b : Nm) (h : Dk w p F st) (hs : Small st) :
    Calls Tryz.prog 67 #[ptr p, .string (bs a), .string (bs b)] w (RetDk w p F (renSt st a b).1 (.int .i64 (renSt st a b).2)) := by
  obtain ⟨ha1, ha2, hb2, hs2⟩ := alloc2 w (.cells #[.string (bs a)] 9) (.cells #[.string (bs b)] 9)
  obtain ⟨w2, hw2⟩ : ∃ w2, (w.alloc (.cells #[.string (bs a)] 9)).alloc (.cells #[.string (bs b)] 9) = w2 := ⟨_, rfl⟩
  rw [hw2] at ha1 ha2 hb2 hs2
  have HV := Lib.hid (valid_d w2 a)
  have HVb := Lib.hid (valid_d w2 b)
  have x0 : w2.cell? ⟨w.heap.size, 0, none⟩ = some (.string (bs a)) := by rw [cell_of_row _ _ _ _ _ _ ha1]; rfl
  have x1 : w2.cell? ⟨w.heap.size + 1, 0, none⟩ = some (.string (bs b)) := by rw [cell_of_row _ _ _ _ _ _ ha2]; rfl
  have hd2 := h.chg (Chg.of_below hb2) (fun _ _ e => e)
  have W2 := Lib.hid hw2
  have B2 := Lib.hid hb2
  have S2 := Lib.hid hs2
  have HD := Lib.hid h
  have HD2 := Lib.hid hd2
  have LT := Lib.hid h.lt
  have HS := Lib.hid hs
  have A1 := Lib.hid ha1
  have A2 := Lib.hid ha2
  have l0 : w.heap.size < w2.heap.size := blk_lt ha1
  have l1 : w.heap.size + 1 < w2.heap.size := blk_lt ha2
  clear h hs hw2 hb2 hs2 hd2 ha1 ha2
  have X0 := Lib.hid x0
  have X1 := Lib.hid x1
  clear x0 x1
  have hokb : (decide (1 ≤ b.length) && decide (b.length ≤ 40)) = okn b := rfl
  rw [hokb] at HVb
  have hoka : (decide (1 ≤ a.length) && decide (a.length ≤ 40)) = okn a := rfl
  rw [hoka] at HV
  clear hoka hokb
  cases hok : okn a with
  | false =>
    have hap : renSt st a b = (st, 10) := by unfold renSt; rw [if_pos (.inl hok)]
    rw [hap]
    rw [hok] at HV
    clear hok hap
    go_enter Tryz.func67, Tryz.ntmps67
    go_wp2_with fail
    rw [W2.out]
    have x0 := X0.out
    go_wp2_with fail
    refine HV.out.mono ?_
    rintro e w3 ⟨rfl, rfl⟩
    go_wp2_with fail
    go_ret
    exact RetDk.keep HD.out B2.out _
  | true =>
    rw [hok] at HV
    cases hok2 : okn b with
    | false =>
      have hap : renSt st a b = (st, 10) := by unfold renSt; rw [if_pos (.inr hok2)]
      rw [hap]
      rw [hok2] at HVb
      clear hok hok2 hap
      go_enter Tryz.func67, Tryz.ntmps67
      go_wp2_with fail
      rw [W2.out]
      have x0 := X0.out
      have x1 := X1.out
      go_wp2_with fail
      refine HV.out.mono ?_
      rintro e w3 ⟨rfl, rfl⟩
      go_wp2_with fail
      refine HVb.out.mono ?_
      rintro e w3 ⟨rfl, rfl⟩
      go_wp2_with fail
      go_ret
      exact RetDk.keep HD.out B2.out _
    | true =>
      rw [hok2] at HVb
      have hla : a.length ≤ 40 := by have := hok; unfold okn at this; simp at this; exact this.2
      have hlb : b.length ≤ 40 := by have := hok2; unfold okn at this; simp at this; exact this.2
      have HH := Lib.hid (show ∃ fh, w2.cell? ⟨p, 2, none⟩ = some (ptr fh) ∧ p < w2.heap.size ∧ Calls Tryz.prog 99 #[ptr fh, .string (bs a)] w2.drew fun e w' => e = .returned (.bool (al.get st.shown a).isSome) ∧ w2.drew = w' from by
        obtain ⟨fs, fh, Fs, Fh, Fo, v, ps, dv, hb, hP, h3, h4, h5, h6⟩ := HD2.out
        have := has_f w2.drew fh Fh st.shown (bs a) (hP.quiet (Below.refl _ _).drew).hh (by rw [bs_size]; unfold maxLen; omega)
        rw [bs_list] at this
        exact ⟨fh, (disk_cell hb).2.2.1, blk_lt hb, this⟩)
      obtain ⟨fh, c2, lp, hhas⟩ := HH.out
      clear HH
      cases hg : al.get st.shown a with
      | none =>
        have hap : renSt st a b = (st, 11) := by unfold renSt; rw [if_neg (by rw [hok, hok2]; simp), if_pos hg]
        rw [hap]
        rw [hg] at hhas
        have HHA := Lib.hid hhas
        clear hok hok2 hap hg hhas
        go_enter Tryz.func67, Tryz.ntmps67
        go_wp2_with fail
        rw [W2.out]
        have x0 := X0.out
        have x1 := X1.out
        go_wp2_with fail
        refine HV.out.mono ?_
        rintro e w3 ⟨rfl, rfl⟩
        go_wp2_with fail
        refine HVb.out.mono ?_
        rintro e w3 ⟨rfl, rfl⟩
        go_wp2_with fail
        have z2 := Wb.at_ c2
        have zx0 := Wb.at_ x0
        have zx1 := Wb.at_ x1
        refine wp_region_plan [([0, 1, 2, 3, 4], some (5, false)), ([6], none)] (by kernel_rfl) (by kernel_rfl) ?_
        refine seg_act _ (by dsimp only [pick, at_]) _ (by dsimp only [pick, at_]) ?_
        repeat (go_big_quiet_step (fail))
        refine wpQuiet_nil ?_
        intro K1 h1 h2
        clear h1
        go_wp2_with (fail)
        refine HHA.out.mono ?_
        rintro e w3 ⟨rfl, rfl⟩
        go_wp2_with (fail)
        refine h2 _ _ (Below.refl _ _).drew ?_
        refine seg_end _ (by dsimp only [pick, at_]) ?_
        repeat (go_big_quiet_step (fail))
        refine wpQuiet_nil (NoPanic.normal ?_)
        clear z2 zx0 zx1
        go_wp2_with fail
        go_ret
        exact RetDk.keep HD.out B2.out.drew _
      | some y =>
        have hap : renSt st a b = (doSt st (.ren a b), doE st) := by unfold renSt; rw [if_neg (by rw [hok, hok2]; simp), if_neg (by rw [hg]; simp)]
        rw [hap]
        have HDO := Lib.hid (do_d w2.drew p F st ⟨.ren a b, w.heap.size, w.heap.size + 1⟩ (HD2.out.chg (Chg.refl (fun _ => False) _).drew (fun _ _ e => e)) ⟨A1.out, A2.out⟩ (fun k hk e => by
          have := LT.out k e
          rcases hk with e | e
          · subst e; simp at this
          · subst e; simp at this; omega) ⟨hla, hlb, by rw [hg]; simp⟩ HS.out (by simp only [chlen]; omega))
        rw [hg] at hhas
        have HHA := Lib.hid hhas
        clear hok hok2 hap hg hhas hla hlb
        go_enter Tryz.func67, Tryz.ntmps67
        go_wp2_with fail
        rw [W2.out]
        have x0 := X0.out
        have x1 := X1.out
        go_wp2_with fail
        refine HV.out.mono ?_
        rintro e w3 ⟨rfl, rfl⟩
        go_wp2_with fail
        refine HVb.out.mono ?_
        rintro e w3 ⟨rfl, rfl⟩
        go_wp2_with fail
        have z2 := Wb.at_ c2
        have zx0 := Wb.at_ x0
        have zx1 := Wb.at_ x1
        refine wp_region_plan [([0, 1, 2, 3, 4], some (5, false)), ([6], none)] (by kernel_rfl) (by kernel_rfl) ?_
        refine seg_act _ (by dsimp only [pick, at_]) _ (by dsimp only [pick, at_]) ?_
        repeat (go_big_quiet_step (fail))
        refine wpQuiet_nil ?_
        intro K1 h1 h2
        clear h1
        go_wp2_with (fail)
        refine HHA.out.mono ?_
        rintro e w3 ⟨rfl, rfl⟩
        go_wp2_with (fail)
        refine h2 _ _ (Below.refl _ _).drew ?_
        refine seg_end _ (by dsimp only [pick, at_]) ?_
        repeat (go_big_quiet_step (fail))
        refine wpQuiet_nil (NoPanic.normal ?_)
        clear z2 zx0 zx1
        clear x0 x1 c2
        go_wp2_with fail
        refine HDO.out.mono ?_
        rintro e w4 hr
        have hr2 := hr.ret B2.out.drew LT.out (fun k hk => by
          have h9 := S2.out
          rcases hk with e | e
          · subst e; exact ⟨by simp, by show w.heap.size < w2.heap.size; omega⟩
          · subst e; exact ⟨by simp, by show w.heap.size + 1 < w2.heap.size; omega⟩)
        have R2 := Lib.hid hr2
        obtain ⟨rfl, _, _⟩ := hr
        clear hr2 HDO
        go_wp2_with fail
        go_ret
        exact R2.out
set_option maxRecDepth 100000 in
set_option maxHeartbeats 1000000 in
theorem remove_d (w : World) (p : Nat) (F : Nat → Prop) (st : St) (a : Nm) (h : Dk w p F st) (hs : Small st) :
    Calls Tryz.prog 68 #[ptr p, .string (bs a)] w (RetDk w p F (remSt st a).1 (.int .i64 (remSt st a).2)) := by
  obtain ⟨w2, hw2⟩ : ∃ w2, w.alloc (.cells #[.string (bs a)] 9) = w2 := ⟨_, rfl⟩
  have ha1 : w2.heap[w.heap.size]? = some (.cells #[.string (bs a)] 9) := by rw [← hw2]; exact alloc_new _ _
  have hb2 : Below w.heap.size w w2 := by rw [← hw2]; exact (Below.refl _ _).alloc (Nat.le_refl _) _
  have hs2 : w2.heap.size = w.heap.size + 1 := by rw [← hw2]; simp
  have HV := Lib.hid (valid_d w2 a)
  have x0 : w2.cell? ⟨w.heap.size, 0, none⟩ = some (.string (bs a)) := by rw [cell_of_row _ _ _ _ _ _ ha1]; rfl
  have hd2 := h.chg (Chg.of_below hb2) (fun _ _ e => e)
  have W2 := Lib.hid hw2
  have B2 := Lib.hid hb2
  have S2 := Lib.hid hs2
  have HD := Lib.hid h
  have HD2 := Lib.hid hd2
  have LT := Lib.hid h.lt
  have HS := Lib.hid hs
  have A1 := Lib.hid ha1
  have l0 : w.heap.size < w2.heap.size := blk_lt ha1
  clear h hs hw2 hb2 hs2 hd2 ha1
  have X0 := Lib.hid x0
  clear x0
  have hoka : (decide (1 ≤ a.length) && decide (a.length ≤ 40)) = okn a := rfl
  rw [hoka] at HV
  clear hoka
  cases hok : okn a with
  | false =>
    have hap : remSt st a = (st, 10) := by unfold remSt; rw [if_pos hok]
    rw [hap]
    rw [hok] at HV
    clear hok hap
    go_enter Tryz.func68, Tryz.ntmps68
    go_wp2_with fail
    rw [W2.out]
    have x0 := X0.out
    go_wp2_with fail
    refine HV.out.mono ?_
    rintro e w3 ⟨rfl, rfl⟩
    go_wp2_with fail
    go_ret
    exact RetDk.keep HD.out B2.out _
  | true =>
    rw [hok] at HV
    have hla : a.length ≤ 40 := by have := hok; unfold okn at this; simp at this; exact this.2
    have HH := Lib.hid (show ∃ fh, w2.cell? ⟨p, 2, none⟩ = some (ptr fh) ∧ p < w2.heap.size ∧ Calls Tryz.prog 99 #[ptr fh, .string (bs a)] w2.drew fun e w' => e = .returned (.bool (al.get st.shown a).isSome) ∧ w2.drew = w' from by
      obtain ⟨fs, fh, Fs, Fh, Fo, v, ps, dv, hb, hP, h3, h4, h5, h6⟩ := HD2.out
      have := has_f w2.drew fh Fh st.shown (bs a) (hP.quiet (Below.refl _ _).drew).hh (by rw [bs_size]; unfold maxLen; omega)
      rw [bs_list] at this
      exact ⟨fh, (disk_cell hb).2.2.1, blk_lt hb, this⟩)
    obtain ⟨fh, c2, lp, hhas⟩ := HH.out
    clear HH
    cases hg : al.get st.shown a with
    | none =>
      have hap : remSt st a = (st, 11) := by unfold remSt; rw [if_neg (by rw [hok]; simp), if_pos hg]
      rw [hap]
      rw [hg] at hhas
      have HHA := Lib.hid hhas
      clear hok hap hg hhas
      go_enter Tryz.func68, Tryz.ntmps68
      go_wp2_with fail
      rw [W2.out]
      have x0 := X0.out
      go_wp2_with fail
      refine HV.out.mono ?_
      rintro e w3 ⟨rfl, rfl⟩
      go_wp2_with fail
      have z2 := Wb.at_ c2
      have zx0 := Wb.at_ x0
      refine wp_region_plan [([0, 1, 2, 3, 4], some (5, false)), ([6], none)] (by kernel_rfl) (by kernel_rfl) ?_
      refine seg_act _ (by dsimp only [pick, at_]) _ (by dsimp only [pick, at_]) ?_
      repeat (go_big_quiet_step (fail))
      refine wpQuiet_nil ?_
      intro K1 h1 h2
      clear h1
      go_wp2_with (fail)
      refine HHA.out.mono ?_
      rintro e w3 ⟨rfl, rfl⟩
      go_wp2_with (fail)
      refine h2 _ _ (Below.refl _ _).drew ?_
      refine seg_end _ (by dsimp only [pick, at_]) ?_
      repeat (go_big_quiet_step (fail))
      refine wpQuiet_nil (NoPanic.normal ?_)
      clear z2 zx0
      go_wp2_with fail
      go_ret
      exact RetDk.keep HD.out B2.out.drew _
    | some y =>
      have hap : remSt st a = (doSt st (.rem a), doE st) := by unfold remSt; rw [if_neg (by rw [hok]; simp), if_neg (by rw [hg]; simp)]
      rw [hap]
      have HDO := Lib.hid (do_d w2.drew p F st ⟨.rem a, w.heap.size, w.heap.size⟩ (HD2.out.chg (Chg.refl (fun _ => False) _).drew (fun _ _ e => e)) A1.out (fun k hk e => by
        have := LT.out k e
        have e2 : k = w.heap.size := hk
        omega) hla HS.out (by simp only [chlen]; omega))
      rw [hg] at hhas
      have HHA := Lib.hid hhas
      clear hok hap hg hhas hla
      go_enter Tryz.func68, Tryz.ntmps68
      go_wp2_with fail
      rw [W2.out]
      have x0 := X0.out
      go_wp2_with fail
      refine HV.out.mono ?_
      rintro e w3 ⟨rfl, rfl⟩
      go_wp2_with fail
      have z2 := Wb.at_ c2
      have zx0 := Wb.at_ x0
      refine wp_region_plan [([0, 1, 2, 3, 4], some (5, false)), ([6], none)] (by kernel_rfl) (by kernel_rfl) ?_
      refine seg_act _ (by dsimp only [pick, at_]) _ (by dsimp only [pick, at_]) ?_
      repeat (go_big_quiet_step (fail))
      refine wpQuiet_nil ?_
      intro K1 h1 h2
      clear h1
      go_wp2_with (fail)
      refine HHA.out.mono ?_
      rintro e w3 ⟨rfl, rfl⟩
      go_wp2_with (fail)
      refine h2 _ _ (Below.refl _ _).drew ?_
      refine seg_end _ (by dsimp only [pick, at_]) ?_
      repeat (go_big_quiet_step (fail))
      refine wpQuiet_nil (NoPanic.normal ?_)
      clear z2 zx0
      clear x0 c2
      go_wp2_with fail
      refine HDO.out.mono ?_
      rintro e w4 hr
      have hr2 := hr.ret B2.out.drew LT.out (fun k hk => by
        have h9 := S2.out
        have e2 : k = w.heap.size := hk
        show w.heap.size ≤ k ∧ k < w2.heap.size
        omega)
      have R2 := Lib.hid hr2
      obtain ⟨rfl, _, _⟩ := hr
      clear hr2 HDO
      go_wp2_with fail
      go_ret
      exact R2.out
end Go.Proofs.YtnjdondkggkfoaaGreat.dk
/-
  The disk's calls: New, Power, Cut, Sync.
-/
namespace Go.Proofs.YtnjdondkggkfoaaGreat.dk
open Go.ChangeShapes Go.WideShapes Go.ChangeAt Go.RowKit Go.Maps Go.Sort Go.Shelf plain words ord mem al

def newSt (room : Int) : St := ⟨max room 0, [], [], none, false, 0⟩
set_option maxRecDepth 100000 in
set_option maxHeartbeats 1000000 in
theorem new_d (w : World) (room : Int) : Calls Tryz.prog 7 #[.int .i64 room] w fun e w' => ∃ p, e = .returned (ptr p) ∧ w.heap.size ≤ p ∧ Dk w' p (fun k => w.heap.size ≤ k ∧ k < w'.heap.size) (newSt room) ∧ Below w.heap.size w w' := by
  have HN := Lib.hid (new_f w)
  obtain ⟨R, hR⟩ : ∃ R, max room 0 = R := ⟨_, rfl⟩
  have HR := Lib.hid hR
  clear hR
  go_enter Tryz.func7, Tryz.ntmps7
  go_wp2_with fail
  refine HN.out.mono ?_
  rintro e w1 ⟨f1, rfl, hf1, hF1, hb1⟩
  have HN2 := Lib.hid (new_f w1)
  have F1 := Lib.hid hF1
  have B1 := Lib.hid hb1
  have hs1 : w.heap.size ≤ w1.heap.size := hb1.size
  clear hF1 hb1 HN
  go_wp2_with fail
  refine HN2.out.mono ?_
  rintro e w2 ⟨f2, rfl, hf2, hF2, hb2⟩
  have F2 := Lib.hid hF2
  have B2 := Lib.hid hb2
  have hs2 : w1.heap.size ≤ w2.heap.size := hb2.size
  clear hF2 hb2 HN2
  go_wp2_with fail
  rw [HR.out]
  go_ret
  obtain ⟨w3, hw3⟩ : ∃ w3, w2.alloc (diskO R f1 f2 (.slice none 0 0) none false 0) = w3 := ⟨_, rfl⟩
  have hb3 : Below w2.heap.size w2 w3 := by rw [← hw3]; exact (Below.refl _ _).alloc (Nat.le_refl _) _
  have hn3 : w3.heap[w2.heap.size]? = some (diskO R f1 f2 (.slice none 0 0) none false 0) := by rw [← hw3]; exact alloc_new _ _
  have hs3 : w3.heap.size = w2.heap.size + 1 := by rw [← hw3]; simp
  refine ⟨w2.heap.size, rfl, by omega, ?_, ?_⟩
  · show Dk (w2.alloc (diskO R f1 f2 (.slice none 0 0) none false 0)) _ (fun k => w.heap.size ≤ k ∧ k < (w2.alloc (diskO R f1 f2 (.slice none 0 0) none false 0)).heap.size) _
    rw [hw3]
    refine ⟨f1, f2, (fun k => w.heap.size ≤ k ∧ k < w1.heap.size), (fun k => w1.heap.size ≤ k ∧ k < w2.heap.size), (fun k => k = w2.heap.size), .slice none 0 0, [], none, ?_, ?_, rfl, trivial, fun k hk => ?_, fun k hk => hk.2⟩
    · unfold newSt; rw [HR.out]; exact hn3
    · have g1 := (F1.out.chg (Chg.of_below B2.out) (fun _ _ e => e)).chg (Chg.of_below hb3) (fun _ _ e => e)
      have g2 := F2.out.chg (Chg.of_below hb3) (fun _ _ e => e)
      exact ⟨g1, g2, Rw.nil _, fun q hq => (by cases hq), trivial, rfl, fun g hg => (by cases hg), fun q hq => (by cases hq), fun k hk e => by omega, fun k hk e => by omega, fun k hk e => by omega, fun k hk => by subst hk; omega⟩
    · rcases hk with e | e | e
      · exact ⟨e.1, by omega⟩
      · exact ⟨by omega, by omega⟩
      · exact ⟨by omega, by omega⟩
  · show Below _ _ (w2.alloc (diskO R f1 f2 (.slice none 0 0) none false 0))
    rw [hw3]
    exact B1.out.trans ((B2.out.trans (hb3.mono hs2)).mono hs1)
def powSt (st : St) : St := { st with dead := false, due := none }
set_option maxRecDepth 100000 in
set_option maxHeartbeats 1000000 in
theorem power_d (w : World) (p : Nat) (F : Nat → Prop) (st : St) (h : Dk w p F st) : Calls Tryz.prog 23 #[ptr p] w (RetDk w p F (powSt st) (.tuple #[])) := by
  obtain ⟨fs, fh, Fs, Fh, Fo, v, ps, dv, hb, hP, h3, h4, h5, h6⟩ := h
  obtain ⟨c0, c1, c2, c3, c4, c5, c6⟩ := disk_cell hb
  have f5 := disk_froz hb 5
  have f4 := disk_froz hb 4
  have hp := blk_lt hb
  have hpF : F p := h5 p (.inr (.inr hP.po))
  obtain ⟨w2, hw2⟩ : ∃ w2, (w.setCell ⟨p, 5, none⟩ (.bool false)).setCell ⟨p, 4, none⟩ (.pointer none) = w2 := ⟨_, rfl⟩
  have hc2 : Chg (fun k => k = p) w w2 := by rw [← hw2]; exact (chg_set _ _ _ _).trans (chg_set _ _ _ _) (fun _ _ e => e)
  have hb2 : w2.heap[p]? = some (diskO st.room fs fh v none false st.ops) := by
    rw [← hw2, setp_obj (setp_obj hb)]; rfl
  have hP2 := hP.setp hb hc2
  have hP3 : Parts w2 p fs fh Fs Fh Fo st.last st.shown v ps none none := ⟨hP2.hs, hP2.hh, hP2.row, hP2.box, trivial, hP2.po, hP2.ro, hP2.bo, hP2.ap1, hP2.ap2, hP2.ap3, hP2.lto⟩
  have FIN := Lib.hid (show RetDk w p F (powSt st) (.tuple #[]) (.returned (.tuple #[])) w2 from Dk.retp (due := none) (dv := none) (sh := []) (v := v) (ps := ps) (dead := false) (ops := st.ops) hP3 hb2 h3 h4 (fun k hk => .inl (h5 k hk)) h6 hc2 (fun k _ e => by subst e; exact hpF))
  have W2 := Lib.hid hw2
  clear hb hP h3 h4 h5 h6 c0 c1 c2 c3 c6 hw2 hc2 hb2 hP2 hP3
  go_enter Tryz.func23, Tryz.ntmps23
  go_wp2_with fail
  go_end0
  rw [W2.out]
  exact FIN.out
def cutSt (st : St) (n keep part : Int) : St := { st with due := some (max n 0, keep, part) }
set_option maxRecDepth 100000 in
set_option maxHeartbeats 1000000 in
theorem cut_d (w : World) (p : Nat) (F : Nat → Prop) (st : St) (n keep part : Int) (h : Dk w p F st) : Calls Tryz.prog 19 #[ptr p, .int .i64 n, .int .i64 keep, .int .i64 part] w (RetDk w p F (cutSt st n keep part) (.tuple #[])) := by
  obtain ⟨fs, fh, Fs, Fh, Fo, v, ps, dv, hb, hP, h3, h4, h5, h6⟩ := h
  have hp := blk_lt hb
  have hpF : F p := h5 p (.inr (.inr hP.po))
  have c4 := (disk_cell hb).2.2.2.2.1
  have f4 := disk_froz hb 4
  obtain ⟨w1, hw1⟩ : ∃ w1, w.setCell ⟨p, 4, none⟩ (ptr w.heap.size) = w1 := ⟨_, rfl⟩
  have hc1 : Chg (fun k => k = p) w w1 := by rw [← hw1]; exact chg_set _ _ _ _
  have hs1 : w1.heap.size = w.heap.size := by rw [← hw1]; simp [World.setCell]
  have hb1 : w1.heap[p]? = some (diskO st.room fs fh v (some w.heap.size) st.dead st.ops) := by
    rw [← hw1, setp_obj hb]; rfl
  obtain ⟨w2, hw2⟩ : ∃ w2, w1.alloc (lossO (max n 0, keep, part)) = w2 := ⟨_, rfl⟩
  have hb12 : Below w1.heap.size w1 w2 := by rw [← hw2]; exact (Below.refl _ _).alloc (Nat.le_refl _) _
  have hn2 : w2.heap[w.heap.size]? = some (lossO (max n 0, keep, part)) := by rw [← hw2, ← hs1]; exact alloc_new _ _
  have hs2 : w2.heap.size = w.heap.size + 1 := by rw [← hw2]; simp [hs1]
  have hc2 : Chg (fun k => k = p) w w2 := hc1.then_below hb12
  have hb2 : w2.heap[p]? = some (diskO st.room fs fh v (some w.heap.size) st.dead st.ops) := (Chg.of_below hb12).blk hb1 (fun e => e)
  have hP2 := (hP.setp hb hc1).quiet hb12
  have hls : ∀ k, Fs k → k < w.heap.size := by obtain ⟨_, _, _, _, _, _, h9⟩ := hP.hs; exact h9
  have hlh : ∀ k, Fh k → k < w.heap.size := by obtain ⟨_, _, _, _, _, _, h9⟩ := hP.hh; exact h9
  have hP3 : Parts w2 p fs fh Fs Fh (fun k => Fo k ∨ k = w.heap.size) st.last st.shown v ps (some (max n 0, keep, part)) (some w.heap.size) :=
    ⟨hP2.hs, hP2.hh, hP2.row, hP2.box, ⟨hn2, .inr rfl⟩, .inl hP2.po, fun g hg => .inl (hP2.ro g hg), fun q hq k hk => .inl (hP2.bo q hq k hk), hP2.ap1, fun k hk e => by
      rcases e with e | e
      · exact hP2.ap2 k hk e
      · have := hls k hk; omega, fun k hk e => by
      rcases e with e | e
      · exact hP2.ap3 k hk e
      · have := hlh k hk; omega, fun k hk => by
      rcases hk with e | e
      · exact hP2.lto k e
      · omega⟩
  have FIN := Lib.hid (show RetDk w p F (cutSt st n keep part) (.tuple #[]) (.returned (.tuple #[])) w2 from by
    exact Dk.retp (due := none) (dv := none) (sh := []) (v := v) (ps := ps) (dead := false) (ops := st.ops) hP3 hb2 h3 h4 (fun k hk => by
      rcases hk with e | e | e | e
      · exact .inl (h5 k (.inl e))
      · exact .inl (h5 k (.inr (.inl e)))
      · exact .inl (h5 k (.inr (.inr e)))
      · exact .inr ⟨by omega, by omega⟩) h6 hc2 (fun k _ e => by subst e; exact hpF))
  have W2 := Lib.hid hw2
  have W1 := Lib.hid hw1
  clear hb hP h3 h4 h5 h6 hw2 hw1 hc1 hc2 hb1 hb2 hb12 hP2 hP3 hn2 hs1 hs2
  go_enter Tryz.func19, Tryz.ntmps19
  have W2' : w1.alloc (.cells #[.int .i64 (max n 0), .int .i64 keep, .int .i64 part] 93) = w2 := W2.out
  have W2L := Lib.hid W2'
  clear W2'
  go_wp2_with fail
  go_end0
  rw [W1.out, W2L.out]
  exact FIN.out
def syncSt (st : St) : St := if (pw st).dead then pw st else cnt { st with last := st.shown, pend := [] }
set_option maxRecDepth 100000 in
set_option maxHeartbeats 1000000 in
theorem sync_d (w : World) (p : Nat) (F : Nat → Prop) (st : St) (h : Dk w p F st) (hs : Small st) : Calls Tryz.prog 37 #[ptr p] w (RetDk w p F (syncSt st) (.int .i64 (doE st))) := by
  have HPW := Lib.hid (powered_d w p F st h (by have := hs.sum; omega) (by have := hs.len; omega))
  have LT := Lib.hid h.lt
  have HS := Lib.hid hs
  clear h hs
  go_enter Tryz.func37, Tryz.ntmps37
  go_wp2_with fail
  refine HPW.out.mono ?_
  rintro e w2 ⟨rfl, hd2, hc2⟩
  have hs2 : w.heap.size ≤ w2.heap.size := hc2.size
  cases hdead : (pw st).dead with
  | true =>
    have hst : syncSt st = pw st := by unfold syncSt; rw [if_pos hdead]
    have he : doE st = 13 := by unfold doE; rw [if_pos hdead]
    have HST := Lib.hid hst
    have HE := Lib.hid he
    have D2 := Lib.hid hd2
    have C2 := Lib.hid hc2
    clear hst he hd2 hc2 hdead HPW
    go_wp2_with fail
    go_ret
    refine ⟨by rw [HE.out]; rfl, ?_, C2.out⟩
    rw [HST.out]
    exact D2.out
  | false =>
    obtain ⟨hpw, hal, hdue⟩ := pw_alive hdead
    rw [hpw] at hd2
    have hst : syncSt st = cnt { st with last := st.shown, pend := [] } := by unfold syncSt; rw [if_neg (by rw [hdead]; simp)]
    have he : doE st = 0 := by unfold doE; rw [if_neg (by rw [hdead]; simp)]
    have HST := Lib.hid hst
    have HE := Lib.hid he
    have HDUE := Lib.hid hdue
    obtain ⟨fs, fh, Fs, Fh, Fo, v, ps, dv, hb2, hP2, h3, h4, h5, h6⟩ := hd2
    have d3 := (disk_cell hb2).2.2.2.1
    obtain ⟨A, c, e1, hA, hNc, hcm⟩ := hP2.row.form
    subst e1
    have lp : p < w2.heap.size := blk_lt hb2
    have hpl : ps.length = st.pend.length := by rw [← h3, List.length_map]
    have hleg' : legal st.last (ps.map (·.c)) := by rw [h3]; exact h4
    have HSE := Lib.hid (settle_p w2 p st.room fs fh Fs Fh Fo st.last st.shown (.slice A ps.length c) ps st.due dv st.dead st.ops ps.length hb2 hP2 (Nat.le_refl _) hleg' (by rw [h3]; have := HS.out.sum; omega) (by rw [hpl]; have := HS.out.len; omega))
    obtain ⟨N, hN⟩ : ∃ N, ps.length = N := ⟨_, rfl⟩
    rw [hN] at d3 hNc
    have HN := Lib.hid hN
    have P2 := Lib.hid hP2
    have HB2 := Lib.hid hb2
    have C2 := Lib.hid hc2
    have HH := Lib.hid (And.intro h3 (And.intro h4 (And.intro h5 h6)))
    clear hst he hdue hb2 hP2 h3 h4 h5 h6 hc2 hdead hpw hal HPW hpl hleg' hN
    go_wp2_with fail
    rw [← HN.out]
    refine HSE.out.mono ?_
    rintro e w3 ⟨rfl, Fs3, hP3, hc3, hn3⟩
    have hb3 := hc3.blk HB2.out (fun e => P2.out.ap2 p e P2.out.po)
    have d3' := (disk_cell hb3).2.2.2.1
    have fz := disk_froz hb3 3
    have lp3 : p < w3.heap.size := blk_lt hb3
    have P3 := Lib.hid hP3
    have HB3 := Lib.hid hb3
    have C3 := Lib.hid hc3
    have N3 := Lib.hid hn3
    have hs3 : w2.heap.size ≤ w3.heap.size := hc3.size
    clear hP3 hb3 hc3 hn3 HSE d3
    obtain ⟨w4, hw4⟩ : ∃ w4, w3.setCell ⟨p, 3, none⟩ (.slice none 0 0) = w4 := ⟨_, rfl⟩
    have hc4 : Chg (fun k => k = p) w3 w4 := by rw [← hw4]; exact chg_set _ _ _ _
    have hb4 : w4.heap[p]? = some (diskO st.room fs fh (.slice none 0 0) dv st.dead st.ops) := by rw [← hw4, setp_obj HB3.out]; rfl
    have hP4 := P3.out.setp HB3.out hc4
    have hfold : fold st.last ((ps.map (·.c)).take ps.length) = st.shown := by
      rw [HH.out.1, List.take_of_length_le (by have h9 := congrArg List.length HH.out.1; rw [List.length_map] at h9; omega)]; rfl
    rw [hfold] at hP4
    have hP5 : Parts w4 p fs fh Fs3 Fh Fo st.shown st.shown (.slice none 0 0) [] st.due dv := ⟨hP4.hs, hP4.hh, Rw.nil _, fun q hq => (by cases hq), hP4.due_, hP4.po, fun g hg => (by cases hg), fun q hq => (by cases hq), hP4.ap1, hP4.ap2, hP4.ap3, hP4.lto⟩
    have hs4 : w3.heap.size ≤ w4.heap.size := hc4.size
    have hold : ∀ k, Ext F w w2 k → Ext F w w4 k := fun k hk => by
      rcases hk with e | e
      · exact .inl e
      · exact .inr ⟨e.1, by omega⟩
    have hlt4 : ∀ k, Fs3 k → k < w4.heap.size := by obtain ⟨_, _, _, _, _, _, h9⟩ := hP5.hs; exact h9
    have hd4 : Dk w4 p (Ext F w w4) { st with last := st.shown, pend := [] } := by
      refine ⟨fs, fh, Fs3, Fh, Fo, .slice none 0 0, [], dv, hb4, hP5, rfl, trivial, fun k hk => ?_, ext_lt LT.out (by omega)⟩
      rcases hk with e | e | e
      · rcases N3.out k e with e2 | e2
        · exact hold k (HH.out.2.2.1 k (.inl e2))
        · exact .inr ⟨by omega, hlt4 k e⟩
      · exact hold k (HH.out.2.2.1 k (.inr (.inl e)))
      · exact hold k (HH.out.2.2.1 k (.inr (.inr e)))
    have HCO := Lib.hid (count_d w4 p (Ext F w w4) { st with last := st.shown, pend := [] } hd4 HS.out.ops0 HS.out.ops1 (fun x hx => by have h8 := HS.out.due x hx; have h9 := HDUE.out x hx; omega))
    have hcw4 : Chg F w w4 := (C2.out.trans C3.out (fun k hk e => by
      rcases HH.out.2.2.1 _ (.inl e) with e | e
      · exact e
      · omega)).trans hc4 (fun k hk e => by
      subst e
      rcases HH.out.2.2.1 _ (.inr (.inr P2.out.po)) with e | e
      · exact e
      · omega)
    have C4 := Lib.hid hcw4
    have W4 := Lib.hid hw4
    clear hw4 hc4 hb4 hP4 hfold hP5 hd4 hcw4 hlt4
    go_wp2_with fail
    rw [W4.out]
    refine HCO.out.mono ?_
    rintro e w5 ⟨rfl, hd5, hc5⟩
    have hs5 : w4.heap.size ≤ w5.heap.size := hc5.size
    have FIN := Lib.hid (show RetDk w p F (syncSt st) (.int .i64 (doE st)) (.returned (.int .i64 0)) w5 from by
      refine ⟨by rw [HE.out], ?_, ?_⟩
      · rw [HST.out]
        exact hd5.mono (ext_trans (by omega) hs5) (ext_lt LT.out (by omega))
      · refine C4.out.trans hc5 (fun k hk e => ?_)
        rcases e with e | e
        · exact e
        · omega)
    clear hd5 hc5 HCO
    go_wp2_with fail
    go_ret
    exact FIN.out
end Go.Proofs.YtnjdondkggkfoaaGreat.dk
/-
  Two disks side by side.
-/
namespace Go.Proofs.YtnjdondkggkfoaaGreat.dk
open Go.ChangeShapes Go.WideShapes Go.ChangeAt Go.RowKit Go.Maps Go.Sort Go.Shelf plain words ord mem al

/-- two disks apart from one another, and from X -/
def Two (X : Nat → Prop) (w0 w : World) (pd pc : Nat) (sd sc : St) : Prop :=
  ∃ Fd Fc, Dk w pd Fd sd ∧ Dk w pc Fc sc ∧ (∀ k, Fd k → ¬ Fc k) ∧ (∀ k, Fd k ∨ Fc k → w0.heap.size ≤ k ∧ ¬ X k) ∧ Below w0.heap.size w0 w ∧ ∀ k, X k → k < w.heap.size
section
variable {X : Nat → Prop} {w0 w w' : World} {pd pc : Nat} {sd sc st' : St}
theorem Two.below (h : Two X w0 w pd pc sd sc) : Below w0.heap.size w0 w := by
  obtain ⟨Fd, Fc, h1, h2, h3, h4, h5, h6⟩ := h
  exact h5
theorem Two.quiet (h : Two X w0 w pd pc sd sc) (hb : Below w.heap.size w w') : Two X w0 w' pd pc sd sc := by
  obtain ⟨Fd, Fc, h1, h2, h3, h4, h5, h6⟩ := h
  exact ⟨Fd, Fc, h1.chg (Chg.of_below hb) (fun _ _ e => e), h2.chg (Chg.of_below hb) (fun _ _ e => e), h3, h4, h5.trans (hb.mono h5.size), fun k hk => Nat.lt_of_lt_of_le (h6 k hk) hb.size⟩
theorem Two.mark (h : Two X w0 w pd pc sd sc) (hb : Below w.heap.size w w') {Y : Nat → Prop} (hY : ∀ k, Y k → X k ∨ w.heap.size ≤ k) (hYl : ∀ k, Y k → k < w'.heap.size) : Two Y w0 w' pd pc sd sc := by
  obtain ⟨Fd, Fc, h1, h2, h3, h4, h5, h6⟩ := h
  refine ⟨Fd, Fc, h1.chg (Chg.of_below hb) (fun _ _ e => e), h2.chg (Chg.of_below hb) (fun _ _ e => e), h3, fun k hk => ⟨(h4 k hk).1, fun e => ?_⟩, h5.trans (hb.mono h5.size), hYl⟩
  rcases hY k e with e2 | e2
  · exact (h4 k hk).2 e2
  · rcases hk with e3 | e3
    · have := h1.lt k e3; omega
    · have := h2.lt k e3; omega
def RetTwo (X : Nat → Prop) (w0 w : World) (pd pc : Nat) (sd sc : St) (r : Value) (e : Ending) (w' : World) : Prop :=
  e = .returned r ∧ Two X w0 w' pd pc sd sc ∧ Chg (fun k => ¬ X k) w w'
theorem Two.d (h : Two X w0 w pd pc sd sc) : ∃ F, Dk w pd F sd := by
  obtain ⟨Fd, Fc, h1, h2, h3, h4, h5, h6⟩ := h
  exact ⟨Fd, h1⟩
end
theorem bs_extract (b : Nm) (M : Nat) : (bs b).extract 0 M = bs (b.take M) := by
  obtain ⟨a, ha⟩ := ba_bs ((bs b).extract 0 M)
  have h1 : ((bs b).extract 0 M).data.toList = b.take M := by simp [bs]
  rw [ha, bs_list] at h1
  rw [ha, h1]
theorem sumc_snoc (l : List Chn) (c : Chn) : sumc (l ++ [c]) = sumc l + chlen c := by simp [sumc]
end Go.Proofs.YtnjdondkggkfoaaGreat.dk
/-
  One disk within what is new; a disk whose power is on and to which nothing is ordered.
-/
namespace Go.Proofs.YtnjdondkggkfoaaGreat.dk
open Go.ChangeShapes Go.WideShapes Go.ChangeAt Go.RowKit Go.Maps Go.Sort Go.Shelf plain words ord mem al

/-- the disk within what is new -/
def Dn (w0 w : World) (p : Nat) (st : St) : Prop := Dk w p (fun k => w0.heap.size ≤ k ∧ k < w.heap.size) st ∧ Below w0.heap.size w0 w
theorem Dn.next {w0 w w' : World} {p : Nat} {st st' : St} {r : Value} {e : Ending} (h : Dn w0 w p st) (hr : RetDk w p (fun k => w0.heap.size ≤ k ∧ k < w.heap.size) st' r e w') : e = .returned r ∧ Dn w0 w' p st' := by
  obtain ⟨h1, h2, h3⟩ := hr
  have hs := h.2.size
  have hs2 := h3.size
  refine ⟨h1, h2.mono (fun k hk => ?_) (fun k hk => hk.2), h.2.trans (h3.below hs (fun k hk => hk.1))⟩
  rcases hk with e | e
  · exact ⟨e.1, by omega⟩
  · exact ⟨by omega, e.2⟩
theorem Dn.quiet {w0 w w' : World} {p : Nat} {st : St} (h : Dn w0 w p st) (hb : Below w.heap.size w w') : Dn w0 w' p st := by
  have hs := h.2.size
  exact ⟨(h.1.chg (Chg.of_below hb) (fun _ _ e => e)).mono (fun k hk => ⟨hk.1, Nat.lt_of_lt_of_le hk.2 hb.size⟩) (fun k hk => hk.2), h.2.trans (hb.mono hs)⟩
/-- power on, nothing ordered -/
structure Live (st : St) : Prop where
  due : st.due = none
  dead : st.dead = false
def more (st : St) (c : Chn) : St := { st with pend := st.pend ++ [c], ops := st.ops + 1 }
theorem Live.more {st : St} (h : Live st) (c : Chn) : Live (more st c) := ⟨h.due, h.dead⟩
theorem Live.pw {st : St} (h : Live st) : pw st = st := by
  unfold dk.pw
  rw [h.due]
theorem Live.doSt {st : St} (h : Live st) (c : Chn) : doSt st c = dk.more st c := by
  unfold dk.doSt
  rw [h.pw, if_neg (by rw [h.dead]; simp)]
  unfold cnt dk.more
  rw [h.due]
  rfl
theorem Live.doE {st : St} (h : Live st) : doE st = 0 := by
  unfold dk.doE
  rw [h.pw, if_neg (by rw [h.dead]; simp)]
theorem more_shown (st : St) (c : Chn) : (more st c).shown = done st.shown c := fold_snoc _ _ _
theorem app_name {st : St} {a b : Nm} (ha : okn a = false) : appSt st a b = (st, 10) := by unfold appSt; rw [if_pos ha]
theorem app_full {st : St} {a b : Nm} (ha : okn a = true) (hf : st.room < (fsum st.shown : Int) + (b.length : Int)) : appSt st a b = (st, 12) := by
  unfold appSt; rw [if_neg (by rw [ha]; simp), if_pos hf]
theorem app_do {st : St} (h : Live st) {a b : Nm} (ha : okn a = true) (hf : ¬ st.room < (fsum st.shown : Int) + (b.length : Int)) : appSt st a b = (more st (.app a b), 0) := by
  unfold appSt; rw [if_neg (by rw [ha]; simp), if_neg hf, h.doSt, h.doE]
theorem ren_do {st : St} (h : Live st) {a b : Nm} (ha : okn a = true) (hb : okn b = true) (hf : al.get st.shown a ≠ none) : renSt st a b = (more st (.ren a b), 0) := by
  unfold renSt; rw [if_neg (by rw [ha, hb]; simp), if_neg hf, h.doSt, h.doE]
theorem ren_name {st : St} {a b : Nm} (h : okn a = false ∨ okn b = false) : renSt st a b = (st, 10) := by unfold renSt; rw [if_pos h]
theorem ren_none {st : St} {a b : Nm} (ha : okn a = true) (hb : okn b = true) (hf : al.get st.shown a = none) : renSt st a b = (st, 11) := by
  unfold renSt; rw [if_neg (by rw [ha, hb]; simp), if_pos hf]
theorem rem_name {st : St} {a : Nm} (ha : okn a = false) : remSt st a = (st, 10) := by unfold remSt; rw [if_pos ha]
theorem rem_none {st : St} {a : Nm} (ha : okn a = true) (hf : al.get st.shown a = none) : remSt st a = (st, 11) := by
  unfold remSt; rw [if_neg (by rw [ha]; simp), if_pos hf]
theorem own_sl {w : World} {base e size n : Nat} {v : Value} {xs : List Value} (h : w.ownsRow base e size v n xs) : ∃ A c, v = .slice A n c := by
  obtain ⟨h1, h2⟩ := h
  rcases h2 with ⟨e1, e2⟩ | ⟨g, cap, cur, e1, _⟩
  · exact ⟨none, 0, by rw [e1]; simp [e2]⟩
  · exact ⟨_, _, e1⟩
end Go.Proofs.YtnjdondkggkfoaaGreat.dk
/-
  One disk apart from X.
-/
namespace Go.Proofs.YtnjdondkggkfoaaGreat.dk
open Go.ChangeShapes Go.WideShapes Go.ChangeAt Go.RowKit Go.Maps Go.Sort Go.Shelf plain words ord mem al

def One (X : Nat → Prop) (w0 w : World) (p : Nat) (st : St) : Prop :=
  ∃ F, Dk w p F st ∧ (∀ k, F k → w0.heap.size ≤ k ∧ ¬ X k) ∧ Below w0.heap.size w0 w ∧ ∀ k, X k → k < w.heap.size
def RetOne (X : Nat → Prop) (w0 w : World) (p : Nat) (st : St) (r : Value) (e : Ending) (w' : World) : Prop :=
  e = .returned r ∧ One X w0 w' p st ∧ Chg (fun k => ¬ X k) w w'
section
variable {X : Nat → Prop} {w0 w w' : World} {p : Nat} {st st' : St}
theorem One.below (h : One X w0 w p st) : Below w0.heap.size w0 w := by
  obtain ⟨F, h1, h2, h3, h4⟩ := h
  exact h3
theorem One.quiet (h : One X w0 w p st) (hb : Below w.heap.size w w') : One X w0 w' p st := by
  obtain ⟨F, h1, h2, h3, h4⟩ := h
  exact ⟨F, h1.chg (Chg.of_below hb) (fun _ _ e => e), h2, h3.trans (hb.mono h3.size), fun k hk => Nat.lt_of_lt_of_le (h4 k hk) hb.size⟩
theorem One.mark (h : One X w0 w p st) (hb : Below w.heap.size w w') {Y : Nat → Prop} (hY : ∀ k, Y k → X k ∨ w.heap.size ≤ k) (hYl : ∀ k, Y k → k < w'.heap.size) : One Y w0 w' p st := by
  obtain ⟨F, h1, h2, h3, h4⟩ := h
  refine ⟨F, h1.chg (Chg.of_below hb) (fun _ _ e => e), fun k hk => ⟨(h2 k hk).1, fun e => ?_⟩, h3.trans (hb.mono h3.size), hYl⟩
  rcases hY k e with e2 | e2
  · exact (h2 k hk).2 e2
  · have := h1.lt k hk; omega
theorem One.on (h : One X w0 w p st) {f : FuncId} {args : Array Value} {r : Value} (hc : ∀ F, Dk w p F st → Calls Tryz.prog f args w (RetDk w p F st' r)) : Calls Tryz.prog f args w (RetOne X w0 w p st' r) := by
  obtain ⟨F, h1, h2, h3, h4⟩ := h
  refine (hc F h1).mono ?_
  rintro e w' ⟨rfl, hd, hch⟩
  have hs := hch.size
  have hs0 := h3.size
  refine ⟨rfl, ⟨Ext F w w', hd, fun k hk => ?_, h3.trans (hch.below hs0 (fun k hk => (h2 k hk).1)), fun k hk => Nat.lt_of_lt_of_le (h4 k hk) hs⟩, hch.mono fun k _ e => (h2 k e).2⟩
  rcases hk with e | e
  · exact h2 k e
  · exact ⟨by omega, fun e9 => by have := h4 k e9; omega⟩
theorem One.ex (h : One X w0 w p st) : ∃ F, Dk w p F st := by
  obtain ⟨F, h1, _⟩ := h
  exact ⟨F, h1⟩
theorem One.new {w1 : World} (hd : Dk w1 p (fun k => w0.heap.size ≤ k ∧ k < w1.heap.size) st) (hb : Below w0.heap.size w0 w1) : One (fun _ => False) w0 w1 p st :=
  ⟨_, hd, fun k hk => ⟨hk.1, fun e => e⟩, hb, fun k e => e.elim⟩
end
end Go.Proofs.YtnjdondkggkfoaaGreat.dk
