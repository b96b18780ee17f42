/-
  The disk's calls that only look.
-/
import Derived.Test.YtmnliieiiaedeaaDkDk
namespace Go.Proofs.Ytmnliieiiaedeaa.dk
open Go.ChangeShapes Go.WideShapes Go.ChangeAt Go.RowKit Go.Maps Go.Sort Go.Shelf plain words ord mem al

structure St where
  room : Int
  last : AL Nm
  pend : List Chn
  due : Due
  dead : Bool
  ops : Int
def St.shown (s : St) : AL Nm := fold s.last s.pend
/-- the disk at block p is in state st, and lies within F -/
def Dk (w : World) (p : Nat) (F : Nat → Prop) (st : St) : Prop :=
  ∃ fs fh Fs Fh Fo v ps dv, w.heap[p]? = some (diskO st.room fs fh v dv st.dead st.ops) ∧ Parts w p fs fh Fs Fh Fo st.last st.shown v ps st.due dv ∧ ps.map (·.c) = st.pend ∧ legal st.last st.pend ∧
    (∀ k, Fs k ∨ Fh k ∨ Fo k → F k) ∧ ∀ k, F k → k < w.heap.size
theorem Parts.all {w : World} {p fs fh : Nat} {Fs Fh Fo : Nat → Prop} {ls sh : AL Nm} {v : Value} {ps : List Pd} {due : Due} {dv : Option Nat} (h : Parts w p fs fh Fs Fh Fo ls sh v ps due dv) {S : Nat → Prop} {w' : World} (hc : Chg S w w') (hS : ∀ k, Fs k ∨ Fh k ∨ Fo k → ¬ S k) :
    Parts w' p fs fh Fs Fh Fo ls sh v ps due dv :=
  h.chg hc (fun k hk => hS k (.inl hk)) (fun k hk => hS k (.inr (.inl hk))) (fun g hg => hS g (.inr (.inr (h.ro g hg)))) (fun q hq k hk => hS k (.inr (.inr (h.bo q hq k hk)))) (fun b hb => hS b (.inr (.inr (h.dueo hb).1)))
theorem Dk.chg {w w' : World} {p : Nat} {F S : Nat → Prop} {st : St} (h : Dk w p F st) (hc : Chg S w w') (hS : ∀ k, F k → ¬ S k) : Dk w' p F st := by
  obtain ⟨fs, fh, Fs, Fh, Fo, v, ps, dv, h1, h2, h3, h4, h5, h6⟩ := h
  exact ⟨fs, fh, Fs, Fh, Fo, v, ps, dv, hc.blk h1 (hS p (h5 p (.inr (.inr h2.po)))), h2.all hc (fun k hk => hS k (h5 k hk)), h3, h4, h5, fun k hk => Nat.lt_of_lt_of_le (h6 k hk) hc.size⟩
theorem Dk.mono {w : World} {p : Nat} {F G : Nat → Prop} {st : St} (h : Dk w p F st) (hs : ∀ k, F k → G k) (hG : ∀ k, G k → k < w.heap.size) : Dk w p G st := by
  obtain ⟨fs, fh, Fs, Fh, Fo, v, ps, dv, h1, h2, h3, h4, h5, h6⟩ := h
  exact ⟨fs, fh, Fs, Fh, Fo, v, ps, dv, h1, h2, h3, h4, fun k hk => hs k (h5 k hk), hG⟩
theorem Dk.lt {w : World} {p : Nat} {F : Nat → Prop} {st : St} (h : Dk w p F st) : ∀ k, F k → k < w.heap.size := by
  obtain ⟨fs, fh, Fs, Fh, Fo, v, ps, dv, h1, h2, h3, h4, h5, h6⟩ := h
  exact h6
theorem Dk.srt {w : World} {p : Nat} {F : Nat → Prop} {st : St} (h : Dk w p F st) : Srt st.last := by
  obtain ⟨fs, fh, Fs, Fh, Fo, v, ps, dv, h1, h2, h3, h4, h5, h6⟩ := h
  exact h2.hs.srt
theorem Fil.used {w : World} {f : Nat} {F : Nat → Prop} {fs : AL Nm} (h : Fil w f F fs) : w.cell? ⟨f, 1, none⟩ = some (.int .i64 (fsum fs : Nat)) ∧ f < w.heap.size := by
  obtain ⟨mb, D, es, h1, rfl, _⟩ := h
  rw [fsum_mapv]
  exact ⟨by rw [cell_of_row _ _ _ _ _ _ h1.blk]; rfl, blk_lt h1.blk⟩
theorem valid_d (w : World) (a : Nm) : Calls Try.prog 42 #[.string (bs a)] w fun e w' => e = .returned (.bool (decide (1 ≤ a.length) && decide (a.length ≤ 40))) ∧ w = w' := by
  have hsz := bs_size a
  obtain ⟨n, hn⟩ : ∃ n, a.length = n := ⟨_, rfl⟩
  rw [hn] at hsz ⊢
  clear hn
  go_enter Try.func42, Try.ntmps42
  rcases Nat.lt_or_ge n 1 with h | h
  · have e1 : ¬ (1 : Int) ≤ (n : Int) := by omega
    have e2 : decide (1 ≤ n) = false := by simp; omega
    rw [e2]
    go_wp2_with fail
    go_ret
    exact ⟨rfl, rfl⟩
  · have e1 : (1 : Int) ≤ (n : Int) := by omega
    have e2 : decide (1 ≤ n) = true := by simp; omega
    rw [e2, Bool.true_and]
    rcases Nat.lt_or_ge 40 n with h3 | h3
    · have e3 : ¬ (n : Int) ≤ 40 := by omega
      have e4 : decide (n ≤ 40) = false := by simp; omega
      rw [e4]
      go_wp2_with fail
      go_ret
      exact ⟨ret_bool (by simp [e3]), rfl⟩
    · have e3 : (n : Int) ≤ 40 := by omega
      have e4 : decide (n ≤ 40) = true := by simp; omega
      rw [e4]
      go_wp2_with fail
      go_ret
      exact ⟨ret_bool (by simp [e3]), rfl⟩
set_option maxRecDepth 100000 in
theorem used_d (w : World) (p : Nat) (F : Nat → Prop) (st : St) (h : Dk w p F st) : Calls Try.prog 30 #[ptr p] w fun e w' => e = .returned (.int .i64 (fsum st.shown : Nat)) ∧ w = w' := by
  obtain ⟨fs, fh, Fs, Fh, Fo, v, ps, dv, h1, h2, _⟩ := h
  obtain ⟨c0, c1, c2, c3, c4, c5, c6⟩ := disk_cell h1
  obtain ⟨u0, u1⟩ := h2.hh.used
  have hp := blk_lt h1
  clear h1 h2 c0 c1 c3 c4 c5 c6
  go_enter Try.func30, Try.ntmps30
  go_wp2_with fail
  go_ret
  exact ⟨rfl, rfl⟩
set_option maxRecDepth 100000 in
theorem pending_d (w : World) (p : Nat) (F : Nat → Prop) (st : St) (h : Dk w p F st) : Calls Try.prog 18 #[ptr p] w fun e w' => e = .returned (.int .i64 (st.pend.length : Nat)) ∧ w = w' := by
  obtain ⟨fs, fh, Fs, Fh, Fo, v, ps, dv, h1, h2, h3, _⟩ := h
  obtain ⟨c0, c1, c2, c3, c4, c5, c6⟩ := disk_cell h1
  obtain ⟨A, c, e1, _⟩ := h2.row.form
  subst e1
  have hp := blk_lt h1
  have hl : ps.length = st.pend.length := by rw [← h3]; simp
  rw [hl] at c3
  clear h1 h2 h3 hl c0 c1 c2 c4 c5 c6
  go_enter Try.func18, Try.ntmps18
  go_wp2_with fail
  go_ret
  exact ⟨rfl, rfl⟩
set_option maxRecDepth 100000 in
theorem ops_d (w : World) (p : Nat) (F : Nat → Prop) (st : St) (h : Dk w p F st) : Calls Try.prog 28 #[ptr p] w fun e w' => e = .returned (.int .i64 st.ops) ∧ w = w' := by
  obtain ⟨fs, fh, Fs, Fh, Fo, v, ps, dv, h1, h2, _⟩ := h
  obtain ⟨c0, c1, c2, c3, c4, c5, c6⟩ := disk_cell h1
  have hp := blk_lt h1
  clear h1 h2 c0 c1 c2 c3 c4 c5
  go_enter Try.func28, Try.ntmps28
  go_wp2_with fail
  go_ret
  exact ⟨rfl, rfl⟩
set_option maxRecDepth 100000 in
theorem dead_d (w : World) (p : Nat) (F : Nat → Prop) (st : St) (h : Dk w p F st) : Calls Try.prog 19 #[ptr p] w fun e w' => e = .returned (.bool st.dead) ∧ w = w' := by
  obtain ⟨fs, fh, Fs, Fh, Fo, v, ps, dv, h1, h2, _⟩ := h
  obtain ⟨c0, c1, c2, c3, c4, c5, c6⟩ := disk_cell h1
  have hp := blk_lt h1
  clear h1 h2 c0 c1 c2 c3 c4 c6
  go_enter Try.func19, Try.ntmps19
  go_wp2_with fail
  go_ret
  exact ⟨rfl, rfl⟩
def RetDk (w : World) (p : Nat) (F : Nat → Prop) (st : St) (r : Value) (e : Ending) (w' : World) : Prop :=
  e = .returned r ∧ Dk w' p (Ext F w w') st ∧ Chg F w w'
theorem ext_lt {F : Nat → Prop} {w w' : World} (hF : ∀ k, F k → k < w.heap.size) (hs : w.heap.size ≤ w'.heap.size) : ∀ k, Ext F w w' k → k < w'.heap.size := fun k hk => by
  rcases hk with e | e
  · exact Nat.lt_of_lt_of_le (hF k e) hs
  · exact e.2
theorem ans_some (t : Nm) : ans (some t) = .tuple #[.string (bs t), .bool true] := rfl
theorem ans_none : ans none = .tuple #[.string (bs []), .bool false] := rfl
theorem ans_eq (o : Option Nm) : ans o = .tuple #[.string (bs (o.getD [])), .bool o.isSome] := by cases o <;> rfl
set_option maxRecDepth 100000 in
theorem read_d (w : World) (p : Nat) (F : Nat → Prop) (st : St) (a : Nm) (h : Dk w p F st) (hl : a.length ≤ maxLen) : Calls Try.prog 20 #[ptr p, .string (bs a)] w (RetDk w p F st (ans (al.get st.shown a))) := by
  have hlt := h.lt
  obtain ⟨fs, fh, Fs, Fh, Fo, v, ps, dv, h1, h2, h3, h4, h5, h6⟩ := h
  obtain ⟨c0, c1, c2, c3, c4, c5, c6⟩ := disk_cell h1
  have hp := blk_lt h1
  have HR := Lib.hid (read_f w fh Fh st.shown (bs a) h2.hh (by rw [bs_size]; exact hl))
  rw [bs_list, ans_eq] at HR
  rw [ans_eq]
  obtain ⟨s, hs⟩ : ∃ s, bs ((al.get st.shown a).getD []) = s := ⟨_, rfl⟩
  obtain ⟨b, hb⟩ : ∃ b, (al.get st.shown a).isSome = b := ⟨_, rfl⟩
  rw [hs, hb] at HR ⊢
  have H1 := Lib.hid h1
  have H2 := Lib.hid h2
  have HX := Lib.hid (And.intro h3 (And.intro h4 (And.intro h5 h6)))
  have LT := Lib.hid hlt
  clear h1 h2 h3 h4 h5 h6 hlt c0 c1 c3 c4 c5 c6 hs hb
  go_enter Try.func20, Try.ntmps20
  go_wp2_with fail
  refine HR.out.mono ?_
  rintro e w1 ⟨rfl, hf, hc⟩
  have F1 := Lib.hid hf
  have C1 := Lib.hid hc
  clear hf hc HR
  go_wp2_with fail
  go_ret2
  have hcF : Chg F w w1 := C1.out.mono fun k _ e => HX.out.2.2.1 k (.inr (.inl e))
  refine ⟨rfl, ?_, hcF⟩
  refine Dk.mono (F := F) ⟨fs, fh, Fs, Fh, Fo, v, ps, dv, C1.out.blk H1.out (fun e => H2.out.ap3 p e H2.out.po), H2.out.filh C1.out F1.out (fun k hk => .inl hk), HX.out.1, HX.out.2.1, HX.out.2.2.1, fun k hk => Nat.lt_of_lt_of_le (LT.out k hk) C1.out.size⟩ (fun k hk => .inl hk) (ext_lt LT.out C1.out.size)
set_option maxRecDepth 100000 in
theorem names_d (w : World) (p : Nat) (F : Nat → Prop) (st : St) (h : Dk w p F st) (hfew : st.shown.length < 1099511627776) : Calls Try.prog 17 #[ptr p] w (RetNames w st.shown) := by
  obtain ⟨fs, fh, Fs, Fh, Fo, v, ps, dv, h1, h2, h3, h4, h5, h6⟩ := h
  obtain ⟨c0, c1, c2, c3, c4, c5, c6⟩ := disk_cell h1
  have hp := blk_lt h1
  have HR := Lib.hid (names_f w fh Fh st.shown h2.hh hfew)
  clear h1 h2 h3 h4 h5 h6 c0 c1 c3 c4 c5 c6
  go_enter Try.func17, Try.ntmps17
  go_wp2_with fail
  refine HR.out.mono ?_
  rintro e w1 ⟨v1, rfl, ho, hb⟩
  have O := Lib.hid ho
  have B := Lib.hid hb
  clear ho hb HR
  go_wp2_with fail
  go_ret
  exact ⟨v1, rfl, O.out, B.out⟩
end Go.Proofs.Ytmnliieiiaedeaa.dk
