/-
  The disk's calls: New, Append, Power, Cut.
-/
import Derived.Test.YtmnliieiiaedeaaDkDo
namespace Go.Proofs.Ytmnliieiiaedeaa.dk
open Go.ChangeShapes Go.WideShapes Go.ChangeAt Go.RowKit Go.Maps Go.Sort Go.Shelf plain words ord mem al

def okn (a : Nm) : Bool := decide (1 ≤ a.length) && decide (a.length ≤ 40)
def appSt (st : St) (a b : Nm) : St × Int := if okn a = false then (st, 10) else if st.room < (fsum st.shown : Int) + (b.length : Int) then (st, 12) else (doSt st (.app a b), doE st)
theorem RetDo.ret {w w2 w' : World} {p : Nat} {F G : Nat → Prop} {st : St} {r : Value} {e : Ending} (h : RetDo w2 p F G st r e w') (hb : Below w.heap.size w w2) (hF : ∀ k, F k → k < w.heap.size) (hG : ∀ k, G k → w.heap.size ≤ k ∧ k < w2.heap.size) : RetDk w p F st r e w' := by
  obtain ⟨h1, h2, h3⟩ := h
  have hs := hb.size
  have hs2 := h3.size
  refine ⟨h1, h2.mono (fun k hk => ?_) (ext_lt hF (by omega)), ?_⟩
  · rcases hk with e | e
    · rcases e with e | e
      · exact .inl e
      · exact .inr ⟨by omega, e.2⟩
    · exact .inr ⟨(hG k e).1, by have := (hG k e).2; omega⟩
  · refine ((Chg.of_below hb).mono (S' := F) (fun _ _ e => e.elim)).trans h3 (fun k hk e => ?_)
    rcases e with e | e
    · exact e
    · have := (hG k e).1; omega
theorem RetDk.keep {w w' : World} {p : Nat} {F : Nat → Prop} {st : St} (h : Dk w p F st) (hb : Below w.heap.size w w') (r : Value) : RetDk w p F st r (.returned r) w' :=
  ⟨rfl, (h.chg (Chg.of_below hb) (fun _ _ e => e)).mono (fun k hk => .inl hk) (ext_lt h.lt hb.size), (Chg.of_below hb).mono (fun _ _ e => e.elim)⟩
theorem alloc2 (w : World) (x y : Obj) : ((w.alloc x).alloc y).heap[w.heap.size]? = some x ∧ ((w.alloc x).alloc y).heap[w.heap.size + 1]? = some y ∧ Below w.heap.size w ((w.alloc x).alloc y) ∧ ((w.alloc x).alloc y).heap.size = w.heap.size + 2 := by
  refine ⟨alloc_old y (alloc_new w x), ?_, ((Below.refl _ _).alloc (Nat.le_refl _) _).alloc (by simp) _, by simp⟩
  have := alloc_new (w.alloc x) y
  rwa [show (w.alloc x).heap.size = w.heap.size + 1 by simp] at this
set_option maxRecDepth 100000 in
set_option maxHeartbeats 1000000 in
theorem append_d (w : World) (p : Nat) (F : Nat → Prop) (st : St) (a b : Nm) (h : Dk w p F st) (hs : Small st) (hr0 : 0 ≤ st.room) (hr1 : st.room ≤ 1073741824) (hbl : b.length ≤ 1125899906842624) :
    Calls Try.prog 14 #[ptr p, .string (bs a), .string (bs b)] w (RetDk w p F (appSt st a b).1 (.int .i64 (appSt st a b).2)) := by
  obtain ⟨ha1, ha2, hb2, hs2⟩ := alloc2 w (.cells #[.string (bs a)] 9) (.cells #[.string (bs b)] 9)
  obtain ⟨w2, hw2⟩ : ∃ w2, (w.alloc (.cells #[.string (bs a)] 9)).alloc (.cells #[.string (bs b)] 9) = w2 := ⟨_, rfl⟩
  rw [hw2] at ha1 ha2 hb2 hs2
  have HV := Lib.hid (valid_d w2 a)
  have x0 : w2.cell? ⟨w.heap.size, 0, none⟩ = some (.string (bs a)) := by rw [cell_of_row _ _ _ _ _ _ ha1]; rfl
  have x1 : w2.cell? ⟨w.heap.size + 1, 0, none⟩ = some (.string (bs b)) := by rw [cell_of_row _ _ _ _ _ _ ha2]; rfl
  have hd2 := h.chg (Chg.of_below hb2) (fun _ _ e => e)
  have W2 := Lib.hid hw2
  have B2 := Lib.hid hb2
  have S2 := Lib.hid hs2
  have HD := Lib.hid h
  have HD2 := Lib.hid hd2
  have LT := Lib.hid h.lt
  have HS := Lib.hid hs
  have A1 := Lib.hid ha1
  have A2 := Lib.hid ha2
  have l0 : w.heap.size < w2.heap.size := blk_lt ha1
  have l1 : w.heap.size + 1 < w2.heap.size := blk_lt ha2
  have hszb := bs_size b
  clear h hs hw2 hb2 hs2 hd2 ha1 ha2
  have X0 := Lib.hid x0
  have X1 := Lib.hid x1
  cases hok : okn a with
  | false =>
    have hap : appSt st a b = (st, 10) := by unfold appSt; rw [if_pos hok]
    rw [hap]
    unfold okn at hok
    rw [hok] at HV
    clear hok hap x1
    go_enter Try.func14, Try.ntmps14
    go_wp2_with fail
    rw [W2.out]
    clear x0
    have x0 := X0.out
    go_wp2_with fail
    refine HV.out.mono ?_
    rintro e w3 ⟨rfl, rfl⟩
    go_wp2_with fail
    go_ret
    exact RetDk.keep HD.out B2.out _
  | true =>
    have hok2 := hok
    unfold okn at hok
    rw [hok] at HV
    obtain ⟨fs, fh, Fs, Fh, Fo, v, ps, dv, hb, hP, h3, h4, h5, h6⟩ := HD2.out
    obtain ⟨c0, _, c2, _⟩ := disk_cell hb
    obtain ⟨u1, lf⟩ := hP.hh.used
    have lp := blk_lt hb
    have hsum := fold_sum hP.hs.srt st.pend
    obtain ⟨U, hU⟩ : ∃ U, fsum st.shown = U := ⟨_, rfl⟩
    obtain ⟨L, hL⟩ : ∃ L, b.length = L := ⟨_, rfl⟩
    have hUs : U ≤ 536870912 := by rw [← hU]; have := HS.out.sum; unfold St.shown; omega
    rw [hU] at u1
    rw [hL] at hszb hbl
    obtain ⟨R, hR⟩ : ∃ R, st.room = R := ⟨_, rfl⟩
    rw [hR] at c0 hr0 hr1
    have hwr : IntKind.i64.wrap (R - (U : Int)) = R - (U : Int) := by rw [IntWalk.i64_in _ (by omega)]
    have z0 := Wb.at_ c0
    have z2 := Wb.at_ c2
    have z1 := Wb.at_ u1
    have zx := Wb.at_ x1
    by_cases hfit : R < (U : Int) + (L : Int)
    · have hap : appSt st a b = (st, 12) := by unfold appSt; rw [if_neg (by rw [hok2]; simp), if_pos (by rw [hU, hL, hR]; exact hfit)]
      rw [hap]
      have hg : (R - (U : Int)) < (L : Int) := by omega
      clear hok hok2 hap x1 hb hP h3 h4 h5 h6 c0 c2 u1 hsum hU hL hR
      go_enter Try.func14, Try.ntmps14
      go_wp2_with fail
      rw [W2.out]
      clear x0
      have x0 := X0.out
      go_wp2_with fail
      refine HV.out.mono ?_
      rintro e w3 ⟨rfl, rfl⟩
      go_wp2_with fail
      refine wp_region_plan [([0, 1, 2, 3, 4, 5, 6, 7, 8, 9, 10, 11, 12, 13, 14], none)] (by kernel_rfl) (by kernel_rfl) ?_
      refine seg_end _ (by dsimp only [pick, at_]) ?_
      repeat (go_big_quiet_step (fail))
      refine wpQuiet_nil (NoPanic.normal ?_)
      clear z0 z2 z1 zx
      go_wp2_with fail
      go_ret
      exact RetDk.keep HD.out B2.out.drew _
    · have hap : appSt st a b = (doSt st (.app a b), doE st) := by unfold appSt; rw [if_neg (by rw [hok2]; simp), if_neg (by rw [hU, hL, hR]; exact hfit)]
      rw [hap]
      have hg : ¬ (R - (U : Int)) < (L : Int) := by omega
      have HDO := Lib.hid (do_d w2.drew p F st ⟨.app a b, w.heap.size, w.heap.size + 1⟩ (HD2.out.chg (Chg.refl (fun _ => False) _).drew (fun _ _ e => e)) ⟨A1.out, A2.out⟩ (fun k hk e => by
        have := LT.out k e
        rcases hk with e | e
        · subst e; simp at this
        · subst e; simp at this; omega) (by have := hok2; unfold okn at this; simp at this; exact this.2) HS.out (by simp only [chlen]; omega))
      have hUR : (U : Int) + (L : Int) ≤ R := by omega
      clear hok hok2 hap x1 hb hP h3 h4 h5 h6 c0 c2 u1 hsum hU hL hR
      go_enter Try.func14, Try.ntmps14
      go_wp2_with fail
      rw [W2.out]
      clear x0
      have x0 := X0.out
      go_wp2_with fail
      refine HV.out.mono ?_
      rintro e w3 ⟨rfl, rfl⟩
      go_wp2_with fail
      refine wp_region_plan [([0, 1, 2, 3, 4, 5, 6, 7, 8, 9, 10, 11, 12, 13, 14], none)] (by kernel_rfl) (by kernel_rfl) ?_
      refine seg_end _ (by dsimp only [pick, at_]) ?_
      repeat (go_big_quiet_step (fail))
      refine wpQuiet_nil (NoPanic.normal ?_)
      clear z0 z2 z1 zx
      go_wp2_with fail
      refine HDO.out.mono ?_
      rintro e w4 hr
      have hr2 := hr.ret B2.out.drew LT.out (fun k hk => by
        have h9 := S2.out
        rcases hk with e | e
        · subst e; exact ⟨by simp, by show w.heap.size < w2.heap.size; omega⟩
        · subst e; exact ⟨by simp, by show w.heap.size + 1 < w2.heap.size; omega⟩)
      have R2 := Lib.hid hr2
      obtain ⟨rfl, _, _⟩ := hr
      clear hr2 HDO
      go_wp2_with fail
      go_ret
      exact R2.out
end Go.Proofs.Ytmnliieiiaedeaa.dk
