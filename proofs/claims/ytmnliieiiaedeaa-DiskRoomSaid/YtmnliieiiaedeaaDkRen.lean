/-
  The disk's calls: Rename, Remove.
-/
import Derived.Test.YtmnliieiiaedeaaDkApp
namespace Go.Proofs.Ytmnliieiiaedeaa.dk
open Go.ChangeShapes Go.WideShapes Go.ChangeAt Go.RowKit Go.Maps Go.Sort Go.Shelf plain words ord mem al

def renSt (st : St) (a b : Nm) : St × Int := if okn a = false ∨ okn b = false then (st, 10) else if al.get st.shown a = none then (st, 11) else (doSt st (.ren a b), doE st)
def remSt (st : St) (a : Nm) : St × Int := if okn a = false then (st, 10) else if al.get st.shown a = none then (st, 11) else (doSt st (.rem a), doE st)
set_option maxRecDepth 100000 in
set_option maxHeartbeats 1000000 in
theorem rename_d (w : World) (p : Nat) (F : Nat → Prop) (st : St) (a b : Nm) (h : Dk w p F st) (hs : Small st) :
    Calls Try.prog 32 #[ptr p, .string (bs a), .string (bs b)] w (RetDk w p F (renSt st a b).1 (.int .i64 (renSt st a b).2)) := by
  obtain ⟨ha1, ha2, hb2, hs2⟩ := alloc2 w (.cells #[.string (bs a)] 9) (.cells #[.string (bs b)] 9)
  obtain ⟨w2, hw2⟩ : ∃ w2, (w.alloc (.cells #[.string (bs a)] 9)).alloc (.cells #[.string (bs b)] 9) = w2 := ⟨_, rfl⟩
  rw [hw2] at ha1 ha2 hb2 hs2
  have HV := Lib.hid (valid_d w2 a)
  have HVb := Lib.hid (valid_d w2 b)
  have x0 : w2.cell? ⟨w.heap.size, 0, none⟩ = some (.string (bs a)) := by rw [cell_of_row _ _ _ _ _ _ ha1]; rfl
  have x1 : w2.cell? ⟨w.heap.size + 1, 0, none⟩ = some (.string (bs b)) := by rw [cell_of_row _ _ _ _ _ _ ha2]; rfl
  have hd2 := h.chg (Chg.of_below hb2) (fun _ _ e => e)
  have W2 := Lib.hid hw2
  have B2 := Lib.hid hb2
  have S2 := Lib.hid hs2
  have HD := Lib.hid h
  have HD2 := Lib.hid hd2
  have LT := Lib.hid h.lt
  have HS := Lib.hid hs
  have A1 := Lib.hid ha1
  have A2 := Lib.hid ha2
  have l0 : w.heap.size < w2.heap.size := blk_lt ha1
  have l1 : w.heap.size + 1 < w2.heap.size := blk_lt ha2
  clear h hs hw2 hb2 hs2 hd2 ha1 ha2
  have X0 := Lib.hid x0
  have X1 := Lib.hid x1
  clear x0 x1
  have hokb : (decide (1 ≤ b.length) && decide (b.length ≤ 40)) = okn b := rfl
  rw [hokb] at HVb
  have hoka : (decide (1 ≤ a.length) && decide (a.length ≤ 40)) = okn a := rfl
  rw [hoka] at HV
  clear hoka hokb
  cases hok : okn a with
  | false =>
    have hap : renSt st a b = (st, 10) := by unfold renSt; rw [if_pos (.inl hok)]
    rw [hap]
    rw [hok] at HV
    clear hok hap
    go_enter Try.func32, Try.ntmps32
    go_wp2_with fail
    rw [W2.out]
    have x0 := X0.out
    go_wp2_with fail
    refine HV.out.mono ?_
    rintro e w3 ⟨rfl, rfl⟩
    go_wp2_with fail
    go_ret
    exact RetDk.keep HD.out B2.out _
  | true =>
    rw [hok] at HV
    cases hok2 : okn b with
    | false =>
      have hap : renSt st a b = (st, 10) := by unfold renSt; rw [if_pos (.inr hok2)]
      rw [hap]
      rw [hok2] at HVb
      clear hok hok2 hap
      go_enter Try.func32, Try.ntmps32
      go_wp2_with fail
      rw [W2.out]
      have x0 := X0.out
      have x1 := X1.out
      go_wp2_with fail
      refine HV.out.mono ?_
      rintro e w3 ⟨rfl, rfl⟩
      go_wp2_with fail
      refine HVb.out.mono ?_
      rintro e w3 ⟨rfl, rfl⟩
      go_wp2_with fail
      go_ret
      exact RetDk.keep HD.out B2.out _
    | true =>
      rw [hok2] at HVb
      have hla : a.length ≤ 40 := by have := hok; unfold okn at this; simp at this; exact this.2
      have hlb : b.length ≤ 40 := by have := hok2; unfold okn at this; simp at this; exact this.2
      have HH := Lib.hid (show ∃ fh, w2.cell? ⟨p, 2, none⟩ = some (ptr fh) ∧ p < w2.heap.size ∧ Calls Try.prog 60 #[ptr fh, .string (bs a)] w2.drew fun e w' => e = .returned (.bool (al.get st.shown a).isSome) ∧ w2.drew = w' from by
        obtain ⟨fs, fh, Fs, Fh, Fo, v, ps, dv, hb, hP, h3, h4, h5, h6⟩ := HD2.out
        have := has_f w2.drew fh Fh st.shown (bs a) (hP.quiet (Below.refl _ _).drew).hh (by rw [bs_size]; unfold maxLen; omega)
        rw [bs_list] at this
        exact ⟨fh, (disk_cell hb).2.2.1, blk_lt hb, this⟩)
      obtain ⟨fh, c2, lp, hhas⟩ := HH.out
      clear HH
      cases hg : al.get st.shown a with
      | none =>
        have hap : renSt st a b = (st, 11) := by unfold renSt; rw [if_neg (by rw [hok, hok2]; simp), if_pos hg]
        rw [hap]
        rw [hg] at hhas
        have HHA := Lib.hid hhas
        clear hok hok2 hap hg hhas
        go_enter Try.func32, Try.ntmps32
        go_wp2_with fail
        rw [W2.out]
        have x0 := X0.out
        have x1 := X1.out
        go_wp2_with fail
        refine HV.out.mono ?_
        rintro e w3 ⟨rfl, rfl⟩
        go_wp2_with fail
        refine HVb.out.mono ?_
        rintro e w3 ⟨rfl, rfl⟩
        go_wp2_with fail
        have z2 := Wb.at_ c2
        have zx0 := Wb.at_ x0
        have zx1 := Wb.at_ x1
        refine wp_region_plan [([0, 1, 2, 3, 4], some (5, false)), ([6], none)] (by kernel_rfl) (by kernel_rfl) ?_
        refine seg_act _ (by dsimp only [pick, at_]) _ (by dsimp only [pick, at_]) ?_
        repeat (go_big_quiet_step (fail))
        refine wpQuiet_nil ?_
        intro K1 h1 h2
        clear h1
        go_wp2_with (fail)
        refine HHA.out.mono ?_
        rintro e w3 ⟨rfl, rfl⟩
        go_wp2_with (fail)
        refine h2 _ _ (Below.refl _ _).drew ?_
        refine seg_end _ (by dsimp only [pick, at_]) ?_
        repeat (go_big_quiet_step (fail))
        refine wpQuiet_nil (NoPanic.normal ?_)
        clear z2 zx0 zx1
        go_wp2_with fail
        go_ret
        exact RetDk.keep HD.out B2.out.drew _
      | some y =>
        have hap : renSt st a b = (doSt st (.ren a b), doE st) := by unfold renSt; rw [if_neg (by rw [hok, hok2]; simp), if_neg (by rw [hg]; simp)]
        rw [hap]
        have HDO := Lib.hid (do_d w2.drew p F st ⟨.ren a b, w.heap.size, w.heap.size + 1⟩ (HD2.out.chg (Chg.refl (fun _ => False) _).drew (fun _ _ e => e)) ⟨A1.out, A2.out⟩ (fun k hk e => by
          have := LT.out k e
          rcases hk with e | e
          · subst e; simp at this
          · subst e; simp at this; omega) ⟨hla, hlb, by rw [hg]; simp⟩ HS.out (by simp only [chlen]; omega))
        rw [hg] at hhas
        have HHA := Lib.hid hhas
        clear hok hok2 hap hg hhas hla hlb
        go_enter Try.func32, Try.ntmps32
        go_wp2_with fail
        rw [W2.out]
        have x0 := X0.out
        have x1 := X1.out
        go_wp2_with fail
        refine HV.out.mono ?_
        rintro e w3 ⟨rfl, rfl⟩
        go_wp2_with fail
        refine HVb.out.mono ?_
        rintro e w3 ⟨rfl, rfl⟩
        go_wp2_with fail
        have z2 := Wb.at_ c2
        have zx0 := Wb.at_ x0
        have zx1 := Wb.at_ x1
        refine wp_region_plan [([0, 1, 2, 3, 4], some (5, false)), ([6], none)] (by kernel_rfl) (by kernel_rfl) ?_
        refine seg_act _ (by dsimp only [pick, at_]) _ (by dsimp only [pick, at_]) ?_
        repeat (go_big_quiet_step (fail))
        refine wpQuiet_nil ?_
        intro K1 h1 h2
        clear h1
        go_wp2_with (fail)
        refine HHA.out.mono ?_
        rintro e w3 ⟨rfl, rfl⟩
        go_wp2_with (fail)
        refine h2 _ _ (Below.refl _ _).drew ?_
        refine seg_end _ (by dsimp only [pick, at_]) ?_
        repeat (go_big_quiet_step (fail))
        refine wpQuiet_nil (NoPanic.normal ?_)
        clear z2 zx0 zx1
        clear x0 x1 c2
        go_wp2_with fail
        refine HDO.out.mono ?_
        rintro e w4 hr
        have hr2 := hr.ret B2.out.drew LT.out (fun k hk => by
          have h9 := S2.out
          rcases hk with e | e
          · subst e; exact ⟨by simp, by show w.heap.size < w2.heap.size; omega⟩
          · subst e; exact ⟨by simp, by show w.heap.size + 1 < w2.heap.size; omega⟩)
        have R2 := Lib.hid hr2
        obtain ⟨rfl, _, _⟩ := hr
        clear hr2 HDO
        go_wp2_with fail
        go_ret
        exact R2.out
set_option maxRecDepth 100000 in
set_option maxHeartbeats 1000000 in
theorem remove_d (w : World) (p : Nat) (F : Nat → Prop) (st : St) (a : Nm) (h : Dk w p F st) (hs : Small st) :
    Calls Try.prog 31 #[ptr p, .string (bs a)] w (RetDk w p F (remSt st a).1 (.int .i64 (remSt st a).2)) := by
  obtain ⟨w2, hw2⟩ : ∃ w2, w.alloc (.cells #[.string (bs a)] 9) = w2 := ⟨_, rfl⟩
  have ha1 : w2.heap[w.heap.size]? = some (.cells #[.string (bs a)] 9) := by rw [← hw2]; exact alloc_new _ _
  have hb2 : Below w.heap.size w w2 := by rw [← hw2]; exact (Below.refl _ _).alloc (Nat.le_refl _) _
  have hs2 : w2.heap.size = w.heap.size + 1 := by rw [← hw2]; simp
  have HV := Lib.hid (valid_d w2 a)
  have x0 : w2.cell? ⟨w.heap.size, 0, none⟩ = some (.string (bs a)) := by rw [cell_of_row _ _ _ _ _ _ ha1]; rfl
  have hd2 := h.chg (Chg.of_below hb2) (fun _ _ e => e)
  have W2 := Lib.hid hw2
  have B2 := Lib.hid hb2
  have S2 := Lib.hid hs2
  have HD := Lib.hid h
  have HD2 := Lib.hid hd2
  have LT := Lib.hid h.lt
  have HS := Lib.hid hs
  have A1 := Lib.hid ha1
  have l0 : w.heap.size < w2.heap.size := blk_lt ha1
  clear h hs hw2 hb2 hs2 hd2 ha1
  have X0 := Lib.hid x0
  clear x0
  have hoka : (decide (1 ≤ a.length) && decide (a.length ≤ 40)) = okn a := rfl
  rw [hoka] at HV
  clear hoka
  cases hok : okn a with
  | false =>
    have hap : remSt st a = (st, 10) := by unfold remSt; rw [if_pos hok]
    rw [hap]
    rw [hok] at HV
    clear hok hap
    go_enter Try.func31, Try.ntmps31
    go_wp2_with fail
    rw [W2.out]
    have x0 := X0.out
    go_wp2_with fail
    refine HV.out.mono ?_
    rintro e w3 ⟨rfl, rfl⟩
    go_wp2_with fail
    go_ret
    exact RetDk.keep HD.out B2.out _
  | true =>
    rw [hok] at HV
    have hla : a.length ≤ 40 := by have := hok; unfold okn at this; simp at this; exact this.2
    have HH := Lib.hid (show ∃ fh, w2.cell? ⟨p, 2, none⟩ = some (ptr fh) ∧ p < w2.heap.size ∧ Calls Try.prog 60 #[ptr fh, .string (bs a)] w2.drew fun e w' => e = .returned (.bool (al.get st.shown a).isSome) ∧ w2.drew = w' from by
      obtain ⟨fs, fh, Fs, Fh, Fo, v, ps, dv, hb, hP, h3, h4, h5, h6⟩ := HD2.out
      have := has_f w2.drew fh Fh st.shown (bs a) (hP.quiet (Below.refl _ _).drew).hh (by rw [bs_size]; unfold maxLen; omega)
      rw [bs_list] at this
      exact ⟨fh, (disk_cell hb).2.2.1, blk_lt hb, this⟩)
    obtain ⟨fh, c2, lp, hhas⟩ := HH.out
    clear HH
    cases hg : al.get st.shown a with
    | none =>
      have hap : remSt st a = (st, 11) := by unfold remSt; rw [if_neg (by rw [hok]; simp), if_pos hg]
      rw [hap]
      rw [hg] at hhas
      have HHA := Lib.hid hhas
      clear hok hap hg hhas
      go_enter Try.func31, Try.ntmps31
      go_wp2_with fail
      rw [W2.out]
      have x0 := X0.out
      go_wp2_with fail
      refine HV.out.mono ?_
      rintro e w3 ⟨rfl, rfl⟩
      go_wp2_with fail
      have z2 := Wb.at_ c2
      have zx0 := Wb.at_ x0
      refine wp_region_plan [([0, 1, 2, 3, 4], some (5, false)), ([6], none)] (by kernel_rfl) (by kernel_rfl) ?_
      refine seg_act _ (by dsimp only [pick, at_]) _ (by dsimp only [pick, at_]) ?_
      repeat (go_big_quiet_step (fail))
      refine wpQuiet_nil ?_
      intro K1 h1 h2
      clear h1
      go_wp2_with (fail)
      refine HHA.out.mono ?_
      rintro e w3 ⟨rfl, rfl⟩
      go_wp2_with (fail)
      refine h2 _ _ (Below.refl _ _).drew ?_
      refine seg_end _ (by dsimp only [pick, at_]) ?_
      repeat (go_big_quiet_step (fail))
      refine wpQuiet_nil (NoPanic.normal ?_)
      clear z2 zx0
      go_wp2_with fail
      go_ret
      exact RetDk.keep HD.out B2.out.drew _
    | some y =>
      have hap : remSt st a = (doSt st (.rem a), doE st) := by unfold remSt; rw [if_neg (by rw [hok]; simp), if_neg (by rw [hg]; simp)]
      rw [hap]
      have HDO := Lib.hid (do_d w2.drew p F st ⟨.rem a, w.heap.size, w.heap.size⟩ (HD2.out.chg (Chg.refl (fun _ => False) _).drew (fun _ _ e => e)) A1.out (fun k hk e => by
        have := LT.out k e
        have e2 : k = w.heap.size := hk
        omega) hla HS.out (by simp only [chlen]; omega))
      rw [hg] at hhas
      have HHA := Lib.hid hhas
      clear hok hap hg hhas hla
      go_enter Try.func31, Try.ntmps31
      go_wp2_with fail
      rw [W2.out]
      have x0 := X0.out
      go_wp2_with fail
      refine HV.out.mono ?_
      rintro e w3 ⟨rfl, rfl⟩
      go_wp2_with fail
      have z2 := Wb.at_ c2
      have zx0 := Wb.at_ x0
      refine wp_region_plan [([0, 1, 2, 3, 4], some (5, false)), ([6], none)] (by kernel_rfl) (by kernel_rfl) ?_
      refine seg_act _ (by dsimp only [pick, at_]) _ (by dsimp only [pick, at_]) ?_
      repeat (go_big_quiet_step (fail))
      refine wpQuiet_nil ?_
      intro K1 h1 h2
      clear h1
      go_wp2_with (fail)
      refine HHA.out.mono ?_
      rintro e w3 ⟨rfl, rfl⟩
      go_wp2_with (fail)
      refine h2 _ _ (Below.refl _ _).drew ?_
      refine seg_end _ (by dsimp only [pick, at_]) ?_
      repeat (go_big_quiet_step (fail))
      refine wpQuiet_nil (NoPanic.normal ?_)
      clear z2 zx0
      clear x0 c2
      go_wp2_with fail
      refine HDO.out.mono ?_
      rintro e w4 hr
      have hr2 := hr.ret B2.out.drew LT.out (fun k hk => by
        have h9 := S2.out
        have e2 : k = w.heap.size := hk
        show w.heap.size ≤ k ∧ k < w2.heap.size
        omega)
      have R2 := Lib.hid hr2
      obtain ⟨rfl, _, _⟩ := hr
      clear hr2 HDO
      go_wp2_with fail
      go_ret
      exact R2.out
end Go.Proofs.Ytmnliieiiaedeaa.dk
