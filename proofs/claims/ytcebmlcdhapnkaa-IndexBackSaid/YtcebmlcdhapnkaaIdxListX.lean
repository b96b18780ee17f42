/-
  Index: the program's List.
-/
import Derived.Test.YtcebmlcdhapnkaaIdxEntry
import Derived.Test.YtcebmlcdhapnkaaIdxLst
namespace Go.Proofs.Ytcebmlcdhapnkaa.idx
open Go.ChangeShapes Go.WideShapes Go.ChangeAt Go.RowKit plain words ord mem uvs uvc Go.Lib

set_option maxHeartbeats 2000000 in
set_option maxRecDepth 100000 in
theorem list_x (w : World) (B n c : Nat) (A : Option Addr) (bs : List UInt8) (h : Bs w B A n bs) (hB : B ≤ w.heap.size) (hnc : n ≤ c) (hcm : c ≤ 9223372036854775807) (hn : n ≤ 1000000000) :
    Calls Try.prog 34 #[.slice A n c] w (RetLst w bs) := by
  obtain ⟨i0, hi, hz0, hz1, hz2⟩ := info_parts infoE2
  have hl := h.len_
  obtain ⟨wb, hwb⟩ : ∃ wb, w.alloc (.cells #[.slice A n c] 86) = wb := ⟨_, rfl⟩
  have hbb : Below w.heap.size w wb := by rw [← hwb]; exact below_al _ _
  have hr0 : IsRd wb w.heap.size B bs := by
    subst hl
    refine ⟨A, c, ?_, h.below hbb hB, hB, hnc, hcm⟩
    rw [← hwb]
    exact alloc_new _ _
  have HR0 := Lib.hid hr0
  have HBB := Lib.hid hbb
  have HWB := Lib.hid hwb
  have hlit : wb.ownsRow (w.heap.size + 1) 68 4 (.slice none 0 0) 0 (cs eE []) := World.ownsRow_nil _ _ _ _
  have HLIT := Lib.hid hlit
  have HBL := Lib.hid hl
  clear h hlit hr0 hbb hwb hl
  go_enter Try.func34, Try.ntmps34
  go_wp2_with (fail)
  rw [HWB.out]
  clear HWB
  go_loopg [4] n (fun gg s4 wr => ∃ (rest : List UInt8) (acc : List En) (m a : Nat) (v4 : Value), m ≤ gg ∧ v4 = s4 ∧ a + m ≤ n ∧ Aside (rest.length = m) ∧ Aside (IsRd wr w.heap.size B rest) ∧ Aside (acc.length = a) ∧ Aside (wr.ownsRow (w.heap.size + 1) 68 4 v4 a (cs eE acc)) ∧ Aside (At bs rest acc) ∧ Aside (Below w.heap.size w wr))
  case atStart => exact ⟨bs, [], n, 0, _, Nat.le_refl _, rfl, by omega, HBL.out, HR0.out, rfl, HLIT.out, At.start bs, HBB.out⟩
  case round =>
    clear HLIT HBB HR0 hnc hcm
    obtain ⟨rest, acc, m, a, v4, hg, rfl, ham, HM, HI, HA, OW, AT, BW⟩ := hrel
    have hsw := BW.out.size
    obtain ⟨A0, c0, gp, hb, _, hmc, hcm⟩ := id HI.out
    rw [HM.out] at gp hb hmc
    have e0 : wr.cell? ⟨w.heap.size, 0, none⟩ = some (.slice A0 m c0) := by rw [cell_of_row _ _ _ _ _ _ gp]; rfl
    have hpw : w.heap.size < wr.heap.size := blk_lt gp
    clear gp hb
    by_cases hlt : m = 0
    · subst hlt
      have hre : rest = [] := List.eq_nil_of_length_eq_zero HM.out
      have hdone := AT.out
      rw [hre] at hdone
      have HD := Lib.hid hdone.done
      obtain ⟨A4, c4, rfl, h1, h2⟩ : ∃ A c, v4 = .slice A a c ∧ a ≤ c ∧ c ≤ 9223372036854775807 := by
        rcases own_form OW.out with ⟨rfl, e0⟩ | ⟨g, cap, rfl, _, _, h1, h2⟩
        · exact ⟨none, 0, by rw [e0], by omega, by omega⟩
        · unfold maxLen at h2
          exact ⟨_, cap, rfl, h1, h2⟩
      have HY := Lib.hid (check_x wr wr.heap.size a c4 A4 acc ⟨HA.out, own_rd OW.out⟩ (Nat.le_refl _) (by omega))
      clear hdone hre h1
      go_wp2_with (fail)
      refine HY.out.mono ?_
      rintro e w4 ⟨rfl, hb4⟩
      have HB4 := Lib.hid (BW.out.trans (hb4.mono hsw))
      have HE4 := Lib.hid ((own_rd OW.out).below hb4 (Nat.le_refl _))
      have hs4 := hb4.size
      clear hb4 HY
      by_cases hc : checkE acc = 0
      · have hcz : (checkE acc == 0) = true := by simpa using hc
        go_wp2_with (fail)
        go_ret2
        have hk := ls_ok HD.out hc
        refine ⟨A4, c4, by rw [hk.1, hk.2, HA.out]; rfl, by rw [hk.1]; exact ⟨rfl, by rw [HA.out]; exact HE4.out.more hs4⟩, HB4.out⟩
      · have hcz : (checkE acc == 0) = false := by simpa using hc
        go_wp2_with (fail)
        go_ret2
        exact ret_nil (ls_bad HD.out hc) HB4.out
    · have hm0 : (0 : Int) < (m : Int) := by omega
      have hne : rest ≠ [] := fun e => by have := HM.out; rw [e] at this; exact hlt this.symm
      have HNE := Lib.hid hne
      have HRD := Lib.hid (entry_r wr w.heap.size B rest HI.out (by rw [HM.out]; omega))
      have hk := re_le rest
      rw [HM.out] at hk
      obtain ⟨xs, xo, xz, xm, k, hre⟩ : ∃ xs xo xz xm k, re rest = ((xs, xo, xz, xm), k) := ⟨_, _, _, _, _, rfl⟩
      unfold RetEnt at HRD
      rw [hre] at HRD hk
      simp only at hk
      have HRE := Lib.hid hre
      clear hne hre
      go_wp2_with (fail)
      refine HRD.out.mono ?_
      rintro e w3 ⟨rfl, hir, hc3⟩
      have hs3 := hc3.size
      simp only [eV]
      obtain ⟨w5, hw5⟩ : ∃ w5, w3.alloc (.cells #[.string xs, .int .i64 xo, .int .i64 xz, .int .u32 xm] 68) = w5 := ⟨_, rfl⟩
      have hb5 : Below w3.heap.size w3 w5 := by rw [← hw5]; exact below_al _ _
      have g5 : IsV 68 w5 w3.heap.size (.string xs) (.int .i64 xo) (.int .i64 xz) (.int .u32 xm) := by rw [← hw5]; exact alloc_new _ _
      obtain ⟨⟨d0, d1, d2, d3⟩, _⟩ := isv_cells g5
      have hs5 := hb5.size
      have HB5 := Lib.hid ((BW.out.trans (hc3.below (by omega) (fun k e => by omega))).trans (hb5.mono (by omega)))
      have HO5 := Lib.hid (own_keep (own_chg OW.out hc3 (fun g hg e => by have := (OW.out.lt g hg).1; omega)) hb5 (Nat.le_refl _))
      have HIR := Lib.hid hir
      have HB35 := Lib.hid hb5
      have hlt5 : w3.heap.size < w5.heap.size := blk_lt g5
      clear hc3 hb5 g5 HRD OW HI BW hir e0
      by_cases hk0 : k = 0
      · have hkz : decide (k = 0) = true := by simpa using hk0
        have HF := Lib.hid (AT.out.fail HNE.out (by rw [HRE.out]; exact hk0))
        go_wp2_with (fail)
        go_ret2
        exact ret_nil (ls_none HF.out) HB5.out
      · have hkz : decide (k = 0) = false := by simpa using hk0
        have HN := Lib.hid (AT.out.next HNE.out HRE.out hk0)
        have HI3 := Lib.hid (HIR.out hk0)
        obtain ⟨w6, hw6⟩ : ∃ w6, w5.alloc (.cells #[.string xs, .int .i64 xo, .int .i64 xz, .int .u32 xm] 68) = w6 := ⟨_, rfl⟩
        have hb6 : Below w5.heap.size w5 w6 := by rw [← hw6]; exact below_al _ _
        have hrd : Rd w6 (w5.heap.size + 1) (some ⟨w5.heap.size, 0, none⟩) (1 * 4) [.string xs, .int .i64 xo, .int .i64 xz, .int .u32 xm] := by rw [← hw6]; exact rd_fresh (w := w5) _ [.string xs, .int .i64 xo, .int .i64 xz, .int .u32 xm] rfl
        have hs6 := hb6.size
        have ho6 := own_keep HO5.out hb6 (Nat.le_refl _)
        have hB6 := HB5.out.trans (hb6.mono (by omega))
        have hsz6 : w.heap.size + 1 ≤ w6.heap.size := by omega
        have HI6 := Lib.hid ((HI3.out.below HB35.out (by omega)).below hb6 (by omega))
        go_wp2_with (at_builtin; refine wpList_append_rd rfl (.tmp 20) (.tmp 22) 50 rfl (w.heap.size + 1) 68 i0 _ 4 40 Try.underlying50 hi hz0 hz1 hz2 rfl (by decide) v4 a (cs eE acc) rfl ho6 (w5.heap.size + 1) _ 1 1 (fun e => by cases e) [.string xs, .int .i64 xo, .int .i64 xz, .int .u32 xm] rfl hrd (by intro u hu; simp at hu; rcases hu with rfl | rfl | rfl | rfl <;> rfl) (by unfold maxLen; omega) (by omega) hsz6 ?_; intro v7 w7 hown7 hg7 hnn7)
        have hown8 : w7.ownsRow (w.heap.size + 1) 68 4 v7 (a + 1) (cs eE (acc ++ [(xs, xo, xz, xm)])) := by
          rw [cs_append, cs_eE_one]
          exact hown7
        have hB67 := own_below (Below.refl (w.heap.size + 1) w6) ho6 hsz6 hg7
        have HB7 := Lib.hid (hB6.trans (hB67.mono (by omega)))
        have HI7 := Lib.hid (HI6.out.below hB67 (by omega))
        have HO8 := Lib.hid hown8
        clear hown7 hown8 hB67 hB6 ho6 hrd hg7 hnn7
        go_roundg (m - k)
        case measure => omega
        case rel => exact ⟨rest.drop k, _, m - k, a + 1, v7, by omega, rfl, by omega, (show (rest.drop k).length = m - k by rw [List.length_drop, HM.out]), HI7.out, (show (acc ++ [(xs, xo, xz, xm)]).length = a + 1 by rw [List.length_append, HA.out]; rfl), HO8.out, HN.out, HB7.out⟩
end Go.Proofs.Ytcebmlcdhapnkaa.idx
