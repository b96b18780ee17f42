/-
  Index: where the program's search begins.
-/
import Derived.Test.YtcebmlcdhapnkaaIdxListX
import Derived.Test.YtcebmlcdhapnkaaIdxFind
import Derived.WalkMore
namespace Go.Proofs.Ytcebmlcdhapnkaa.idx
open Go.ChangeShapes Go.WideShapes Go.ChangeAt Go.RowKit plain words ord mem uvs uvc Go.Lib

def soff (l : List En) : Option Nat → Nat
  | none => 0
  | some k => (idxB (l.take k)).length
theorem idx_le (l : List En) (k : Nat) : (idxB (l.take k)).length ≤ (idxB l).length := by
  have : idxB l = idxB (l.take k) ++ idxB (l.drop k) := by
    conv => lhs; rw [← List.take_append_drop k l]
    simp only [idxB, List.flatMap_append]
  rw [this, List.length_append]
  omega
theorem st_yes {l : List En} {id : ByteArray} {b : Nat} {x : En} (hx : l[4 * b]? = some x) (h : sle x.1 id = true) : st l id (b + 1) = some (4 * b) := by
  unfold st
  rw [hx]
  simp [h]
theorem st_no {l : List En} {id : ByteArray} {b : Nat} {x : En} (hx : l[4 * b]? = some x) (h : sle x.1 id = false) : st l id (b + 1) = st l id b := by
  conv => lhs; unfold st
  rw [hx]
  simp [h]
set_option maxHeartbeats 2000000 in
set_option maxRecDepth 100000 in
theorem begin_x (w : World) (B n c : Nat) (A : Option Addr) (l : List En) (nm : ByteArray) (h : Bs w B A n (sumB l)) (hB : B ≤ w.heap.size) (hnc : n ≤ c) (hcm : c ≤ 9223372036854775807) (hn : n ≤ 1000000000) (hO : ∀ x ∈ l, OkE x) (hN : (idxB l).length ≤ 1000000000) :
    Calls Try.prog 52 #[.slice A n c, .int .i64 ((idxB l).length : Int), .string nm] w fun e w' => e = .returned (.tuple #[.int .i64 (soff l (st l nm ((l.length + 3) / 4)) : Int), .bool (st l nm ((l.length + 3) / 4)).isSome]) ∧ Below w.heap.size w w' := by
  have hl := h.len_
  obtain ⟨wb, hwb⟩ : ∃ wb, w.alloc (.cells #[.slice A n c] 86) = wb := ⟨_, rfl⟩
  have hbb : Below w.heap.size w wb := by rw [← hwb]; exact below_al _ _
  obtain ⟨J, hJ⟩ : ∃ J, (l.length + 3) / 4 = J := ⟨_, rfl⟩
  have hsum : sumB l = sR l 0 J := by rw [← hJ]; exact sumT_sR l l.length
  rw [hsum] at h hl
  have hr0 : IsRd wb w.heap.size B (sR l 0 J) := by
    subst hl
    refine ⟨A, c, ?_, h.below hbb hB, hB, hnc, hcm⟩
    rw [← hwb]
    exact alloc_new _ _
  rw [hJ]
  obtain ⟨T, hT⟩ : ∃ T, (idxB l).length = T := ⟨_, rfl⟩
  have HIX := Lib.hid (fun k => hT ▸ idx_le l k)
  rw [hT] at hN ⊢
  have HR0 := Lib.hid hr0
  have HBB := Lib.hid hbb
  have HWB := Lib.hid hwb
  have HBL := Lib.hid hl
  have HO := Lib.hid hO
  have HJ := Lib.hid hJ
  clear h hr0 hbb hwb hl hsum hT hJ hO
  go_enter Try.func52, Try.ntmps52
  go_wp2_with (fail)
  go_step3
  go_wp2_with (fail)
  go_step3
  go_wp2_with (fail)
  rw [HWB.out]
  clear HWB
  go_loopg [8, 9] J (fun gg s8 s9 wr => ∃ (b o : Nat) (f : Bool), b ≤ J ∧ J - b ≤ gg ∧ s8 = .int .i64 o ∧ s9 = .bool f ∧ Aside (o = soff l (st l nm b)) ∧ Aside (f = (st l nm b).isSome) ∧ Aside ((sR l b J).length ≤ n) ∧ Aside (IsRd wr w.heap.size B (sR l b J)) ∧ Aside (Below w.heap.size w wr))
  case atStart => exact ⟨0, 0, false, Nat.zero_le _, by omega, rfl, rfl, rfl, rfl, (by rw [HBL.out]; exact Nat.le_refl _), HR0.out, HBB.out⟩
  case round =>
    clear HBB HR0 hnc hcm HBL
    obtain ⟨b, o, f, hbJ, hg, rfl, rfl, HOO, HFF, HLN, HI, BW⟩ := hrel
    have hsw := BW.out.size
    obtain ⟨A0, c0, gp, hb, _, hmc, hcm⟩ := id HI.out
    obtain ⟨m, hm⟩ : ∃ m, (sR l b J).length = m := ⟨_, rfl⟩
    rw [hm] at gp hb hmc
    have e0 : wr.cell? ⟨w.heap.size, 0, none⟩ = some (.slice A0 m c0) := by rw [cell_of_row _ _ _ _ _ _ gp]; rfl
    have hpw : w.heap.size < wr.heap.size := blk_lt gp
    have HM := Lib.hid hm
    clear gp hb hm
    by_cases hlt : b = J
    · subst hlt
      obtain rfl : m = 0 := by rw [← HM.out, sR_end]; rfl
      go_wp2_with (fail)
      try rw [Exit.noGoto_ret]
      go_ret2
      exact ⟨by rw [HOO.out, HFF.out]; rfl, BW.out⟩
    · have hb4 : 4 * b < l.length := by have := HJ.out; omega
      obtain ⟨x, hx⟩ : ∃ x, l[4 * b]? = some x := ⟨_, List.getElem?_eq_getElem hb4⟩
      obtain ⟨⟨ox1, ox2⟩, _⟩ := HO.out x (List.mem_of_getElem? hx)
      obtain ⟨F, hF⟩ : ∃ F, (idxB (l.take (4 * b))).length = F := ⟨_, rfl⟩
      have hFT : F ≤ T := by rw [← hF]; exact HIX.out _
      have hstep : sR l b J = txt x.1 ++ (uv F ++ sR l (b + 1) J) := by
        rw [sR_step (by omega), el, hx]
        simp only
        rw [hF, List.append_assoc]
      have ht := rt_txt x.1 ox1 ox2 (uv F ++ sR l (b + 1) J)
      rw [← hstep] at ht
      have hdr : (sR l b J).drop (txt x.1).length = uv F ++ sR l (b + 1) J := by rw [hstep, List.drop_left]
      have hrn := rn_uv F (by omega) (sR l (b + 1) J)
      have hul := uv_len F
      have hdf : (uv F ++ sR l (b + 1) J).drop (uv F).length = sR l (b + 1) J := List.drop_left
      obtain ⟨qf, hqf⟩ : ∃ q, (uv F).length = q := ⟨_, rfl⟩
      have hQF := Lib.hid hqf
      rw [hqf] at hrn hul hdf
      have HDF := Lib.hid hdf
      clear hqf hdf
      have htl : 1 ≤ (txt x.1).length := by
        have := uv_len x.1.size
        rw [txt, List.length_append]; omega
      have hm0 : (0 : Int) < (m : Int) := by
        have := HM.out
        rw [hstep, List.length_append] at this
        omega
      have hl2 : (sR l (b + 1) J).length ≤ n := by
        have := HLN.out
        rw [hstep, List.length_append, List.length_append] at this
        omega
      have HT := Lib.hid (text_r wr w.heap.size B (sR l b J) HI.out (by have := HLN.out; omega))
      rw [ht] at HT
      have hdz : decide ((txt x.1).length = 0) = false := decide_eq_false (show ¬ (txt x.1).length = 0 by omega)
      have HDR := Lib.hid hdr
      have HRN := Lib.hid hrn
      have HL2 := Lib.hid hl2
      have HLD := Lib.hid (show (uv F ++ sR l (b + 1) J).length ≤ n by have := HLN.out; rw [hstep, List.length_append] at this; omega)
      have HX := Lib.hid hx
      have HF := Lib.hid hF
      obtain ⟨xs, xr⟩ := x
      simp only at hdz HDR htl ox1 ox2
      have HTL := Lib.hid htl
      obtain ⟨q, hq⟩ : ∃ q, (txt xs).length = q := ⟨_, rfl⟩
      simp only at HT
      rw [hq] at hdz HDR HTL HT
      have hd2 : decide (qf = 0) = false := decide_eq_false (show ¬ qf = 0 by omega)
      clear hstep ht hdr hrn hl2 hx hF htl hq HLN
      go_wp2_with (fail)
      refine HT.out.mono ?_
      rintro e w3 ⟨rfl, ⟨k, hk, hr3, hk3⟩, hc3⟩
      obtain rfl : k = q := hk3 (by have := HTL.out; omega)
      rw [HDR.out] at hr3
      have hs3 := hc3.size
      have HN3 := Lib.hid (number_r w3 w.heap.size B _ hr3 (by have := HLD.out; omega))
      rw [HRN.out] at HN3
      have HB3 := Lib.hid (BW.out.trans (hc3.below (by omega) (fun k e => by omega)))
      simp only at HN3
      clear hr3 hc3 hk hk3 HT HI BW e0
      go_wp2_with (fail)
      refine HN3.out.mono ?_
      rintro e w4 ⟨rfl, hr4, hc4⟩
      rw [HDF.out] at hr4
      have HI4 := Lib.hid hr4
      have hs4 := hc4.size
      have HB4 := Lib.hid (HB3.out.trans (hc4.below (by omega) (fun k e => by omega)))
      have hFTz : ¬ (T : Int) < (F : Int) := by omega
      clear hr4 hc4 HN3 HB3
      cases hs : sle xs nm with
      | true =>
        have HST := Lib.hid (st_yes HX.out hs)
        unfold sle at hs
        go_wp2_with (fail)
        go_roundg (J - (b + 1))
        case measure => omega
        case rel => exact ⟨b + 1, F, true, by omega, by omega, rfl, rfl, by rw [HST.out]; exact HF.out.symm, by rw [HST.out]; rfl, HL2.out, HI4.out, HB4.out⟩
      | false =>
        have HST := Lib.hid (st_no HX.out hs)
        unfold sle at hs
        go_wp2_with (fail)
        go_roundg (J - (b + 1))
        case measure => omega
        case rel => exact ⟨b + 1, o, f, by omega, by omega, rfl, rfl, by rw [HST.out]; exact HOO.out, by rw [HST.out]; exact HFF.out, HL2.out, HI4.out, HB4.out⟩
end Go.Proofs.Ytcebmlcdhapnkaa.idx
