/-
  The walk of the law WireDecodes: for all inputs it returns true.
-/
import Derived.Test.YthkcnakodlbdpaaWrV
namespace Go.Proofs.Ythkcnakodlbdpaa.lawWireDecodes
open Go.ChangeShapes Go.WideShapes Go.ChangeAt Go.RowKit plain words ord mem uvs uvc cl wr

theorem mvok_more {w : World} {B C : Nat} {a : MV} (h : MVok w B a) (hC : B ≤ C) : MVok w C a := ⟨h.p.more hC, h.pn, h.pcap, h.pok, h.t.more hC, h.tn, h.tcap, h.tok, h.pt, h.few⟩
theorem mvok_up {w w' : World} {a : MV} (h : MVok w w.heap.size a) (hb : Below w.heap.size w w') : MVok w' w'.heap.size a := mvok_more (h.below hb (Nat.le_refl _)) hb.size
set_option maxHeartbeats 4000000 in
set_option maxRecDepth 100000 in
theorem walk_ok (A : Option Addr) (n c : Nat) (z0 : List Int) (w : World) (w0 : IsRow .u8 w A n c z0) :
    Calls Try.prog 5 #[.slice A n c] w fun e w' => e = .returned (.bool true) ∧ Below w.heap.size w w' := by
  obtain ⟨bs, hbs, hm, ⟨hc1, hc2⟩, hA⟩ := w0.bytes
  unfold maxLen at hm hc2
  obtain ⟨i0, hi, hz0, hz1, hz2⟩ := info_parts mem.infoB
  clear w0
  by_cases hn : n ≤ 131072
  · have hn' : ¬ (131072 : Int) < (n : Int) := by omega
    have hlit := World.ownsRow_lit (w := w) (base := w.heap.size) (e := 5) (size := 1) #[] 0 (Nat.le_refl _) (by simp) rfl
    have hb0 := below_al w (.cells #[] 5)
    have hrd := hbs.below hb0 (Nat.le_refl _)
    have HB := Lib.hid hbs
    clear hbs
    go_enter Try.func5, Try.ntmps5
    go_wp2_with (at_builtin; refine wpList_append_rd rfl (.tmp 12) (.tmp 13) 33 rfl w.heap.size 5 i0 (.int .u8 0) 1 1 Try.underlying33 hi hz0 hz1 hz2 rfl (by decide) _ 0 [] rfl hlit w.heap.size A n c hA (u8s bs) rfl (by rw [Nat.mul_one]; exact hrd) (u8s_one bs) (by unfold maxLen; omega) (by omega) (by simp) ?_; intro v1 w1 hown1 hg1 hnn1; simp only [Nat.zero_add, List.nil_append] at hown1)
    have hB1 := own_below hb0 hlit (by simp) hg1
    obtain ⟨A1, c1, rfl, hc11, hc12⟩ : ∃ A c, v1 = .slice A n c ∧ n ≤ c ∧ c ≤ 9223372036854775807 := by
      rcases own_form hown1 with ⟨rfl, e0⟩ | ⟨g, cap, rfl, _, _, h1, h2⟩
      · exact ⟨none, 0, by rw [e0], by omega, by omega⟩
      · unfold maxLen at h2
        exact ⟨_, cap, rfl, h1, h2⟩
    have HB1 := Lib.hid hB1
    have HO1 := Lib.hid (own_bs hown1)
    have hs1 := hB1.size
    have HX := Lib.hid (dec_x w1 w1.heap.size n c1 A1 bs HO1.out (Nat.le_refl _) hc11 hc12 (by omega))
    clear hrd hlit hb0 hown1 hg1 hnn1 hB1
    go_wp2_with (fail)
    refine HX.out.mono ?_
    rintro e w2 ⟨a, rfl, ha2, hma, hb2⟩
    have hs2 := hb2.size
    obtain ⟨N, hN⟩ : ∃ N, w2.heap.size = N := ⟨_, rfl⟩
    obtain ⟨wa, hwa⟩ : ∃ wa, w2.alloc (.cells zcells 31) = wa := ⟨_, rfl⟩
    have hba : Below w2.heap.size w2 wa := by rw [← hwa]; exact below_al _ _
    have va : V wa N zcells 31 := by rw [← hwa, ← hN]; exact alloc_new _ _
    have hza : wa.heap.size = N + 1 := by rw [← hwa, World.size_alloc, hN]
    unfold zcells at hwa
    obtain ⟨wb, hwb⟩ : ∃ wb, wa.setRow N a.cells = wb := ⟨_, rfl⟩
    have hbb : Below w2.heap.size w2 wb := by rw [← hwb]; exact bel_row hba (Nat.le_refl _) (by omega)
    have VB := Lib.hid (show V wb N a.cells 31 by rw [← hwb]; exact setRow_mb va)
    have VA := Lib.hid va
    have hzb : wb.heap.size = N + 1 := by rw [← hwb]; simp [World.setRow, hza]
    have HB2 := Lib.hid (HB1.out.trans (hb2.mono hs1))
    have HBB := Lib.hid (HB2.out.trans (hbb.mono (by omega)))
    have HO2 := Lib.hid ((HO1.out.below hb2 (Nat.le_refl _)).below hbb (by omega))
    have HA := Lib.hid (mvok_up ha2 hbb)
    have HMA := Lib.hid hma
    have HY := Lib.hid (dec_y wb w.heap.size n c A bs (HB.out.below HBB.out (Nat.le_refl _)) (by omega) hc1 hc2 (by omega))
    have HALL := Lib.hid (mvcells_all a)
    have HVAL := Lib.hid (show a.val = .agg a.cells from rfl)
    obtain ⟨ar, har⟩ : ∃ ar, a.cells = ar := ⟨_, rfl⟩
    have hars : ar.size = 16 := by rw [← har]; rfl
    rw [har] at hwb VB HALL HVAL
    rw [HVAL.out]
    have HAR := Lib.hid har
    have HARS := Lib.hid hars
    obtain ⟨er, her⟩ : ∃ er, ansE bs = er := ⟨_, rfl⟩
    rw [her]
    have HER := Lib.hid her
    clear hb2 hba va hbb ha2 hma HX HO1 har hars her
    go_wp2_with (refine wpList_store_row rfl _ _ _ rfl N ar (by rfl) (by rfl) _ _ VA.out (by rw [HARS.out]; exact infoMsg) (by rw [HARS.out]; rfl) HALL.out ?_)
    try rw [hwb]
    refine HY.out.mono ?_
    clear HY hwa hwb
    rintro e w3 ⟨b, rfl, hb3, hmb, hbl3⟩
    have hs3 := hbl3.size
    obtain ⟨M, hM⟩ : ∃ M, w3.heap.size = M := ⟨_, rfl⟩
    obtain ⟨wc, hwc⟩ : ∃ wc, w3.alloc (.cells zcells 37) = wc := ⟨_, rfl⟩
    have hbc : Below w3.heap.size w3 wc := by rw [← hwc]; exact below_al _ _
    have vc : V wc M zcells 37 := by rw [← hwc, ← hM]; exact alloc_new _ _
    have hzc : wc.heap.size = M + 1 := by rw [← hwc, World.size_alloc, hM]
    unfold zcells at hwc
    obtain ⟨wd, hwd⟩ : ∃ wd, wc.setRow M b.cells = wd := ⟨_, rfl⟩
    have hbd : Below w3.heap.size w3 wd := by rw [← hwd]; exact bel_row hbc (Nat.le_refl _) (by omega)
    have VD := Lib.hid (show V wd M b.cells 37 by rw [← hwd]; exact setRow_mb vc)
    have VC := Lib.hid vc
    have hbbd : Below wb.heap.size wb wd := hbl3.trans (hbd.mono hs3)
    have VBD := Lib.hid (show V wd N ar 31 from blk_below hbbd VB.out (by omega))
    have HAD := Lib.hid (mvok_up HA.out hbbd)
    have HBD := Lib.hid (mvok_up hb3 hbd)
    have hmm : b.m = a.m := hmb.trans HMA.out.symm
    have hfew : Few a.m := by rw [HMA.out]; exact ans_few bs
    have HSM := Lib.hid (same_w wd wd.heap.size a b HAD.out HBD.out hmm (Nat.le_refl _) hfew)
    have HBW := Lib.hid (HBB.out.trans (hbbd.mono (by have := HBB.out.size; omega)))
    have HOD := Lib.hid (HO2.out.below hbbd (by omega))
    have HALL2 := Lib.hid (mvcells_all b)
    have HVAL2 := Lib.hid (show b.val = .agg b.cells from rfl)
    obtain ⟨br, hbr⟩ : ∃ br, b.cells = br := ⟨_, rfl⟩
    have hbrs : br.size = 16 := by rw [← hbr]; rfl
    obtain ⟨c0, c1', c2, c3, c4, c5, c6, c7, c8, c9, c10, c11, c12, c13, c14, c15⟩ := mv_all (show V wd N a.cells 31 by rw [HAR.out]; exact VBD.out)
    obtain ⟨d0, d1, d2, d3, d4, d5, d6, d7, d8, d9, d10, d11, d12, d13, d14, d15⟩ := mv_all VD.out
    have hlN := blk_lt VBD.out
    have hlM := blk_lt VD.out
    rw [hbr] at hwd VD HALL2 HVAL2
    rw [HVAL2.out, HER.out]
    have HBRS := Lib.hid hbrs
    clear hbl3 hbc vc hbd hbbd hb3 hmb hmm hfew hbr hbrs
    go_wp2_with (refine wpList_store_row rfl _ _ _ rfl M br (by rfl) (by rfl) _ _ VC.out (by rw [HBRS.out]; exact infoMsgY) (by rw [HBRS.out]; rfl) HALL2.out ?_; rw [hwd])
    refine HSM.out.mono ?_
    rintro e w4 ⟨rfl, hb4⟩
    clear c0 c1' c2 c3 c4 c5 c6 c7 c8 c9 c10 c11 c12 c13 c14 c15 d0 d1 d2 d3 d4 d5 d6 d7 d8 d9 d10 d11 d12 d13 d14 d15
    have HBF := Lib.hid (HBW.out.trans (hb4.mono (by have := HBW.out.size; omega)))
    have k0 := conv_string (P := Try.prog) (c := c1) (HOD.out.below hb4 (by have := HBW.out.size; have := hb4.size; omega)) 33 9 5 Try.underlying33 Try.underlying9 Try.underlying5
    have k1 := conv_string (P := Try.prog) (c := c) (HB.out.below HBF.out (Nat.le_refl _)) 33 9 5 Try.underlying33 Try.underlying9 Try.underlying5
    clear hb4 HSM hwc hwd
    go_wp2_with (fail)
    go_ret
    exact ⟨rfl, HBF.out⟩
  · have hn' : (131072 : Int) < (n : Int) := by omega
    go_enter Try.func5, Try.ntmps5
    go_wp2_with (fail)
    go_ret
    exact ⟨rfl, Below.refl _ _⟩
end Go.Proofs.Ythkcnakodlbdpaa.lawWireDecodes
