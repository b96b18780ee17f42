/-
  The walk of the law IndexEncodes.
-/
import Derived.Test.YtcebmlcdhapnkaaIdxLaw
namespace Go.Proofs.Ytcebmlcdhapnkaa.lawIndexEncodes
open Go.ChangeShapes Go.WideShapes Go.ChangeAt Go.RowKit plain words ord mem uvs uvc idx

set_option maxHeartbeats 4000000 in
set_option maxRecDepth 100000 in
theorem walk_ok (A : Option Addr) (n c : Nat) (w : World) (h0 : IsEns w A n c) :
    Calls Try.prog 9 #[.slice A n c] w fun e w' => e = .returned (.bool true) ∧ Below w.heap.size w w' := by
  obtain ⟨l, h, hF, hc1, hc2, hA⟩ := h0
  unfold maxLen at hc2
  obtain ⟨i0, hi, hz0, hz1, hz2⟩ := info_parts infoE2
  have HV := Lib.hid (heavy_x w w.heap.size n c A l h (by omega))
  have HH := Lib.hid h
  have HF := Lib.hid hF
  have hlit := World.ownsRow_lit (w := w) (base := w.heap.size) (e := 68) (size := 4) #[] 0 (Nat.le_refl _) (by simp) rfl
  have hb0 := below_al w (.cells #[] 68)
  have hrd := h.2.below hb0 (Nat.le_refl _)
  have HL := Lib.hid h.1
  clear h hF
  go_enter Try.func9, Try.ntmps9
  go_wp2_with (fail)
  refine HV.out.mono ?_
  rintro e wh ⟨b, rfl, hhb, rfl⟩
  clear HV
  cases b with
  | true =>
    clear hrd hlit hb0
    go_wp2_with (fail)
    go_ret
    exact ⟨rfl, Below.refl _ _⟩
  | false =>
    have hn : n ≤ 16384 := hhb rfl
    clear hhb
    go_wp2_with (at_builtin; refine wpList_append_rd rfl (.tmp 13) (.tmp 14) 50 rfl w.heap.size 68 i0 _ 4 40 Try.underlying50 hi hz0 hz1 hz2 rfl (by decide) _ 0 [] rfl hlit w.heap.size A n c hA (cs eE l) rfl hrd (cs_oneCell eE_one _) (by unfold maxLen; omega) (by omega) (by simp) ?_; intro v1 w1 hown1 hg1 hnn1; simp only [Nat.zero_add, List.nil_append] at hown1)
    have hB1 := own_below hb0 hlit (by simp) hg1
    obtain ⟨A1, c1, rfl, hA1, hc11, hc12⟩ := own_es HL.out hown1
    have HE1 := Lib.hid (show Ens w1 w1.heap.size A1 n l from ⟨HL.out, own_rd hown1⟩)
    have HB1 := Lib.hid hB1
    have hs1 := hB1.size
    have KE := Lib.hid (fun (u : World) (hu : Below w1.heap.size w1 u) => encode_x u w1.heap.size n c1 A1 l (HE1.out.below hu (Nat.le_refl _)) HF.out hu.size (by omega))
    have KT := Lib.hid (fun (u : World) (hu : Below w1.heap.size w1 u) => theirs_x u w.heap.size n c A l (((HH.out.below HB1.out (Nat.le_refl _))).below hu (by omega)) (by have := hu.size; omega) (by omega))
    have KC := Lib.hid (fun (u : World) (hu : Below w1.heap.size w1 u) => check_x u w1.heap.size n c1 A1 l (HE1.out.below hu (Nat.le_refl _)) hu.size (by omega))
    clear hrd hlit hb0 hown1 hg1 hnn1 hB1
    go_wp2_with (fail)
    refine (KE.out w1 (Below.refl _ _)).mono ?_
    rintro e w2 he2
    obtain ⟨Aa, ca, As, cs', rfl, ba, bs, hb2, _⟩ := enc_two he2
    have hs2 := hb2.size
    have HBA := Lib.hid ba
    have HBS := Lib.hid bs
    have HB2 := Lib.hid hb2
    clear ba bs hb2 he2 KE
    go_wp2_with (fail)
    refine (KT.out w2 HB2.out).mono ?_
    rintro e w3 ⟨A3, c3, rfl, ho3, hb3, _, _, _⟩
    have hs3 := hb3.size
    have hy := encode_y w3 w3.heap.size l.length c3 A3 l ⟨rfl, own_rd ho3⟩ HF.out (Nat.le_refl _) (by rw [HL.out]; omega)
    have HY := Lib.hid hy
    have HB3 := Lib.hid (HB2.out.trans (hb3.mono hs2))
    have HA3 := Lib.hid (HBA.out.below hb3 (Nat.le_refl _))
    have HS3 := Lib.hid (HBS.out.below hb3 (Nat.le_refl _))
    clear ho3 hb3 hy
    go_wp2_with (fail)
    refine HY.out.mono ?_
    rintro e w4 he4
    obtain ⟨Ab, cb, At, ct, rfl, bb, bt, hb4, _⟩ := enc_two he4
    have hs4 := hb4.size
    have HB4 := Lib.hid (HB3.out.trans (hb4.mono (by omega)))
    have k0 := conv_string (P := Try.prog) (c := ca) (HA3.out.below hb4 (by omega)) 28 9 5 Try.underlying28 Try.underlying9 Try.underlying5
    have k1 := conv_string (P := Try.prog) (c := cs') (HS3.out.below hb4 (by omega)) 28 9 5 Try.underlying28 Try.underlying9 Try.underlying5
    have k2 := conv_string (P := Try.prog) (c := cb) bb 28 9 5 Try.underlying28 Try.underlying9 Try.underlying5
    have k3 := conv_string (P := Try.prog) (c := ct) bt 28 9 5 Try.underlying28 Try.underlying9 Try.underlying5
    clear bb bt hb4 he4 HY HA3 HS3 HBA HBS
    go_wp2_with (fail)
    clear k0 k1 k2 k3
    refine (KC.out w4 HB4.out).mono ?_
    rintro e w5 ⟨rfl, hb5⟩
    have HB5 := Lib.hid (HB4.out.trans (hb5.mono HB4.out.size))
    clear hb5 KC
    go_wp2_with (fail)
    refine (KT.out w5 HB5.out).mono ?_
    rintro e w6 ⟨A6, c6, rfl, ho6, hb6, _, hq1, hq2⟩
    have HC6 := Lib.hid (check_y w6 w6.heap.size l.length c6 A6 l ⟨rfl, own_rd ho6⟩ (Nat.le_refl _) (by omega))
    have HB6 := Lib.hid (HB5.out.trans (hb6.mono HB5.out.size))
    clear ho6 hb6
    go_wp2_with (fail)
    refine HC6.out.mono ?_
    rintro e w7 ⟨rfl, hb7⟩
    have HB7 := Lib.hid (HB6.out.trans (hb7.mono HB6.out.size))
    clear hb7 HC6
    go_wp2_with (fail)
    refine (KT.out w7 HB7.out).mono ?_
    rintro e w8 ⟨A8, c8, rfl, ho8, hb8, _, _, _⟩
    have HB8 := Lib.hid (HB7.out.trans (hb8.mono HB7.out.size))
    have h8 : Ens w8 w8.heap.size A8 n l := ⟨HL.out, by have := own_rd ho8; rwa [HL.out] at this⟩
    have HS8 := Lib.hid (same_x w8 w1.heap.size n c1 w8.heap.size c8 A1 A8 l (HE1.out.below HB8.out (Nat.le_refl _)) HB8.out.size h8 (Nat.le_refl _) (by omega))
    rw [HL.out]
    clear ho8 hb8 h8
    go_wp2_with (fail)
    refine HS8.out.mono ?_
    rintro e w9 ⟨rfl, hb9⟩
    go_wp2_with (fail)
    go_ret
    exact ⟨rfl, HB1.out.trans ((HB8.out.trans (hb9.mono HB8.out.size)).mono hs1)⟩
end Go.Proofs.Ytcebmlcdhapnkaa.lawIndexEncodes
