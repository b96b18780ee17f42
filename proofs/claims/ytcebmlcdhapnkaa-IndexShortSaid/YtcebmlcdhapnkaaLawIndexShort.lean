/-
  The walk of the law IndexShort.
-/
import Derived.Test.YtcebmlcdhapnkaaIdxListX
import Derived.Test.YtcebmlcdhapnkaaIdxBack
import Derived.Test.YtcebmlcdhapnkaaLawIndexJoined
namespace Go.Proofs.Ytcebmlcdhapnkaa.lawIndexShort
open Go.ChangeShapes Go.WideShapes Go.ChangeAt Go.RowKit plain words ord mem uvs uvc idx

theorem cut_e (l : List En) (m k : Nat) (x : En) (hok : checkE l = 0) (hF : ∀ x ∈ l, FitE x) (hm : l.length = m + 1) (hx : l[m]? = some x) (hk : k < (oneE x).length) :
    lsE ((idxB l).take ((idxB (l.take m)).length + 1 + k)) = if k + 1 = (oneE x).length then 0 else 50 := by
  have hO := okE_of hok hF
  have hX : idxB l = idxB (l.take m) ++ oneE x := by
    have := idxB_take hx
    rwa [List.take_of_length_le (by omega)] at this
  have hT : (idxB l).take ((idxB (l.take m)).length + 1 + k) = idxB (l.take m) ++ (oneE x).take (k + 1) := by
    rw [hX, show (idxB (l.take m)).length + 1 + k = (idxB (l.take m)).length + (k + 1) from by omega, List.take_length_add_append]
  rw [hT]
  by_cases e : k + 1 = (oneE x).length
  · rw [if_pos e, e, List.take_length, ← hX]
    exact (ls_ok (lst_back l hO) hok).2
  · rw [if_neg e]
    exact (ls_none (lst_cut (l.take m) (fun y hy => hO y (List.mem_of_mem_take hy)) x (hO x (List.mem_of_getElem? hx)) (k + 1) (by omega) (by omega))).2
set_option maxHeartbeats 4000000 in
set_option maxRecDepth 100000 in
theorem walk_ok (A : Option Addr) (n c : Nat) (at_ : Int) (w : World) (h0 : IsEns w A n c) (w1 : (Lit.int .i64 at_).wf = true) :
    Calls Try.prog 12 #[.slice A n c, .int .i64 at_] w fun e w' => e = .returned (.bool true) ∧ Below w.heap.size w w' := by
  obtain ⟨l, h, hF, hc1, hc2, hA⟩ := h0
  unfold maxLen at hc2
  have HV := Lib.hid (heavy_x w w.heap.size n c A l h (by omega))
  have HH := Lib.hid h
  have HF := Lib.hid hF
  have HL := Lib.hid h.1
  clear h hF w1
  go_enter Try.func12, Try.ntmps12
  go_wp2_with (fail)
  refine HV.out.mono ?_
  rintro e wh ⟨b, rfl, hhb, rfl⟩
  clear HV
  cases b with
  | true =>
    go_wp2_with (fail)
    go_ret
    exact ⟨rfl, Below.refl _ _⟩
  | false =>
    have hn : n ≤ 16384 := hhb rfl
    clear hhb
    by_cases hn0 : n = 0
    · have hz : ((n : Int) == 0) = true := by simp; omega
      go_wp2_with (fail)
      go_ret
      exact ⟨rfl, Below.refl _ _⟩
    · have hz : ((n : Int) == 0) = false := by simp; omega
      have KE := Lib.hid (encode_x w w.heap.size n c A l HH.out HF.out (Nat.le_refl _) (by omega))
      have KT := Lib.hid (fun (u : World) (hu : Below w.heap.size w u) => theirs_x u w.heap.size n c A l (HH.out.below hu (Nat.le_refl _)) hu.size (by omega))
      go_wp2_with (fail)
      refine KE.out.mono ?_
      rintro e w2 he2
      obtain ⟨Aa, ca, As, cs', rfl, ba, bs, hb2, hca1, hca2, _⟩ := enc_two he2
      have hs2 := hb2.size
      have HBA := Lib.hid ba
      have HB2 := Lib.hid hb2
      have HCA := Lib.hid hca1
      clear ba bs hb2 he2 KE hca1
      go_wp2_with (fail)
      refine (KT.out w2 HB2.out).mono ?_
      rintro e w3 ⟨A3, c3, rfl, ho3, hb3, _, _, _⟩
      have hs3 := hb3.size
      have HY := Lib.hid (check_y w3 w3.heap.size l.length c3 A3 l ⟨rfl, own_rd ho3⟩ (Nat.le_refl _) (by rw [HL.out]; omega))
      have HB3 := Lib.hid (HB2.out.trans (hb3.mono hs2))
      have HA3 := Lib.hid (HBA.out.below hb3 (Nat.le_refl _))
      clear ho3 hb3 KT HBA
      go_wp2_with (fail)
      refine HY.out.mono ?_
      rintro e w4 ⟨rfl, hb4⟩
      have hs4 := hb4.size
      have HB4 := Lib.hid (HB3.out.trans (hb4.mono (by omega)))
      have HA4 := Lib.hid (HA3.out.below hb4 hs3)
      clear hb4 HY HA3
      by_cases hok : checkE l = 0
      · have hEn : encB l = idxB l := if_pos hok
        rw [hEn] at HA4 HCA ⊢
        rw [hok]
        obtain ⟨m, hm⟩ : ∃ m, n = m + 1 := ⟨n - 1, by omega⟩
        subst hm
        have hwm : IntKind.i64.wrap (((m + 1 : Nat) : Int) - 1) = (m : Int) := by rw [IntWalk.i64_in _ (by omega)]; omega
        have hwm2 : IntKind.i64.wrap ((m : Int) + 1 - 1) = (m : Int) := by rw [IntWalk.i64_in _ (by omega)]; omega
        obtain ⟨x, hx⟩ : ∃ x, l[m]? = some x := ⟨_, List.getElem?_eq_getElem (by rw [HL.out]; omega)⟩
        have hX : idxB l = idxB (l.take m) ++ oneE x := by
          have := idxB_take hx
          rwa [List.take_of_length_le (by rw [HL.out]; exact Nat.le_refl _)] at this
        have hXl := congrArg List.length hX
        rw [List.length_append] at hXl
        have hd4 := one_pos x
        obtain ⟨d, hd⟩ : ∃ d, (oneE x).length = d := ⟨_, rfl⟩
        have hlen1 := idxB_len l (fun x hx => (checkF_ok l none hok x hx).1.2)
        rw [HL.out] at hlen1
        have hck := (lawIndexJoined.check_parts (l.take m) (l.drop m) none (by rw [List.take_append_drop]; exact hok)).1
        have hO := okE_of hok HF.out
        have HLE := Lib.hid (fun k hk => cut_e l m k x hok HF.out HL.out hx (by rw [hd]; exact hk))
        have hlb := ls_ok (lst_back (l.take m) (fun y hy => hO y (List.mem_of_mem_take hy))) hck
        rw [hd] at hXl hd4 HLE
        have hE1 : encB (l.take m) = idxB (l.take m) := if_pos hck
        have hlm : (lsB (idxB (l.take m))).length = m := by rw [hlb.1, List.length_take, HL.out]; omega
        have hlE := hlb.2
        obtain ⟨X, hX'⟩ : ∃ X, idxB l = X := ⟨_, rfl⟩
        obtain ⟨Y, hY'⟩ : ∃ Y, idxB (l.take m) = Y := ⟨_, rfl⟩
        rw [hX'] at HA4 HCA HLE hXl hlen1 ⊢
        rw [hY'] at HLE hXl hE1 hlm hlE
        obtain ⟨⟨t1, t2⟩, k, hk2, hkm⟩ := at_mod at_ d (by omega) (by omega)
        have hv0 : IntKind.i64.wrap ((X.length : Int) - (Y.length : Int)) = (d : Int) := by rw [IntWalk.i64_in _ (by omega)]; omega
        have hv1 : IntKind.i64.wrap (at_.tmod (d : Int)) = at_.tmod (d : Int) := IntWalk.i64_in _ (by omega)
        have hv2 : IntKind.i64.wrap (at_.tmod (d : Int) + (X.length : Int)) = at_.tmod (d : Int) + (X.length : Int) := IntWalk.i64_in _ (by omega)
        have hv3 : IntKind.i64.wrap (at_.tmod (d : Int) + (X.length : Int) - (Y.length : Int)) = at_.tmod (d : Int) + (d : Int) := by rw [IntWalk.i64_in _ (by omega)]; omega
        have hv5 : IntKind.i64.wrap ((k : Int)) = (k : Int) := IntWalk.i64_in _ (by omega)
        have hv6 : IntKind.i64.wrap ((Y.length : Int) + 1) = (Y.length : Int) + 1 := IntWalk.i64_in _ (by omega)
        obtain ⟨M, hM⟩ : ∃ M, Y.length + 1 + k = M := ⟨_, rfl⟩
        have hv7 : IntKind.i64.wrap ((Y.length : Int) + 1 + (k : Int)) = (M : Int) := by rw [IntWalk.i64_in _ (by omega)]; omega
        have hdz : ((d : Int) == 0) = false := by simp; omega
        have hca : X.length ≤ ca := HCA.out
        have hMX : M ≤ X.length := by omega
        have i1 : (0 : Int) ≤ (M : Int) := by omega
        have i2 : (M : Int) ≤ (ca : Int) := by omega
        have i3 : ¬ (X.length : Int) ≤ (Y.length : Int) := by omega
        have i4 : (0 : Int) ≤ (m : Int) := by omega
        have i5 : (m : Int) ≤ (c : Int) := by omega
        have HLEk := Lib.hid (HLE.out k hk2)
        rw [hM] at HLEk
        obtain ⟨z, hzz⟩ : ∃ z : Int, (if k + 1 = d then (0 : Int) else 50) = z := ⟨_, rfl⟩
        rw [hzz] at HLEk
        have HZ := Lib.hid hzz
        clear hzz
        have hYl : Y.length ≤ 1000000 := by omega
        have hXl2 : X.length ≤ 1000000 := by omega
        have hMd : (k + 1 = d) ↔ M = X.length := by omega
        have HMD := Lib.hid hMd
        have HLM := Lib.hid hlm
        have HLQ := Lib.hid hlE
        have HE1 := Lib.hid hE1
        have HCK := Lib.hid hck
        have KE1 := Lib.hid (fun (u : World) (hu : Below w.heap.size w u) => encode_x u w.heap.size m c A (l.take m) ((HH.out.take m (by omega)).below hu (Nat.le_refl _)) (fun x hx => HF.out x (List.mem_of_mem_take hx)) hu.size (by omega))
        obtain ⟨b, off, rfl, hbB⟩ := Rd.some_of HH.out.2 (show 0 < (m + 1) * 4 by omega)
        obtain ⟨b2, off2, rfl, hbB2⟩ := Rd.some_of HA4.out (show 0 < X.length by omega)
        clear hX hXl hd hlen1 hck hO hlb hE1 hlm hlE hX' hY' hEn t1 t2 hM hx HLE hMd HCA hok
        go_wp2_with (fail)
        refine (KE1.out w4 HB4.out).mono ?_
        rintro e w5 he5
        obtain ⟨Ab, cb, At, ct, rfl, bb, bt, hb5, hcb1, hcb2, _⟩ := enc_two he5
        have hs5 := hb5.size
        rw [HE1.out] at bb hcb1 ⊢
        have HB5 := Lib.hid (HB4.out.trans (hb5.mono HB4.out.size))
        have HA5 := Lib.hid (HA4.out.below hb5 (by omega))
        have HBB := Lib.hid bb
        have KX := Lib.hid (list_x w5 w2.heap.size M ca (some ⟨b2, off2, none⟩) (X.take M) (bs_less HA5.out hMX) (by omega) (by omega) hca2 (by omega))
        clear bb bt hb5 he5 HA4 KE1
        go_wp2_with (fail)
        refine KX.out.mono ?_
        rintro e w6 ⟨A6, c6, rfl, he6, hb6⟩
        rw [HLEk.out]
        have HB6 := Lib.hid (HB5.out.trans (hb6.mono HB5.out.size))
        have hs6 := hb6.size
        have KY := Lib.hid (list_x w6 w5.heap.size Y.length cb Ab Y (HBB.out.below hb6 (Nat.le_refl _)) hs6 hcb1 hcb2 (by omega))
        clear hb6 he6 KX
        go_wp2_with (fail)
        refine KY.out.mono ?_
        rintro e w7 ⟨A7, c7, rfl, he7, hb7⟩
        rw [HLM.out, HLQ.out]
        have HB7 := Lib.hid (HB6.out.trans (hb7.mono HB6.out.size))
        clear hb7 he7 KY
        by_cases hkd : k + 1 = d
        · have hMe : ((M : Int) == (X.length : Int)) = true := by have := HMD.out.1 hkd; simp; omega
          obtain rfl : (0 : Int) = z := by rw [← HZ.out, if_pos hkd]
          clear hkm hv7
          go_wp2_with (fail)
          go_ret
          exact ⟨by simp, HB7.out⟩
        · have hMe : ((M : Int) == (X.length : Int)) = false := by
            have : M ≠ X.length := fun e => hkd (HMD.out.2 e)
            simp; omega
          obtain rfl : (50 : Int) = z := by rw [← HZ.out, if_neg hkd]
          clear hkm hv7
          go_wp2_with (fail)
          go_ret
          exact ⟨by simp, HB7.out⟩
      · have hnz : (checkE l == 0) = false := by simpa using hok
        rw [show encB l = [] from if_neg hok]
        clear HA4 HCA
        go_wp2_with (fail)
        go_ret
        exact ⟨by simp, HB4.out⟩
end Go.Proofs.Ytcebmlcdhapnkaa.lawIndexShort
