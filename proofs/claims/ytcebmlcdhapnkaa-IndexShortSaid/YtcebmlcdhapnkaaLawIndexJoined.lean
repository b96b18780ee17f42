/-
  The walk of the law IndexJoined.
-/
import Derived.Test.YtcebmlcdhapnkaaIdxLaw
namespace Go.Proofs.Ytcebmlcdhapnkaa.lawIndexJoined
open Go.ChangeShapes Go.WideShapes Go.ChangeAt Go.RowKit plain words ord mem uvs uvc idx

/-- entries that pass pass in parts *-/
theorem check_parts (a b : List En) (p : Option ByteArray) (h : checkF p (a ++ b) = 0) : checkF p a = 0 ∧ checkF none b = 0 := by
  induction a generalizing p with
  | nil =>
    refine ⟨rfl, ?_⟩
    cases b with
    | nil => rfl
    | cons x b =>
      rw [List.nil_append, checkF_cons] at h
      rw [checkF_cons]
      split at h
      · cases h
      · rename_i h1
        rw [if_neg h1]
        split at h
        · cases h
        · rename_i h2
          rw [if_neg h2]
          split at h
          · cases h
          · rw [if_neg (by simp [after])]; exact h
  | cons x a ih =>
    rw [List.cons_append, checkF_cons] at h
    rw [checkF_cons]
    split at h
    · cases h
    · rename_i h1
      rw [if_neg h1]
      split at h
      · cases h
      · rename_i h2
        rw [if_neg h2]
        split at h
        · cases h
        · rename_i h3
          rw [if_neg h3]
          exact ih _ h
theorem ens_rest {w : World} {B n : Nat} {ad : Addr} {l : List En} (h : Ens w B (some ad) n l) (k : Nat) (hk : k ≤ n) : Ens w B (some (ad.add (k * 4))) (n - k) (l.drop k) := by
  refine ⟨by rw [List.length_drop, h.1], ?_⟩
  by_cases e : k = n
  · subst e
    rw [List.drop_of_length_le (by rw [h.1]; exact Nat.le_refl _), Nat.sub_self]
    exact Rd.nil _ _ _
  · obtain ⟨b, off, e2, _⟩ := Rd.some_of h.2 (show 0 < n * 4 by omega)
    cases e2
    rw [words.add_plain, ← cs_drop eE_len, Nat.sub_mul]
    exact rd_dropped h.2 (Nat.mul_le_mul_right _ hk)
theorem ens_empty {w : World} {B n k : Nat} {A A' : Option Addr} {l : List En} (h : Ens w B A n l) (hk : n ≤ k) : Ens w B A' (n - k) (l.drop k) := by
  rw [List.drop_of_length_le (by rw [h.1]; exact hk), show n - k = 0 from by omega]
  exact Ens.none0 _ _ _
theorem bytes_add (a b : List UInt8) : (⟨a.toArray⟩ : ByteArray) ++ ⟨b.toArray⟩ = ⟨(a ++ b).toArray⟩ := by
  apply ByteArray.ext
  rw [ByteArray.data_append]
  simp
theorem sum_nil {l : List En} (h : checkE l = 0) : (smB l = []) ↔ l = [] := by
  rw [show smB l = sumB l from if_pos h]
  constructor
  · intro e
    cases l with
    | nil => rfl
    | cons x l =>
      exfalso
      have h1 : sumT (x :: l) 1 = txt x.1 ++ uv 0 := by simp [sumT, idxB]
      have h2 : ∀ k, 1 ≤ k → sumT (x :: l) k ≠ [] := by
        intro k hk
        induction k with
        | zero => omega
        | succ k ih =>
          by_cases e0 : k = 0
          · subst e0
            rw [h1]
            have := uv_len 0
            intro e
            have e2 := congrArg List.length e
            simp only [List.length_append, List.length_nil] at e2
            omega
          · simp only [sumT]
            intro e
            exact ih (by omega) (List.append_eq_nil_iff.1 e).1
      exact h2 _ (by simp) e
  · rintro rfl
    rfl

set_option maxHeartbeats 4000000 in
set_option maxRecDepth 100000 in
theorem walk_ok (A : Option Addr) (n c : Nat) (at_ : Int) (w : World) (h0 : IsEns w A n c) (w1 : (Lit.int .i64 at_).wf = true) :
    Calls Try.prog 8 #[.slice A n c, .int .i64 at_] w fun e w' => e = .returned (.bool true) ∧ Below w.heap.size w w' := by
  obtain ⟨l, h, hF, hc1, hc2, hA⟩ := h0
  unfold maxLen at hc2
  have HV := Lib.hid (heavy_x w w.heap.size n c A l h (by omega))
  have HH := Lib.hid h
  have HF := Lib.hid hF
  have HL := Lib.hid h.1
  clear h hF w1
  go_enter Try.func8, Try.ntmps8
  go_wp2_with (fail)
  refine HV.out.mono ?_
  rintro e wh ⟨b, rfl, hhb, rfl⟩
  clear HV
  cases b with
  | true =>
    go_wp2_with (fail)
    go_ret
    exact ⟨rfl, Below.refl _ _⟩
  | false =>
    have hn : n ≤ 16384 := hhb rfl
    clear hhb
    have KE := Lib.hid (encode_x w w.heap.size n c A l HH.out HF.out (Nat.le_refl _) (by omega))
    have KT := Lib.hid (fun (u : World) (hu : Below w.heap.size w u) => theirs_x u w.heap.size n c A l (HH.out.below hu (Nat.le_refl _)) hu.size (by omega))
    go_wp2_with (fail)
    refine KE.out.mono ?_
    rintro e w2 he2
    obtain ⟨Aa, ca, As, cs', rfl, ba, bs, hb2, _⟩ := enc_two he2
    have hs2 := hb2.size
    have HBA := Lib.hid ba
    have HB2 := Lib.hid hb2
    clear ba bs hb2 he2 KE
    go_wp2_with (fail)
    refine (KT.out w2 HB2.out).mono ?_
    rintro e w3 ⟨A3, c3, rfl, ho3, hb3, _, _, _⟩
    have hs3 := hb3.size
    have HY := Lib.hid (check_y w3 w3.heap.size l.length c3 A3 l ⟨rfl, own_rd ho3⟩ (Nat.le_refl _) (by rw [HL.out]; omega))
    have HB3 := Lib.hid (HB2.out.trans (hb3.mono hs2))
    have HA3 := Lib.hid (HBA.out.below hb3 (Nat.le_refl _))
    clear ho3 hb3 KT HBA
    go_wp2_with (fail)
    refine HY.out.mono ?_
    rintro e w4 ⟨rfl, hb4⟩
    have hs4 := hb4.size
    have HB4 := Lib.hid (HB3.out.trans (hb4.mono (by omega)))
    have HA4 := Lib.hid (HA3.out.below hb4 hs3)
    clear hb4 HY HA3
    by_cases hok : checkE l = 0
    · have hsn := sum_nil hok
      have hEn : encB l = idxB l := if_pos hok
      rw [hEn] at HA4 ⊢
      rw [hok]
      obtain ⟨⟨t1, t2⟩, k, hk2, hkm⟩ := at_mod at_ (n + 1) (by omega) (by omega)
      simp only [Int.natCast_add, Int.cast_ofNat_Int, Int.natCast_one] at t1 t2 hkm
      rw [← Int.add_assoc] at hkm
      have hv1 : IntKind.i64.wrap ((n : Int) + 1) = (n : Int) + 1 := IntWalk.i64_in _ (by omega)
      have hv2 : IntKind.i64.wrap (at_.tmod ((n : Int) + 1)) = at_.tmod ((n : Int) + 1) := IntWalk.i64_in _ (by omega)
      have hv3 : IntKind.i64.wrap (at_.tmod ((n : Int) + 1) + n) = at_.tmod ((n : Int) + 1) + n := IntWalk.i64_in _ (by omega)
      have hv4 : IntKind.i64.wrap (at_.tmod ((n : Int) + 1) + n + 1) = at_.tmod ((n : Int) + 1) + n + 1 := IntWalk.i64_in _ (by omega)
      have hv5 : IntKind.i64.wrap ((k : Int)) = (k : Int) := IntWalk.i64_in _ (by omega)
      have hnz : ((n : Int) + 1 == 0) = false := by simp; omega
      have hk3 : (k : Int) ≤ (n : Int) := by omega
      have hk4 : (0 : Int) ≤ (k : Int) := by omega
      have hk5 : (k : Int) ≤ (c : Int) := by omega
      have hk6 : (n : Int) ≤ (c : Int) := by omega
      obtain ⟨ck1, ck2⟩ := check_parts (l.take k) (l.drop k) none (by rw [List.take_append_drop]; exact hok)
      have hE1 : encB (l.take k) = idxB (l.take k) := if_pos ck1
      have hE2 : encB (l.drop k) = idxB (l.drop k) := if_pos ck2
      have hsum : idxB l = idxB (l.take k) ++ idxB (l.drop k) := by
        conv => lhs; rw [← List.take_append_drop k l]
        simp only [idxB, List.flatMap_append]
      have hlen1 := idxB_len l (fun x hx => (checkF_ok l none hok x hx).1.2)
      rw [HL.out] at hlen1
      have KE1 := Lib.hid (fun (u : World) (hu : Below w.heap.size w u) => encode_x u w.heap.size k c A (l.take k) ((HH.out.take k (by omega)).below hu (Nat.le_refl _)) (fun x hx => HF.out x (List.mem_of_mem_take hx)) hu.size (by omega))
      have KE2 := Lib.hid (fun (u : World) (hu : Below w.heap.size w u) (A' : Option Addr) (c' : Nat) (he : Ens w w.heap.size A' (n - k) (l.drop k)) => encode_x u w.heap.size (n - k) c' A' (l.drop k) (he.below hu (Nat.le_refl _)) (fun x hx => HF.out x (List.mem_of_mem_drop hx)) hu.size (by omega))
      have HSUM := Lib.hid hsum
      have HCK1 := Lib.hid ck1
      have HCK2 := Lib.hid ck2
      have HSN := Lib.hid hsn
      have hN1 := List.length_take_le k l
      have hlt1 := idxB_len (l.take k) (fun x hx => (checkF_ok l none hok x (List.mem_of_mem_take hx)).1.2)
      have hlt2 := idxB_len (l.drop k) (fun x hx => (checkF_ok l none hok x (List.mem_of_mem_drop hx)).1.2)
      have hN2 : (l.drop k).length ≤ n := by rw [List.length_drop, HL.out]; omega
      obtain ⟨X, hX⟩ : ∃ X, idxB l = X := ⟨_, rfl⟩
      obtain ⟨Y, hY⟩ : ∃ Y, idxB (l.take k) = Y := ⟨_, rfl⟩
      obtain ⟨Z, hZ⟩ : ∃ Z, idxB (l.drop k) = Z := ⟨_, rfl⟩
      rw [hX, hY, hZ] at HSUM
      rw [hX] at HA4 ⊢
      rw [hY] at hE1 hlt1
      rw [hZ] at hE2 hlt2
      have hYL : Y.length ≤ 1000000 := by omega
      have hZL : Z.length ≤ 1000000 := by omega
      have HE1 := Lib.hid hE1
      have HE2 := Lib.hid hE2
      clear hsum ck1 ck2 hsn hlt1 hlt2 hN1 hN2 hX hY hZ hlen1 hEn hE1 hE2
      rcases A with _ | ad
      case' none =>
        obtain rfl : c = 0 := hA rfl
        obtain rfl : n = 0 := by omega
        obtain rfl : k = 0 := by omega
      all_goals
        go_wp2_with (fail)
        refine (KE1.out w4 HB4.out).mono ?_
        rintro e w5 he5
        obtain ⟨Ab, cb, At, ct, rfl, bb, bt, hb5, _⟩ := enc_two he5
        have hs5 := hb5.size
        rw [HE1.out] at bb ⊢
        have HB5 := Lib.hid (HB4.out.trans (hb5.mono HB4.out.size))
        have HA5 := Lib.hid (HA4.out.below hb5 (by omega))
        have HBB := Lib.hid bb
        rw [show checkE (l.take _) = 0 from HCK1.out]
        clear bb bt hb5 he5 HA4 KE1
        go_wp2_with (fail)
      all_goals
        refine (KE2.out w5 HB5.out _ _ (by first | exact ens_rest HH.out _ (by omega) | exact ens_empty HH.out (by omega))).mono ?_
        rintro e w6 he6
        obtain ⟨Ac, cc, Av, cv, rfl, bc, bv, hb6, _⟩ := enc_two he6
        have hs6 := hb6.size
        rw [HE2.out] at bc ⊢
        have HB6 := Lib.hid (HB5.out.trans (hb6.mono HB5.out.size))
        rw [show checkE (l.drop _) = 0 from HCK2.out]
        have k0 := conv_string (P := Try.prog) (c := ca) (HA5.out.below hb6 (by omega)) 28 9 5 Try.underlying28 Try.underlying9 Try.underlying5
        have k1 := conv_string (P := Try.prog) (c := cb) (HBB.out.below hb6 (by omega)) 28 9 5 Try.underlying28 Try.underlying9 Try.underlying5
        have k2 := conv_string (P := Try.prog) (c := cc) bc 28 9 5 Try.underlying28 Try.underlying9 Try.underlying5
        have hyz : ((⟨Y.toArray⟩ : ByteArray) ++ ⟨Z.toArray⟩).toList = X := by rw [bytes_add, HSUM.out]; simp
        have hq : (((smB l).length : Int) == 0) = decide (l = []) := by
          rw [Bool.eq_iff_iff]
          simp
          exact HSN.out
        cases hd : decide (l = []) with
        | true =>
          rw [hd] at hq
          have hl0 : l = [] := by simpa using hd
          have hn0 : ((l.length : Int) == 0) = true := by rw [hl0]; rfl
          rw [HL.out] at hn0
          clear bc bv hb6 he6 HA5 HBB KE2 hd hl0
          go_wp2_with (fail)
          go_ret
          exact ⟨rfl, HB6.out⟩
        | false =>
          rw [hd] at hq
          have hl0 : l ≠ [] := by simpa using hd
          have hn0 : ((l.length : Int) == 0) = false := by simpa using hl0
          rw [HL.out] at hn0
          first
            | (exfalso; simp at hn0; done)
            | (clear bc bv hb6 he6 HA5 HBB KE2 hd hl0
               go_wp2_with (fail)
               go_ret
               exact ⟨rfl, HB6.out⟩)
    · have hnz : (checkE l == 0) = false := by simpa using hok
      rw [show encB l = [] from if_neg hok, show smB l = [] from if_neg hok]
      clear HA4
      go_wp2_with (fail)
      go_ret
      exact ⟨by simp, HB4.out⟩
end Go.Proofs.Ytcebmlcdhapnkaa.lawIndexJoined
