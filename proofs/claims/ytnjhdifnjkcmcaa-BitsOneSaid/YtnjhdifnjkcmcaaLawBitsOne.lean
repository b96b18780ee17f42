/-
  The walk of the law BitsOne.
-/
import Derived.Test.YtnjhdifnjkcmcaaUvCodeY
namespace Go.Proofs.Ytnjhdifnjkcmcaa.lawBitsOne
open Go.ChangeShapes Go.WideShapes Go.ChangeAt Go.RowKit plain words uvs uvc

theorem uvarint_x0 (w : World) (V : Nat) (h : lt64 V) : Calls Try.prog 15 #[.slice none 0 0, .int .u64 V] w (RetBytes w (uv V)) :=
  uvarint_x w 0 0 0 none [] V (Rd.nil _ _ _) (Nat.zero_le _) (by omega) h
/-- cut short it is none *-/
theorem ru_short (V : Nat) (h : V < 18446744073709551616) (l : List UInt8) (c : UInt8) (hl : uv V = l ++ [c]) : ru l 0 0 = (0, 0) := by
  apply ru_zero
  by_cases hn : (ru l 0 0).2 = 0
  · exact hn
  · obtain ⟨v, n, e⟩ : ∃ v n, ru l 0 0 = (v, n) := ⟨_, _, rfl⟩
    rw [e] at hn
    obtain ⟨h1, h2, h3⟩ := ru_back0 l v n e hn
    have h4 := ru_uv v (l.drop n ++ [c]) h1
    have h5 := ru_uv V [] h
    rw [← h3, ← List.append_assoc, List.take_append_drop] at h4
    rw [List.append_nil, hl, h4] at h5
    simp at h5
    omega
/-- another byte, and it is not that number *-/
theorem ru_other (V : Nat) (k : Nat) (c : UInt8) (hk : (uv V)[k]? ≠ some c) (hk2 : k < (uv V).length) (y n : Nat) (h : ru ((uv V).set k c) 0 0 = (y, n)) : ¬ (y = V ∧ n = (uv V).length) := by
  rintro ⟨rfl, rfl⟩
  obtain ⟨h1, h2, h3⟩ := ru_back0 _ _ _ h (by have := uv_len y; omega)
  rw [List.take_of_length_le (by simp)] at h3
  apply hk
  rw [← h3]
  simp [hk2]
set_option maxHeartbeats 2000000 in
set_option maxRecDepth 100000 in
theorem walk_core (V : Nat) (a0 : Option Addr) (n c : Nat) (bs : List UInt8) (a2 a3 : Int) (w : World) (h : Bs w w.heap.size a0 n bs) (hA : a0 = none → c = 0) (hn' : n ≤ 4096) (hV : lt64 V) (b3 : 0 ≤ a3 ∧ a3 < 256) (b2 : -9223372036854775808 ≤ a2 ∧ a2 ≤ 9223372036854775807) :
    Calls Try.prog 9 #[.int .u64 V, .slice a0 n c, .int .i64 a2, .int .u8 a3] w fun e w' => e = .returned (.bool true) ∧ Below w.heap.size w w' := by
  obtain ⟨i0, hi, hz0, hz1, hz2⟩ := info_parts infoB
  have hL := uv_len V
  obtain ⟨L, hLe⟩ : ∃ L, L = (uv V).length := ⟨_, rfl⟩
  rw [← hLe] at hL
  have HLE := Lib.hid hLe
  obtain ⟨ht, k, hk, hkm⟩ := at_mod a2 L hL.1 (by omega)
  obtain ⟨ch, hch⟩ : ∃ ch, (uv V)[k]? = some ch := ⟨_, List.getElem?_eq_getElem (by rw [← hLe]; exact hk)⟩
  have HCH := Lib.hid hch
  clear hch hLe
  have hcb := ch.toNat_lt
  go_enter Try.func9, Try.ntmps9
  go_wp2_with fail
  refine (uvarint_x0 _ V hV).mono ?_
  rintro e w1 ⟨A1, cap1, rfl, hown1, hb1⟩
  rw [← HLE.out] at hown1 ⊢
  obtain ⟨g1, rfl, hg1, hg1', hc1, hc1'⟩ := own_pos hown1 (by omega)
  have hrd1 := (own_bs hown1).alloc (Nat.le_refl _) (.cells #[] 5)
  have hown := World.ownsRow_lit (w := w1) (base := w1.heap.size) (e := 5) (size := 1) #[] 0 (Nat.le_refl _) (by simp) rfl
  have hb0 : Below w1.heap.size w1 (w1.alloc (.cells #[] 5)) := (Below.refl _ _).alloc (Nat.le_refl _) _
  have hm1 := h.below hb1 (Nat.le_refl _)
  have hs1 := hb1.size
  go_wp2_with (first | (at_builtin; refine wpList_append_rd rfl (.tmp 23) (.tmp 24) 23 rfl w1.heap.size 5 i0 (.int .u8 0) 1 1 Try.underlying23 hi hz0 hz1 hz2 rfl (by decide) _ 0 [] rfl hown w1.heap.size (some ⟨g1, 0, none⟩) L cap1 (by intro e; cases e) (u8s (uv V)) rfl (by rw [Nat.mul_one]; exact hrd1) (u8s_one _) (by unfold maxLen; omega) (by omega) (by simp) ?_; intro v2 w2 hown2 hg2 hnn2; have hbel2 := own_below hb0 hown (by simp) hg2; simp only [Nat.zero_add, List.nil_append] at hown2; have hlt2 := hbel2.size; obtain ⟨g2, cap2, rfl, hbg2, hgl2, hnc2, hcm2⟩ := own_some hown2 rfl hnn2; clear hg2 hnn2) | (at_builtin; refine wpList_append_rd rfl (.tmp 26) (.tmp 27) 23 rfl w1.heap.size 5 i0 (.int .u8 0) 1 1 Try.underlying23 hi hz0 hz1 hz2 rfl (by decide) (.slice (some ⟨g2, 0, none⟩) L cap2) L (u8s (uv V)) rfl hown2 w.heap.size a0 n c hA (u8s bs) rfl (by rw [Nat.mul_one]; exact hm1.below hbel2 hs1) (u8s_one _) (by unfold maxLen; omega) (by omega) hlt2 ?_; intro v3 w3 hown3 hg3 hnn3; have hbel3 := own_below hbel2 hown2 hlt2 hg3; obtain ⟨g3, cap3, rfl, hbg3, hgl3, hnc3, hcm3⟩ := own_some hown3 rfl hnn3; clear hg3 hnn3))
  rw [← u8s_append] at hown3
  refine (readuv_x _ _ (L + n) cap3 _ (uv V ++ bs) (own_bs hown3) (by omega)).mono ?_
  rintro e w4 ⟨he, rfl⟩
  rw [ru_uv V bs hV, ← HLE.out] at he
  unfold RetNum at he
  subst he
  clear hown3 hown2 hown hrd1 hm1 hb0 hbel2
  have hown4 := own_keep hown1 hbel3 (Nat.le_refl _)
  clear hown1
  obtain ⟨dl, lc, hdl⟩ : ∃ dl lc, uv V = dl ++ [lc] := ⟨(uv V).dropLast, (uv V).getLast (by intro e; have := HLE.out; rw [e] at this; simp at this; omega), (List.dropLast_concat_getLast _).symm⟩
  have hsh := ru_short V hV dl lc hdl
  have hdll : dl.length = L - 1 := by have := HLE.out; rw [hdl] at this; simp at this; omega
  have hbs4 := own_bs hown4
  have hless := Rd.less hbs4 (m := L - 1) (by omega)
  rw [show (u8s (uv V)).take (L - 1) = u8s dl from by
    have e : (u8s (uv V)).take (L - 1) = u8s ((uv V).take (L - 1)) := by simp [u8s, List.map_take]
    rw [e, hdl, ← hdll, List.take_left]] at hless
  have HSH := Lib.hid hsh
  clear hsh hdl hdll hbs4
  obtain ⟨b', hb'⟩ := byte_of ((ch.toNat : Int) + a3)
  have HB' := Lib.hid hb'
  clear hb'
  have hcell4 := (hown4.cellAt k (by omega)).trans (show (u8s (uv V))[k]? = some (.int .u8 (ch.toNat : Int)) from by simp only [u8s, List.getElem?_map, HCH.out]; rfl)
  have hfr4 := hown4.frozenAt k
  go_wp2_with fail
  refine (readuv_x _ _ (L - 1) cap1 _ dl hless (by omega)).mono ?_
  rintro e w4 ⟨he, rfl⟩
  rw [HSH.out] at he
  unfold RetNum at he
  subst he
  clear hless
  go_wp2_with fail
  rw [← HB'.out]
  have hst := (hown4.stored k (.int .u8 (b'.toNat : Int))).1
  rw [u8s_set] at hst
  have hbs5 := own_bs hst
  have hbel5 : Below w.heap.size w (w3.setCell ⟨g1, k, none⟩ (.int .u8 (b'.toNat : Int))) := (hb1.trans (hbel3.mono hs1)).setCell (p := ⟨g1, k, none⟩) hg1 _
  obtain ⟨y, m, hym⟩ : ∃ y m, ru ((uv V).set k b') 0 0 = (y, m) := ⟨_, _, rfl⟩
  have hoth : ¬ a3 = 0 → ¬ (y = V ∧ m = L) := fun hne => by
    have := ru_other V k b' (by rw [HCH.out]; intro e; cases e; have := HB'.out; omega) (by rw [← HLE.out]; exact hk) y m hym
    rw [← HLE.out] at this
    exact this
  have HYM := Lib.hid hym
  clear hym hst hcell4 hfr4 hown4 hkm
  have hcases : a3 = 0 ∨ (¬ a3 = 0 ∧ ((y : Int) == (V : Int)) = false ∧ ((y : Int) != (V : Int)) = true) ∨ (¬ a3 = 0 ∧ y = V ∧ ((m : Int) == (L : Int)) = false ∧ ((m : Int) != (L : Int)) = true) := by
    by_cases h0 : a3 = 0
    · exact .inl h0
    · by_cases h1 : y = V
      · have : m ≠ L := fun e => hoth h0 ⟨h1, e⟩
        exact .inr (.inr ⟨h0, h1, by simp; omega, by simp; omega⟩)
      · exact .inr (.inl ⟨h0, by simp; omega, by simp; omega⟩)
  clear hoth
  rcases hcases with rfl | ⟨h0, h1, h1'⟩ | ⟨h0, rfl, h2, h2'⟩
  · refine (readuv_x _ _ L cap1 _ ((uv V).set k b') hbs5 (by omega)).mono ?_
    rintro e w4 ⟨he, rfl⟩
    rw [HYM.out] at he
    unfold RetNum at he
    subst he
    go_wp2_with fail
    go_ret
    exact ⟨rfl, hbel5⟩
  · have h0' : (a3 == 0) = false := by simpa using h0
    refine (readuv_x _ _ L cap1 _ ((uv V).set k b') hbs5 (by omega)).mono ?_
    rintro e w4 ⟨he, rfl⟩
    rw [HYM.out] at he
    unfold RetNum at he
    subst he
    go_wp2_with fail
    go_ret
    exact ⟨rfl, hbel5⟩
  · have h0' : (a3 == 0) = false := by simpa using h0
    refine (readuv_x _ _ L cap1 _ ((uv y).set k b') hbs5 (by omega)).mono ?_
    rintro e w4 ⟨he, rfl⟩
    rw [HYM.out] at he
    unfold RetNum at he
    subst he
    go_wp2_with fail
    go_ret
    exact ⟨rfl, hbel5⟩

theorem walk_ok (a0 : Int) (a1 : Option Addr) (len1 cap1 : Nat) (z1 : List Int) (a2 a3 : Int) (w : World) (w0 : (Lit.int .u64 a0).wf = true) (w1 : IsRow .u8 w a1 len1 cap1 z1) (w2 : (Lit.int .i64 a2).wf = true) (w3 : (Lit.int .u8 a3).wf = true) :
    Calls Try.prog 9 #[.int .u64 a0, .slice a1 len1 cap1, .int .i64 a2, .int .u8 a3] w fun e w' => e = .returned (.bool true) ∧ Below w.heap.size w w' := by
  obtain ⟨bs, hbs, hm, hc, hA⟩ := w1.bytes
  have b0 := wf_u64 w0
  have b2 := wf_i64 w2
  have b3 := wf_u8 w3
  unfold maxLen at hm hc
  obtain ⟨V, rfl⟩ := Int.eq_ofNat_of_zero_le b0.1
  have hV : lt64 V := by unfold lt64; omega
  clear b0 w0
  by_cases h1 : len1 ≤ 4096
  · exact walk_core V a1 len1 cap1 bs a2 a3 w hbs hA h1 hV b3 b2
  · go_enter Try.func9, Try.ntmps9
    go_wp2_with fail
    go_ret
    exact ⟨rfl, Below.refl _ _⟩
end Go.Proofs.Ytnjhdifnjkcmcaa.lawBitsOne
