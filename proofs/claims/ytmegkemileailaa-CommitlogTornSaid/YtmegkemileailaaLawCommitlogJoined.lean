/-
  The walk of the law CommitlogJoined.
-/
import Derived.Test.YtmegkemileailaaClDy
import Derived.Test.YtmegkemileailaaClSm
namespace Go.Proofs.Ytmegkemileailaa.lawCommitlogJoined
open Go.ChangeShapes Go.WideShapes Go.ChangeAt Go.RowKit plain words ord mem uvs uvc cl

theorem joined (a b : By) : dec (a.take (dec a).2 ++ b) = ((dec a).1 ++ (dec b).1, (dec a).2 + (dec b).2) := by
  obtain ⟨h1, h2, h3, _⟩ := dec_form a.length a (Nat.le_refl _)
  have hl : (encs (dec a).1).length = (dec a).2 := by rw [← h2, List.length_take]; omega
  rw [h2, dec_encs _ h3, hl]
theorem enc_pos (r : Rec) : 0 < (enc r).length := by
  unfold enc
  have := uv_len (body r).length
  simp only [List.length_append]
  omega
theorem encs_len (l : List Rec) : l.length ≤ (encs l).length := by
  induction l with
  | nil => simp
  | cons r l ih =>
    rw [encs_cons, List.length_append, List.length_cons]
    have := enc_pos r
    omega
theorem dec_few (b : By) : (dec b).1.length ≤ b.length := by
  obtain ⟨h1, h2, _, _⟩ := dec_form b.length b (Nat.le_refl _)
  have := encs_len (dec b).1
  rw [← h2, List.length_take] at this
  omega
set_option maxHeartbeats 8000000 in
set_option maxRecDepth 100000 in
theorem walk_ok (A1 : Option Addr) (n1 c1 : Nat) (z1 : List Int) (A2 : Option Addr) (n2 c2 : Nat) (z2 : List Int) (w : World) (h1 : IsRow .u8 w A1 n1 c1 z1) (h2 : IsRow .u8 w A2 n2 c2 z2) :
    Calls Try.prog 3 #[.slice A1 n1 c1, .slice A2 n2 c2] w fun e w' => e = .returned (.bool true) ∧ Below w.heap.size w w' := by
  obtain ⟨a, ha, hm1, hc1, hA1⟩ := h1.bytes
  obtain ⟨b, hb, hm2, hc2, hA2⟩ := h2.bytes
  obtain ⟨hc1, hc1m⟩ := hc1
  obtain ⟨hc2, hc2m⟩ := hc2
  unfold maxLen at hc1m hc2m
  clear h1 h2 hm1 hm2
  have ka := ha.len_
  have kb := hb.len_
  by_cases g1 : 4096 < n1
  · have m1 : (4096 : Int) < (n1 : Int) := by omega
    clear ha hb ka kb
    go_enter Try.func3, Try.ntmps3
    go_wp2_with fail
    go_ret
    exact ⟨rfl, Below.refl _ _⟩
  have m1 : ¬ (4096 : Int) < (n1 : Int) := by omega
  by_cases g2 : 4096 < n2
  · have m2 : (4096 : Int) < (n2 : Int) := by omega
    clear ha hb ka kb
    go_enter Try.func3, Try.ntmps3
    go_wp2_with fail
    go_ret
    exact ⟨rfl, Below.refl _ _⟩
  have m2 : ¬ (4096 : Int) < (n2 : Int) := by omega
  obtain ⟨i0, hi, hz0, hz1, hz2⟩ := info_parts mem.infoB
  have hform := dec_form a.length a (Nat.le_refl _)
  have hN := hform.1
  rw [ka] at hN
  have fa := dec_few a
  have fb := dec_few b
  rw [ka] at fa
  rw [kb] at fb
  have HA := Lib.hid ha
  have HB := Lib.hid hb
  have KA := Lib.hid ka
  have KB := Lib.hid kb
  have JO := Lib.hid (joined a b)
  have D1 := decode_x w w.heap.size n1 c1 A1 a ha hA1 (Nat.le_refl _) hc1 (by omega) (by omega)
  unfold RetDec at D1
  obtain ⟨L, hL⟩ : ∃ L, (dec a).1 = L := ⟨_, rfl⟩
  obtain ⟨N, hNn⟩ : ∃ N, (dec a).2 = N := ⟨_, rfl⟩
  obtain ⟨M, hM⟩ : ∃ L, (dec b).1 = L := ⟨_, rfl⟩
  obtain ⟨K, hK⟩ : ∃ N, (dec b).2 = N := ⟨_, rfl⟩
  have hbf := (dec_form b.length b (Nat.le_refl _)).1
  rw [kb, hK] at hbf
  rw [hL] at fa
  rw [hM] at fb
  obtain ⟨nl, hnl⟩ : ∃ k, L.length = k := ⟨_, rfl⟩
  obtain ⟨nm, hnm⟩ : ∃ k, M.length = k := ⟨_, rfl⟩
  rw [hL, hNn, hnl] at D1
  rw [hnl] at fa
  rw [hnm] at fb
  have HNL := Lib.hid hnl
  have HNM := Lib.hid hnm
  rw [hNn] at hN
  rw [hL, hNn, hM, hK] at JO
  have D1 := Lib.hid D1
  have EL := Lib.hid (And.intro hL (And.intro hNn (And.intro hM hK)))
  clear ha hb ka kb hform hL hNn hM hK hnl hnm
  go_enter Try.func3, Try.ntmps3
  go_wp2_with fail
  refine D1.out.mono ?_
  rintro e w1 ⟨AL, cL, rfl, hoL, hb1⟩
  have OL := Lib.hid hoL
  have B1 := Lib.hid hb1
  have hs1 := hb1.size
  have D2 := decode_x w1 w.heap.size n2 c2 A2 b (HB.out.below hb1 (Nat.le_refl _)) hA2 hs1 hc2 (by omega) (by omega)
  unfold RetDec at D2
  rw [EL.out.2.2.1, EL.out.2.2.2, HNM.out] at D2
  have D2 := Lib.hid D2
  clear hoL hb1 D1
  go_wp2_with fail
  refine D2.out.mono ?_
  rintro e w2 ⟨AM, cM, rfl, hoM, hb2⟩
  have OM := Lib.hid hoM
  have OL2 := Lib.hid (OL.out.below hb2 (Nat.le_refl _))
  have B2 := Lib.hid (B1.out.trans (hb2.mono hs1))
  have hs2 : w.heap.size ≤ w2.heap.size := B2.out.size
  have hb0 : Below w2.heap.size w2 (w2.alloc (.cells #[] 5)) := (Below.refl _ _).alloc (Nat.le_refl _) _
  have hown : (w2.alloc (.cells #[] 5)).ownsRow w2.heap.size 5 1 (.slice (some ⟨w2.heap.size, 0, none⟩) 0 0) 0 [] := World.ownsRow_lit (w := w2) (base := w2.heap.size) (e := 5) (size := 1) #[] 0 (Nat.le_refl _) (by simp) rfl
  have HT := Lib.hid (bs_take (HA.out.below (B2.out.trans (hb0.mono hs2)) (Nat.le_refl _)) hN)
  have p0 : (0 : Int) ≤ (N : Int) := by omega
  have p1 : (N : Int) ≤ (n1 : Int) := by omega
  have p2 : (n1 : Int) ≤ (c1 : Int) := by omega
  have p3 : (N : Int) ≤ (c1 : Int) := by omega
  clear hoM hb2 D2
  go_wp2_with (first | (at_builtin; refine wpList_append_rd rfl (.tmp 34) (.tmp 37) 22 rfl w2.heap.size 5 i0 (.int .u8 0) 1 1 Try.underlying22 hi hz0 hz1 hz2 rfl (by decide) _ 0 [] rfl hown w.heap.size A1 N c1 hA1 (u8s (a.take N)) rfl (by rw [Nat.mul_one]; exact HT.out) (u8s_one _) (by unfold maxLen; omega) (by omega) (by simp) ?_; intro v3 w3 hown3 hg3 hnn3; simp only [Nat.zero_add, List.nil_append] at hown3; have hb3 := own_below hb0 hown (by simp) hg3; have hs3 := hb3.size) | (at_builtin; refine wpList_append_rd rfl (.tmp 39) (.tmp 40) 22 rfl w2.heap.size 5 i0 (.int .u8 0) 1 1 Try.underlying22 hi hz0 hz1 hz2 rfl (by decide) v3 N (u8s (a.take N)) rfl hown3 w.heap.size A2 n2 c2 hA2 (u8s b) rfl (by rw [Nat.mul_one]; exact HB.out.below (B2.out.trans (hb3.mono hs2)) (Nat.le_refl _)) (u8s_one _) (by unfold maxLen; omega) (by omega) hs3 ?_; intro v4 w4 hown4 hg4 hnn4; have hb4 := own_below hb3 hown3 hs3 hg4))
  rw [← u8s_append] at hown4
  have hxl : (a.take N ++ b).length = N + n2 := by rw [List.length_append, List.length_take, KA.out, KB.out, Nat.min_eq_left hN]
  obtain ⟨A4, c4, rfl, hnil4, hcap4, hcap4m⟩ := own_fit hxl hown4
  have D3 := decode_x w4 w4.heap.size (N + n2) c4 A4 (a.take N ++ b) (own_bs hown4) hnil4 (Nat.le_refl _) hcap4 hcap4m (by omega)
  unfold RetDec at D3
  rw [JO.out] at D3
  simp only [List.length_append, HNL.out, HNM.out] at D3
  have D3 := Lib.hid D3
  have b4 := B2.out.trans (hb4.mono hs2)
  have B4 := Lib.hid b4
  have hs4 : w.heap.size ≤ w4.heap.size := b4.size
  have OL4 := Lib.hid (OL2.out.below hb4 (Nat.le_refl _))
  have OM4 := Lib.hid (OM.out.below hb4 (Nat.le_refl _))
  have HA4 := Lib.hid (HA.out.below b4 (Nat.le_refl _))
  clear hown4 hg4 hnn4 hb4 hxl hnil4 hb3 hown3 hg3 hnn3 hb0 hown b4 OL OL2 OM B1 B2 HT HB
  go_wp2_with (fail)
  refine D3.out.mono ?_
  rintro e w5 ⟨A5, c5, rfl, hoP, hb5⟩
  have hs5 := hb5.size
  have D4 := decode_y w5 w.heap.size n1 c1 A1 a (HA4.out.below hb5 hs4) hA1 (Nat.le_trans hs4 hs5) hc1 (by omega) (by omega)
  unfold RetDec at D4
  rw [EL.out.1, EL.out.2.1, HNL.out] at D4
  have D4 := Lib.hid D4
  have OP5 := Lib.hid hoP
  have OL5 := Lib.hid (OL4.out.below hb5 (Nat.le_refl _))
  have OM5 := Lib.hid (OM4.out.below hb5 (Nat.le_refl _))
  have B5 := Lib.hid (B4.out.trans (hb5.mono hs4))
  clear hoP hb5 D3 OL4 OM4 HA4 B4
  go_wp2_with (fail)
  refine D4.out.mono ?_
  rintro e w6 ⟨A6, c6, rfl, hoR, hb6⟩
  have b6 := B5.out.trans (hb6.mono (Nat.le_trans hs4 hs5))
  have B6 := Lib.hid b6
  have hs6 : w.heap.size ≤ w6.heap.size := b6.size
  have OR6 := Lib.hid hoR
  have OP6 := Lib.hid (OP5.out.below hb6 (Nat.le_refl _))
  have OL6 := Lib.hid (OL5.out.below hb6 (Nat.le_refl _))
  have OM6 := Lib.hid (OM5.out.below hb6 (Nat.le_refl _))
  obtain ⟨AL', cL', eL, nilL, _, _⟩ := OL6.out.form
  obtain ⟨rfl, rfl⟩ : AL' = AL ∧ cL' = cL := by injection eL with e1 e2 e3; exact ⟨e1.symm, e3.symm⟩
  obtain ⟨AM', cM', eM, nilM, _, _⟩ := OM6.out.form
  obtain ⟨rfl, rfl⟩ : AM' = AM ∧ cM' = cM := by injection eM with e1 e2 e3; exact ⟨e1.symm, e3.symm⟩
  clear eL eM hoR b6 D4 OP5 OL5 OM5 B5
  have hb7 : Below w6.heap.size w6 (w6.alloc (.cells #[] 32)) := (Below.refl _ _).alloc (Nat.le_refl _) _
  have LL7 := Lib.hid ((OL6.out.below hb7 (Nat.le_refl _)).ls)
  have LM7 := Lib.hid ((OM6.out.below hb7 (Nat.le_refl _)).ls)
  have hs7 : (w6.alloc (.cells #[] 32)).heap.size = w6.heap.size + 1 := by simp
  have B7 := Lib.hid hb7
  clear hb7
  go_wp2_with (first | (at_builtin; refine append_r rfl (.tmp 53) (.tmp 54) rfl w6.heap.size _ 0 [] rfl (Ow.lit w6) _ _ nl cL' nilL L rfl LL7.out (by omega) (by omega) ?_; intro A8 c8 w8 hown8 hg8 hA8 hc81 hc82 hs8; simp only [Nat.zero_add, List.nil_append] at hown8 ⊢; have hb8 := (Ow.lit (E := RE) w6).below_grown B7.out hg8 (by simp)) | (at_builtin; refine append_r rfl (.tmp 56) (.tmp 57) rfl w6.heap.size _ nl L rfl hown8 _ _ nm cM' nilM M rfl ((OM6.out.below hb8 (Nat.le_refl _)).ls) (by omega) (by omega) ?_; intro A9 c9 w9 hown9 hg9 hA9 hc91 hc92 hs9; have hb9 := hown8.below_grown hb8 hg9 (by have := hb8.size; omega)))
  have fabl : nl + nm ≤ 1000000000 := by omega
  have hb9w : Below w.heap.size w w9 := B6.out.trans (hb9.mono hs6)
  have hs69 := hb9.size
  have S1 := Lib.hid (same_r w9 w9.heap.size w9.heap.size (nl + nm) c5 c9 A5 A9 (L ++ M) ((OP6.out.below hb9 (Nat.le_refl _)).ls) hown9.ls (Nat.le_refl _) (Nat.le_refl _) fabl)
  have OL9 := Lib.hid (OL6.out.below hb9 (Nat.le_refl _))
  have OR9 := Lib.hid (OR6.out.below hb9 (Nat.le_refl _))
  have B9 := Lib.hid hb9w
  clear hown9 hg9 hb9 hg8 hown8 hb8 hb9w OL6 OM6 OR6 OP6 LL7 LM7
  refine S1.out.mono ?_
  rintro e w10 ⟨rfl, hb10⟩
  have S2 := Lib.hid (same_r w10 w10.heap.size w10.heap.size nl cL' c6 AL' A6 L ((OL9.out.below hb10 (Nat.le_refl _)).ls) ((OR9.out.below hb10 (Nat.le_refl _)).ls) (Nat.le_refl _) (Nat.le_refl _) (by omega))
  have hs9w : w.heap.size ≤ w9.heap.size := B9.out.size
  have B10 := Lib.hid (B9.out.trans (hb10.mono hs9w))
  clear hb10 S1
  go_wp2_with fail
  refine S2.out.mono ?_
  rintro e w11 ⟨rfl, hb11⟩
  have hs10w : w.heap.size ≤ w10.heap.size := B10.out.size
  have B11 := Lib.hid (B10.out.trans (hb11.mono hs10w))
  clear hb11 S2
  go_wp2_with fail
  go_ret
  exact ⟨rfl, B11.out⟩
end Go.Proofs.Ytmegkemileailaa.lawCommitlogJoined
