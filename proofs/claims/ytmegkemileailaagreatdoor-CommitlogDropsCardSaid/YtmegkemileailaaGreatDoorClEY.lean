/-
  The document's Encode of a record.
-/
import Derived.Test.YtmegkemileailaaGreatDoorClW
namespace Go.Proofs.YtmegkemileailaaGreatDoor.cl
open Go.ChangeShapes Go.WideShapes Go.ChangeAt Go.RowKit plain words ord mem uvs uvc

theorem be4_cells (z : Int) (h0 : 0 ≤ z) (h1 : z.toNat < 4294967296) : u8s (be 4 z.toNat) = [.int .u8 (z / 16777216), .int .u8 (z / 65536 % 256), .int .u8 (z / 256 % 256), .int .u8 (z % 256)] := by
  obtain ⟨n, rfl⟩ : ∃ n : Nat, z = n := ⟨z.toNat, by omega⟩
  have e1 : ∀ k : Nat, ((UInt8.ofNat (k % 256)).toNat : Int) = ((k % 256 : Nat) : Int) := fun k => by rw [ofNat_lt _ (by omega)]
  simp only [be, u8s, U8, List.nil_append, List.cons_append, List.map_cons, List.map_nil, Int.toNat_natCast, e1]
  have d2 : n / 256 / 256 = n / 65536 := by omega
  have d3 : n / 256 / 256 / 256 = n / 16777216 := by omega
  have h2 : n < 4294967296 := by simpa using h1
  rw [d2, show n / 65536 / 256 = n / 16777216 by omega, show n / 16777216 % 256 = n / 16777216 by omega]
  simp
theorem own_nil {w : World} {B size n c : Nat} {e : TypeId} {A : Option Addr} {xs : List Value} (h : w.ownsRow B e size (.slice A n c) n xs) : A = none → c = 0 := fun e => by
  rcases own_form h with ⟨e', _⟩ | ⟨_, _, e', _⟩
  · injection e'
  · rw [e] at e'; injection e' with e'; cases e'
theorem rd_fresh {w : World} (t : TypeId) (l : List Value) {m : Nat} (hm : l.length = m) : Rd (w.alloc (.cells l.toArray t)) (w.heap.size + 1) (some ⟨w.heap.size, 0, none⟩) m l :=
  ⟨hm, fun j hj => ⟨w.heap.size, 0, l[j]'(by omega), rfl, by omega, List.getElem?_eq_getElem _, by rw [Nat.zero_add, World.cell?_alloc_new w l.toArray t j]; simp⟩⟩
theorem below_al (w : World) (o : Obj) : Below w.heap.size w (w.alloc o) := (Below.refl _ _).alloc (Nat.le_refl _) o
set_option maxHeartbeats 4000000 in
set_option maxRecDepth 100000 in
theorem encode_y (w : World) (r : Rec) (hn : Num r) (hid : r.id.length ≤ 9223372036854775807) :
    Calls Tryz.prog 10 #[.agg #[.int .i64 r.sp, .string (tx r.id), .int .i64 r.t, .int .u64 r.v, .int .u64 r.s]] w (RetEnc w r) := by
  obtain ⟨wb, hwb⟩ : ∃ wb, w.alloc (.cells #[.int .i64 r.sp, .string (tx r.id), .int .i64 r.t, .int .u64 r.v, .int .u64 r.s] 36) = wb := ⟨_, rfl⟩
  have hbb : Below w.heap.size w wb := by rw [← hwb]; exact (Below.refl _ _).alloc (Nat.le_refl _) _
  have gb : wb.heap[w.heap.size]? = some (.cells #[.int .i64 r.sp, .string (tx r.id), .int .i64 r.t, .int .u64 r.v, .int .u64 r.s] 36 (0, 0)) := by rw [← hwb]; exact alloc_new _ _
  have hsb : wb.heap.size = w.heap.size + 1 := by rw [← hwb]; simp
  have hlb : w.heap.size < wb.heap.size := blk_lt gb
  have c0 : wb.cell? ⟨w.heap.size, 0, none⟩ = some (.int .i64 r.sp) := by rw [cell_of_row _ _ _ _ _ _ gb]; rfl
  have c1 : wb.cell? ⟨w.heap.size, 1, none⟩ = some (.string (tx r.id)) := by rw [cell_of_row _ _ _ _ _ _ gb]; rfl
  have c2 : wb.cell? ⟨w.heap.size, 2, none⟩ = some (.int .i64 r.t) := by rw [cell_of_row _ _ _ _ _ _ gb]; rfl
  have htx := tx_size r.id
  obtain ⟨L, hL⟩ : ∃ L, r.id.length = L := ⟨_, rfl⟩
  rw [hL] at htx hid
  have KL := Lib.hid hL
  have HB := Lib.hid hbb
  have GB := Lib.hid gb
  have HSB := Lib.hid hsb
  have HNUM := Lib.hid hn
  clear hbb gb hsb hL hn
  by_cases a1 : r.sp < 0
  · have HE := Lib.hid (err1 (r := r) (.inl a1))
    go_enter Tryz.func10, Tryz.ntmps10
    go_wp2_with (fail)
    go_ret2
    exact ret_no HE.out (by decide) HB.out
  by_cases a2 : 4 ≤ r.sp
  · have HE := Lib.hid (err1 (r := r) (.inr (.inl a2)))
    go_enter Tryz.func10, Tryz.ntmps10
    go_wp2_with (fail)
    go_ret2
    exact ret_no HE.out (by decide) HB.out
  by_cases a3 : r.t < 0
  · have HE := Lib.hid (err1 (r := r) (.inr (.inr (.inl a3))))
    go_enter Tryz.func10, Tryz.ntmps10
    go_wp2_with (fail)
    go_ret2
    exact ret_no HE.out (by decide) HB.out
  by_cases a4 : 1099511627776 < r.t
  · have HE := Lib.hid (err1 (r := r) (.inr (.inr (.inr a4))))
    go_enter Tryz.func10, Tryz.ntmps10
    go_wp2_with (fail)
    go_ret2
    exact ret_no HE.out (by decide) HB.out
  have hno : ¬ (r.sp < 0 ∨ 4 ≤ r.sp ∨ r.t < 0 ∨ 1099511627776 < r.t) := by omega
  by_cases a5 : L < 1
  · have HE := Lib.hid (err80 hno (.inl (by rw [KL.out]; exact a5)))
    have b5 : (L : Int) < 1 := by omega
    go_enter Tryz.func10, Tryz.ntmps10
    go_wp2_with (fail)
    go_ret2
    exact ret_no HE.out (by decide) HB.out
  have b5 : ¬ (L : Int) < 1 := by omega
  by_cases a6 : 16 < L
  · have HE := Lib.hid (err80 hno (.inr (by rw [KL.out]; exact a6)))
    have b6 : (16 : Int) < (L : Int) := by omega
    go_enter Tryz.func10, Tryz.ntmps10
    go_wp2_with (fail)
    go_ret2
    exact ret_no HE.out (by decide) HB.out
  have b6 : ¬ (16 : Int) < (L : Int) := by omega
  have GOOD := Lib.hid (show Good r from ⟨by omega, by omega, by omega, by omega, by rw [KL.out]; omega, by rw [KL.out]; omega⟩)
  obtain ⟨i0, hi, hz0, hz1, hz2⟩ := info_parts mem.infoB
  have hsp : ((r.sp.toNat : Nat) : Int) = r.sp := by omega
  have ht : ((r.t.toNat : Nat) : Int) = r.t := by omega
  have spw : r.sp % 18446744073709551616 = r.sp := by omega
  have tw : r.t % 18446744073709551616 = r.t := by omega
  obtain ⟨n1, n2, n3, n4⟩ := HNUM.out
  have hvt : ((r.v.toNat : Nat) : Int) = r.v := by omega
  have hst : ((r.s.toNat : Nat) : Int) = r.s := by omega
  have HVT := Lib.hid hvt
  have HST := Lib.hid hst
  have e0 : uv r.sp.toNat ++ txt (tx r.id) ++ uv r.t.toNat ++ be 8 r.v.toNat ++ be 8 r.s.toNat = body r := by unfold body txt; rw [tx_size, tx_list]; simp only [List.append_assoc]
  have EB := Lib.hid e0
  have u1 := uv_len r.sp.toNat
  have u3 := uv_len r.t.toNat
  have ut : (txt (tx r.id)).length ≤ 26 := by unfold txt; rw [List.length_append, tx_size, tx_list, KL.out]; have := uv_len L; omega
  have HN := uvarint_y0 wb r.sp.toNat (by unfold lt64; omega)
  rw [hsp] at HN
  have HN := Lib.hid HN
  have HT := Lib.hid ht
  have hsz := HSB.out
  have WB := Lib.hid hwb
  clear hwb hsp ht c1 c2 e0 hno hvt hst
  go_enter Tryz.func10, Tryz.ntmps10
  go_wp2_with (fail)
  rw [WB.out]
  refine HN.out.mono ?_
  rintro e w1 ⟨A1, k1, rfl, hr1, hb1⟩
  have G1 := Lib.hid (blk_below hb1 GB.out hlb)
  have HB1 := Lib.hid (HB.out.trans (hb1.mono (by omega)))
  have s1 := hb1.size
  have l1 : w.heap.size < w1.heap.size := by omega
  have c1 : w1.cell? ⟨w.heap.size, 1, none⟩ = some (.string (tx r.id)) := by rw [cell_of_row _ _ _ _ _ _ G1.out]; rfl
  have HT2 := Lib.hid (text_y w1 w1.heap.size _ k1 A1 _ (own_bs hr1) (own_nil hr1) (Nat.le_refl _) (by omega) (tx r.id) (by rw [htx]; omega))
  clear hr1 hb1 HN c0
  go_wp2_with (fail)
  refine HT2.out.mono ?_
  rintro e w2 ⟨A2, k2, rfl, hr2, hb2⟩
  have hY2 : (uv r.sp.toNat ++ txt (tx r.id)).length ≤ 40 := by rw [List.length_append]; omega
  obtain ⟨Y2, hYe⟩ : ∃ Y, uv r.sp.toNat ++ txt (tx r.id) = Y := ⟨_, rfl⟩
  rw [hYe] at hr2 hY2 EB
  rw [hYe]
  have G2 := Lib.hid (blk_below hb2 G1.out l1)
  have HB2 := Lib.hid (HB1.out.trans (hb2.mono (by omega)))
  have s2 := hb2.size
  have l2 : w.heap.size < w2.heap.size := by omega
  have c2 : w2.cell? ⟨w.heap.size, 2, none⟩ = some (.int .i64 r.t) := by rw [cell_of_row _ _ _ _ _ _ G2.out]; rfl
  have hun := uvarint_y w2 w2.heap.size _ k2 A2 _ r.t.toNat (own_bs hr2) (own_nil hr2) (Nat.le_refl _) (by omega) (by omega)
  rw [HT.out] at hun
  have HUN := Lib.hid hun
  clear hr2 hb2 HT2 c1 hun hYe
  go_wp2_with (fail)
  refine HUN.out.mono ?_
  rintro e w3 ⟨A3, k3, rfl, hr3, hb3⟩
  have hY3 : (Y2 ++ uv r.t.toNat).length ≤ 60 := by rw [List.length_append]; omega
  obtain ⟨Y3, hYe⟩ : ∃ Y, Y2 ++ uv r.t.toNat = Y := ⟨_, rfl⟩
  rw [hYe] at hr3 hY3 EB
  rw [hYe]
  have G3 := Lib.hid (blk_below hb3 G2.out l2)
  have HB3 := Lib.hid (HB2.out.trans (hb3.mono (by omega)))
  have s3 := hb3.size
  have l3 : w.heap.size < w3.heap.size := by omega
  have c3 : w3.cell? ⟨w.heap.size, 3, none⟩ = some (.int .u64 r.v) := by rw [cell_of_row _ _ _ _ _ _ G3.out]; rfl
  have hw := wideW_y w3 w2.heap.size _ k3 A3 _ r.v.toNat hr3 rfl s3 (by omega) (by omega)
  rw [HVT.out] at hw
  have HW := Lib.hid hw
  clear hr3 hb3 HUN c2 hw hYe
  go_wp2_with (fail)
  refine HW.out.mono ?_
  rintro e w4 ⟨A4, k4, rfl, hr4, hb4, _⟩
  have hY4 : (Y3 ++ be 8 r.v.toNat).length ≤ 70 := by rw [List.length_append, be_len]; omega
  obtain ⟨Y4, hYe⟩ : ∃ Y, Y3 ++ be 8 r.v.toNat = Y := ⟨_, rfl⟩
  rw [hYe] at hr4 hY4 EB
  rw [hYe]
  have G4 := Lib.hid (blk_below hb4 G3.out l2)
  have HB4 := Lib.hid (HB3.out.trans (hb4.mono (by omega)))
  have s4 := hb4.size
  have l4 : w.heap.size < w4.heap.size := by omega
  have c4 : w4.cell? ⟨w.heap.size, 4, none⟩ = some (.int .u64 r.s) := by rw [cell_of_row _ _ _ _ _ _ G4.out]; rfl
  have hw := wideW_y w4 w2.heap.size _ k4 A4 _ r.s.toNat hr4 rfl (Nat.le_trans s3 s4) (by omega) (by omega)
  rw [HST.out, EB.out] at hw
  have HW2 := Lib.hid hw
  clear hr4 hb4 HW c3 hw hYe
  go_wp2_with (fail)
  refine HW2.out.mono ?_
  rintro e w5 ⟨A5, k5, rfl, hr5, hb5, hnil5⟩
  have HB5 := Lib.hid (HB4.out.trans (hb5.mono (by omega)))
  have s5 := hb5.size
  have l5 : w.heap.size < w5.heap.size := by omega
  have hbl := body_len GOOD.out
  have HE0 := Lib.hid (err_good GOOD.out)
  have hs9 := sum_lt (body r)
  have hAD := adler.adler_y w5 w5.heap.size _ k5 A5 (body r) (own_bs hr5) (by omega)
  have henc : uv (body r).length ++ be 4 (adler.sum (body r)).toNat ++ body r = enc r := by unfold enc; rw [List.append_assoc]
  obtain ⟨N7, hN7⟩ : ∃ N, (body r).length = N := ⟨_, rfl⟩
  rw [hN7] at hAD hr5 hbl henc
  rw [hN7]
  have HN7 := Lib.hid hN7
  have HU0 := Lib.hid (uvarint_y0 w5 N7 (by unfold lt64; omega))
  have h4c := be4_cells (adler.sum (body r)) hs9.1 hs9.2
  obtain ⟨S, hS⟩ : ∃ S, adler.sum (body r) = S := ⟨_, rfl⟩
  rw [hS] at hAD hs9 henc h4c
  have H4C := Lib.hid h4c
  have HENC := Lib.hid henc
  have HAD := Lib.hid hAD
  have HRD := Lib.hid (own_bs hr5)
  have HNIL := Lib.hid hnil5
  have nw : (N7 : Int) % 18446744073709551616 = (N7 : Int) := by omega
  clear hr5 hb5 HW2 c4 hN7 hS hAD henc hnil5 h4c
  go_wp2_with (fail)
  refine HAD.out.mono ?_
  rintro e w6 ⟨rfl, rfl⟩
  go_wp2_with (fail)
  refine HU0.out.mono ?_
  rintro e w7 ⟨A7, k7, rfl, hr7, hb7⟩
  have s7 := hb7.size
  have u7 := uv_len N7
  have HR7 := Lib.hid hr7
  have HRD7 := Lib.hid (HRD.out.below hb7 (Nat.le_refl _))
  have HB7 := Lib.hid (HB5.out.trans (hb7.mono (by omega)))
  obtain ⟨U7, hU7⟩ : ∃ U, uv N7 = U := ⟨_, rfl⟩
  rw [hU7] at HR7 HENC u7
  rw [hU7]
  clear hr7 hb7 HU0 HAD hU7
  go_wp2_with (first | (at_builtin; (refine wpList_append_rd rfl (.tmp 67) (.tmp 79) 28 rfl w5.heap.size 5 i0 (.int .u8 0) 1 1 Tryz.underlying28 hi hz0 hz1 hz2 rfl (by decide) (.slice A7 U7.length k7) U7.length (u8s U7) rfl (own_keep HR7.out (below_al w7 _) (Nat.le_refl _)) (w7.heap.size + 1) _ 4 4 (fun e => by cases e) _ rfl (rd_fresh (w := w7) _ _ rfl) (by intro u hu; simp at hu; rcases hu with rfl | rfl | rfl | rfl <;> rfl) (by unfold maxLen; omega) (by omega) (by simp; omega) ?_; intro v8 w8 hown8 hg8 hnn8; have hb8 := own_below (base := w5.heap.size) (((Below.refl _ w7).alloc s7 _)) (own_keep HR7.out (below_al w7 _) (Nat.le_refl _)) (by simp; omega) hg8; have s8 := hb8.size)) | (at_builtin; (refine wpList_append_rd rfl (.tmp 81) (.tmp 82) 28 rfl w5.heap.size 5 i0 (.int .u8 0) 1 1 Tryz.underlying28 hi hz0 hz1 hz2 rfl (by decide) v8 (U7.length + 4) _ rfl hown8 w5.heap.size A5 N7 k5 HNIL.out (u8s (body r)) rfl (by rw [Nat.mul_one]; exact HRD7.out.below hb8 (Nat.le_refl _)) (u8s_one _) (by unfold maxLen; omega) (by omega) (Nat.le_trans s7 s8) ?_; intro v9 w9 hown9 hg9 hnn9)))
  have hlen : (enc r).length = U7.length + 4 + N7 := by rw [← HENC.out, List.length_append, List.length_append, HN7.out, be_len]
  rw [← H4C.out, ← u8s_append, ← u8s_append, HENC.out] at hown9
  have hbel : Below w.heap.size w w9 := (HB7.out.trans (hb8.mono (by omega))).grown hg9 (by omega) (fun k hk => by have := (hown8.lt k hk).1; omega)
  obtain ⟨A11, c11, rfl, hnil, _⟩ := own_fit hlen hown9
  go_ret2
  refine ⟨A11, c11, ?_, ?_, hbel, hnil⟩
  · rw [encB_ok HE0.out, HE0.out, hlen]; rfl
  · rw [encB_ok HE0.out, hlen]; exact own_base hown9 (by omega)
end Go.Proofs.YtmegkemileailaaGreatDoor.cl
