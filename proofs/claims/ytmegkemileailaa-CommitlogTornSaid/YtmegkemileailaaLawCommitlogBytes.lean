/-
  The walk of the law CommitlogBytes.
-/
import Derived.Test.YtmegkemileailaaClDy
import Derived.Test.YtmegkemileailaaClSm
import Derived.Test.YtmegkemileailaaClOf
import Derived.Test.YtmegkemileailaaLawCommitlogJoined
import Derived.Test.YtmegkemileailaaClTorn
namespace Go.Proofs.Ytmegkemileailaa.lawCommitlogBytes
open Go.ChangeShapes Go.WideShapes Go.ChangeAt Go.RowKit plain words ord mem uvs uvc cl

theorem encB_len (r : Rec) : (encB r).length ≤ 200 := by
  unfold encB
  split
  · rename_i h
    have hg := good_of h
    obtain ⟨h1, h2⟩ := body_len hg
    unfold enc
    have := uv_len (body r).length
    simp only [List.length_append, be_len]
    omega
  · simp
theorem dec_one (b : By) (r : Rec) (h : err r = 0) (hn : Num r) : dec (b.take (dec b).2 ++ encB r) = ((dec b).1 ++ [r], (dec b).2 + (encB r).length) := by
  obtain ⟨h1, h2, h3, _⟩ := dec_form b.length b (Nat.le_refl _)
  have e : encB r = encs [r] := by rw [encB_ok h]; simp [encs]
  have hl : (encs (dec b).1).length = (dec b).2 := by rw [← h2, List.length_take]; omega
  have h4 : ∀ x ∈ (dec b).1 ++ [r], cl.Good x ∧ cl.Num x := fun x hx => (List.mem_append.1 hx).elim (h3 x) (fun e => by simp at e; subst e; exact ⟨good_of h, hn⟩)
  have h5 := dec_encs _ h4 []
  rw [List.append_nil, dec_none dec1_nil, encs_append] at h5
  rw [h2, e, h5]
  simp [hl]
set_option maxHeartbeats 8000000 in
set_option maxRecDepth 100000 in
theorem walk_ok (r : Rec) (A : Option Addr) (n c : Nat) (z : List Int) (w : World) (hf : FitR r) (h1 : IsRow .u8 w A n c z) :
    Calls Try.prog 4 #[rv r, .slice A n c] w fun e w' => e = .returned (.bool true) ∧ Below w.heap.size w w' := by
  obtain ⟨b, hb, hm1, hc1, hA⟩ := h1.bytes
  obtain ⟨hc1, hc1m⟩ := hc1
  unfold maxLen at hc1m
  obtain ⟨hnum, hid, _, _⟩ := hf
  have htx := tx_size r.id
  obtain ⟨k, hk⟩ : ∃ k, r.id.length = k := ⟨_, rfl⟩
  rw [hk] at htx hid
  clear h1 hm1
  have kb := hb.len_
  show Calls Try.prog 4 #[.agg #[.int .i64 r.sp, .string (tx r.id), .int .i64 r.t, .int .u64 r.v, .int .u64 r.s], .slice A n c] w _
  by_cases g1 : 16384 < n
  · have m1 : (16384 : Int) < (n : Int) := by omega
    clear hb kb
    go_enter Try.func4, Try.ntmps4
    go_wp2_with fail
    go_ret
    exact ⟨rfl, (Below.refl _ _).alloc (Nat.le_refl _) _⟩
  have m1 : ¬ (16384 : Int) < (n : Int) := by omega
  by_cases g2 : 16384 < k
  · have m2 : (16384 : Int) < (k : Int) := by omega
    clear hb kb
    go_enter Try.func4, Try.ntmps4
    go_wp2_with fail
    go_ret
    exact ⟨rfl, (Below.refl _ _).alloc (Nat.le_refl _) _⟩
  have m2 : ¬ (16384 : Int) < (k : Int) := by omega
  obtain ⟨i0, hi, hz0, hz1, hz2⟩ := info_parts mem.infoB
  obtain ⟨wa, hwa⟩ : ∃ wa, w.alloc (.cells #[.int .i64 r.sp, .string (tx r.id), .int .i64 r.t, .int .u64 r.v, .int .u64 r.s] 32) = wa := ⟨_, rfl⟩
  have hba : Below w.heap.size w wa := by rw [← hwa]; exact (Below.refl _ _).alloc (Nat.le_refl _) _
  have ga : wa.heap[w.heap.size]? = some (.cells #[.int .i64 r.sp, .string (tx r.id), .int .i64 r.t, .int .u64 r.v, .int .u64 r.s] 32 (0, 0)) := by rw [← hwa]; exact alloc_new _ _
  have hsa : w.heap.size < wa.heap.size := blk_lt ga
  have hform := (dec_form b.length b (Nat.le_refl _)).1
  rw [kb] at hform
  have fb := lawCommitlogJoined.dec_few b
  rw [kb] at fb
  have hxl := encB_len r
  have HDEC := Lib.hid (fun h => dec_one b r h hnum)
  obtain ⟨X, hX⟩ : ∃ X, encB r = X := ⟨_, rfl⟩
  obtain ⟨lx, hlx⟩ : ∃ k, X.length = k := ⟨_, rfl⟩
  obtain ⟨E, hE⟩ : ∃ E, err r = E := ⟨_, rfl⟩
  obtain ⟨L, hL⟩ : ∃ L, (dec b).1 = L := ⟨_, rfl⟩
  obtain ⟨N, hN⟩ : ∃ N, (dec b).2 = N := ⟨_, rfl⟩
  obtain ⟨nl, hnl⟩ : ∃ k, L.length = k := ⟨_, rfl⟩
  have hd9 : RetDec = fun (w : World) (bs : By) (e : Ending) (w' : World) => RetDec w bs e w' := rfl
  have E1 := encode_x wa r hnum (by rw [hk]; omega)
  unfold RetEnc at E1
  rw [hX, hlx, hE] at E1
  have HE2 := Lib.hid (fun w1 => encode_y w1 r hnum (by rw [hk]; omega))
  have HDX := Lib.hid (fun w1 hw h1 => decode_x w1 w.heap.size n c A b (hb.below hw (Nat.le_refl _)) hA h1 hc1 (by omega) (by omega))
  have HDY := Lib.hid (fun w1 hw h1 => decode_y w1 w.heap.size n c A b (hb.below hw (Nat.le_refl _)) hA h1 hc1 (by omega) (by omega))
  unfold RetEnc at HE2
  unfold RetDec at HDX HDY
  simp only [hX, hlx, hE] at HE2
  simp only [hL, hN, hnl] at HDX HDY
  simp only [hL, hN, hE, hX] at HDEC
  rw [hN] at hform
  rw [hL, hnl] at fb
  rw [hX, hlx] at hxl
  have HB := Lib.hid hb
  have KB := Lib.hid kb
  have HL := Lib.hid hnl
  have HLX := Lib.hid hlx
  have GA := Lib.hid ga
  have BA := Lib.hid hba
  have E1 := Lib.hid E1
  have WA := Lib.hid hwa
  have HK := Lib.hid hk
  clear hb kb hnl hlx ga hba hwa hX hE hL hN hd9 hk
  go_enter Try.func4, Try.ntmps4
  go_wp2_with fail
  rw [WA.out]
  refine E1.out.mono ?_
  rintro e w1 ⟨A1, c1, rfl, own1, hb1, nil1⟩
  have hs1 := hb1.size
  have G1 := blk_below hb1 GA.out hsa
  obtain ⟨c0, c1', c2, c3, c4⟩ : w1.cell? ⟨w.heap.size, 0, none⟩ = some (.int .i64 r.sp) ∧ w1.cell? ⟨w.heap.size, 1, none⟩ = some (.string (tx r.id)) ∧ w1.cell? ⟨w.heap.size, 2, none⟩ = some (.int .i64 r.t) ∧ w1.cell? ⟨w.heap.size, 3, none⟩ = some (.int .u64 r.v) ∧ w1.cell? ⟨w.heap.size, 4, none⟩ = some (.int .u64 r.s) := by
    refine ⟨?_, ?_, ?_, ?_, ?_⟩ <;> (rw [cell_of_row _ _ _ _ _ _ G1]; rfl)
  have OX := Lib.hid own1
  have B1 := Lib.hid (BA.out.trans (hb1.mono (Nat.le_of_lt hsa)))
  have GG := Lib.hid G1
  have E2 := Lib.hid (HE2.out w1)
  clear own1 hb1 G1 E1
  go_wp2_with fail
  refine E2.out.mono ?_
  rintro e w2 ⟨A2, c2', rfl, own2, hb2, nil2⟩
  have hs2 := hb2.size
  have OX2 := Lib.hid (own_keep OX.out hb2 (Nat.le_refl _))
  have OY2 := Lib.hid own2
  have B2 := Lib.hid (B1.out.trans (hb2.mono (by omega)))
  have GG2 := Lib.hid (blk_below hb2 GG.out (by omega))
  have D3 := Lib.hid (HDX.out w2 B2.out (by omega))
  clear own2 hb2 E2 c0 c1' c2 c3 c4
  go_wp2_with fail
  refine D3.out.mono ?_
  rintro e w3 ⟨AL, cL, rfl, hoL, hb3⟩
  have hs3 := hb3.size
  have OX3 := Lib.hid (own_keep OX2.out hb3 (Nat.le_refl _))
  have OY3 := Lib.hid (own_keep OY2.out hb3 (Nat.le_refl _))
  have B3 := Lib.hid (B2.out.trans (hb3.mono (by omega)))
  have GG3 := Lib.hid (blk_below hb3 GG2.out (by omega))
  have OL3 := Lib.hid hoL
  have D4 := Lib.hid (HDY.out w3 B3.out (by omega))
  clear hoL hb3 D3
  go_wp2_with fail
  refine D4.out.mono ?_
  rintro e w4 ⟨AM, cM, rfl, hoM, hb4⟩
  have hs4 := hb4.size
  have OX4 := Lib.hid (own_keep OX3.out hb4 (Nat.le_refl _))
  have OY4 := Lib.hid (own_keep OY3.out hb4 (Nat.le_refl _))
  have B4 := Lib.hid (B3.out.trans (hb4.mono (by omega)))
  have GG4 := Lib.hid (blk_below hb4 GG3.out (by omega))
  have OL4 := Lib.hid (OL3.out.below hb4 (Nat.le_refl _))
  have S1 := Lib.hid (same_r w4 w4.heap.size w4.heap.size nl cL cM AL AM L OL4.out.ls hoM.ls (Nat.le_refl _) (Nat.le_refl _) (by omega))
  have k1 := conv_string (P := Try.prog) (c := c1) (own_bs OX4.out) 22 9 5 Try.underlying22 Try.underlying9 Try.underlying5
  have k2 := conv_string (P := Try.prog) (c := c2') (own_bs OY4.out) 22 9 5 Try.underlying22 Try.underlying9 Try.underlying5
  clear hoM hb4 D4
  go_wp2_with fail
  refine S1.out.mono ?_
  rintro e w5 ⟨rfl, hb5⟩
  have hs5 := hb5.size
  have OX5 := Lib.hid (own_keep OX4.out hb5 (Nat.le_refl _))
  have B5 := Lib.hid (B4.out.trans (hb5.mono (by omega)))
  have GG5 := Lib.hid (blk_below hb5 GG4.out (by omega))
  have OL5 := Lib.hid (OL4.out.below hb5 (Nat.le_refl _))
  clear hb5 S1 k1 k2
  by_cases hE0 : E = 0
  · subst hE0
    have hb0 : Below w5.heap.size w5 (w5.alloc (.cells #[] 5)) := (Below.refl _ _).alloc (Nat.le_refl _) _
    have hown : (w5.alloc (.cells #[] 5)).ownsRow w5.heap.size 5 1 (.slice (some ⟨w5.heap.size, 0, none⟩) 0 0) 0 [] := World.ownsRow_lit (w := w5) (base := w5.heap.size) (e := 5) (size := 1) #[] 0 (Nat.le_refl _) (by simp) rfl
    have HT := Lib.hid (bs_take (HB.out.below (B5.out.trans (hb0.mono B5.out.size)) (Nat.le_refl _)) hform)
    have hsw5 : w.heap.size ≤ w5.heap.size := B5.out.size
    have p0 : (0 : Int) ≤ (N : Int) := by omega
    have p1 : (N : Int) ≤ (n : Int) := by omega
    have p2 : (n : Int) ≤ (c : Int) := by omega
    have p3 : (N : Int) ≤ (c : Int) := by omega
    go_wp2_with (first | (at_builtin; refine wpList_append_rd rfl (.tmp 69) (.tmp 72) 22 rfl w5.heap.size 5 i0 (.int .u8 0) 1 1 Try.underlying22 hi hz0 hz1 hz2 rfl (by decide) _ 0 [] rfl hown w.heap.size A N c hA (u8s (b.take N)) rfl (by rw [Nat.mul_one]; exact HT.out) (u8s_one _) (by unfold maxLen; omega) (by omega) (by simp) ?_; intro v6 w6 hown6 hg6 hnn6; simp only [Nat.zero_add, List.nil_append] at hown6; have hb6 := own_below hb0 hown (by simp) hg6; have hs6 := hb6.size) | (at_builtin; refine wpList_append_rd rfl (.tmp 74) (.tmp 75) 22 rfl w5.heap.size 5 i0 (.int .u8 0) 1 1 Try.underlying22 hi hz0 hz1 hz2 rfl (by decide) v6 N (u8s (b.take N)) rfl hown6 w5.heap.size A1 lx c1 nil1 (u8s X) rfl (by rw [Nat.mul_one]; exact (own_bs OX5.out).below hb6 (Nat.le_refl _)) (u8s_one _) (by unfold maxLen; omega) (by omega) hs6 ?_; intro v7 w7 hown7 hg7 hnn7; have hb7 := own_below hb6 hown6 hs6 hg7))
    rw [← u8s_append] at hown7
    have hxl7 : (b.take N ++ X).length = N + lx := by rw [List.length_append, List.length_take, KB.out, HLX.out, Nat.min_eq_left hform]
    obtain ⟨A7, c7, rfl, hnil7, hcap7, hcap7m⟩ := own_fit hxl7 hown7
    have D5 := decode_x w7 w7.heap.size (N + lx) c7 A7 (b.take N ++ X) (own_bs hown7) hnil7 (Nat.le_refl _) hcap7 hcap7m (by omega)
    unfold RetDec at D5
    rw [HDEC.out (by trivial)] at D5
    simp only [List.length_append, List.length_singleton, HL.out, HLX.out] at D5
    have D5 := Lib.hid D5
    have B7 := Lib.hid (B5.out.trans (hb7.mono hsw5))
    have GG7 := Lib.hid (blk_below hb7 GG5.out (by have := hsa; omega))
    have OL7 := Lib.hid (OL5.out.below hb7 (Nat.le_refl _))
    have hs57 := hb7.size
    clear hown7 hg7 hnn7 hb7 hxl7 hnil7 hb6 hown6 hg6 hnn6 hb0 hown HT
    go_wp2_with fail
    refine D5.out.mono ?_
    rintro e w8 ⟨A8, c8, rfl, ho8, hb8⟩
    have hs8 := hb8.size
    have GG8 := blk_below hb8 GG7.out (by omega)
    obtain ⟨c0, c1', c2, c3, c4⟩ : w8.cell? ⟨w.heap.size, 0, none⟩ = some (.int .i64 r.sp) ∧ w8.cell? ⟨w.heap.size, 1, none⟩ = some (.string (tx r.id)) ∧ w8.cell? ⟨w.heap.size, 2, none⟩ = some (.int .i64 r.t) ∧ w8.cell? ⟨w.heap.size, 3, none⟩ = some (.int .u64 r.v) ∧ w8.cell? ⟨w.heap.size, 4, none⟩ = some (.int .u64 r.s) := by
      refine ⟨?_, ?_, ?_, ?_, ?_⟩ <;> (rw [cell_of_row _ _ _ _ _ _ GG8]; rfl)
    have hlast : (L ++ [r])[nl]? = some r := by rw [List.getElem?_append_right (by rw [HL.out]; exact Nat.le_refl _), HL.out, Nat.sub_self]; rfl
    obtain ⟨bb, off, eA, hbl, d0, d1, d2, d3, d4⟩ := rec_at ho8.ls hlast
    subst eA
    have B8 := Lib.hid (B7.out.trans (hb8.mono (by omega)))
    obtain ⟨_, _, eqq, _, hcap8, hcap8m⟩ := ho8.form
    have z0 := Wb.at_ c0
    have z1 := Wb.at_ c1'
    have z2 := Wb.at_ c2
    have z3 := Wb.at_ c3
    have z4 := Wb.at_ c4
    have y0 := Wb.at_ d0
    have y1 := Wb.at_ d1
    have y2 := Wb.at_ d2
    have y3 := Wb.at_ d3
    have y4 := Wb.at_ d4
    have l0 : w.heap.size < w8.heap.size := blk_lt GG8
    have q0 : (0 : Int) ≤ (nl : Int) := by omega
    have q1 : (nl : Int) < (nl : Int) + 1 := by omega
    clear ho8 hb8 D5 GG8 hlast eqq
    go_wp2_with fail
    refine wp_region_plan [([0, 1, 2, 3, 4, 5, 6, 7, 8, 9, 10, 11, 12, 13, 14, 15, 16, 17, 18, 19, 20, 21, 22], none)] (by kernel_rfl) (by kernel_rfl) ?_
    refine seg_end _ (by dsimp only [pick, at_]) ?_
    repeat (go_big_quiet_step (fail))
    refine wpQuiet_nil ?_
    refine NoPanic.normal ?_
    go_wp2_with fail
    go_ret
    exact ⟨rfl, B8.out.drew⟩
  · have hE1 : (E == 0) = false := by simpa using hE0
    have hE2 : (E != 0) = true := by simpa using hE0
    go_wp2_with fail
    go_ret
    exact ⟨rfl, B5.out⟩
end Go.Proofs.Ytmegkemileailaa.lawCommitlogBytes
