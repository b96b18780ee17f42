/-
  The document's one.
-/
import Derived.Test.YtmegkemileailaaClO
namespace Go.Proofs.Ytmegkemileailaa.cl
open Go.ChangeShapes Go.WideShapes Go.ChangeAt Go.RowKit plain words ord mem uvs uvc

set_option maxHeartbeats 16000000 in
set_option maxRecDepth 100000 in
theorem one_y (w : World) (B n c : Nat) (A : Option Addr) (bs : By) (h : Bs w B A n bs) (hB : B ≤ w.heap.size) (hnc : n ≤ c) (hcm : c ≤ 9223372036854775807) (hn : n ≤ 1000000000) :
    Calls Try.prog 12 #[.slice A n c] w (RetOne w bs) := by
  have hl := h.len_
  obtain ⟨w1, hw1⟩ : ∃ w1, (w.alloc (.cells (rc r0).toArray 32)).alloc (.cells (rc r0).toArray 32) = w1 := ⟨_, rfl⟩
  have hb1 : Below w.heap.size w w1 := by rw [← hw1]; exact ((Below.refl _ _).alloc (Nat.le_refl _) _).alloc (by simp) _
  have O1 := Lib.hid (show OS w w1 r0 from by
    refine ⟨by rw [← hw1]; exact alloc_old _ (alloc_new _ _), ?_, hb1⟩
    have := alloc_new (w.alloc (.cells (rc r0).toArray 32)) (.cells (rc r0).toArray 32)
    rw [show (w.alloc (.cells (rc r0).toArray 32)).heap.size = w.heap.size + 1 by simp, hw1] at this
    exact this)
  have hr := readuv_y w1 B n c A bs (h.below hb1 hB) (Nat.le_trans hB hb1.size) hnc hcm (by omega)
  unfold RetNum at hr
  have hback := fun hk => ru_back0 bs (ru bs 0 0).1 (ru bs 0 0).2 rfl hk
  obtain ⟨v, hv⟩ : ∃ v, (ru bs 0 0).1 = v := ⟨_, rfl⟩
  obtain ⟨m, hm⟩ : ∃ m, (ru bs 0 0).2 = m := ⟨_, rfl⟩
  have NO1 := Lib.hid (one_no1 hv hm)
  have NO2 := Lib.hid (one_no2 hv hm)
  have YES := Lib.hid (fun r => @one_yes bs v m r hv hm)
  rw [hv, hm] at hr hback
  have HR := Lib.hid hr
  have HH := Lib.hid (h.below hb1 hB)
  have HL := Lib.hid hl
  have HW := Lib.hid hw1
  have HBB := Lib.hid (Nat.le_trans hB hb1.size)
  clear h hl hb1 hr hw1 hv hm
  go_enter Try.func12, Try.ntmps12
  generalize hPK : bodyPost Try.prog Try.f12 (RetOne w bs) = PK
  have HPK := Lib.hid hPK
  clear hPK
  go_wp2_with (fail)
  rw [show (w.alloc (.cells #[.int .i64 0, .string { data := #[] }, .int .i64 0, .int .u64 0, .int .u64 0] 32)).alloc (.cells #[.int .i64 0, .string { data := #[] }, .int .i64 0, .int .u64 0, .int .u64 0] 32) = w1 from HW.out]
  refine HR.out.mono ?_
  rintro e w2 ⟨rfl, hb2⟩
  have OX := Lib.hid (O1.out.quiet hb2)
  have H2 := Lib.hid (HH.out.below hb2 HBB.out)
  have HB2 := Lib.hid (Nat.le_trans HBB.out hb2.size)
  clear hb2 HR O1 HH HBB
  by_cases hm0 : m = 0
  · have DN := Lib.hid (NO1.out (.inl hm0))
    subst hm0
    clear hback
    obtain ⟨⟨a0, a1, a2, a3, a4⟩, _⟩ := rv_cells OX.out.cur
    obtain ⟨⟨b0, b1', b2, b3, b4⟩, z0, z1, z2, z3, z4⟩ := rv_cells OX.out.res
    have lcur := blk_lt OX.out.cur
    have lres := blk_lt OX.out.res
    go_wp2_with (fail)
    (try simp only [Exit.inBlock, Exit.then])
    rw [← HPK.out]
    refine bodyPost_ret (ret_cell rfl _ (W5 w2 w.heap.size r0) w.heap.size 32 _ _ _ rfl (set5 OX.out.res r0) Try.underlying32 rfl info5) rfl ?_
    exact one_no DN.out OX.out.bel
  have mb : ((m : Int) == 0) = false := by simp; omega
  have mb' : ¬ (m : Int) = 0 := by omega
  obtain ⟨e1, e2, _⟩ := hback hm0
  rw [HL.out] at e2
  clear hback
  by_cases hv64 : 64 < v
  · have DN := Lib.hid (NO1.out (.inr (.inl hv64)))
    have v64 : (64 : Int) < (v : Int) := by omega
    obtain ⟨⟨a0, a1, a2, a3, a4⟩, _⟩ := rv_cells OX.out.cur
    obtain ⟨⟨b0, b1', b2, b3, b4⟩, z0, z1, z2, z3, z4⟩ := rv_cells OX.out.res
    have lcur := blk_lt OX.out.cur
    have lres := blk_lt OX.out.res
    go_wp2_with (fail)
    (try simp only [Exit.inBlock, Exit.then])
    rw [← HPK.out]
    refine bodyPost_ret (ret_cell rfl _ (W5 w2 w.heap.size r0) w.heap.size 32 _ _ _ rfl (set5 OX.out.res r0) Try.underlying32 rfl info5) rfl ?_
    exact one_no DN.out OX.out.bel
  have v64 : ¬ (64 : Int) < (v : Int) := by omega
  have vw : IntKind.i64.wrap (v : Int) = (v : Int) := by rw [IntWalk.i64_in _ (by omega)]
  obtain ⟨M, hM⟩ : ∃ M, m + 4 = M := ⟨_, rfl⟩
  obtain ⟨E, hE⟩ : ∃ E, m + 4 + v = E := ⟨_, rfl⟩
  have mw : IntKind.i64.wrap ((m : Int) + 4) = (M : Int) := by rw [IntWalk.i64_in _ (by omega)]; omega
  have ew : IntKind.i64.wrap ((M : Int) + (v : Int)) = (E : Int) := by rw [IntWalk.i64_in _ (by omega)]; omega
  rw [hE] at NO1 YES
  have KM := Lib.hid hM
  have KE := Lib.hid hE
  by_cases hEn : n < E
  · have DN := Lib.hid (NO1.out (.inr (.inr (by rw [HL.out]; exact hEn))))
    have en : (n : Int) < (E : Int) := by omega
    clear hM hE
    obtain ⟨⟨a0, a1, a2, a3, a4⟩, _⟩ := rv_cells OX.out.cur
    obtain ⟨⟨b0, b1', b2, b3, b4⟩, z0, z1, z2, z3, z4⟩ := rv_cells OX.out.res
    have lcur := blk_lt OX.out.cur
    have lres := blk_lt OX.out.res
    go_wp2_with (fail)
    (try simp only [Exit.inBlock, Exit.then])
    rw [← HPK.out]
    refine bodyPost_ret (ret_cell rfl _ (W5 w2 w.heap.size r0) w.heap.size 32 _ _ _ rfl (set5 OX.out.res r0) Try.underlying32 rfl info5) rfl ?_
    exact one_no DN.out OX.out.bel
  have en : ¬ (n : Int) < (E : Int) := by omega
  obtain ⟨b, off, eA⟩ := bs_addr H2.out (show 0 < n by omega)
  subst eA
  have hME : E - M = v := by omega
  have hMc : M ≤ c := by omega
  have g1 : (0 : Int) ≤ (M : Int) := by omega
  have g2 : (M : Int) ≤ (E : Int) := by omega
  have g3 : (E : Int) ≤ (c : Int) := by omega
  have hEn' : E ≤ n := by omega
  obtain ⟨X, hX⟩ : ∃ X, ((bs.drop m).drop 4).take v = X := ⟨_, rfl⟩
  have hXe : (bs.drop M).take v = X := by rw [← hX, List.drop_drop, hM]
  rw [hX] at NO2 YES
  have YES := Lib.hid (fun r hp => YES.out r hp (by rw [HL.out]; exact hEn'))
  clear NO1
  by_cases hcM : c = M
  · have hv0 : v = 0 := by omega
    subst hv0
    rw [List.take_zero] at hXe
    subst hXe
    have DN := Lib.hid (NO2.out rfl)
    have hEM : E = M := by omega
    subst hEM
    obtain rfl : E = c := hcM.symm
    have hr := readuv_y w2 B 0 0 (some ⟨b, off, none⟩) [] (Rd.nil _ _ _) HB2.out (Nat.le_refl 0) (by omega) (by omega)
    have HR := Lib.hid (show Calls Try.prog 24 #[.slice (some ⟨b, off, none⟩) 0 0] w2 fun e w' => e = .returned (.tuple #[.int .u64 ((0 : Nat) : Int), .int .i64 ((0 : Nat) : Int)]) ∧ Below w2.heap.size w2 w' from hr)
    have O2 := Lib.hid OX.out
    clear hr hM hE hX hME OX
    go_wp2_with (fail)
    refine HR.out.mono ?_
    rintro e w3 ⟨rfl, hb3⟩
    have OX := Lib.hid (O2.out.quiet hb3)
    clear hb3 HR O2
    obtain ⟨⟨a0, a1, a2, a3, a4⟩, _⟩ := rv_cells OX.out.cur
    obtain ⟨⟨b0, b1', b2, b3, b4⟩, z0, z1, z2, z3, z4⟩ := rv_cells OX.out.res
    have lcur := blk_lt OX.out.cur
    have lres := blk_lt OX.out.res
    go_wp2_with (fail)
    (try simp only [Exit.inBlock, Exit.then])
    rw [← HPK.out]
    refine bodyPost_ret (ret_cell rfl _ (W5 w3 w.heap.size r0) w.heap.size 32 _ _ _ rfl (set5 OX.out.res r0) Try.underlying32 rfl info5) rfl ?_
    exact one_no DN.out OX.out.bel
  have HX1 := Lib.hid (show Bs w2 B (some ⟨b, off + M, none⟩) v X by rw [← hXe]; exact bs_take (bs_drop (c := c) H2.out (show M ≤ n by omega)) (by omega))
  have hXl := HX1.out.len_
  have KX := Lib.hid hXl
  obtain ⟨c1, hc1⟩ : ∃ c1, c - M = c1 := ⟨_, rfl⟩
  have hv1 : v ≤ c1 := by omega
  have hc1m : c1 ≤ 9223372036854775807 := by omega
  have hr := readuv_y w2 B v c1 _ X HX1.out HB2.out hv1 hc1m (by omega)
  unfold RetNum at hr
  obtain ⟨s1, hs1⟩ : ∃ s, (ru X 0 0).1 = s := ⟨_, rfl⟩
  obtain ⟨k1, hk1⟩ : ∃ k, (ru X 0 0).2 = k := ⟨_, rfl⟩
  have PNO := Lib.hid (parse_no1 hs1 hk1)
  have PTO := Lib.hid (parse_to2 hs1 hk1)
  have hback := fun hk => ru_back0 X (ru X 0 0).1 (ru X 0 0).2 rfl hk
  rw [hs1, hk1] at hr hback
  have HR := Lib.hid hr
  have O2 := Lib.hid OX.out
  have KC := Lib.hid hc1
  clear hr hs1 hk1 OX hM hE hX hXe hXl
  go_wp2_with (fail)
  refine HR.out.mono ?_
  rintro e w3 ⟨rfl, hb3⟩
  clear hm0 mb mb' hcM
  have OX := Lib.hid (O2.out.quiet hb3)
  have H3 := Lib.hid (HX1.out.below hb3 HB2.out)
  have HB3 := Lib.hid (Nat.le_trans HB2.out hb3.size)
  have H2' := Lib.hid (H2.out.below hb3 HB2.out)
  clear hb3 HR O2 HX1 H2 HB2
  by_cases hk10 : k1 = 0
  · have DN := Lib.hid (NO2.out (PNO.out (.inl hk10)))
    subst hk10
    clear hback
    obtain ⟨⟨a0, a1, a2, a3, a4⟩, _⟩ := rv_cells OX.out.cur
    obtain ⟨⟨b0, b1', b2, b3, b4⟩, z0, z1, z2, z3, z4⟩ := rv_cells OX.out.res
    have lcur := blk_lt OX.out.cur
    have lres := blk_lt OX.out.res
    go_wp2_with (fail)
    (try simp only [Exit.inBlock, Exit.then])
    rw [← HPK.out]
    refine bodyPost_ret (ret_cell rfl _ (W5 w3 w.heap.size r0) w.heap.size 32 _ _ _ rfl (set5 OX.out.res r0) Try.underlying32 rfl info5) rfl ?_
    exact one_no DN.out OX.out.bel
  have k1b : ((k1 : Int) == 0) = false := by simp; omega
  have k1c : ¬ (k1 : Int) = 0 := by omega
  obtain ⟨e3, e4, _⟩ := hback hk10
  rw [KX.out] at e4
  clear hback
  by_cases hs13 : 3 < s1
  · have DN := Lib.hid (NO2.out (PNO.out (.inr hs13)))
    have s13 : (4 : Int) ≤ (s1 : Int) := by omega
    obtain ⟨⟨a0, a1, a2, a3, a4⟩, _⟩ := rv_cells OX.out.cur
    obtain ⟨⟨b0, b1', b2, b3, b4⟩, z0, z1, z2, z3, z4⟩ := rv_cells OX.out.res
    have lcur := blk_lt OX.out.cur
    have lres := blk_lt OX.out.res
    go_wp2_with (fail)
    (try simp only [Exit.inBlock, Exit.then])
    rw [← HPK.out]
    refine bodyPost_ret (ret_cell rfl _ (W5 w3 w.heap.size r0) w.heap.size 32 _ _ _ rfl (set5 OX.out.res r0) Try.underlying32 rfl info5) rfl ?_
    exact one_no DN.out OX.out.bel
  have s13 : ¬ (4 : Int) ≤ (s1 : Int) := by omega
  have P2 := Lib.hid (PTO.out (by omega))
  have s1w : IntKind.i64.wrap (s1 : Int) = (s1 : Int) := by rw [IntWalk.i64_in _ (by omega)]
  have O3 := Lib.hid (OX.out.set 0 (.int .i64 s1) ⟨s1, [], 0, 0, 0⟩ rfl)
  have hbs : Below w.heap.size w3 (w3.setCell ⟨w.heap.size + 1, 0, none⟩ (.int .i64 s1)) := ((Below.refl _ _).mono OX.out.bel.size).setCell (p := ⟨w.heap.size + 1, 0, none⟩) (show w.heap.size ≤ w.heap.size + 1 by omega) _
  have H4 := Lib.hid (H3.out.below hbs hB)
  have H2'' := Lib.hid (H2'.out.below hbs hB)
  have HB4 := Lib.hid (show B ≤ (w3.setCell ⟨w.heap.size + 1, 0, none⟩ (.int .i64 s1)).heap.size by simp; exact HB3.out)
  obtain ⟨⟨a0, _⟩, f0, _⟩ := rv_cells OX.out.cur
  have lc3 := blk_lt OX.out.cur
  have j0 : (0 : Int) ≤ (k1 : Int) := by omega
  have j1 : (k1 : Int) ≤ (v : Int) := by omega
  have j2 : (v : Int) ≤ (c1 : Int) := by omega
  have j3 : (k1 : Int) ≤ (c1 : Int) := by omega
  clear hbs PNO PTO OX H3 H2' HB3
  by_cases hck1 : c1 = k1
  · have hvk : v - k1 = 0 := by omega
    have DN := Lib.hid (NO2.out (by rw [P2.out, List.drop_eq_nil_of_le (by rw [KX.out]; omega)]; rfl))
    have hr := readuv_y (w3.setCell ⟨w.heap.size + 1, 0, none⟩ (.int .i64 s1)) B 0 0 (some ⟨b, off + M, none⟩) [] (Rd.nil _ _ _) HB4.out (Nat.le_refl 0) (by omega) (by omega)
    have HR := Lib.hid (show Calls Try.prog 24 #[.slice (some ⟨b, off + M, none⟩) 0 0] (w3.setCell ⟨w.heap.size + 1, 0, none⟩ (.int .i64 s1)) fun e w' => e = .returned (.tuple #[.int .u64 ((0 : Nat) : Int), .int .i64 ((0 : Nat) : Int)]) ∧ Below (w3.setCell ⟨w.heap.size + 1, 0, none⟩ (.int .i64 s1)).heap.size (w3.setCell ⟨w.heap.size + 1, 0, none⟩ (.int .i64 s1)) w' from hr)
    obtain rfl : v = k1 := by omega
    obtain rfl : v = c1 := hck1.symm
    clear hr hvk
    go_wp2_with (fail)
    refine HR.out.mono ?_
    rintro e w4 ⟨rfl, hb4⟩
    have OX := Lib.hid (O3.out.quiet hb4)
    clear hb4 HR O3 a0 f0
    obtain ⟨⟨a0, a1, a2, a3, a4⟩, _⟩ := rv_cells OX.out.cur
    obtain ⟨⟨b0, b1', b2, b3, b4⟩, z0, z1, z2, z3, z4⟩ := rv_cells OX.out.res
    have lcur := blk_lt OX.out.cur
    have lres := blk_lt OX.out.res
    go_wp2_with (fail)
    (try simp only [Exit.inBlock, Exit.then])
    rw [← HPK.out]
    refine bodyPost_ret (ret_cell rfl _ (W5 w4 w.heap.size ⟨s1, [], 0, 0, 0⟩) w.heap.size 32 _ _ _ rfl (set5 OX.out.res ⟨s1, [], 0, 0, 0⟩) Try.underlying32 rfl info5) rfl ?_
    exact one_no DN.out OX.out.bel
  obtain ⟨u, hu⟩ : ∃ u, v - k1 = u := ⟨_, rfl⟩
  obtain ⟨c2, hc2⟩ : ∃ c, c1 - k1 = c := ⟨_, rfl⟩
  obtain ⟨X2, hX2⟩ : ∃ Y, X.drop k1 = Y := ⟨_, rfl⟩
  have hbd := bs_drop (c := c1) H4.out e4
  rw [hu, hX2] at hbd
  have hu2 : u ≤ c2 := by omega
  have hXl2 := hbd.len_
  have KX2 := Lib.hid hXl2
  have HX2 := Lib.hid hbd
  have hr := readuv_y _ B u c2 _ X2 hbd HB4.out hu2 (by omega) (by omega)
  unfold RetNum at hr
  rw [hX2] at P2
  obtain ⟨s2, hs2⟩ : ∃ s, (ru X2 0 0).1 = s := ⟨_, rfl⟩
  obtain ⟨k2, hk2⟩ : ∃ k, (ru X2 0 0).2 = k := ⟨_, rfl⟩
  have PNO := Lib.hid (num_none (m := 16) hs2 hk2)
  have PTO := Lib.hid (num_some (m := 16) hs2 hk2)
  have hback := fun hk => ru_back0 X2 (ru X2 0 0).1 (ru X2 0 0).2 rfl hk
  rw [hs2, hk2] at hr hback
  have HR := Lib.hid hr
  clear hr hs2 hk2 hbd hX2 hXl2 H4
  go_wp2_with (fail)
  refine HR.out.mono ?_
  rintro e w4 ⟨rfl, hb4⟩
  clear hk10 k1b k1c hck1
  have OX := Lib.hid (O3.out.quiet hb4)
  have HX3 := Lib.hid (HX2.out.below hb4 HB4.out)
  have HB5 := Lib.hid (Nat.le_trans HB4.out hb4.size)
  have HA3 := Lib.hid (H2''.out.below hb4 HB4.out)
  clear hb4 HR O3 HX2 H2'' HB4 a0 f0 lc3
  by_cases hk20 : k2 = 0
  · have DN := Lib.hid (NO2.out (by rw [P2.out, PNO.out (.inl hk20)]))
    subst hk20
    clear hback
    obtain ⟨⟨a0, a1, a2, a3, a4⟩, _⟩ := rv_cells OX.out.cur
    obtain ⟨⟨b0, b1', b2, b3, b4⟩, z0, z1, z2, z3, z4⟩ := rv_cells OX.out.res
    have lcur := blk_lt OX.out.cur
    have lres := blk_lt OX.out.res
    go_wp2_with (fail)
    (try simp only [Exit.inBlock, Exit.then])
    rw [← HPK.out]
    refine bodyPost_ret (ret_cell rfl _ (W5 w4 w.heap.size ⟨s1, [], 0, 0, 0⟩) w.heap.size 32 _ _ _ rfl (set5 OX.out.res ⟨s1, [], 0, 0, 0⟩) Try.underlying32 rfl info5) rfl ?_
    exact one_no DN.out OX.out.bel
  have k2b : ((k2 : Int) == 0) = false := by simp; omega
  have k2c : ¬ (k2 : Int) = 0 := by omega
  obtain ⟨e5, e6, _⟩ := hback hk20
  rw [KX2.out] at e6
  clear hback
  by_cases hs21 : s2 < 1
  · have DN := Lib.hid (NO2.out (by rw [P2.out, PTO.out (by omega)]; show parse2 _ _ _ = none; unfold parse2; rw [if_pos (.inl hs21)]))
    have s21 : (s2 : Int) < 1 := by omega
    obtain ⟨⟨a0, a1, a2, a3, a4⟩, _⟩ := rv_cells OX.out.cur
    obtain ⟨⟨b0, b1', b2, b3, b4⟩, z0, z1, z2, z3, z4⟩ := rv_cells OX.out.res
    have lcur := blk_lt OX.out.cur
    have lres := blk_lt OX.out.res
    go_wp2_with (fail)
    (try simp only [Exit.inBlock, Exit.then])
    rw [← HPK.out]
    refine bodyPost_ret (ret_cell rfl _ (W5 w4 w.heap.size ⟨s1, [], 0, 0, 0⟩) w.heap.size 32 _ _ _ rfl (set5 OX.out.res ⟨s1, [], 0, 0, 0⟩) Try.underlying32 rfl info5) rfl ?_
    exact one_no DN.out OX.out.bel
  have s21 : ¬ (s2 : Int) < 1 := by omega
  by_cases hs22 : 16 < s2
  · have DN := Lib.hid (NO2.out (by rw [P2.out, PNO.out (.inr hs22)]))
    have s22 : (16 : Int) < (s2 : Int) := by omega
    obtain ⟨⟨a0, a1, a2, a3, a4⟩, _⟩ := rv_cells OX.out.cur
    obtain ⟨⟨b0, b1', b2, b3, b4⟩, z0, z1, z2, z3, z4⟩ := rv_cells OX.out.res
    have lcur := blk_lt OX.out.cur
    have lres := blk_lt OX.out.res
    go_wp2_with (fail)
    (try simp only [Exit.inBlock, Exit.then])
    rw [← HPK.out]
    refine bodyPost_ret (ret_cell rfl _ (W5 w4 w.heap.size ⟨s1, [], 0, 0, 0⟩) w.heap.size 32 _ _ _ rfl (set5 OX.out.res ⟨s1, [], 0, 0, 0⟩) Try.underlying32 rfl info5) rfl ?_
    exact one_no DN.out OX.out.bel
  have s22 : ¬ (16 : Int) < (s2 : Int) := by omega
  have s2w : IntKind.i64.wrap (s2 : Int) = (s2 : Int) := by rw [IntWalk.i64_in _ (by omega)]
  obtain ⟨K2, hK2⟩ : ∃ K, k2 + s2 = K := ⟨_, rfl⟩
  have kw : IntKind.i64.wrap ((k2 : Int) + (s2 : Int)) = (K2 : Int) := by rw [IntWalk.i64_in _ (by omega)]; omega
  have KK := Lib.hid hK2
  have hx2l : (X2.drop k2).length = u - k2 := by rw [List.length_drop, KX2.out]
  by_cases hKu : u < K2
  · have DN := Lib.hid (NO2.out (by rw [P2.out, PTO.out (by omega)]; show parse2 _ _ _ = none; unfold parse2; rw [if_pos (.inr (by rw [hx2l]; omega))]))
    have ku : (u : Int) < (K2 : Int) := by omega
    clear hK2 hx2l
    obtain ⟨⟨a0, a1, a2, a3, a4⟩, _⟩ := rv_cells OX.out.cur
    obtain ⟨⟨b0, b1', b2, b3, b4⟩, z0, z1, z2, z3, z4⟩ := rv_cells OX.out.res
    have lcur := blk_lt OX.out.cur
    have lres := blk_lt OX.out.res
    go_wp2_with (fail)
    (try simp only [Exit.inBlock, Exit.then])
    rw [← HPK.out]
    refine bodyPost_ret (ret_cell rfl _ (W5 w4 w.heap.size ⟨s1, [], 0, 0, 0⟩) w.heap.size 32 _ _ _ rfl (set5 OX.out.res ⟨s1, [], 0, 0, 0⟩) Try.underlying32 rfl info5) rfl ?_
    exact one_no DN.out OX.out.bel
  have ku : ¬ (u : Int) < (K2 : Int) := by omega
  obtain ⟨I, hI⟩ : ∃ I, (X2.drop k2).take s2 = I := ⟨_, rfl⟩
  have P3 := Lib.hid (show parse X = match num 1099511627776 (X2.drop K2) with | none => none | some (t, c) => if c.length = 16 then some ⟨s1, I, t, fix (c.take 8), fix (c.drop 8)⟩ else none by rw [P2.out, PTO.out (by omega)]; show parse2 _ _ _ = _; unfold parse2; rw [if_neg (by rw [hx2l]; omega), hI, List.drop_drop, hK2]; rfl)
  have hck2 : ¬ c2 = k2 := by omega
  have hKs : K2 - k2 = s2 := by omega
  have t0 : (0 : Int) ≤ (k2 : Int) := by omega
  have t1 : (k2 : Int) ≤ (K2 : Int) := by omega
  have t2 : (K2 : Int) ≤ (c2 : Int) := by omega
  have t3 : (K2 : Int) ≤ (u : Int) := by omega
  have t4 : (u : Int) ≤ (c2 : Int) := by omega
  have zc : (convert 22 9 (.slice (some ⟨b, off + M + k1 + k2, none⟩) s2 (c2 - k2))).run Try.prog w4 = .ok (.string (tx I)) w4 := by
    have := conv_string (c := c2 - k2) (bs_take (bs_drop (c := c2) HX3.out e6) (show s2 ≤ u - k2 by omega)) 22 9 5 Try.underlying22 Try.underlying9 Try.underlying5
    rw [hI] at this
    exact this
  have O3 := Lib.hid (OX.out.set 1 (.string (tx I)) ⟨s1, I, 0, 0, 0⟩ rfl)
  have hbs : Below w.heap.size w4 (w4.setCell ⟨w.heap.size + 1, 1, none⟩ (.string (tx I))) := ((Below.refl _ _).mono OX.out.bel.size).setCell (p := ⟨w.heap.size + 1, 1, none⟩) (show w.heap.size ≤ w.heap.size + 1 by omega) _
  have H4 := Lib.hid (HX3.out.below hbs hB)
  have H2'' := Lib.hid (HA3.out.below hbs hB)
  have HB4 := Lib.hid (show B ≤ (w4.setCell ⟨w.heap.size + 1, 1, none⟩ (.string (tx I))).heap.size by simp; exact HB5.out)
  obtain ⟨⟨_, a1, _⟩, _, f1, _⟩ := rv_cells OX.out.cur
  have lc3 := blk_lt OX.out.cur
  have KI := Lib.hid hI
  have hil : I.length = s2 := by rw [← hI, List.length_take, hx2l]; omega
  have KIL := Lib.hid hil
  clear hbs PNO PTO OX HX3 HA3 HB5 hI hx2l hil P2
  by_cases hcK : c2 = K2
  · have DN := Lib.hid (NO2.out (by rw [P3.out, List.drop_eq_nil_of_le (by rw [KX2.out]; omega)]; rfl))
    have huK : u - K2 = 0 := by omega
    have hr := readuv_y (w4.setCell ⟨w.heap.size + 1, 1, none⟩ (.string (tx I))) B 0 0 (some ⟨b, off + M + k1, none⟩) [] (Rd.nil _ _ _) HB4.out (Nat.le_refl 0) (by omega) (by omega)
    have HR := Lib.hid (show Calls Try.prog 24 #[.slice (some ⟨b, off + M + k1, none⟩) 0 0] (w4.setCell ⟨w.heap.size + 1, 1, none⟩ (.string (tx I))) fun e w' => e = .returned (.tuple #[.int .u64 ((0 : Nat) : Int), .int .i64 ((0 : Nat) : Int)]) ∧ Below (w4.setCell ⟨w.heap.size + 1, 1, none⟩ (.string (tx I))).heap.size (w4.setCell ⟨w.heap.size + 1, 1, none⟩ (.string (tx I))) w' from hr)
    have huu : u = K2 := by omega
    obtain rfl : K2 = u := huu.symm
    obtain rfl : K2 = c2 := hcK.symm
    rw [hKs] at zc
    clear hr huK hK2
    go_wp2_with (fail)
    refine HR.out.mono ?_
    rintro e w5 ⟨rfl, hb5⟩
    have OX := Lib.hid (O3.out.quiet hb5)
    clear hb5 HR O3 a1 f1 zc
    obtain ⟨⟨a0, a1, a2, a3, a4⟩, _⟩ := rv_cells OX.out.cur
    obtain ⟨⟨b0, b1', b2, b3, b4⟩, z0, z1, z2, z3, z4⟩ := rv_cells OX.out.res
    have lcur := blk_lt OX.out.cur
    have lres := blk_lt OX.out.res
    go_wp2_with (fail)
    (try simp only [Exit.inBlock, Exit.then])
    rw [← HPK.out]
    refine bodyPost_ret (ret_cell rfl _ (W5 w5 w.heap.size ⟨s1, I, 0, 0, 0⟩) w.heap.size 32 _ _ _ rfl (set5 OX.out.res ⟨s1, I, 0, 0, 0⟩) Try.underlying32 rfl info5) rfl ?_
    exact one_no DN.out OX.out.bel
  obtain ⟨u3, hu3⟩ : ∃ q, u - K2 = q := ⟨_, rfl⟩
  obtain ⟨c3, hc3⟩ : ∃ q, c2 - K2 = q := ⟨_, rfl⟩
  obtain ⟨X3, hX3⟩ : ∃ Y, X2.drop K2 = Y := ⟨_, rfl⟩
  have hbd := bs_drop (c := c2) H4.out (show K2 ≤ u by omega)
  rw [hu3, hX3] at hbd
  have hu4 : u3 ≤ c3 := by omega
  have hXl3 := hbd.len_
  have KX3 := Lib.hid hXl3
  have HX2 := Lib.hid hbd
  have hr := readuv_y _ B u3 c3 _ X3 hbd HB4.out hu4 (by omega) (by omega)
  unfold RetNum at hr
  rw [hX3] at P3
  obtain ⟨s3, hs3⟩ : ∃ s, (ru X3 0 0).1 = s := ⟨_, rfl⟩
  obtain ⟨k3, hk3⟩ : ∃ k, (ru X3 0 0).2 = k := ⟨_, rfl⟩
  have PNO := Lib.hid (num_none (m := 1099511627776) hs3 hk3)
  have PTO := Lib.hid (num_some (m := 1099511627776) hs3 hk3)
  have hback := fun hk => ru_back0 X3 (ru X3 0 0).1 (ru X3 0 0).2 rfl hk
  rw [hs3, hk3] at hr hback
  have HR := Lib.hid hr
  clear hr hs3 hk3 hbd hX3 hXl3 H4 hK2
  go_wp2_with (fail)
  refine HR.out.mono ?_
  rintro e w5 ⟨rfl, hb5⟩
  clear hk20 k2b k2c hck2 hcK
  have OX := Lib.hid (O3.out.quiet hb5)
  have HX3 := Lib.hid (HX2.out.below hb5 HB4.out)
  have HB5 := Lib.hid (Nat.le_trans HB4.out hb5.size)
  have HA3 := Lib.hid (H2''.out.below hb5 HB4.out)
  clear hb5 HR O3 HX2 H2'' HB4 a1 f1 lc3 zc
  by_cases hk30 : k3 = 0
  · have DN := Lib.hid (NO2.out (by rw [P3.out, PNO.out (.inl hk30)]))
    subst hk30
    clear hback
    obtain ⟨⟨a0, a1, a2, a3, a4⟩, _⟩ := rv_cells OX.out.cur
    obtain ⟨⟨b0, b1', b2, b3, b4⟩, z0, z1, z2, z3, z4⟩ := rv_cells OX.out.res
    have lcur := blk_lt OX.out.cur
    have lres := blk_lt OX.out.res
    go_wp2_with (fail)
    (try simp only [Exit.inBlock, Exit.then])
    rw [← HPK.out]
    refine bodyPost_ret (ret_cell rfl _ (W5 w5 w.heap.size ⟨s1, I, 0, 0, 0⟩) w.heap.size 32 _ _ _ rfl (set5 OX.out.res ⟨s1, I, 0, 0, 0⟩) Try.underlying32 rfl info5) rfl ?_
    exact one_no DN.out OX.out.bel
  have k3b : ((k3 : Int) == 0) = false := by simp; omega
  have k3c : ¬ (k3 : Int) = 0 := by omega
  obtain ⟨e7, e8, _⟩ := hback hk30
  rw [KX3.out] at e8
  clear hback
  by_cases hs31 : 1099511627776 < s3
  · have DN := Lib.hid (NO2.out (by rw [P3.out, PNO.out (.inr hs31)]))
    have s31 : (1099511627776 : Int) < (s3 : Int) := by omega
    obtain ⟨⟨a0, a1, a2, a3, a4⟩, _⟩ := rv_cells OX.out.cur
    obtain ⟨⟨b0, b1', b2, b3, b4⟩, z0, z1, z2, z3, z4⟩ := rv_cells OX.out.res
    have lcur := blk_lt OX.out.cur
    have lres := blk_lt OX.out.res
    go_wp2_with (fail)
    (try simp only [Exit.inBlock, Exit.then])
    rw [← HPK.out]
    refine bodyPost_ret (ret_cell rfl _ (W5 w5 w.heap.size ⟨s1, I, 0, 0, 0⟩) w.heap.size 32 _ _ _ rfl (set5 OX.out.res ⟨s1, I, 0, 0, 0⟩) Try.underlying32 rfl info5) rfl ?_
    exact one_no DN.out OX.out.bel
  have s31 : ¬ (1099511627776 : Int) < (s3 : Int) := by omega
  have kw3 : IntKind.i64.wrap ((k3 : Int) + 16) = (k3 : Int) + 16 := by rw [IntWalk.i64_in _ (by omega)]
  have hx3l : (X3.drop k3).length = u3 - k3 := by rw [List.length_drop, KX3.out]
  by_cases hu16 : u3 = k3 + 16
  · skip
    have P4 := Lib.hid (show parse X = some ⟨s1, I, s3, fix ((X3.drop k3).take 8), fix ((X3.drop k3).drop 8)⟩ by rw [P3.out, PTO.out (by omega)]; show (if _ then _ else _) = _; rw [if_pos (by rw [hx3l]; omega)])
    have u16 : ((u3 : Int) == (k3 : Int) + 16) = true := by simp; omega
    have u16' : (u3 : Int) = (k3 : Int) + 16 := by omega
    have s3w : IntKind.i64.wrap (s3 : Int) = (s3 : Int) := by rw [IntWalk.i64_in _ (by omega)]
    have kw8 : IntKind.i64.wrap ((k3 : Int) + 8) = ((k3 + 8 : Nat) : Int) := by rw [IntWalk.i64_in _ (by omega)]; omega
    subst hu16
    have HF1 := Lib.hid (wide_y w5.drew B 16 (c3 - k3) _ _ (by have := bs_drop (c := c3) HX3.out.drew (show k3 ≤ k3 + 16 by omega); rw [show k3 + 16 - k3 = 16 by omega] at this; exact this) (by omega))
    have HF2 := Lib.hid (wide_y w5.drew B 8 (c3 - (k3 + 8)) _ _ (by have := bs_drop (c := c3) HX3.out.drew (show k3 + 8 ≤ k3 + 16 by omega); rw [show k3 + 16 - (k3 + 8) = 8 by omega] at this; exact this) (by omega))
    have hf2 : (X3.drop (k3 + 8)).take 8 = (X3.drop k3).drop 8 := by rw [List.drop_drop, List.take_of_length_le (by rw [List.length_drop, KX3.out]; omega)]
    rw [hf2] at HF2
    obtain ⟨F1, hF1⟩ : ∃ F, fix ((X3.drop k3).take 8) = F := ⟨_, rfl⟩
    obtain ⟨F2, hF2⟩ : ∃ F, fix ((X3.drop k3).drop 8) = F := ⟨_, rfl⟩
    rw [hF1] at HF1 P4
    rw [hF2] at HF2 P4
    have g8 : ¬ c3 = k3 := by omega
    have g9 : ¬ c3 = k3 + 8 := by omega
    have q1 : (k3 : Int) ≤ ((k3 + 16 : Nat) : Int) := by omega
    have q2 : ((k3 + 8 : Nat) : Int) ≤ ((k3 + 16 : Nat) : Int) := by omega
    have q3 : ((k3 + 16 : Nat) : Int) ≤ (c3 : Int) := by omega
    have q4 : (0 : Int) ≤ (k3 : Int) := by omega
    have q5 : (0 : Int) ≤ ((k3 + 8 : Nat) : Int) := by omega
    obtain ⟨⟨_, _, a2, a3, a4⟩, _, _, f2, f3, f4⟩ := rv_cells OX.out.cur
    have lc3 := blk_lt OX.out.cur
    clear hF1 hF2 hf2 hx3l
    go_wp2_with (fail)
    refine wp_region_plan [([0, 1, 2, 3, 4, 6, 7, 8, 9], some (5, false)), ([], some (10, false)), ([11, 12], some (13, true)), ([], none)] (by kernel_rfl) (by kernel_rfl) ?_
    refine seg_act _ (by dsimp only [pick, at_]) _ (by dsimp only [pick, at_]) ?_
    repeat (go_big_quiet_step (fail))
    refine wpQuiet_nil ?_
    intro K1 h1 h2
    clear h2
    go_wp2_with (fail)
    refine HF1.out.mono ?_
    rintro e w6 ⟨rfl, rfl⟩
    go_wp2_with (fail)
    refine h1 _ _ (Below.refl _ _).drew ?_
    refine seg_act _ (by dsimp only [pick, at_]) _ (by dsimp only [pick, at_]) ?_
    repeat (go_big_quiet_step (fail))
    refine wpQuiet_nil ?_
    intro KB h1 h2
    clear h2
    go_wp2_with (fail)
    refine HF2.out.mono ?_
    rintro e w6 ⟨rfl, rfl⟩
    go_wp2_with (fail)
    refine h1 _ _ (Below.refl _ _).drew ?_
    refine seg_write _ (by dsimp only [pick, at_]) _ (by dsimp only [pick, at_]) ?_
    repeat (go_big_quiet_step (fail))
    refine wpQuiet_nil ?_
    intro K3 h1
    go_wp2_with (fail)
    refine seg_end _ (by dsimp only [pick, at_]) ?_
    repeat (go_big_quiet_step (fail))
    refine wpQuiet_nil (NoPanic.normal ?_)
    have O6 := ((OX.out.set 2 (.int .i64 s3) ⟨s1, I, s3, 0, 0⟩ rfl).set 3 (.int .u64 F1) ⟨s1, I, s3, F1, 0⟩ rfl).set 4 (.int .u64 F2) ⟨s1, I, s3, F1, F2⟩ rfl
    have B6 : Below w5.heap.size w5 _ := Below.refl _ w5
    obtain ⟨w6, hw6⟩ : ∃ w6, (((w5.setCell ⟨w.heap.size + 1, 2, none⟩ (.int .i64 s3)).setCell ⟨w.heap.size + 1, 3, none⟩ (.int .u64 F1)).setCell ⟨w.heap.size + 1, 4, none⟩ (.int .u64 F2)).drew = w6 := ⟨_, rfl⟩
    have O7 : OS w w6 ⟨s1, I, s3, F1, F2⟩ := by rw [← hw6]; exact ⟨O6.res, O6.cur, O6.bel.drew⟩
    have hc6 : Below w.heap.size w5 w6 := by
      rw [← hw6]
      exact (((((Below.refl w5.heap.size w5).mono OX.out.bel.size).setCell (p := ⟨w.heap.size + 1, 2, none⟩) (show w.heap.size ≤ w.heap.size + 1 by omega) _).setCell (p := ⟨w.heap.size + 1, 3, none⟩) (show w.heap.size ≤ w.heap.size + 1 by omega) _).setCell (p := ⟨w.heap.size + 1, 4, none⟩) (show w.heap.size ≤ w.heap.size + 1 by omega) _).drew
    have hs6 : B ≤ w6.heap.size := Nat.le_trans hB O7.bel.size
    have HA6 := HA3.out.below hc6 hB
    obtain ⟨R, hR⟩ : ∃ R : Rec, (⟨s1, I, s3, F1, F2⟩ : Rec) = R := ⟨_, rfl⟩
    have r0' : R.sp = s1 := by rw [← hR]
    rw [hR] at O7 P4
    rw [hw6]
    obtain ⟨gd, nm, _⟩ := parse_back P4.out
    have HE := Lib.hid (encode_y w6 R nm (by have := gd.i1; omega))
    have HG := Lib.hid (err_good gd)
    have HY := Lib.hid (YES.out R P4.out)
    have HO7 := Lib.hid O7
    have HA7 := Lib.hid (bs_take HA6 hEn')
    have HS6 := Lib.hid hs6
    clear B6 O6 hc6 HA6 gd nm hw6 hR r0' HF1 HF2 a2 a3 a4 f2 f3 f4 lc3 OX YES NO2 P3 P4 hs6 HA3 HX3 PNO PTO
    obtain ⟨⟨q0, q1', q2', q3', q4'⟩, _⟩ := rv_cells HO7.out.cur
    have lc7 := blk_lt HO7.out.cur
    clear O7
    go_wp2_with (fail)
    refine HE.out.mono ?_
    rintro e w7 ⟨Ac, cc, rfl, hown, hb7, hnil⟩
    rw [encB_ok HG.out] at hown ⊢
    rw [HG.out]
    obtain ⟨N, hN⟩ : ∃ N, (enc R).length = N := ⟨_, rfl⟩
    rw [hN] at hown ⊢
    have O8 := Lib.hid (HO7.out.quiet hb7)
    have HB8 := HA7.out.below hb7 HS6.out
    have zc1 : ∀ u : Wb w7, (convert 22 9 (.slice Ac N cc)).run Try.prog u.w = .ok (.string (tx (enc R))) u.w := fun u => conv_string ((own_bs hown).below u.h (Nat.le_refl _)) 22 9 5 Try.underlying22 Try.underlying9 Try.underlying5
    have zc2 : ∀ u : Wb w7, (convert 22 9 (.slice (some ⟨b, off, none⟩) E c)).run Try.prog u.w = .ok (.string (tx (bs.take E))) u.w := fun u => conv_string (HB8.below u.h (Nat.le_trans HS6.out hb7.size)) 22 9 5 Try.underlying22 Try.underlying9 Try.underlying5
    clear hown hb7 hnil HB8 q0 q1' q2' q3' q4' lc7 HE HA7 hN
    have gE : (0 : Int) ≤ (E : Int) := by omega
    have gE2 : (E : Int) ≤ (c : Int) := by omega
    by_cases he : enc R = bs.take E
    · have hd := HY.out
      rw [if_pos he] at hd
      have DN := Lib.hid hd
      have te : ((tx (enc R)).toList == (tx (bs.take E)).toList) = true := by rw [tx_eq]; simp [he]
      clear hd HY he
      go_wp2_with (fail)
      refine wp_region_plan [([0, 1, 2, 3, 4, 5, 6, 7, 8, 9, 10], none)] (by kernel_rfl) (by kernel_rfl) ?_
      refine seg_end _ (by dsimp only [pick, at_]) ?_
      repeat (go_big_quiet_step (fail))
      refine wpQuiet_nil (NoPanic.normal ?_)
      have O9 := Lib.hid (show OS w w7.drew R from ⟨O8.out.res, O8.out.cur, O8.out.bel.drew⟩)
      obtain ⟨w8, hw8⟩ : ∃ w8, w7.drew = w8 := ⟨_, rfl⟩
      rw [hw8] at O9 ⊢
      clear hw8 O8 zc1 zc2
      obtain ⟨⟨a0, a1, a2, a3, a4⟩, _⟩ := rv_cells O9.out.cur
      obtain ⟨⟨b0, b1', b2, b3, b4⟩, z0, z1, z2, z3, z4⟩ := rv_cells O9.out.res
      have lcur := blk_lt O9.out.cur
      have lres := blk_lt O9.out.res
      go_wp2_with (fail)
      (try simp only [Exit.inBlock, Exit.then])
      rw [← HPK.out]
      refine bodyPost_ret (ret_cell rfl _ (W5 w8 w.heap.size R) w.heap.size 32 _ _ _ rfl (set5 O9.out.res R) Try.underlying32 rfl info5) rfl ?_
      exact one_is DN.out O9.out.bel
    · have hd := HY.out
      rw [if_neg he] at hd
      have DN := Lib.hid hd
      have te : ((tx (enc R)).toList == (tx (bs.take E)).toList) = false := by rw [tx_eq]; simp [he]
      clear hd HY he
      go_wp2_with (fail)
      refine wp_region_plan [([0, 1, 2, 3, 4, 5, 6, 7, 8, 9, 10], none)] (by kernel_rfl) (by kernel_rfl) ?_
      refine seg_end _ (by dsimp only [pick, at_]) ?_
      repeat (go_big_quiet_step (fail))
      refine wpQuiet_nil (NoPanic.normal ?_)
      have O9 := Lib.hid (show OS w w7.drew R from ⟨O8.out.res, O8.out.cur, O8.out.bel.drew⟩)
      obtain ⟨w8, hw8⟩ : ∃ w8, w7.drew = w8 := ⟨_, rfl⟩
      rw [hw8] at O9 ⊢
      clear hw8 O8 zc1 zc2
      obtain ⟨⟨a0, a1, a2, a3, a4⟩, _⟩ := rv_cells O9.out.cur
      obtain ⟨⟨b0, b1', b2, b3, b4⟩, z0, z1, z2, z3, z4⟩ := rv_cells O9.out.res
      have lcur := blk_lt O9.out.cur
      have lres := blk_lt O9.out.res
      go_wp2_with (fail)
      (try simp only [Exit.inBlock, Exit.then])
      rw [← HPK.out]
      refine bodyPost_ret (ret_cell rfl _ (W5 w8 w.heap.size R) w.heap.size 32 _ _ _ rfl (set5 O9.out.res R) Try.underlying32 rfl info5) rfl ?_
      exact one_no DN.out O9.out.bel
  · have DN := Lib.hid (NO2.out (by rw [P3.out, PTO.out (by omega)]; show (if _ then _ else _) = _; rw [if_neg (by rw [hx3l]; omega)]))
    have u16 : ((u3 : Int) == (k3 : Int) + 16) = false := by simp; omega
    have u16n : ((u3 : Int) != (k3 : Int) + 16) = true := by simp; omega
    have u16' : ¬ (u3 : Int) = (k3 : Int) + 16 := by omega
    obtain ⟨⟨a0, a1, a2, a3, a4⟩, _⟩ := rv_cells OX.out.cur
    obtain ⟨⟨b0, b1', b2, b3, b4⟩, z0, z1, z2, z3, z4⟩ := rv_cells OX.out.res
    have lcur := blk_lt OX.out.cur
    have lres := blk_lt OX.out.res
    go_wp2_with (fail)
    (try simp only [Exit.inBlock, Exit.then])
    rw [← HPK.out]
    refine bodyPost_ret (ret_cell rfl _ (W5 w5 w.heap.size ⟨s1, I, 0, 0, 0⟩) w.heap.size 32 _ _ _ rfl (set5 OX.out.res ⟨s1, I, 0, 0, 0⟩) Try.underlying32 rfl info5) rfl ?_
    exact one_no DN.out OX.out.bel
end Go.Proofs.Ytmegkemileailaa.cl
