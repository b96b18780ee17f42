/-
  The commit log's first.
-/
import Derived.Test.YtmegkemileailaaGreatDoorClPx
namespace Go.Proofs.YtmegkemileailaaGreatDoor.cl
open Go.ChangeShapes Go.WideShapes Go.ChangeAt Go.RowKit plain words ord mem uvs uvc

def RetFirst (w : World) (bs : By) (e : Ending) (w' : World) : Prop :=
  (match dec1 bs with
    | some (r, n) => e = .returned (.tuple #[.agg (rc r).toArray, .int .i64 n])
    | none => e = .returned (.tuple #[.agg (rc r0).toArray, .int .i64 0])) ∧ Below w.heap.size w w'
theorem first_no {w w1 : World} {bs : By} (hd : dec1 bs = none) (hb : Below w.heap.size w w1) : RetFirst w bs (.returned (.tuple #[.agg (rc r0).toArray, .int .i64 0])) (W5 w1 w.heap.size r0) := by
  unfold RetFirst
  rw [hd]
  exact ⟨rfl, below5 hb (Nat.le_refl _) _⟩
theorem first_yes {w w1 : World} {bs : By} {r : Rec} {n : Nat} (hd : dec1 bs = some (r, n)) (hb : Below w.heap.size w w1) : RetFirst w bs (.returned (.tuple #[.agg (rc r).toArray, .int .i64 n])) (W5 w1 w.heap.size r) := by
  unfold RetFirst
  rw [hd]
  exact ⟨rfl, below5 hb (Nat.le_refl _) _⟩
theorem first_no2 {w w1 : World} {bs : By} (hd : dec1 bs = none) (hb : Below w.heap.size w w1) : RetFirst w bs (.returned (.tuple #[.agg (rc r0).toArray, .int .i64 0])) (W5 w1 w.heap.size r0).drew := by
  unfold RetFirst
  rw [hd]
  exact ⟨rfl, (below5 hb (Nat.le_refl _) _).drew⟩
theorem first_yes2 {w w1 : World} {bs : By} {r : Rec} {n : Nat} (hd : dec1 bs = some (r, n)) (hb : Below w.heap.size w w1) : RetFirst w bs (.returned (.tuple #[.agg (rc r).toArray, .int .i64 n])) (W5 w1 w.heap.size r).drew := by
  unfold RetFirst
  rw [hd]
  exact ⟨rfl, (below5 hb (Nat.le_refl _) _).drew⟩
set_option maxHeartbeats 8000000 in
set_option maxRecDepth 100000 in
theorem first_x (w : World) (B n c : Nat) (A : Option Addr) (bs : By) (h : Bs w B A n bs) (hB : B ≤ w.heap.size) (hnc : n ≤ c) (hcm : c ≤ 9223372036854775807) (hn : n ≤ 1099511627776) :
    Calls Tryz.prog 61 #[.slice A n c] w (RetFirst w bs) := by
  have hl := h.len_
  obtain ⟨w1, hw1⟩ : ∃ w1, w.alloc (.cells (rc r0).toArray 36) = w1 := ⟨_, rfl⟩
  have hb1 : Below w.heap.size w w1 := by rw [← hw1]; exact (Below.refl _ _).alloc (Nat.le_refl _) _
  have hv1 : RV w1 w.heap.size r0 := by rw [← hw1]; exact alloc_new _ _
  have hr := readuv_x w1 B n c A bs (h.below hb1 hB) (by omega)
  unfold RetNum at hr
  have hback := fun hk => ru_back0 bs (ru bs 0 0).1 (ru bs 0 0).2 rfl hk
  have hz := ru_zero bs 0 0
  have D0 := Lib.hid (show dec1 bs = if (ru bs 0 0).2 = 0 ∨ (bs.drop (ru bs 0 0).2).length < 4 ∨ (bs.drop (ru bs 0 0).2).length - 4 < (ru bs 0 0).1 then none else
    match parse (((bs.drop (ru bs 0 0).2).drop 4).take (ru bs 0 0).1) with
    | none => none
    | some r => if (adler.sum (((bs.drop (ru bs 0 0).2).drop 4).take (ru bs 0 0).1)).toNat = fix ((bs.drop (ru bs 0 0).2).take 4) then some (r, (ru bs 0 0).2 + 4 + (ru bs 0 0).1) else none from by unfold dec1; rfl)
  obtain ⟨v, hv⟩ : ∃ v, (ru bs 0 0).1 = v := ⟨_, rfl⟩
  obtain ⟨k, hk⟩ : ∃ k, (ru bs 0 0).2 = k := ⟨_, rfl⟩
  rw [hv, hk] at hr hback D0
  have HR := Lib.hid hr
  have HB1 := Lib.hid hb1
  have HV1 := Lib.hid hv1
  have HH := Lib.hid (h.below hb1 hB)
  have HL := Lib.hid hl
  have HW := Lib.hid hw1
  have hrl : (bs.drop k).length = n - k := by rw [List.length_drop, hl]
  rw [hrl] at D0
  clear h hl hb1 hr hw1 hv hk hrl hz hv1
  by_cases hk0 : k = 0
  · have DN := Lib.hid (show dec1 bs = none by rw [D0.out, if_pos (.inl hk0)])
    subst hk0
    clear hback
    have q0' : (0 : Int) ≤ (n : Int) := by omega
    have q1' : (n : Int) ≤ (c : Int) := by omega
    go_enter Tryz.func61, Tryz.ntmps61
    go_wp2_with (fail)
    rw [show w.alloc (.cells #[.int .i64 0, .string { data := #[] }, .int .i64 0, .int .u64 0, .int .u64 0] 36) = w1 from HW.out]
    refine HR.out.mono ?_
    rintro e w2 ⟨rfl, rfl⟩
    obtain ⟨⟨q0, q1, q2, q3, q4⟩, z0, z1, z2, z3, z4⟩ := rv_cells HV1.out
    have lres := blk_lt HV1.out
    go_wp2_with (fail)
    (try simp only [Exit.inBlock, Exit.then])
    refine bodyPost_ret (ret_cell rfl _ _ w.heap.size 36 _ _ _ rfl (set5 HV1.out r0) Tryz.underlying36 rfl info5) rfl ?_
    exact first_no DN.out HB1.out
  · obtain ⟨e1, e2, _⟩ := hback hk0
    rw [HL.out] at e2
    clear hback
    have k0 : ¬ (k : Int) = 0 := by omega
    have kb : ((k : Int) == 0) = false := by simp; omega
    have hn0 : 0 < n := by omega
    obtain ⟨b, off, eA⟩ := bs_addr HH.out hn0
    subst eA
    have p0 : (0 : Int) ≤ (k : Int) := by omega
    have p1 : (k : Int) ≤ (n : Int) := by omega
    have p2 : (n : Int) ≤ (c : Int) := by omega
    have p3 : (k : Int) ≤ (c : Int) := by omega
    by_cases hn4 : n - k < 4
    · have DN := Lib.hid (show dec1 bs = none by rw [D0.out, if_pos (.inr (.inl hn4))])
      have n4 : ((n - k : Nat) : Int) < 4 := by omega
      by_cases hck : c = k
      · obtain rfl : k = c := hck.symm
        go_enter Tryz.func61, Tryz.ntmps61
        go_wp2_with (fail)
        rw [show w.alloc (.cells #[.int .i64 0, .string { data := #[] }, .int .i64 0, .int .u64 0, .int .u64 0] 36) = w1 from HW.out]
        refine HR.out.mono ?_
        rintro e w2 ⟨rfl, rfl⟩
        obtain ⟨⟨q0, q1, q2, q3, q4⟩, z0, z1, z2, z3, z4⟩ := rv_cells HV1.out
        have lres := blk_lt HV1.out
        go_wp2_with (fail)
        (try simp only [Exit.inBlock, Exit.then])
        refine bodyPost_ret (ret_cell rfl _ _ w.heap.size 36 _ _ _ rfl (set5 HV1.out r0) Tryz.underlying36 rfl info5) rfl ?_
        exact first_no DN.out HB1.out
      · go_enter Tryz.func61, Tryz.ntmps61
        go_wp2_with (fail)
        rw [show w.alloc (.cells #[.int .i64 0, .string { data := #[] }, .int .i64 0, .int .u64 0, .int .u64 0] 36) = w1 from HW.out]
        refine HR.out.mono ?_
        rintro e w2 ⟨rfl, rfl⟩
        obtain ⟨⟨q0, q1, q2, q3, q4⟩, z0, z1, z2, z3, z4⟩ := rv_cells HV1.out
        have lres := blk_lt HV1.out
        go_wp2_with (fail)
        (try simp only [Exit.inBlock, Exit.then])
        refine bodyPost_ret (ret_cell rfl _ _ w.heap.size 36 _ _ _ rfl (set5 HV1.out r0) Tryz.underlying36 rfl info5) rfl ?_
        exact first_no DN.out HB1.out
    have hck : ¬ c = k := by omega
    have n4 : ¬ ((n - k : Nat) : Int) < 4 := by omega
    have HRS := Lib.hid (bs_drop (c := c) HH.out e2)
    have w4 : IntKind.i64.wrap (((n - k : Nat) : Int) - 4) = ((n - k : Nat) : Int) - 4 := by rw [IntWalk.i64_in _ (by omega)]
    have u4 : (((n - k : Nat) : Int) - 4) % 18446744073709551616 = ((n - k : Nat) : Int) - 4 := by omega
    by_cases hv4 : n - k - 4 < v
    · have DN := Lib.hid (show dec1 bs = none by rw [D0.out, if_pos (.inr (.inr hv4))])
      have v4 : ((n - k : Nat) : Int) - 4 < (v : Int) := by omega
      go_enter Tryz.func61, Tryz.ntmps61
      go_wp2_with (fail)
      rw [show w.alloc (.cells #[.int .i64 0, .string { data := #[] }, .int .i64 0, .int .u64 0, .int .u64 0] 36) = w1 from HW.out]
      refine HR.out.mono ?_
      rintro e w2 ⟨rfl, rfl⟩
      obtain ⟨⟨q0, q1, q2, q3, q4⟩, z0, z1, z2, z3, z4⟩ := rv_cells HV1.out
      have lres := blk_lt HV1.out
      go_wp2_with (fail)
      (try simp only [Exit.inBlock, Exit.then])
      refine bodyPost_ret (ret_cell rfl _ _ w.heap.size 36 _ _ _ rfl (set5 HV1.out r0) Tryz.underlying36 rfl info5) rfl ?_
      exact first_no DN.out HB1.out
    have v4 : ¬ ((n - k : Nat) : Int) - 4 < (v : Int) := by omega
    have D1 := Lib.hid (show dec1 bs = match parse (((bs.drop k).drop 4).take v) with
      | none => none
      | some r => if (adler.sum (((bs.drop k).drop 4).take v)).toNat = fix ((bs.drop k).take 4) then some (r, k + 4 + v) else none from by rw [D0.out, if_neg (by omega)])
    have x4 : IntKind.u64.wrap (4 + (v : Int)) = 4 + (v : Int) := by rw [IntKind.wrap_u64]; omega
    have x5 : (4 : Int) ≤ 4 + (v : Int) := by omega
    have x6 : 4 + (v : Int) ≤ ((c - k : Nat) : Int) := by omega
    have hrest4 : Bs w1 B (some ⟨b, off + k, none⟩) 4 ((bs.drop k).take 4) := bs_take HRS.out (by omega)
    have HR4 := Lib.hid hrest4
    clear hrest4
    by_cases hc4 : c - k = 4
    · have hv0 : v = 0 := by omega
      subst hv0
      have DN := Lib.hid (show dec1 bs = none by rw [D1.out, List.take_zero]; rfl)
      have HPX := Lib.hid (parse_x w1 B 0 0 (some ⟨b, off + k, none⟩) [] (Rd.nil _ _ _) (Nat.le_trans hB HB1.out.size) (Nat.le_refl 0) (by omega) (by omega))
      go_enter Tryz.func61, Tryz.ntmps61
      go_wp2_with (fail)
      rw [show w.alloc (.cells #[.int .i64 0, .string { data := #[] }, .int .i64 0, .int .u64 0, .int .u64 0] 36) = w1 from HW.out]
      refine HR.out.mono ?_
      rintro e w2 ⟨rfl, rfl⟩
      go_wp2_with (fail)
      refine HPX.out.mono ?_
      rintro e w2 hr
      unfold RetParse at hr
      rw [show parse [] = none from rfl] at hr
      obtain ⟨rfl, hb2⟩ := hr
      rw [show (rc r0).toArray = #[.int .i64 r0.sp, .string (tx r0.id), .int .i64 r0.t, .int .u64 r0.v, .int .u64 r0.s] from rfl]
      have hal : Below w1.heap.size w1 (w2.alloc (.cells #[.int .i64 r0.sp, .string (tx r0.id), .int .i64 r0.t, .int .u64 r0.v, .int .u64 r0.s] 36)) := hb2.alloc hb2.size _
      have hv3 : RV (w2.alloc (.cells #[.int .i64 r0.sp, .string (tx r0.id), .int .i64 r0.t, .int .u64 r0.v, .int .u64 r0.s] 36)) w2.heap.size r0 := alloc_new _ _
      have s2 := hb2.size
      go_wp2_with (fail)
      obtain ⟨w3, hw3⟩ : ∃ w3, w2.alloc (.cells #[.int .i64 r0.sp, .string (tx r0.id), .int .i64 r0.t, .int .u64 r0.v, .int .u64 r0.s] 36) = w3 := ⟨_, rfl⟩
      rw [hw3] at hal hv3 ⊢
      have HV3 := Lib.hid (blk_below hal HV1.out (blk_lt HV1.out))
      have HB3 := Lib.hid (HB1.out.trans (hal.mono HB1.out.size))
      clear hal hv3 hb2 hw3
      refine wp_region_plan [([0, 1, 2, 3, 6, 7], some (4, false)), ([5], some (8, false)), ([9, 10], none)] (by kernel_rfl) (by kernel_rfl) ?_
      refine seg_act _ (by dsimp only [pick, at_]) _ (by dsimp only [pick, at_]) ?_
      repeat (go_big_quiet_step (fail))
      refine wpQuiet_nil ?_
      intro K1 h1 h2
      clear h2
      go_wp2_with (fail)
      refine h1 _ _ (Below.refl _ _).drew ?_
      refine seg_act _ (by dsimp only [pick, at_]) _ (by dsimp only [pick, at_]) ?_
      repeat (go_big_quiet_step (fail))
      refine wpQuiet_nil ?_
      intro K2 h1 h2
      clear h2
      go_wp2_with (fail)
      refine h1 _ _ (Below.refl _ _).drew ?_
      refine seg_end _ (by dsimp only [pick, at_]) ?_
      repeat (go_big_quiet_step (fail))
      refine wpQuiet_nil (NoPanic.normal ?_)
      obtain ⟨⟨q0, q1, q2, q3, q4⟩, z0, z1, z2, z3, z4⟩ := rv_cells HV3.out
      have lres := blk_lt HV3.out
      go_wp2_with (fail)
      (try simp only [Exit.inBlock, Exit.then])
      refine bodyPost_ret (ret_cell rfl _ _ w.heap.size 36 _ _ _ rfl (show RV (W5 w3 w.heap.size r0).drew w.heap.size r0 from set5 HV3.out r0) Tryz.underlying36 rfl info5) rfl ?_
      exact first_no2 DN.out HB3.out
    · have hbody : Bs w1 B (some ⟨b, off + k + 4, none⟩) v (((bs.drop k).drop 4).take v) := bs_take (bs_drop (c := c - k) HRS.out (show 4 ≤ n - k by omega)) (by omega)
      have HPX := Lib.hid (parse_x w1 B v (c - k - 4) (some ⟨b, off + k + 4, none⟩) _ hbody (Nat.le_trans hB HB1.out.size) (by omega) (by omega) (by omega))
      have HBO := Lib.hid hbody
      obtain ⟨Y, hY⟩ : ∃ Y, ((bs.drop k).drop 4).take v = Y := ⟨_, rfl⟩
      rw [hY] at HPX HBO D1
      clear hbody hY
      go_enter Tryz.func61, Tryz.ntmps61
      go_wp2_with (fail)
      rw [show w.alloc (.cells #[.int .i64 0, .string { data := #[] }, .int .i64 0, .int .u64 0, .int .u64 0] 36) = w1 from HW.out]
      refine HR.out.mono ?_
      rintro e w2 ⟨rfl, rfl⟩
      go_wp2_with (fail)
      refine HPX.out.mono ?_
      rintro e w2 hr
      unfold RetParse at hr
      cases hp : parse Y with
      | none =>
        rw [hp] at hr
        obtain ⟨rfl, hb2⟩ := hr
        have DN := Lib.hid (show dec1 bs = none by rw [D1.out, hp])
        clear hp
        rw [show (rc r0).toArray = #[.int .i64 r0.sp, .string (tx r0.id), .int .i64 r0.t, .int .u64 r0.v, .int .u64 r0.s] from rfl]
        have hal : Below w1.heap.size w1 (w2.alloc (.cells #[.int .i64 r0.sp, .string (tx r0.id), .int .i64 r0.t, .int .u64 r0.v, .int .u64 r0.s] 36)) := hb2.alloc hb2.size _
        have hv3 : RV (w2.alloc (.cells #[.int .i64 r0.sp, .string (tx r0.id), .int .i64 r0.t, .int .u64 r0.v, .int .u64 r0.s] 36)) w2.heap.size r0 := alloc_new _ _
        have s2 := hb2.size
        go_wp2_with (fail)
        obtain ⟨w3, hw3⟩ : ∃ w3, w2.alloc (.cells #[.int .i64 r0.sp, .string (tx r0.id), .int .i64 r0.t, .int .u64 r0.v, .int .u64 r0.s] 36) = w3 := ⟨_, rfl⟩
        rw [hw3] at hal hv3 ⊢
        have HV3 := Lib.hid (blk_below hal HV1.out (blk_lt HV1.out))
        have HB3 := Lib.hid (HB1.out.trans (hal.mono HB1.out.size))
        clear hal hv3 hb2 hw3
        refine wp_region_plan [([0, 1, 2, 3, 6, 7], some (4, false)), ([5], some (8, false)), ([9, 10], none)] (by kernel_rfl) (by kernel_rfl) ?_
        refine seg_act _ (by dsimp only [pick, at_]) _ (by dsimp only [pick, at_]) ?_
        repeat (go_big_quiet_step (fail))
        refine wpQuiet_nil ?_
        intro K1 h1 h2
        clear h2
        go_wp2_with (fail)
        refine h1 _ _ (Below.refl _ _).drew ?_
        refine seg_act _ (by dsimp only [pick, at_]) _ (by dsimp only [pick, at_]) ?_
        repeat (go_big_quiet_step (fail))
        refine wpQuiet_nil ?_
        intro K2 h1 h2
        clear h2
        go_wp2_with (fail)
        refine h1 _ _ (Below.refl _ _).drew ?_
        refine seg_end _ (by dsimp only [pick, at_]) ?_
        repeat (go_big_quiet_step (fail))
        refine wpQuiet_nil (NoPanic.normal ?_)
        obtain ⟨⟨q0, q1, q2, q3, q4⟩, z0, z1, z2, z3, z4⟩ := rv_cells HV3.out
        have lres := blk_lt HV3.out
        go_wp2_with (fail)
        (try simp only [Exit.inBlock, Exit.then])
        refine bodyPost_ret (ret_cell rfl _ _ w.heap.size 36 _ _ _ rfl (show RV (W5 w3 w.heap.size r0).drew w.heap.size r0 from set5 HV3.out r0) Tryz.underlying36 rfl info5) rfl ?_
        exact first_no2 DN.out HB3.out
      | some r =>
        rw [hp] at hr
        obtain ⟨rfl, hb2⟩ := hr
        rw [show (rc r).toArray = #[.int .i64 r.sp, .string (tx r.id), .int .i64 r.t, .int .u64 r.v, .int .u64 r.s] from rfl]
        have hal : Below w1.heap.size w1 (w2.alloc (.cells #[.int .i64 r.sp, .string (tx r.id), .int .i64 r.t, .int .u64 r.v, .int .u64 r.s] 36)) := hb2.alloc hb2.size _
        have hv3 : RV (w2.alloc (.cells #[.int .i64 r.sp, .string (tx r.id), .int .i64 r.t, .int .u64 r.v, .int .u64 r.s] 36)) w2.heap.size r := alloc_new _ _
        have s2 := hb2.size
        go_wp2_with (fail)
        obtain ⟨w3, hw3⟩ : ∃ w3, w2.alloc (.cells #[.int .i64 r.sp, .string (tx r.id), .int .i64 r.t, .int .u64 r.v, .int .u64 r.s] 36) = w3 := ⟨_, rfl⟩
        rw [hw3] at hal hv3 ⊢
        have HV3 := Lib.hid (blk_below hal HV1.out (blk_lt HV1.out))
        have HB3 := Lib.hid (HB1.out.trans (hal.mono HB1.out.size))
        have HC3 := Lib.hid hv3
        have hs1 := HB1.out.size
        have HAD := Lib.hid (adler.adler_x w3.drew B v (c - k - 4) (some ⟨b, off + k + 4, none⟩) Y (HBO.out.below hal (Nat.le_trans hB hs1)).drew (by omega))
        have HFX := Lib.hid (fixed_x w3.drew B 4 (c - k) (some ⟨b, off + k, none⟩) ((bs.drop k).take 4) (HR4.out.below hal (Nat.le_trans hB hs1)).drew (by omega))
        obtain ⟨F, hF⟩ : ∃ F, fix ((bs.drop k).take 4) = F := ⟨_, rfl⟩
        rw [hF] at HFX D1
        have hs9 := sum_lt Y
        obtain ⟨S, hS⟩ : ∃ S, adler.sum Y = S := ⟨_, rfl⟩
        rw [hS] at HAD D1 hs9
        have sw : S % 18446744073709551616 = S := by omega
        have g1 : (4 : Int) ≤ ((n - k : Nat) : Int) := by omega
        have g2 : (4 : Int) ≤ ((c - k : Nat) : Int) := by omega
        have D2 := Lib.hid (show dec1 bs = if S.toNat = F then some (r, k + 4 + v) else none by rw [D1.out, hp])
        clear hal hv3 hb2 hw3 hF hS hp D1
        by_cases hSF : S.toNat = F
        · have DY := Lib.hid (show dec1 bs = some (r, k + 4 + v) by rw [D2.out, if_pos hSF])
          obtain rfl : S = (F : Int) := by omega
          refine wp_region_plan [([0, 1, 2, 3, 6, 7], some (4, false)), ([5], some (8, false)), ([9, 10], none)] (by kernel_rfl) (by kernel_rfl) ?_
          refine seg_act _ (by dsimp only [pick, at_]) _ (by dsimp only [pick, at_]) ?_
          repeat (go_big_quiet_step (fail))
          refine wpQuiet_nil ?_
          intro K1 h1 h2
          clear h2
          go_wp2_with (fail)
          refine HAD.out.mono ?_
          rintro e w4 ⟨rfl, rfl⟩
          go_wp2_with (fail)
          refine h1 _ _ (Below.refl _ _).drew ?_
          refine seg_act _ (by dsimp only [pick, at_]) _ (by dsimp only [pick, at_]) ?_
          repeat (go_big_quiet_step (fail))
          refine wpQuiet_nil ?_
          intro K2 h1 h2
          clear h2
          go_wp2_with (fail)
          refine HFX.out.mono ?_
          rintro e w4 ⟨rfl, rfl⟩
          go_wp2_with (fail)
          refine h1 _ _ (Below.refl _ _).drew ?_
          refine seg_end _ (by dsimp only [pick, at_]) ?_
          repeat (go_big_quiet_step (fail))
          refine wpQuiet_nil (NoPanic.normal ?_)
          obtain ⟨⟨q0, q1, q2, q3, q4⟩, z0, z1, z2, z3, z4⟩ := rv_cells HV3.out
          have lres := blk_lt HV3.out
          obtain ⟨⟨p0', p1', p2', p3', p4'⟩, _⟩ := rv_cells HC3.out
          have lcur := blk_lt HC3.out
          have y1 : IntKind.i64.wrap ((k : Int) + 4) = (k : Int) + 4 := by rw [IntWalk.i64_in _ (by omega)]
          have y2 : IntKind.i64.wrap ((k : Int) + 4 + (v : Int)) = ((k + 4 + v : Nat) : Int) := by rw [IntWalk.i64_in _ (by omega)]; omega
          go_wp2_with (fail)
          (try simp only [Exit.inBlock, Exit.then])
          refine bodyPost_ret (ret_cell rfl _ _ w.heap.size 36 _ _ _ rfl (show RV (W5 w3 w.heap.size r).drew w.heap.size r from set5 HV3.out r) Tryz.underlying36 rfl info5) rfl ?_
          exact first_yes2 DY.out HB3.out
        · have DN := Lib.hid (show dec1 bs = none by rw [D2.out, if_neg hSF])
          have ne1 : ¬ S = (F : Int) := by omega
          have ne2 : (S == (F : Int)) = false := by simp; omega
          refine wp_region_plan [([0, 1, 2, 3, 6, 7], some (4, false)), ([5], some (8, false)), ([9, 10], none)] (by kernel_rfl) (by kernel_rfl) ?_
          refine seg_act _ (by dsimp only [pick, at_]) _ (by dsimp only [pick, at_]) ?_
          repeat (go_big_quiet_step (fail))
          refine wpQuiet_nil ?_
          intro K1 h1 h2
          clear h2
          go_wp2_with (fail)
          refine HAD.out.mono ?_
          rintro e w4 ⟨rfl, rfl⟩
          go_wp2_with (fail)
          refine h1 _ _ (Below.refl _ _).drew ?_
          refine seg_act _ (by dsimp only [pick, at_]) _ (by dsimp only [pick, at_]) ?_
          repeat (go_big_quiet_step (fail))
          refine wpQuiet_nil ?_
          intro K2 h1 h2
          clear h2
          go_wp2_with (fail)
          refine HFX.out.mono ?_
          rintro e w4 ⟨rfl, rfl⟩
          go_wp2_with (fail)
          refine h1 _ _ (Below.refl _ _).drew ?_
          refine seg_end _ (by dsimp only [pick, at_]) ?_
          repeat (go_big_quiet_step (fail))
          refine wpQuiet_nil (NoPanic.normal ?_)
          obtain ⟨⟨q0, q1, q2, q3, q4⟩, z0, z1, z2, z3, z4⟩ := rv_cells HV3.out
          have lres := blk_lt HV3.out
          go_wp2_with (fail)
          (try simp only [Exit.inBlock, Exit.then])
          refine bodyPost_ret (ret_cell rfl _ _ w.heap.size 36 _ _ _ rfl (show RV (W5 w3 w.heap.size r0).drew w.heap.size r0 from set5 HV3.out r0) Tryz.underlying36 rfl info5) rfl ?_
          exact first_no2 DN.out HB3.out
end Go.Proofs.YtmegkemileailaaGreatDoor.cl
