/-
  The commit log's Encode: the closure that writes a number of a fixed width.
-/
import Derived.Test.YtmegkemileailaaGreatDoorClN
import Derived.Test.YtmegkemileailaaGreatDoorLst
namespace Go.Proofs.YtmegkemileailaaGreatDoor.cl
open Go.ChangeShapes Go.WideShapes Go.ChangeAt Go.RowKit plain words ord mem uvs uvc

set_option maxHeartbeats 1000000 in
set_option maxRecDepth 100000 in
theorem fix_c (w : World) (g B : Nat) (l : By) (v k : Nat) (h : OutV w g B l) (hgB : g < B) (hB : B ≤ w.heap.size) (hn : l.length ≤ 1000000000) (hv : v < 18446744073709551616) (hk : k ≤ 8) :
    Calls Tryz.prog 64 #[.int .u64 v, .int .i64 k, .pointer (some ⟨g, 0, none⟩)] w (RetOut w g B (l ++ be k v)) := by
  obtain ⟨i0, hi, hz0, hz1, hz2⟩ := info_parts mem.infoB
  have HO := Lib.hid h
  have hgl : g < w.heap.size := by obtain ⟨A, c, hg, _⟩ := h; exact blk_lt hg
  have HV := Lib.hid hv
  clear h hv
  have k1 : IntKind.i64.wrap ((k : Int) - 1) = (k : Int) - 1 := by rw [IntWalk.i64_in _ (by omega)]
  go_enter Tryz.func64, Tryz.ntmps64
  go_wp2_with (fail)
  go_loopg [5] k (fun gg s5 wr => ∃ (j : Nat), s5 = .int .i64 ((k : Int) - 1 - j) ∧ j ≤ k ∧ k - j ≤ gg ∧ Aside (OutV wr g B (l ++ be j (v / 256 ^ (k - j)))) ∧ Aside (Chg (fun k => k = g ∨ B ≤ k) w wr))
  case atStart => exact ⟨0, by simp, Nat.zero_le _, by omega, (show OutV w g B (l ++ []) by rw [List.append_nil]; exact HO.out), Chg.refl _ _⟩
  case round =>
    clear k1
    obtain ⟨j, rfl, hj, hg, OV, BW⟩ := hrel
    obtain ⟨wv, rfl⟩ : ∃ wv, wv = wr := ⟨wr, rfl⟩
    by_cases hlt : j < k
    · obtain ⟨m, hm⟩ : ∃ m : Nat, k - (j + 1) = m := ⟨_, rfl⟩
      have hmi : (k : Int) - 1 - (j : Int) = (m : Int) := by omega
      rw [hmi]
      have HMORE := Lib.hid (be_more k j v hlt)
      rw [hm] at HMORE
      obtain ⟨A, c, gb, ho⟩ := OV.out
      have hYl : (l ++ be j (v / 256 ^ (k - j))).length ≤ 1000000008 := by rw [List.length_append, be_len]; omega
      obtain ⟨Y, hY⟩ : ∃ Y, l ++ be j (v / 256 ^ (k - j)) = Y := ⟨_, rfl⟩
      rw [hY] at gb ho hYl
      have HY := Lib.hid hY
      have c0 : wv.cell? ⟨g, 0, none⟩ = some (.slice A Y.length c) := by rw [cell_of_row _ _ _ _ _ _ gb]; rfl
      have hbv := blk_lt gb
      obtain ⟨L, hL⟩ : ∃ L, Y.length = L := ⟨_, rfl⟩
      rw [hL] at gb ho hYl c0
      have HL := Lib.hid hL
      have HG := Lib.hid gb
      have HO2 := Lib.hid ho
      have m0 : (0 : Int) ≤ (m : Int) := by omega
      have m8 : m < 8 := by omega
      obtain ⟨D, hD⟩ : ∃ D : Nat, v / 256 ^ m = D := ⟨_, rfl⟩
      obtain ⟨ch, hch⟩ : ∃ ch, UInt8.ofNat (D % 256) = ch := ⟨_, rfl⟩
      have hval : (v : Int) / 2 ^ (8 * m) % 256 = (ch.toNat : Int) := by
        rw [← hch, ofNat_lt _ (by omega), ← hD]
        have e2 : ((2 : Int) ^ (8 * m)) = ((256 ^ m : Nat) : Int) := by rw [Int.pow_mul]; simp
        rw [e2]
        simp
      have w8 : IntKind.i64.wrap (8 * (m : Int)) = 8 * (m : Int) := by rw [IntWalk.i64_in _ (by omega)]
      rw [hD, hch] at HMORE
      have HD := Lib.hid hD
      have z0 := Wb.at_ c0
      clear OV hY hL gb ho hmi HO hD hch
      go_wp2_with (fail)
      refine wp_region_plan [([0, 1, 2, 3, 4, 5], some (6, false)), ([], some (7, true)), ([], some (8, true)), ([], none)] (by kernel_rfl) (by kernel_rfl) ?_
      refine seg_act _ (by dsimp only [pick, at_]) _ (by dsimp only [pick, at_]) ?_
      repeat (go_big_quiet_step (fail))
      refine wpQuiet_nil ?_
      intro K1 h1 h2
      clear h1
      go_wp2_with (fail)
      have hb1 : Below wv.heap.size wv ((wv.alloc (.cells #[.int .u8 (ch.toNat : Int)] 5)).drew) := ((Below.refl _ _).alloc (Nat.le_refl _) _).drew
      have hnew : Rd (wv.alloc (.cells #[.int .u8 (ch.toNat : Int)] 5)) (wv.heap.size + 1) (some ⟨wv.heap.size, 0, none⟩) 1 (u8s [ch]) := rd_lit 5 (u8s [ch]) rfl
      have hnew := hnew.drew
      obtain ⟨w1, hw1⟩ : ∃ w1, (wv.alloc (.cells #[.int .u8 (ch.toNat : Int)] 5)).drew = w1 := ⟨_, rfl⟩
      rw [hw1] at hb1 hnew ⊢
      have hs1 : wv.heap.size ≤ w1.heap.size := hb1.size
      have hsB : B ≤ wv.heap.size := Nat.le_trans hB BW.out.size
      have ho1 : w1.ownsRow B 5 1 (.slice A L c) L (u8s Y) := own_keep HO2.out hb1 (Nat.le_refl _)
      have g1 : w1.heap[g]? = some (.cells #[.slice A L c] 28 (0, 0)) := blk_below hb1 HG.out hbv
      refine h2 _ _ hb1 ?_
      clear h2
      refine seg_write _ (by dsimp only [pick, at_]) _ (by dsimp only [pick, at_]) ?_
      repeat (go_big_quiet_step (fail))
      refine wpQuiet_nil ?_
      intro K2 g2
      go_wp2_with (at_builtin; (refine wpList_append_rd rfl (.tmp 12) (.tmp 18) 28 rfl B 5 i0 (.int .u8 0) 1 1 Tryz.underlying28 hi hz0 hz1 hz2 rfl (by decide) (.slice A L c) L (u8s Y) rfl ho1 (wv.heap.size + 1) _ 1 1 (fun e => by cases e) (u8s [ch]) rfl hnew (u8s_one _) (by unfold maxLen; omega) (by omega) (by omega) ?_; intro v2 w2 hown2 hg2 hnn2; have gb2 : w2.heap[g]? = some (.cells #[.slice A L c] 28 (0, 0)) := (hg2.block g (blk_lt g1) (fun e => by have := (ho1.lt g e.symm).1; omega)).trans g1; have hbg2 : Chg (fun k => k = g ∨ B ≤ k) wv w2 := ((Chg.of_below hb1).mono (fun _ _ e => e.elim)).grown hg2 (fun k hk _ => .inr (ho1.lt k hk).1); have c2 : w2.cell? ⟨g, 0, none⟩ = some (.slice A L c) := (by rw [cell_of_row _ _ _ _ _ _ gb2]; rfl); have f2 := frozen_of_row w2 g 0 _ _ gb2))
      have hlen : (Y ++ [ch]).length = L + 1 := by rw [List.length_append, HL.out]; rfl
      have HF := Lib.hid (out_put (w := wv) (l := Y ++ [ch]) gb2 (by rw [u8s_append]; exact hown2) hlen hbg2 hgB)
      obtain ⟨A2, cc2, rfl, _⟩ := own_fit hlen (by rw [u8s_append]; exact hown2)
      clear hown2 hg2 hnn2 gb2 hbg2 hnew hlen ho1 g1 hb1 hw1
      refine seg_write _ (by dsimp only [pick, at_]) _ (by dsimp only [pick, at_]) ?_
      repeat (go_big_quiet_step (fail))
      refine wpQuiet_nil ?_
      intro K3 g3
      go_wp2_with (fail)
      refine seg_end _ (by dsimp only [pick, at_]) ?_
      repeat (go_big_quiet_step (fail))
      refine wpQuiet_nil (NoPanic.normal ?_)
      have w9 : IntKind.i64.wrap ((m : Int) - 1) = (m : Int) - 1 := by rw [IntWalk.i64_in _ (by omega)]
      go_wp2_with (fail)
      go_roundg (k - (j + 1))
      case measure => omega
      case rel =>
        refine ⟨j + 1, ?_, by omega, by omega, ?_, BW.out.trans HF.out.2.2 (fun _ _ e => e)⟩
        · congr 1; omega
        · show OutV _ g B (l ++ be (j + 1) (v / 256 ^ (k - (j + 1))))
          rw [show k - (j + 1) = m from hm, HD.out, HMORE.out, ← List.append_assoc, HY.out]
          exact HF.out.2.1
    · have hjk : j = k := by omega
      subst hjk
      have i1 : ¬ (0 : Int) ≤ (j : Int) - 1 - (j : Int) := by omega
      go_wp2_with (fail)
      go_end0
      refine ⟨rfl, ?_, BW.out⟩
      have := OV.out
      rw [Nat.sub_self, Nat.pow_zero, Nat.div_one] at this
      exact this
end Go.Proofs.YtmegkemileailaaGreatDoor.cl
