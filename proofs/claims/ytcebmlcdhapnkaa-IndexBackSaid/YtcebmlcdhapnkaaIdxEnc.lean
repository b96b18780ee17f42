/-
  Index: Encode, the program's and the document's.
-/
import Derived.Test.YtcebmlcdhapnkaaIdxOne
namespace Go.Proofs.Ytcebmlcdhapnkaa.idx
open Go.ChangeShapes Go.WideShapes Go.ChangeAt Go.RowKit plain words ord mem uvs uvc Go.Lib

/-- what Encode answers: two rows of the call's own, apart, or the error -/
def RetEnc (w : World) (l : List En) (e : Ending) (w' : World) : Prop :=
  (checkE l = 0 → ∃ va vs, e = .returned (.tuple #[va, vs, .int .i64 0]) ∧ BRow w' va (idxB l) ∧ BRow w' vs (sumB l)) ∧
  (checkE l ≠ 0 → e = .returned (.tuple #[.slice none 0 0, .slice none 0 0, .int .i64 (checkE l)])) ∧ Below w.heap.size w w'
theorem brow_nil (w : World) : BRow w (.slice none 0 0) [] := Row.nil w _ _
/-- two rows, apart, both from H on -/
structure Two (w : World) (H : Nat) (va vs : Value) (a s : List UInt8) : Prop where
  ra : BRow w va a
  rs : BRow w vs s
  la : ∀ g, va.ownBlock = some g → H ≤ g
  ls : ∀ g, vs.ownBlock = some g → H ≤ g
  ap : ∀ g, va.ownBlock = some g → vs.ownBlock ≠ some g
theorem Two.start (w : World) (H : Nat) : Two w H (.slice none 0 0) (.slice none 0 0) [] [] := ⟨brow_nil _, brow_nil _, (fun _ e => by cases e), (fun _ e => by cases e), (fun _ e => by cases e)⟩
theorem Two.below {w w' : World} {H : Nat} {va vs : Value} {a s : List UInt8} (h : Two w H va vs a s) (hb : Below w.heap.size w w') : Two w' H va vs a s := ⟨h.ra.below hb (Nat.le_refl _), h.rs.below hb (Nat.le_refl _), h.la, h.ls, h.ap⟩
theorem Two.drew {w : World} {H : Nat} {va vs : Value} {a s : List UInt8} (h : Two w H va vs a s) : Two w.drew H va vs a s := ⟨h.ra, h.rs, h.la, h.ls, h.ap⟩
theorem Two.swap {w : World} {H : Nat} {va vs : Value} {a s : List UInt8} (h : Two w H va vs a s) : Two w H vs va s a := ⟨h.rs, h.ra, h.ls, h.la, fun g hs ha => h.ap g ha hs⟩
theorem Two.step {w w' : World} {H : Nat} {va vs va' : Value} {a s a' : List UInt8} (h : Two w H va vs a s) (hH : H ≤ w.heap.size) (hr : BRow w' va' a') (hc : Chg (fun b => some b = va.ownBlock) w w') (hl : va'.ownBlock = va.ownBlock ∨ ∃ g, va'.ownBlock = some g ∧ w.heap.size ≤ g) :
    Two w' H va' vs a' s ∧ Below H w w' :=
  ⟨⟨hr, h.rs.chg hc (fun g hg e => h.ap g e.symm hg), fun g hg => by
      rcases hl with e | ⟨g', e, e2⟩
      · exact h.la g (e ▸ hg)
      · rw [hg] at e; cases e; omega, h.ls, fun g hg e => by
      rcases hl with e2 | ⟨g', e2, e3⟩
      · exact h.ap g (e2 ▸ hg) e
      · rw [hg] at e2; cases e2
        have := h.rs.lt e
        omega⟩, hc.below hH (fun b e => h.la b e.symm)⟩

theorem sumT_zero {l : List En} {k : Nat} {x : En} (hx : l[k]? = some x) (h : k % 4 = 0) : sumT l (k + 1) = sumT l k ++ (txt x.1 ++ uv (idxB (l.take k)).length) := by
  rw [sumT, if_pos h, hx]
theorem sumT_not {l : List En} {k : Nat} (h : k % 4 ≠ 0) : sumT l (k + 1) = sumT l k := by
  rw [sumT, if_neg h, List.append_nil]
theorem lt_of_two {w : World} {H : Nat} {va vs : Value} {a s : List UInt8} (h : Two w H va vs a s) : (∀ g, va.ownBlock = some g → g < w.heap.size) ∧ ∀ g, vs.ownBlock = some g → g < w.heap.size := ⟨fun _ hg => h.ra.lt hg, fun _ hg => h.rs.lt hg⟩
/-- a block that no row lies in stays *-/
theorem chg_but {w w' : World} {v : Value} {so : Nat} (hc : Chg (fun b => some b = v.ownBlock) w w') (hn : v.ownBlock ≠ some so) : Chg (fun b => b ≠ so) w w' := hc.mono fun k _ e e2 => hn (by rw [← e, e2])
theorem own_not {w : World} {v v' : Value} {so : Nat} (hs : so < w.heap.size) (hn : v.ownBlock ≠ some so) (hl : v'.ownBlock = v.ownBlock ∨ ∃ g, v'.ownBlock = some g ∧ w.heap.size ≤ g) : v'.ownBlock ≠ some so := by
  rcases hl with e | ⟨g, e, hg⟩
  · rw [e]; exact hn
  · rw [e]; intro e2; injection e2 with e2; omega

set_option maxHeartbeats 4000000 in
set_option maxRecDepth 100000 in
theorem encode_x (w : World) (B n c : Nat) (A : Option Addr) (l : List En) (h : Ens w B A n l) (hF : ∀ x ∈ l, FitE x) (hB : B ≤ w.heap.size) (hn : n ≤ 1000000) :
    Calls Try.prog 28 #[.slice A n c] w (RetEnc w l) := by
  obtain ⟨i0, hi, hz0, hz1, hz2⟩ := info_parts mem.infoB
  have HC := Lib.hid (check_x w B n c A l h hB (by omega))
  have HH := Lib.hid h
  have HL := Lib.hid h.1
  clear h
  by_cases hok : checkE l = 0
  · have hal := checkF_ok l none hok
    have hC := HC.out
    rw [hok] at hC
    have HC := Lib.hid hC
    have HAL := Lib.hid hal
    have HFL := Lib.hid hF
    have HOK := Lib.hid hok
    clear hC hal hF hok
    go_enter Try.func28, Try.ntmps28
    go_wp2_with (fail)
    refine HC.out.mono ?_
    rintro e w1 ⟨rfl, hb1⟩
    have hs1 := hb1.size
    have HB1 := Lib.hid hb1
    clear hb1
    go_wp2_with (fail)
    go_loopg [6, 7, 17] n (fun gg s6 s7 s17 wr => ∃ (k : Nat) (v6 v7 : Value), k ≤ n ∧ n - k ≤ gg ∧ s17 = .int .i64 k ∧ v6 = s6 ∧ v7 = s7 ∧ Aside (Two wr w.heap.size v6 v7 (idxB (l.take k)) (sumT l k)) ∧ Aside (Below w.heap.size w wr))
    case atStart => exact ⟨0, _, _, Nat.zero_le _, by omega, rfl, rfl, rfl, Two.start _ _, HB1.out⟩
    case round =>
      obtain ⟨k, v6, v7, hk, hg, rfl, rfl, rfl, TW, BW⟩ := hrel
      have hsw := BW.out.size
      by_cases hlt : k < n
      · have hkl : k < l.length := by rw [HL.out]; exact hlt
        obtain ⟨x, hx⟩ : ∃ x, l[k]? = some x := ⟨_, List.getElem?_eq_getElem hkl⟩
        obtain ⟨b, off, rfl, hb, c0, c1, c2, c3⟩ := (HH.out.below BW.out hB).at_ hlt hx
        have hmem := List.mem_of_getElem? hx
        obtain ⟨⟨ha1, ha2⟩, ha3, ha4⟩ := HAL.out x hmem
        obtain ⟨_, _, _, hf4⟩ := HFL.out x hmem
        have hil : (idxB (l.take k)).length ≤ 50000000 := by
          have := idxB_len (l.take k) (fun y hy => (HAL.out y (List.mem_of_mem_take hy)).1.2)
          have h2 : (l.take k).length ≤ k := List.length_take_le _ _
          omega
        have hsl : (sumT l k).length ≤ 40000000 := by
          have := sumT_len l (fun y hy => (HAL.out y hy).1.2) k
          omega
        have HTK := Lib.hid (idxB_take hx)
        have HX := Lib.hid hx
        obtain ⟨xs, xo, xz, xm⟩ := x
        simp only at c0 c1 c2 c3 ha1 ha2 ha3 ha4 hf4
        obtain ⟨xo, rfl⟩ : ∃ q : Nat, xo = q := ⟨xo.toNat, by omega⟩
        obtain ⟨xz, rfl⟩ : ∃ q : Nat, xz = q := ⟨xz.toNat, by omega⟩
        have hxo : xo ≤ 2147483647 := by omega
        have hxz : xz ≤ 2147483647 := by omega
        have i1 : (0 : Int) ≤ (k : Int) := by omega
        have i2 : (k : Int) < (n : Int) := by omega
        have hbw : b < wr.heap.size := by omega
        obtain ⟨so, hso⟩ : ∃ so, wr.heap.size = so := ⟨_, rfl⟩
        obtain ⟨w2, hw2⟩ : ∃ w2, wr.alloc (.cells #[.string xs, .int .i64 (xo : Int), .int .i64 (xz : Int), .int .u32 xm] 68) = w2 := ⟨_, rfl⟩
        have hb2 : Below wr.heap.size wr w2 := by rw [← hw2]; exact (Below.refl _ _).alloc (Nat.le_refl _) _
        have g2 : w2.heap[so]? = some (.cells #[.string xs, .int .i64 (xo : Int), .int .i64 (xz : Int), .int .u32 xm] 68 (0, 0)) := by rw [← hw2, ← hso]; exact alloc_new _ _
        have hsl2 : so < w2.heap.size := blk_lt g2
        have HB2 := Lib.hid (BW.out.trans (hb2.mono (by omega)))
        have HT2 := Lib.hid (TW.out.below hb2)
        have hs2 := hb2.size
        have G2 := Lib.hid g2
        have e0 : w2.cell? ⟨so, 0, none⟩ = some (.string xs) := by rw [cell_of_row _ _ _ _ _ _ g2]; rfl
        obtain ⟨hlt6, hlt7⟩ := lt_of_two TW.out
        have hn6 : v6.ownBlock ≠ some so := fun e => by have := hlt6 _ e; omega
        have hn7 : v7.ownBlock ≠ some so := fun e => by have := hlt7 _ e; omega
        obtain ⟨I, hI⟩ : ∃ I, idxB (l.take k) = I := ⟨_, rfl⟩
        obtain ⟨Sm, hSm⟩ : ∃ Sm, sumT l k = Sm := ⟨_, rfl⟩
        rw [hI] at HT2 HTK hil
        rw [hSm] at HT2 hsl
        have HSM := Lib.hid hSm
        have HI := Lib.hid hI
        obtain ⟨A6, c6, rfl, hc61, hc62, _⟩ := HT2.out.ra.form
        clear hx g2 hb2 TW BW hlt6 hlt7 hSm hI
        by_cases h4 : k % 4 = 0
        case' pos =>
          have hS := sumT_zero HX.out h4
          rw [HSM.out, HI.out] at hS
          have HS := Lib.hid hS
          have hk4 : (k : Int) % 4 = 0 := by omega
          have HTX := Lib.hid (text_x w2 v7 Sm HT2.out.rs (by omega) xs (by omega))
          clear hS
          go_wp2_with (fail)
          refine HTX.out.mono ?_
          rintro e w3 ⟨v8, rfl, hr3, hc3, hl3⟩
          obtain ⟨T3, hb3⟩ := HT2.out.swap.step (by omega) hr3 hc3 hl3
          have hn8 := own_not hsl2 hn7 hl3
          have G3 := Lib.hid ((chg_but hc3 hn7).blk G2.out (fun e => e rfl))
          have hs3 := hc3.size
          have htl := txt_len xs ha2
          have HNM := Lib.hid (number_x w3 v8 (Sm ++ txt xs) T3.ra (by rw [List.length_append]; omega) I.length (by omega))
          have HT3 := Lib.hid T3
          have HB3 := Lib.hid (HB2.out.trans hb3)
          clear T3 hb3 hr3 hc3 hl3 HTX e0
          go_wp2_with (fail)
          refine HNM.out.mono ?_
          rintro e wq ⟨vq, rfl, hr4, hc4, hl4⟩
          obtain ⟨T4, hb4⟩ := HT3.out.step (by omega) hr4 hc4 hl4
          have hnq := own_not (by omega) hn8 hl4
          have GQ := Lib.hid ((chg_but hc4 hn8).blk G3.out (fun e => e rfl))
          have hsq : so < wq.heap.size := blk_lt GQ.out
          have hs4 := hc4.size
          have HTQ := Lib.hid (show Two wq w.heap.size (.slice A6 I.length c6) vq I (sumT l (k + 1)) by rw [HS.out, ← List.append_assoc]; exact T4.swap)
          have HBQ := Lib.hid (HB3.out.trans hb4)
          have hHq : w.heap.size ≤ wq.heap.size := by omega
          clear T4 hb4 hr4 hc4 hl4 HNM HT3 HB3 HT2 HB2 G3 hk4 HS
          go_wp2_with (fail)
        case' neg =>
          have hS := sumT_not (l := l) h4
          rw [HSM.out] at hS
          have hk4b : ((k : Int) % 4 == 0) = false := by simp; omega
          have HTQ := Lib.hid (show Two w2 w.heap.size (.slice A6 I.length c6) v7 I (sumT l (k + 1)) by rw [hS]; exact HT2.out)
          have HBQ := HB2
          have GQ := G2
          have hnq := hn7
          have hsq := hsl2
          have hHq : w.heap.size ≤ w2.heap.size := by omega
          clear hS e0
          go_wp2_with (fail)
          obtain ⟨wq, rfl⟩ : ∃ wq, wq = w2 := ⟨_, rfl⟩
          obtain ⟨vq, rfl⟩ : ∃ vq, vq = v7 := ⟨_, rfl⟩
          clear hk4b HT2 HB2
        all_goals
          have q0 := Wf.at_ (F := fun b => b ≠ so) (show wq.cell? ⟨so, 0, none⟩ = some (.string xs) by rw [cell_of_row _ _ _ _ _ _ GQ.out]; rfl) (fun e => e rfl)
          have q1 := Wf.at_ (F := fun b => b ≠ so) (show wq.cell? ⟨so, 1, none⟩ = some (.int .i64 (xo : Int)) by rw [cell_of_row _ _ _ _ _ _ GQ.out]; rfl) (fun e => e rfl)
          have q2 := Wf.at_ (F := fun b => b ≠ so) (show wq.cell? ⟨so, 2, none⟩ = some (.int .i64 (xz : Int)) by rw [cell_of_row _ _ _ _ _ _ GQ.out]; rfl) (fun e => e rfl)
          refine fr.wp_region_tree (F := fun b => b ≠ so) (.reads [0, 1, 2, 4, 5, 7, 8] (.one 3 false (.one 6 false (.one 9 false (.reads [10] .stop))))) (by kernel_rfl) (by kernel_rfl) ?_
          refine fr.tr_reads _ (by dsimp only [pick, at_]) ?_
          repeat (go_big_quiet_step (fail))
          refine wpQuiet_nil ?_
          clear q0 q1 q2
          refine fr.tr_one _ (by dsimp only [pick, at_]) ?_
          intro K1 g1 g2
          clear g2
          have HTX := Lib.hid (text_x wq.drew (.slice A6 I.length c6) I HTQ.out.drew.ra (by omega) xs (by omega))
          go_wp2_with (fail)
          refine HTX.out.mono ?_
          rintro e w5 ⟨v5, rfl, hr5, hc5, hl5⟩
          obtain ⟨T5, hb5⟩ := HTQ.out.drew.step hHq hr5 hc5 hl5
          have hn5 := own_not (w := wq.drew) hsq hn6 hl5
          have hF5 : Chg (fun b => b ≠ so) wq w5 := chg_trans (Chg.refl _ _).drew (chg_but hc5 hn6)
          have hs5 := hF5.size
          have htl := txt_len xs ha2
          have hL5 : (I ++ txt xs).length ≤ 50000026 := by rw [List.length_append]; omega
          have HNM := Lib.hid (number_x w5 v5 (I ++ txt xs) T5.ra (by omega) xo (by omega))
          have HT5 := Lib.hid T5
          have HB5 := Lib.hid ((HBQ.out.drew).trans hb5)
          clear T5 hb5 hr5 hc5 hl5 HTX
          go_wp2_with (fail)
          refine g1 _ _ hF5 ?_
          clear g1
          refine fr.tr_one _ (by dsimp only [pick, at_]) ?_
          intro K2 g1 g2
          clear g2
          go_wp2_with (fail)
          refine HNM.out.mono ?_
          rintro e w6 ⟨v6, rfl, hr6, hc6, hl6⟩
          obtain ⟨T6, hb6⟩ := HT5.out.step (by omega) hr6 hc6 hl6
          have hn6' := own_not (by omega) hn5 hl6
          have hF6 : Chg (fun b => b ≠ so) wq w6 := chg_trans hF5 (chg_but hc6 hn5)
          have hs6 := hF6.size
          have hul := uv_len xo
          have hL6 : (I ++ txt xs ++ uv xo).length ≤ 50000036 := by rw [List.length_append]; omega
          have HNM := Lib.hid (number_x w6 v6 (I ++ txt xs ++ uv xo) T6.ra (by omega) xz (by omega))
          have HT6 := Lib.hid T6
          have HB6 := Lib.hid (HB5.out.trans hb6)
          clear T6 hb6 hr6 hc6 hl6 HT5 HB5 hF5
          go_wp2_with (fail)
          refine g1 _ _ hF6 ?_
          clear g1
          refine fr.tr_one _ (by dsimp only [pick, at_]) ?_
          intro K3 g1 g2
          clear g2
          go_wp2_with (fail)
          refine HNM.out.mono ?_
          rintro e w7 ⟨v7, rfl, hr7, hc7, hl7⟩
          obtain ⟨T7, hb7⟩ := HT6.out.step (by omega) hr7 hc7 hl7
          have hF7 : Chg (fun b => b ≠ so) wq w7 := chg_trans hF6 (chg_but hc7 hn6')
          have hs7 := hF7.size
          have hul2 := uv_len xz
          have hL7 : (I ++ txt xs ++ uv xo ++ uv xz).length ≤ 50000046 := by rw [List.length_append]; omega
          have HT7 := Lib.hid T7
          have HB7 := Lib.hid (HB6.out.trans hb7)
          have HF7 := Lib.hid hF7
          clear T7 hb7 hr7 hc7 hl7 HT6 HB6 hF6
          go_wp2_with (fail)
          refine g1 _ _ hF7 ?_
          clear g1
          refine fr.tr_reads _ (by dsimp only [pick, at_]) ?_
          repeat (go_big_quiet_step (fail))
          refine wpQuiet_nil ?_
          refine fr.tr_stop ?_
          refine NoPanic.normal ?_
          have g7 := HF7.out.blk GQ.out (fun e => e rfl)
          have e3 : w7.cell? ⟨so, 3, none⟩ = some (.int .u32 xm) := by rw [cell_of_row _ _ _ _ _ _ g7]; rfl
          have hso7 : so < w7.heap.size := by omega
          obtain ⟨A7, c7, rfl, hc71, hc72, hcA7⟩ := HT7.out.ra.form
          obtain ⟨Y, hY⟩ : ∃ Y, I ++ txt xs ++ uv xo ++ uv xz = Y := ⟨_, rfl⟩
          rw [hY] at HT7 hL7 hc71 ⊢
          have HY := Lib.hid hY
          clear hY g7 hF7 HF7 GQ HBQ HTQ
          go_wp2_with (at_builtin; refine wpList_append_row _ rfl (.tmp 42) (.tmp 58) 28 rfl 5 i0 (.int .u8 0) 1 1 Try.underlying28 hi hz0 hz1 hz2 rfl (by decide) _ Y.length (u8s Y) rfl (HT7.out.ra.below (below_al w7 _) (Nat.le_refl _)) (w7.heap.size + 1) _ 4 4 (fun e => by cases e) _ rfl (rd_fresh (w := w7) _ _ rfl) (by intro u hu; simp at hu; rcases hu with rfl | rfl | rfl | rfl <;> rfl) (by unfold maxLen; omega) (by omega) ?_; intro v9 w9 hr9 hg9 hl9 _)
          have T8 := HT7.out.below (below_al w7 (.cells #[.int .u8 (xm / 16777216), .int .u8 (xm / 65536 % 256), .int .u8 (xm / 256 % 256), .int .u8 (xm % 256)] 5))
          have hr9' : BRow w9 v9 (Y ++ be xm) := brow_append (by rw [be_cells xm hf4.1 hf4.2]; exact hr9)
          obtain ⟨T9, hb9⟩ := T8.step (by simp; omega) hr9' (chg_row (Below.refl _ _) hg9) (loc_row (Below.refl _ _) hl9)
          have hYB : Y ++ be xm = idxB (l.take (k + 1)) := by rw [HTK.out, ← HY.out]; simp [oneE]
          rw [hYB] at T9
          have HT9 := Lib.hid T9
          have HB9 := Lib.hid ((HB7.out.trans ((below_al w7 (.cells #[.int .u8 (xm / 16777216), .int .u8 (xm / 65536 % 256), .int .u8 (xm / 256 % 256), .int .u8 (xm % 256)] 5)).mono (by omega))).trans hb9)
          clear T8 T9 hb9 hr9 hr9' hg9 hl9 hYB
          go_roundg (n - (k + 1))
          case measure => omega
          case rel => exact ⟨k + 1, v9, vq, by omega, by omega, by go_num, rfl, rfl, HT9.out, HB9.out⟩
      · have hkn : k = n := by omega
        subst hkn
        rw [List.take_of_length_le (by rw [HL.out]; exact Nat.le_refl _)] at TW
        have hi2 : ¬ (k : Int) < (k : Int) := by omega
        have HTW := Lib.hid TW.out
        go_wp2_with (fail)
        go_ret3
        exact ⟨fun _ => ⟨v6, v7, rfl, HTW.out.ra, by unfold sumB; rw [HL.out]; exact HTW.out.rs⟩, fun e => absurd HOK.out e, BW.out⟩
  · have hnz : (checkE l == 0) = false := by simpa using hok
    have HOK := Lib.hid hok
    clear hok
    go_enter Try.func28, Try.ntmps28
    go_wp2_with (fail)
    refine HC.out.mono ?_
    rintro e w1 ⟨rfl, hb1⟩
    go_wp2_with (fail)
    go_ret3
    exact ⟨fun e => absurd e HOK.out, fun _ => rfl, hb1⟩
end Go.Proofs.Ytcebmlcdhapnkaa.idx
