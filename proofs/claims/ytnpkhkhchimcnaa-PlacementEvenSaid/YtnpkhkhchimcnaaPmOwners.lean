/-
  Placements: the program's Check of a shard's owners, and of the whole.
-/
import Derived.Test.YtnpkhkhchimcnaaPmValid
namespace Go.Proofs.Ytnpkhkhchimcnaa.pm
open Go.ChangeShapes Go.WideShapes Go.ChangeAt Go.RowKit Go.Shelf plain words ord mem

abbrev OOk (val : List O → O → Prop) (nodes : List Int) (l : List O) (o : O) : Prop := isNode o.1 ∧ val l o ∧ (o.2.1 ≠ 3 → has nodes o.1 = true)
abbrev OUp (val : List O → O → Prop) (nodes : List Int) (l : List O) (i : Nat) : Prop := Upto (fun o : O => o.1) (OOk val nodes l) l i
theorem shard_bad {val : List O → O → Prop} {nodes : List Int} {l : List O} {i : Nat} {x : O} (hx : l[i]? = some x) (h : ¬ OOk val nodes l x) : tb (ShardBy val nodes l) = false := tb_false fun hn => h (hn.each x (List.mem_of_getElem? hx))
theorem shard_down {val : List O → O → Prop} {nodes : List Int} {l : List O} {i : Nat} {x y : O} (hx : l[i]? = some x) (hy : l[i + 1]? = some y) (h : y.1 ≤ x.1) : tb (ShardBy val nodes l) = false := tb_false fun hn => not_rise (f := fun o : O => o.1) hx hy h hn.rise
theorem shard_up {val : List O → O → Prop} {nodes : List Int} {l : List O} {n k : Nat} (h : OUp val nodes l n) (hn : l.length = n) (hk : stay (l.take n) = k) : tb (ShardBy val nodes l) = ((k : Int) == 3) := by
  have := h.all hn
  rw [List.take_of_length_le (by omega)] at hk
  by_cases h3 : k = 3
  · rw [tb_true ⟨this.1, this.2, by omega⟩]; simp [h3]
  · rw [tb_false fun hh => by have := hh.three; omega]; simp; omega
theorem stay_succ {l : List O} {i : Nat} {o : O} (h : l[i]? = some o) : stay (l.take (i + 1)) = stay (l.take i) + (if o.2.1 != 3 then 1 else 0) := by
  unfold stay
  rw [List.take_add_one, h, List.countP_append]
  simp [List.countP_cons]
set_option maxHeartbeats 4000000 in
theorem ownersValid_x (w : World) (B n c : Nat) (A : Option Addr) (l : List O) (h : Ls OE w B A n l) (hB : B ≤ w.heap.size) (hn : n ≤ 9223372036854775807) (nn nc : Nat) (nA : Option Addr) (nodes : List Int) (hN : Ls NE w B nA nn nodes) (hnn : nn ≤ 9223372036854775807) :
    Calls Try.prog 53 #[.slice A n c, .slice nA nn nc] w fun e w' => e = .returned (.bool (tb (ShardBy pval nodes l))) ∧ Below w.heap.size w w' := by
  have HH := Lib.hid h
  have HL := Lib.hid h.1
  have HOV := Lib.hid (fun (u : World) (hu : Below w.heap.size w u) (o : O) => ownerValid_x u B n c A l (h.below hu hB) (by have := hu.size; omega) hn o)
  have HCT := Lib.hid (fun (u : World) (hu : Below w.heap.size w u) (k : Int) => contains_x u B nn nc nA nodes (hN.below hu hB) (by have := hu.size; omega) hnn k)
  clear h hN
  go_enter Try.func53, Try.ntmps53
  go_wp2_with (fail)
  go_loopg [4, 5, 6, 7, 10] n (fun gg s4 s5 s6 s7 s10 wr => ∃ i : Nat, s10 = .int .i64 i ∧ i ≤ n ∧ n - i ≤ gg ∧ s4 = .bool false ∧ (∃ k : Nat, s5 = .int .i64 k ∧ k ≤ i ∧ Aside (stay (l.take i) = k)) ∧ Aside (OUp pval nodes l i) ∧ Aside (Below w.heap.size w wr))
  case atStart => exact ⟨0, rfl, by omega, by omega, rfl, ⟨0, rfl, by omega, by show stay _ = _; simp [stay]⟩, Upto.zero _ _ _, Below.refl _ _⟩
  case round =>
    obtain ⟨i, rfl, hi, hg, rfl, ⟨k, rfl, hk, HK⟩, HU, HB⟩ := hrel
    have hs := HB.out.size
    by_cases hlt : i < n
    · have hltz : (i : Int) < (n : Int) := by omega
      obtain ⟨x, hx⟩ := HH.out.get hlt
      obtain ⟨b, off, rfl, hb, l0, l1, l2⟩ := own_at (HH.out.below HB.out hB) hx
      have hbw : b < wr.heap.size := by omega
      have HX := Lib.hid hx
      have HST := Lib.hid (stay_succ hx)
      obtain ⟨x1, x2, x3⟩ := x
      simp only at l0 l1 l2 HST
      obtain ⟨wb, hwb⟩ : ∃ wb, wr.alloc (.cells #[.int .i64 x1, .int .i64 x2, .int .i64 x3] 44) = wb := ⟨_, rfl⟩
      have hbb : Below wr.heap.size wr wb := by rw [← hwb]; exact below_al _ _
      have gx : IsV3 44 wb wr.heap.size (.int .i64 x1) (.int .i64 x2) (.int .i64 x3) := by rw [← hwb]; exact alloc_new _ _
      have hsb : wr.heap.size < wb.heap.size := blk_lt gx
      have HBB := Lib.hid hbb
      have GX := Lib.hid gx
      have HWB := Lib.hid hwb
      have HB2 := Lib.hid (HB.out.trans (hbb.mono (by omega)))
      clear hx hbb gx hwb
      go_wp2_with (fail)
      rw [HWB.out]
      clear l0 l1 l2
      obtain ⟨⟨c0, c1, c2⟩, _⟩ := isv3_cells GX.out
      have q0 := Wb.at_ c0
      have q1 := Wb.at_ c1
      have q2 := Wb.at_ c2
      by_cases g1 : x1 < 0
      · have t1 : decide (x1 < 0) = true := by simp [g1]
        have HQ := Lib.hid (shard_bad (val := pval) (nodes := nodes) HX.out (fun h => by have := h.1.1; simp only at this; omega))
        refine wp_region_plan [([0, 1, 2, 3, 4, 5, 6, 7, 8, 9, 10, 11, 12, 13, 14, 15, 16, 17, 18, 19, 20, 21, 22, 23, 24, 25], some (26, false)), ([27, 28], none)] (by kernel_rfl) (by kernel_rfl) ?_
        refine seg_act _ (by dsimp only [pick, at_]) _ (by dsimp only [pick, at_]) ?_
        repeat (go_big_quiet_step (fail))
        refine wpQuiet_nil ?_
        intro K1 h1 h2
        clear h2
        go_wp2_with (fail)
        refine h1 _ _ (Below.refl _ _).drew ?_
        clear h1
        refine seg_end _ (by dsimp only [pick, at_]) ?_
        repeat (go_big_quiet_step (fail))
        refine wpQuiet_nil ?_
        refine NoPanic.normal ?_
        clear q0 q1 q2
        go_wp2_with (fail)
        go_ret
        rw [HQ.out]
        exact ⟨rfl, HB2.out.drew⟩
      · have t1 : decide (x1 < 0) = false := by simp; omega
        by_cases g2 : (8 : Int) ≤ x1
        · have t2 : decide ((8 : Int) ≤ x1) = true := by simp [g2]
          have HQ := Lib.hid (shard_bad (val := pval) (nodes := nodes) HX.out (fun h => by have := h.1.2; simp only at this; omega))
          refine wp_region_plan [([0, 1, 2, 3, 4, 5, 6, 7, 8, 9, 10, 11, 12, 13, 14, 15, 16, 17, 18, 19, 20, 21, 22, 23, 24, 25], some (26, false)), ([27, 28], none)] (by kernel_rfl) (by kernel_rfl) ?_
          refine seg_act _ (by dsimp only [pick, at_]) _ (by dsimp only [pick, at_]) ?_
          repeat (go_big_quiet_step (fail))
          refine wpQuiet_nil ?_
          intro K1 h1 h2
          clear h2
          go_wp2_with (fail)
          refine h1 _ _ (Below.refl _ _).drew ?_
          clear h1
          refine seg_end _ (by dsimp only [pick, at_]) ?_
          repeat (go_big_quiet_step (fail))
          refine wpQuiet_nil ?_
          refine NoPanic.normal ?_
          clear q0 q1 q2
          go_wp2_with (fail)
          go_ret
          rw [HQ.out]
          exact ⟨rfl, HB2.out.drew⟩
        · have t2 : decide ((8 : Int) ≤ x1) = false := by simp; omega
          have HND := Lib.hid (show isNode x1 from ⟨by omega, by omega⟩)
          by_cases h0 : i = 0
          · subst h0
            have HI := Lib.hid (show (0 : Nat) = 0 from rfl)
            refine wp_region_plan [([0, 1, 2, 3, 4, 5, 6, 7, 8, 9, 10, 11, 12, 13, 14, 15, 16, 17, 18, 19, 20, 21, 22, 23, 24, 25], some (26, false)), ([27, 28], none)] (by kernel_rfl) (by kernel_rfl) ?_
            refine seg_act _ (by dsimp only [pick, at_]) _ (by dsimp only [pick, at_]) ?_
            repeat (go_big_quiet_step (fail))
            refine wpQuiet_nil ?_
            intro K1 h1 h2
            clear h2
            go_wp2_with (fail)
            refine (HOV.out wb.drew HB2.out.drew (x1, x2, x3)).mono ?_
            rintro e w3 ⟨rfl, hb3⟩
            have HB3 := Lib.hid (show Below wb.heap.size wb w3 from (Below.refl _ _).drew.trans hb3)
            have HBW := Lib.hid (HB2.out.trans (HB3.out.mono HB2.out.size))
            have GX3 := Lib.hid (blk_below HB3.out GX.out hsb)
            clear hb3
            by_cases hv : pval l (x1, x2, x3)
            · have hvt := tb_true hv
              rw [hvt]
              have HV := Lib.hid hv
              clear hv hvt
              go_wp2_with (fail)
              refine h1 _ _ HB3.out ?_
              clear h1
              refine seg_end _ (by dsimp only [pick, at_]) ?_
              repeat (go_big_quiet_step (fail))
              refine wpQuiet_nil ?_
              refine NoPanic.normal ?_
              clear q0 q1 q2
              have hlw : wr.heap.size < w3.heap.size := blk_lt GX3.out
              obtain ⟨⟨d0, d1, d2⟩, _⟩ := isv3_cells GX3.out
              by_cases hx3 : x2 = 3
              · have e3 : (x2 == 3) = true := by simp [hx3]
                have HUP := Lib.hid (show OUp pval nodes l (0 + 1) from HU.out.succ HX.out ⟨HND.out, HV.out, fun h => absurd hx3 h⟩ (fun j y hj _ => by have := HI.out; omega))
                have HST2 := Lib.hid (show stay (l.take (0 + 1)) = k by rw [HST.out, HK.out]; simp [hx3])
                clear hx3 c0 c1 c2
                go_wp2_with (fail)
                go_roundg (n - (0 + 1))
                case measure => omega
                case rel => exact ⟨0 + 1, by go_num, by omega, by omega, rfl, ⟨k, rfl, by omega, HST2.out⟩, HUP.out, HBW.out⟩
              · have e3 : (x2 == 3) = false := by simp [hx3]
                have HX3 := Lib.hid hx3
                clear hx3 c0 c1 c2
                go_wp2_with (fail)
                refine (HCT.out w3 HBW.out x1).mono ?_
                rintro e w4 ⟨rfl, hb4⟩
                have HBW4 := Lib.hid (HBW.out.trans (hb4.mono HBW.out.size))
                clear hb4
                cases hh : has nodes x1 with
                | true =>
                  have HUP := Lib.hid (show OUp pval nodes l (0 + 1) from HU.out.succ HX.out ⟨HND.out, HV.out, fun _ => hh⟩ (fun j y hj _ => by have := HI.out; omega))
                  have HST2 := Lib.hid (show stay (l.take (0 + 1)) = k + 1 by rw [HST.out, HK.out]; have := HX3.out; simp [this])
                  go_wp2_with (fail)
                  go_roundg (n - (0 + 1))
                  case measure => omega
                  case rel => exact ⟨0 + 1, by go_num, by omega, by omega, rfl, ⟨k + 1, by go_num, by omega, HST2.out⟩, HUP.out, HBW4.out⟩
                | false =>
                  have HQ := Lib.hid (shard_bad (val := pval) (nodes := nodes) HX.out (fun h => by have := h.2.2 HX3.out; rw [hh] at this; cases this))
                  go_wp2_with (fail)
                  go_ret
                  rw [HQ.out]
                  exact ⟨rfl, HBW4.out⟩
            · have hvt := tb_false hv
              rw [hvt]
              have HQ := Lib.hid (shard_bad (val := pval) (nodes := nodes) HX.out (fun h => hv h.2.1))
              clear hv hvt
              go_wp2_with (fail)
              refine h1 _ _ HB3.out ?_
              clear h1
              refine seg_end _ (by dsimp only [pick, at_]) ?_
              repeat (go_big_quiet_step (fail))
              refine wpQuiet_nil ?_
              refine NoPanic.normal ?_
              clear q0 q1 q2
              go_wp2_with (fail)
              go_ret
              rw [HQ.out]
              exact ⟨rfl, HBW.out⟩
          · obtain ⟨j, hj⟩ : ∃ j, i = j + 1 := ⟨i - 1, by omega⟩
            have h0z : (0 : Int) < (i : Int) := by omega
            have t3 : decide ((0 : Int) < (i : Int)) = true := decide_eq_true h0z
            have t3n : 0 < i := by omega
            have t3b : decide (0 < i) = true := decide_eq_true t3n
            obtain ⟨y, hy⟩ := HH.out.get (show j < n by omega)
            obtain ⟨b', off', he, hb', m0, _, _⟩ := own_at (HH.out.below HB2.out hB) hy
            cases he
            have q3 := Wb.at_ m0
            have hw : IntKind.i64.wrap ((i : Int) - 1) = (j : Int) := by rw [IntWalk.i64_in _ (by omega)]; omega
            have hjn : (j : Int) < (n : Int) := by omega
            have HY := Lib.hid hy
            have HJ := Lib.hid hj
            clear hy hj h0
            obtain ⟨y1, y2, y3⟩ := y
            simp only at m0 q3
            by_cases g3 : x1 ≤ y1
            · have t4 : decide (x1 ≤ y1) = true := by simp [g3]
              have HQ := Lib.hid (shard_down (val := pval) (nodes := nodes) HY.out (by rw [← HJ.out]; exact HX.out) g3)
              refine wp_region_plan [([0, 1, 2, 3, 4, 5, 6, 7, 8, 9, 10, 11, 12, 13, 14, 15, 16, 17, 18, 19, 20, 21, 22, 23, 24, 25], some (26, false)), ([27, 28], none)] (by kernel_rfl) (by kernel_rfl) ?_
              refine seg_act _ (by dsimp only [pick, at_]) _ (by dsimp only [pick, at_]) ?_
              repeat (go_big_quiet_step (fail))
              refine wpQuiet_nil ?_
              intro K1 h1 h2
              clear h2
              go_wp2_with (fail)
              refine h1 _ _ (Below.refl _ _).drew ?_
              clear h1
              refine seg_end _ (by dsimp only [pick, at_]) ?_
              repeat (go_big_quiet_step (fail))
              refine wpQuiet_nil ?_
              refine NoPanic.normal ?_
              clear q0 q1 q2
              go_wp2_with (fail)
              go_ret
              rw [HQ.out]
              exact ⟨rfl, HB2.out.drew⟩
            · have t4 : decide (x1 ≤ y1) = false := by simp; omega
              have HLT := Lib.hid (show y1 < x1 by omega)
              refine wp_region_plan [([0, 1, 2, 3, 4, 5, 6, 7, 8, 9, 10, 11, 12, 13, 14, 15, 16, 17, 18, 19, 20, 21, 22, 23, 24, 25], some (26, false)), ([27, 28], none)] (by kernel_rfl) (by kernel_rfl) ?_
              refine seg_act _ (by dsimp only [pick, at_]) _ (by dsimp only [pick, at_]) ?_
              repeat (go_big_quiet_step (fail))
              refine wpQuiet_nil ?_
              intro K1 h1 h2
              clear h2
              go_wp2_with (fail)
              refine (HOV.out wb.drew HB2.out.drew (x1, x2, x3)).mono ?_
              rintro e w3 ⟨rfl, hb3⟩
              have HB3 := Lib.hid (show Below wb.heap.size wb w3 from (Below.refl _ _).drew.trans hb3)
              have HBW := Lib.hid (HB2.out.trans (HB3.out.mono HB2.out.size))
              have GX3 := Lib.hid (blk_below HB3.out GX.out hsb)
              clear hb3
              by_cases hv : pval l (x1, x2, x3)
              · have hvt := tb_true hv
                rw [hvt]
                have HV := Lib.hid hv
                clear hv hvt
                go_wp2_with (fail)
                refine h1 _ _ HB3.out ?_
                clear h1
                refine seg_end _ (by dsimp only [pick, at_]) ?_
                repeat (go_big_quiet_step (fail))
                refine wpQuiet_nil ?_
                refine NoPanic.normal ?_
                clear q0 q1 q2
                have hlw : wr.heap.size < w3.heap.size := blk_lt GX3.out
                obtain ⟨⟨d0, d1, d2⟩, _⟩ := isv3_cells GX3.out
                by_cases hx3 : x2 = 3
                · have e3 : (x2 == 3) = true := by simp [hx3]
                  have HUP := Lib.hid (show OUp pval nodes l (i + 1) from HU.out.succ HX.out ⟨HND.out, HV.out, fun h => absurd hx3 h⟩ (fun q z hq hz => by
                    have e0 := HJ.out
                    obtain rfl : q = j := by omega
                    have e := HY.out
                    rw [hz] at e; cases e
                    exact HLT.out))
                  have HST2 := Lib.hid (show stay (l.take (i + 1)) = k by rw [HST.out, HK.out]; simp [hx3])
                  clear hx3 c0 c1 c2
                  go_wp2_with (fail)
                  go_roundg (n - (i + 1))
                  case measure => omega
                  case rel => exact ⟨i + 1, by go_num, by omega, by omega, rfl, ⟨k, rfl, by omega, HST2.out⟩, HUP.out, HBW.out⟩
                · have e3 : (x2 == 3) = false := by simp [hx3]
                  have HX3 := Lib.hid hx3
                  clear hx3 c0 c1 c2
                  go_wp2_with (fail)
                  refine (HCT.out w3 HBW.out x1).mono ?_
                  rintro e w4 ⟨rfl, hb4⟩
                  have HBW4 := Lib.hid (HBW.out.trans (hb4.mono HBW.out.size))
                  clear hb4
                  cases hh : has nodes x1 with
                  | true =>
                    have HUP := Lib.hid (show OUp pval nodes l (i + 1) from HU.out.succ HX.out ⟨HND.out, HV.out, fun _ => hh⟩ (fun q z hq hz => by
                    have e0 := HJ.out
                    obtain rfl : q = j := by omega
                    have e := HY.out
                    rw [hz] at e; cases e
                    exact HLT.out))
                    have HST2 := Lib.hid (show stay (l.take (i + 1)) = k + 1 by rw [HST.out, HK.out]; have := HX3.out; simp [this])
                    go_wp2_with (fail)
                    go_roundg (n - (i + 1))
                    case measure => omega
                    case rel => exact ⟨i + 1, by go_num, by omega, by omega, rfl, ⟨k + 1, by go_num, by omega, HST2.out⟩, HUP.out, HBW4.out⟩
                  | false =>
                    have HQ := Lib.hid (shard_bad (val := pval) (nodes := nodes) HX.out (fun h => by have := h.2.2 HX3.out; rw [hh] at this; cases this))
                    go_wp2_with (fail)
                    go_ret
                    rw [HQ.out]
                    exact ⟨rfl, HBW4.out⟩
              · have hvt := tb_false hv
                rw [hvt]
                have HQ := Lib.hid (shard_bad (val := pval) (nodes := nodes) HX.out (fun h => hv h.2.1))
                clear hv hvt
                go_wp2_with (fail)
                refine h1 _ _ HB3.out ?_
                clear h1
                refine seg_end _ (by dsimp only [pick, at_]) ?_
                repeat (go_big_quiet_step (fail))
                refine wpQuiet_nil ?_
                refine NoPanic.normal ?_
                clear q0 q1 q2
                go_wp2_with (fail)
                go_ret
                rw [HQ.out]
                exact ⟨rfl, HBW.out⟩
    · obtain rfl : i = n := by omega
      have hltz : ¬ (i : Int) < (i : Int) := by omega
      have HQ := Lib.hid (shard_up HU.out HL.out HK.out)
      go_wp2_with (fail)
      go_ret
      rw [HQ.out]
      exact ⟨rfl, HB.out⟩
end Go.Proofs.Ytnpkhkhchimcnaa.pm
