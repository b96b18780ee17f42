/-
  Placements: the program's Check.
-/
import Derived.Test.YtnpkhkhchimcnaaPmRefA
import Derived.Test.YtnpkhkhchimcnaaOrd
import Derived.Deep.QuietTactic
namespace Go.Proofs.Ytnpkhkhchimcnaa.pm
open Go.ChangeShapes Go.WideShapes Go.ChangeAt Go.RowKit Go.Shelf plain words ord mem

noncomputable def tb (p : Prop) : Bool := @decide p (Classical.propDecidable p)
theorem tb_true {p : Prop} (h : p) : tb p = true := by unfold tb; simp [h]
theorem tb_false {p : Prop} (h : ¬ p) : tb p = false := by unfold tb; simp [h]
theorem tb_iff {p : Prop} : tb p = true ↔ p := by unfold tb; simp
theorem tb_congr {p q : Prop} (h : p ↔ q) : tb p = tb q := by rw [show p = q from propext h]
abbrev NodesUp (l : List Int) (i : Nat) : Prop := Upto id isNode l i
theorem nodes_bad {l : List Int} {i : Nat} {x : Int} (hx : l[i]? = some x) (h : ¬ isNode x) : tb (NodesOk l) = false := tb_false fun hn => h (hn.each x (List.mem_of_getElem? hx))
theorem nodes_down {l : List Int} {i : Nat} {x y : Int} (hx : l[i]? = some x) (hy : l[i + 1]? = some y) (h : y ≤ x) : tb (NodesOk l) = false := tb_false fun hn => not_rise hx hy h hn.rise
theorem nodes_up {l : List Int} {n : Nat} (h : NodesUp l n) (hn : l.length = n) : tb (NodesOk l) = decide ((3 : Int) ≤ (n : Int)) := by
  have := h.all hn
  by_cases h3 : 3 ≤ n
  · rw [tb_true ⟨this.1, this.2, by omega⟩]; simp; omega
  · rw [tb_false fun hh => by have := hh.many; omega]; simp; omega
set_option maxHeartbeats 1000000 in
theorem nodesValid_x (w : World) (B n c : Nat) (A : Option Addr) (l : List Int) (h : Ls NE w B A n l) (hB : B ≤ w.heap.size) (hn : n ≤ 9223372036854775807) :
    Calls Try.prog 31 #[.slice A n c] w fun e w' => e = .returned (.bool (tb (NodesOk l))) ∧ Below w.heap.size w w' := by
  have HH := Lib.hid h
  have HL := Lib.hid h.1
  clear h
  go_enter Try.func31, Try.ntmps31
  go_wp2_with (fail)
  go_loopg [2, 3, 4, 7] n (fun gg s2 s3 s4 s7 wr => ∃ i : Nat, s7 = .int .i64 i ∧ i ≤ n ∧ n - i ≤ gg ∧ s2 = .bool false ∧ Aside (NodesUp l i) ∧ Aside (Below w.heap.size w wr))
  case atStart => exact ⟨0, rfl, by omega, by omega, rfl, Upto.zero _ _ _, Below.refl _ _⟩
  case round =>
    obtain ⟨i, rfl, hi, hg, rfl, HU, HB⟩ := hrel
    by_cases hlt : i < n
    · have hltz : (i : Int) < (n : Int) := by omega
      obtain ⟨x, hx⟩ := HH.out.get hlt
      have hs := HB.out.size
      obtain ⟨b, off, rfl, hb, l0⟩ := num_at (HH.out.below HB.out hB) hx
      have hbw : b < wr.heap.size := by omega
      have HX := Lib.hid hx
      clear hx
      by_cases h1 : x < 0
      · have HQ := Lib.hid (nodes_bad HX.out (by unfold isNode; omega))
        go_wp2_with (fail)
        go_ret
        rw [HQ.out]
        exact ⟨rfl, HB.out⟩
      · by_cases h2 : (8 : Int) ≤ x
        · have HQ := Lib.hid (nodes_bad HX.out (by unfold isNode; omega))
          go_wp2_with (fail)
          go_ret
          rw [HQ.out]
          exact ⟨rfl, HB.out⟩
        · have hnode : isNode x := by unfold isNode; omega
          have HND := Lib.hid hnode
          clear hnode
          by_cases h0 : i = 0
          · have h0z : ¬ (0 : Int) < (i : Int) := by omega
            have HUP := Lib.hid (HU.out.succ HX.out HND.out (fun j y hj _ => by omega))
            clear h0
            go_wp2_with (fail)
            go_roundg (n - (i + 1))
            case measure => omega
            case rel => exact ⟨i + 1, by go_num, by omega, by omega, rfl, HUP.out, HB.out⟩
          · obtain ⟨j, hj⟩ : ∃ j, i = j + 1 := ⟨i - 1, by omega⟩
            have h0z : (0 : Int) < (i : Int) := by omega
            obtain ⟨y, hy⟩ := HH.out.get (show j < n by omega)
            obtain ⟨b', off', he, hb', l1⟩ := num_at (HH.out.below HB.out hB) hy
            cases he
            have hw : IntKind.i64.wrap ((i : Int) - 1) = (j : Int) := by rw [IntWalk.i64_in _ (by omega)]; omega
            have hjn : (j : Int) < (n : Int) := by omega
            have HY := Lib.hid hy
            have HJ := Lib.hid hj
            clear hy hj h0
            by_cases h3 : x ≤ y
            · have HQ := Lib.hid (nodes_down HY.out (by rw [← HJ.out]; exact HX.out) h3)
              go_wp2_with (fail)
              go_ret
              rw [HQ.out]
              exact ⟨rfl, HB.out⟩
            · have HUP := Lib.hid (HU.out.succ HX.out HND.out (fun k z hk hz => by
                have := HJ.out
                obtain rfl : k = j := by omega
                have e := HY.out
                rw [hz] at e; cases e
                show id _ < id _
                simp only [id]; omega))
              go_wp2_with (fail)
              go_roundg (n - (i + 1))
              case measure => omega
              case rel => exact ⟨i + 1, by go_num, by omega, by omega, rfl, HUP.out, HB.out⟩
    · obtain rfl : i = n := by omega
      have hltz : ¬ (i : Int) < (i : Int) := by omega
      have HQ := Lib.hid (nodes_up HU.out HL.out)
      go_wp2_with (fail)
      go_ret
      rw [HQ.out]
      exact ⟨rfl, HB.out⟩
theorem heirs_succ {l : List O} {i : Nat} {o : O} (n : Int) (h : l[i]? = some o) : heirs (l.take (i + 1)) n = heirs (l.take i) n + (if o.2.1 == 1 && o.2.2 == n then 1 else 0) := by
  unfold heirs
  rw [List.take_add_one, h, List.countP_append]
  simp [List.countP_cons]
theorem pv2 {l : List O} {o : O} (h : o.2.1 = 2) : tb (pval l o) = (o.2.2 == -1) := by
  by_cases h1 : o.2.2 = -1
  · rw [tb_true (.inl ⟨h, h1⟩)]; simp [h1]
  · rw [tb_false]
    · simp [h1]
    · rintro (⟨_, h2⟩ | ⟨h2, _⟩ | ⟨h2, _⟩)
      · exact h1 h2
      · omega
      · omega
theorem pv1 {l : List O} {o : O} (h : o.2.1 = 1) : tb (pval l o) = (fis (byNode o.2.2) l && (fnd (byNode o.2.2) l).2.1 == 3) := by
  unfold fis fnd
  cases hf : l.find? (byNode o.2.2) with
  | none =>
    rw [tb_false]
    · rfl
    · rintro (⟨h2, _⟩ | ⟨_, x, hx, _⟩ | ⟨h2, _⟩)
      · omega
      · unfold find at hx
        rw [show (fun o_1 : O => o_1.1 == o.2.2) = byNode o.2.2 from rfl, hf] at hx; cases hx
      · omega
  | some x =>
    by_cases h1 : x.2.1 = 3
    · rw [tb_true (.inr (.inl ⟨h, x, hf, h1⟩))]; simp [h1]
    · rw [tb_false]
      · simp [h1]
      · rintro (⟨h2, _⟩ | ⟨_, y, hy, h3⟩ | ⟨h2, _⟩)
        · omega
        · unfold find at hy
          rw [show (fun o_1 : O => o_1.1 == o.2.2) = byNode o.2.2 from rfl, hf] at hy
          cases hy; exact h1 h3
        · omega
theorem pv3 {l : List O} {o : O} (h : o.2.1 = 3) : tb (pval l o) = (o.2.2 == -1 && ((heirs l o.1 : Nat) : Int) == 1) := by
  by_cases h1 : o.2.2 = -1
  · by_cases h2 : heirs l o.1 = 1
    · rw [tb_true (.inr (.inr ⟨h, h1, h2⟩))]; simp [h1, h2]
    · rw [tb_false]
      · simp [h1]; omega
      · rintro (⟨h3, _⟩ | ⟨h3, _⟩ | ⟨_, _, h3⟩)
        · omega
        · omega
        · exact h2 h3
  · rw [tb_false]
    · simp [h1]
    · rintro (⟨h3, _⟩ | ⟨h3, _⟩ | ⟨_, h3, _⟩)
      · omega
      · omega
      · exact h1 h3
theorem pv0 {l : List O} {o : O} (h1 : o.2.1 ≠ 1) (h2 : o.2.1 ≠ 2) (h3 : o.2.1 ≠ 3) : tb (pval l o) = false := tb_false (by
  rintro (⟨h, _⟩ | ⟨h, _⟩ | ⟨h, _⟩)
  · exact h2 h
  · exact h1 h
  · exact h3 h)
set_option maxHeartbeats 2000000 in
theorem ownerValid_x (w : World) (B n c : Nat) (A : Option Addr) (l : List O) (h : Ls OE w B A n l) (hB : B ≤ w.heap.size) (hn : n ≤ 9223372036854775807) (o : O) :
    Calls Try.prog 75 #[.slice A n c, oV o] w fun e w' => e = .returned (.bool (tb (pval l o))) ∧ Below w.heap.size w w' := by
  have eg : ∀ args w, (callFunc 92 args).run Try.prog w = .ok (.enter 92 args) w := enters_of Try.func92 (by kernel_rfl) rfl
  have PV1 := Lib.hid (pv1 (l := l) (o := o))
  have PV2 := Lib.hid (pv2 (l := l) (o := o))
  have PV3 := Lib.hid (pv3 (l := l) (o := o))
  have PV0 := Lib.hid (pv0 (l := l) (o := o))
  obtain ⟨o1, o2, o3⟩ := o
  simp only at PV1 PV2 PV3 PV0
  have hba := below_al w (.cells #[.int .i64 o1, .int .i64 o2, .int .i64 o3] 44)
  have gp : IsV3 44 (w.alloc (.cells #[.int .i64 o1, .int .i64 o2, .int .i64 o3] 44)) w.heap.size (.int .i64 o1) (.int .i64 o2) (.int .i64 o3) := alloc_new w _
  obtain ⟨⟨c0, c1, c2⟩, _⟩ := isv3_cells gp
  have HS := Lib.hid (search_x (w.alloc (.cells #[.int .i64 o1, .int .i64 o2, .int .i64 o3] 44)) B n c A l (h.below hba hB) (by simp; omega) hn 92 #[.pointer (some ⟨w.heap.size, 0, none⟩)] (byNode o3) eg
    (fun W x hW => valid1_x W w.heap.size o1 o2 o3 x (by have := hW.size; simp at this; omega) ((hW.cell (p := ⟨w.heap.size, 2, none⟩) (by simp)).trans c2)))
  have HH := Lib.hid (h.below hba hB)
  have HBA := Lib.hid hba
  have GP := Lib.hid gp
  have HL := Lib.hid h.1
  clear hba gp h c0 c1 c2
  by_cases h2 : o2 = 2
  · have e2 : (o2 == 2) = true := by simp [h2]
    have HQ := Lib.hid (PV2.out h2)
    clear h2
    go_enter Try.func75, Try.ntmps75
    go_wp2_with (fail)
    go_ret
    rw [HQ.out]
    exact ⟨rfl, HBA.out⟩
  · have e2 : (o2 == 2) = false := by simp [h2]
    by_cases h1 : o2 = 1
    · have e1 : (o2 == 1) = true := by simp [h1]
      have HQ := Lib.hid (PV1.out h1)
      clear h1 h2
      go_enter Try.func75, Try.ntmps75
      go_wp2_with (fail)
      refine HS.out.mono ?_
      rintro e w2 ⟨rfl, hb2⟩
      have HB2 := Lib.hid (HBA.out.trans (hb2.mono (by simp)))
      have hs2 := HB2.out.size
      clear hb2
      obtain ⟨⟨y1, y2, y3⟩, hy⟩ : ∃ y, fnd (byNode o3) l = y := ⟨_, rfl⟩
      obtain ⟨z, hz⟩ : ∃ z, fis (byNode o3) l = z := ⟨_, rfl⟩
      have hqq := HQ.out
      rw [hy, hz] at hqq
      rw [hy, hz]
      have HQ2 := Lib.hid hqq
      clear hy hz HQ hqq
      cases z with
      | true =>
        go_wp2_with (fail)
        go_ret
        rw [HQ2.out]
        exact ⟨by simp, HB2.out.alloc (by omega) _⟩
      | false =>
        go_wp2_with (fail)
        go_ret
        rw [HQ2.out]
        exact ⟨by simp, HB2.out.alloc (by omega) _⟩
    · have e1 : (o2 == 1) = false := by simp [h1]
      by_cases h3 : o2 = 3
      · have e3 : (o2 == 3) = true := by simp [h3]
        have HQ := Lib.hid (PV3.out h3)
        clear h1 h2 h3
        go_enter Try.func75, Try.ntmps75
        go_wp2_with (fail)
        obtain ⟨wa, hwa⟩ : ∃ wa, w.alloc (.cells #[.int .i64 o1, .int .i64 o2, .int .i64 o3] 44) = wa := ⟨_, rfl⟩
        rw [hwa] at HH HBA GP ⊢
        clear hwa
        go_loopg [7, 9, 35] n (fun gg s7 s9 s35 wr => ∃ i : Nat, s35 = .int .i64 i ∧ i ≤ n ∧ n - i ≤ gg ∧ (∃ c : Nat, s7 = .int .i64 c ∧ c ≤ i ∧ Aside (heirs (l.take i) o1 = c)) ∧ Aside (Below w.heap.size w wr) ∧ Aside (IsV3 44 wr w.heap.size (.int .i64 o1) (.int .i64 o2) (.int .i64 o3)) ∧ Aside (Ls OE wr B A n l))
        case atStart => exact ⟨0, rfl, by omega, by omega, ⟨0, rfl, by omega, by show heirs _ _ = _; simp [heirs]⟩, HBA.out, GP.out, HH.out⟩
        case round =>
          obtain ⟨i, rfl, hi, hg, ⟨k, rfl, hk, HK⟩, HB, HV, HR⟩ := hrel
          clear HH HBA GP
          have hs := HB.out.size
          by_cases hlt : i < n
          · have hltz : (i : Int) < (n : Int) := by omega
            obtain ⟨x, hx⟩ := HR.out.get hlt
            obtain ⟨b, off, rfl, hb, l0, l1, l2⟩ := own_at HR.out hx
            have hbw : b < wr.heap.size := by omega
            have HX := Lib.hid (heirs_succ o1 hx)
            obtain ⟨x1, x2, x3⟩ := x
            simp only at l0 l1 l2 HX
            have hlw : w.heap.size < wr.heap.size := blk_lt HV.out
            obtain ⟨⟨c0, c1, c2⟩, _⟩ := isv3_cells HV.out
            have HB2 := Lib.hid (show Below w.heap.size w (wr.alloc (.cells #[.int .i64 x1, .int .i64 x2, .int .i64 x3] 44)) from HB.out.alloc (by omega) _)
            have HV2 := Lib.hid (show IsV3 44 (wr.alloc (.cells #[.int .i64 x1, .int .i64 x2, .int .i64 x3] 44)) w.heap.size (.int .i64 o1) (.int .i64 o2) (.int .i64 o3) from alloc_old _ HV.out)
            have HR2 := Lib.hid (HR.out.below (below_al wr (.cells #[.int .i64 x1, .int .i64 x2, .int .i64 x3] 44)) (by omega))
            clear hx
            by_cases hq1 : x2 = 1
            · have q1 : (x2 == 1) = true := by simp [hq1]
              by_cases hq2 : x3 = o1
              · have q2 : (x3 == o1) = true := by simp [hq2]
                have HX2 := Lib.hid (show heirs (l.take (i + 1)) o1 = k + 1 by rw [HX.out, HK.out, q1, q2]; rfl)
                clear hq1 hq2
                go_wp2_with (fail)
                go_roundg (n - (i + 1))
                case measure => omega
                case rel => exact ⟨i + 1, by go_num, by omega, by omega, ⟨k + 1, by go_num, by omega, HX2.out⟩, HB2.out, HV2.out, HR2.out⟩
              · have q2 : (x3 == o1) = false := by simp [hq2]
                have HX2 := Lib.hid (show heirs (l.take (i + 1)) o1 = k by rw [HX.out, HK.out, q1, q2]; rfl)
                clear hq1 hq2
                go_wp2_with (fail)
                go_roundg (n - (i + 1))
                case measure => omega
                case rel => exact ⟨i + 1, by go_num, by omega, by omega, ⟨k, rfl, by omega, HX2.out⟩, HB2.out, HV2.out, HR2.out⟩
            · have q1 : (x2 == 1) = false := by simp [hq1]
              have HX2 := Lib.hid (show heirs (l.take (i + 1)) o1 = k by rw [HX.out, HK.out, q1]; rfl)
              clear hq1
              go_wp2_with (fail)
              go_roundg (n - (i + 1))
              case measure => omega
              case rel => exact ⟨i + 1, by go_num, by omega, by omega, ⟨k, rfl, by omega, HX2.out⟩, HB2.out, HV2.out, HR2.out⟩
          · obtain rfl : i = n := by omega
            have hltz : ¬ (i : Int) < (i : Int) := by omega
            have hfin := HK.out
            rw [List.take_of_length_le (by rw [HL.out]; omega)] at hfin
            have HFN := Lib.hid hfin
            clear hfin
            have hlw : w.heap.size < wr.heap.size := blk_lt HV.out
            obtain ⟨⟨c0, c1, c2⟩, _⟩ := isv3_cells HV.out
            by_cases hq1 : o3 = -1
            · have q1 : (o3 == -1) = true := by simp [hq1]
              have HQ2 := Lib.hid (show tb (pval l (o1, o2, o3)) = ((k : Int) == 1) by rw [HQ.out, HFN.out, q1]; rfl)
              clear hq1
              go_wp2_with (fail)
              go_ret
              rw [HQ2.out]
              exact ⟨rfl, HB.out⟩
            · have q1 : (o3 == -1) = false := by simp [hq1]
              have HQ2 := Lib.hid (show tb (pval l (o1, o2, o3)) = false by rw [HQ.out, q1]; rfl)
              clear hq1
              go_wp2_with (fail)
              go_ret
              rw [HQ2.out]
              exact ⟨rfl, HB.out⟩
      · have e3 : (o2 == 3) = false := by simp [h3]
        have HQ := Lib.hid (PV0.out h1 h2 h3)
        clear h1 h2 h3
        go_enter Try.func75, Try.ntmps75
        go_wp2_with (fail)
        go_ret
        rw [HQ.out]
        exact ⟨rfl, HBA.out⟩
end Go.Proofs.Ytnpkhkhchimcnaa.pm
