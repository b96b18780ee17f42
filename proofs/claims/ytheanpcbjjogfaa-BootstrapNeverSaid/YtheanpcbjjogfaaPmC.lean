/-
  Placements: the program's least.
-/
import Derived.Test.YtheanpcbjjogfaaPmA
import Derived.Test.YtheanpcbjjogfaaOrd
import Derived.Deep.QuietTactic
namespace Go.Proofs.Ytheanpcbjjogfaa.pm
open Go.ChangeShapes Go.WideShapes Go.ChangeAt Go.RowKit Go.Shelf plain words ord mem

def leastStep (ss : List (List O)) (l : List O) (best n : Int) : Int := if !holds l n && (decide (best < 0) || decide (load ss n < load ss best)) then n else best
def least (nodes : List Int) (ss : List (List O)) (l : List O) : Int := nodes.foldl (leastStep ss l) (-1)
theorem fold_succ {α β : Type} {l : List α} {i : Nat} {x : α} (f : β → α → β) (b : β) (h : l[i]? = some x) : (l.take (i + 1)).foldl f b = f ((l.take i).foldl f b) x := by
  rw [List.take_add_one, h, List.foldl_append]; rfl
theorem fold_all {α β : Type} {l : List α} {n : Nat} (f : β → α → β) (b : β) (h : l.length = n) : (l.take n).foldl f b = l.foldl f b := by rw [List.take_of_length_le (by omega)]
end Go.Proofs.Ytheanpcbjjogfaa.pm
/-
  Placements: the program's Check.
-/
namespace Go.Proofs.Ytheanpcbjjogfaa.pm
open Go.ChangeShapes Go.WideShapes Go.ChangeAt Go.RowKit Go.Shelf plain words ord mem

noncomputable def tb (p : Prop) : Bool := @decide p (Classical.propDecidable p)
theorem tb_true {p : Prop} (h : p) : tb p = true := by unfold tb; simp [h]
theorem tb_false {p : Prop} (h : ¬ p) : tb p = false := by unfold tb; simp [h]
theorem tb_iff {p : Prop} : tb p = true ↔ p := by unfold tb; simp
theorem tb_congr {p q : Prop} (h : p ↔ q) : tb p = tb q := by rw [show p = q from propext h]
abbrev NodesUp (l : List Int) (i : Nat) : Prop := Upto id isNode l i
theorem nodes_bad {l : List Int} {i : Nat} {x : Int} (hx : l[i]? = some x) (h : ¬ isNode x) : tb (NodesOk l) = false := tb_false fun hn => h (hn.each x (List.mem_of_getElem? hx))
theorem nodes_down {l : List Int} {i : Nat} {x y : Int} (hx : l[i]? = some x) (hy : l[i + 1]? = some y) (h : y ≤ x) : tb (NodesOk l) = false := tb_false fun hn => not_rise hx hy h hn.rise
theorem nodes_up {l : List Int} {n : Nat} (h : NodesUp l n) (hn : l.length = n) : tb (NodesOk l) = decide ((3 : Int) ≤ (n : Int)) := by
  have := h.all hn
  by_cases h3 : 3 ≤ n
  · rw [tb_true ⟨this.1, this.2, by omega⟩]; simp; omega
  · rw [tb_false fun hh => by have := hh.many; omega]; simp; omega
set_option maxHeartbeats 1000000 in
theorem nodesValid_x (w : World) (B n c : Nat) (A : Option Addr) (l : List Int) (h : Ls NE w B A n l) (hB : B ≤ w.heap.size) (hn : n ≤ 9223372036854775807) :
    Calls Try.prog 23 #[.slice A n c] w fun e w' => e = .returned (.bool (tb (NodesOk l))) ∧ Below w.heap.size w w' := by
  have HH := Lib.hid h
  have HL := Lib.hid h.1
  clear h
  go_enter Try.func23, Try.ntmps23
  go_wp2_with (fail)
  go_loopg [2, 3, 4, 7] n (fun gg s2 s3 s4 s7 wr => ∃ i : Nat, s7 = .int .i64 i ∧ i ≤ n ∧ n - i ≤ gg ∧ s2 = .bool false ∧ Aside (NodesUp l i) ∧ Aside (Below w.heap.size w wr))
  case atStart => exact ⟨0, rfl, by omega, by omega, rfl, Upto.zero _ _ _, Below.refl _ _⟩
  case round =>
    obtain ⟨i, rfl, hi, hg, rfl, HU, HB⟩ := hrel
    by_cases hlt : i < n
    · have hltz : (i : Int) < (n : Int) := by omega
      obtain ⟨x, hx⟩ := HH.out.get hlt
      have hs := HB.out.size
      obtain ⟨b, off, rfl, hb, l0⟩ := num_at (HH.out.below HB.out hB) hx
      have hbw : b < wr.heap.size := by omega
      have HX := Lib.hid hx
      clear hx
      by_cases h1 : x < 0
      · have HQ := Lib.hid (nodes_bad HX.out (by unfold isNode; omega))
        go_wp2_with (fail)
        go_ret
        rw [HQ.out]
        exact ⟨rfl, HB.out⟩
      · by_cases h2 : (8 : Int) ≤ x
        · have HQ := Lib.hid (nodes_bad HX.out (by unfold isNode; omega))
          go_wp2_with (fail)
          go_ret
          rw [HQ.out]
          exact ⟨rfl, HB.out⟩
        · have hnode : isNode x := by unfold isNode; omega
          have HND := Lib.hid hnode
          clear hnode
          by_cases h0 : i = 0
          · have h0z : ¬ (0 : Int) < (i : Int) := by omega
            have HUP := Lib.hid (HU.out.succ HX.out HND.out (fun j y hj _ => by omega))
            clear h0
            go_wp2_with (fail)
            go_roundg (n - (i + 1))
            case measure => omega
            case rel => exact ⟨i + 1, by go_num, by omega, by omega, rfl, HUP.out, HB.out⟩
          · obtain ⟨j, hj⟩ : ∃ j, i = j + 1 := ⟨i - 1, by omega⟩
            have h0z : (0 : Int) < (i : Int) := by omega
            obtain ⟨y, hy⟩ := HH.out.get (show j < n by omega)
            obtain ⟨b', off', he, hb', l1⟩ := num_at (HH.out.below HB.out hB) hy
            cases he
            have hw : IntKind.i64.wrap ((i : Int) - 1) = (j : Int) := by rw [IntWalk.i64_in _ (by omega)]; omega
            have hjn : (j : Int) < (n : Int) := by omega
            have HY := Lib.hid hy
            have HJ := Lib.hid hj
            clear hy hj h0
            by_cases h3 : x ≤ y
            · have HQ := Lib.hid (nodes_down HY.out (by rw [← HJ.out]; exact HX.out) h3)
              go_wp2_with (fail)
              go_ret
              rw [HQ.out]
              exact ⟨rfl, HB.out⟩
            · have HUP := Lib.hid (HU.out.succ HX.out HND.out (fun k z hk hz => by
                have := HJ.out
                obtain rfl : k = j := by omega
                have e := HY.out
                rw [hz] at e; cases e
                show id _ < id _
                simp only [id]; omega))
              go_wp2_with (fail)
              go_roundg (n - (i + 1))
              case measure => omega
              case rel => exact ⟨i + 1, by go_num, by omega, by omega, rfl, HUP.out, HB.out⟩
    · obtain rfl : i = n := by omega
      have hltz : ¬ (i : Int) < (i : Int) := by omega
      have HQ := Lib.hid (nodes_up HU.out HL.out)
      go_wp2_with (fail)
      go_ret
      rw [HQ.out]
      exact ⟨rfl, HB.out⟩
theorem heirs_succ {l : List O} {i : Nat} {o : O} (n : Int) (h : l[i]? = some o) : heirs (l.take (i + 1)) n = heirs (l.take i) n + (if o.2.1 == 1 && o.2.2 == n then 1 else 0) := by
  unfold heirs
  rw [List.take_add_one, h, List.countP_append]
  simp [List.countP_cons]
theorem pv2 {l : List O} {o : O} (h : o.2.1 = 2) : tb (pval l o) = (o.2.2 == -1) := by
  by_cases h1 : o.2.2 = -1
  · rw [tb_true (.inl ⟨h, h1⟩)]; simp [h1]
  · rw [tb_false]
    · simp [h1]
    · rintro (⟨_, h2⟩ | ⟨h2, _⟩ | ⟨h2, _⟩)
      · exact h1 h2
      · omega
      · omega
theorem pv1 {l : List O} {o : O} (h : o.2.1 = 1) : tb (pval l o) = (fis (byNode o.2.2) l && (fnd (byNode o.2.2) l).2.1 == 3) := by
  unfold fis fnd
  cases hf : l.find? (byNode o.2.2) with
  | none =>
    rw [tb_false]
    · rfl
    · rintro (⟨h2, _⟩ | ⟨_, x, hx, _⟩ | ⟨h2, _⟩)
      · omega
      · unfold find at hx
        rw [show (fun o_1 : O => o_1.1 == o.2.2) = byNode o.2.2 from rfl, hf] at hx; cases hx
      · omega
  | some x =>
    by_cases h1 : x.2.1 = 3
    · rw [tb_true (.inr (.inl ⟨h, x, hf, h1⟩))]; simp [h1]
    · rw [tb_false]
      · simp [h1]
      · rintro (⟨h2, _⟩ | ⟨_, y, hy, h3⟩ | ⟨h2, _⟩)
        · omega
        · unfold find at hy
          rw [show (fun o_1 : O => o_1.1 == o.2.2) = byNode o.2.2 from rfl, hf] at hy
          cases hy; exact h1 h3
        · omega
theorem pv3 {l : List O} {o : O} (h : o.2.1 = 3) : tb (pval l o) = (o.2.2 == -1 && ((heirs l o.1 : Nat) : Int) == 1) := by
  by_cases h1 : o.2.2 = -1
  · by_cases h2 : heirs l o.1 = 1
    · rw [tb_true (.inr (.inr ⟨h, h1, h2⟩))]; simp [h1, h2]
    · rw [tb_false]
      · simp [h1]; omega
      · rintro (⟨h3, _⟩ | ⟨h3, _⟩ | ⟨_, _, h3⟩)
        · omega
        · omega
        · exact h2 h3
  · rw [tb_false]
    · simp [h1]
    · rintro (⟨h3, _⟩ | ⟨h3, _⟩ | ⟨_, h3, _⟩)
      · omega
      · omega
      · exact h1 h3
theorem pv0 {l : List O} {o : O} (h1 : o.2.1 ≠ 1) (h2 : o.2.1 ≠ 2) (h3 : o.2.1 ≠ 3) : tb (pval l o) = false := tb_false (by
  rintro (⟨h, _⟩ | ⟨h, _⟩ | ⟨h, _⟩)
  · exact h2 h
  · exact h1 h
  · exact h3 h)
set_option maxHeartbeats 2000000 in
theorem ownerValid_x (w : World) (B n c : Nat) (A : Option Addr) (l : List O) (h : Ls OE w B A n l) (hB : B ≤ w.heap.size) (hn : n ≤ 9223372036854775807) (o : O) :
    Calls Try.prog 39 #[.slice A n c, oV o] w fun e w' => e = .returned (.bool (tb (pval l o))) ∧ Below w.heap.size w w' := by
  have eg : ∀ args w, (callFunc 45 args).run Try.prog w = .ok (.enter 45 args) w := enters_of Try.func45 (by kernel_rfl) rfl
  have PV1 := Lib.hid (pv1 (l := l) (o := o))
  have PV2 := Lib.hid (pv2 (l := l) (o := o))
  have PV3 := Lib.hid (pv3 (l := l) (o := o))
  have PV0 := Lib.hid (pv0 (l := l) (o := o))
  obtain ⟨o1, o2, o3⟩ := o
  simp only at PV1 PV2 PV3 PV0
  have hba := below_al w (.cells #[.int .i64 o1, .int .i64 o2, .int .i64 o3] 42)
  have gp : IsV3 42 (w.alloc (.cells #[.int .i64 o1, .int .i64 o2, .int .i64 o3] 42)) w.heap.size (.int .i64 o1) (.int .i64 o2) (.int .i64 o3) := alloc_new w _
  obtain ⟨⟨c0, c1, c2⟩, _⟩ := isv3_cells gp
  have HS := Lib.hid (search_x (w.alloc (.cells #[.int .i64 o1, .int .i64 o2, .int .i64 o3] 42)) B n c A l (h.below hba hB) (by simp; omega) hn 45 #[.pointer (some ⟨w.heap.size, 0, none⟩)] (byNode o3) eg
    (fun W x hW => valid1_x W w.heap.size o1 o2 o3 x (by have := hW.size; simp at this; omega) ((hW.cell (p := ⟨w.heap.size, 2, none⟩) (by simp)).trans c2)))
  have HH := Lib.hid (h.below hba hB)
  have HBA := Lib.hid hba
  have GP := Lib.hid gp
  have HL := Lib.hid h.1
  clear hba gp h c0 c1 c2
  by_cases h2 : o2 = 2
  · have e2 : (o2 == 2) = true := by simp [h2]
    have HQ := Lib.hid (PV2.out h2)
    clear h2
    go_enter Try.func39, Try.ntmps39
    go_wp2_with (fail)
    go_ret
    rw [HQ.out]
    exact ⟨rfl, HBA.out⟩
  · have e2 : (o2 == 2) = false := by simp [h2]
    by_cases h1 : o2 = 1
    · have e1 : (o2 == 1) = true := by simp [h1]
      have HQ := Lib.hid (PV1.out h1)
      clear h1 h2
      go_enter Try.func39, Try.ntmps39
      go_wp2_with (fail)
      refine HS.out.mono ?_
      rintro e w2 ⟨rfl, hb2⟩
      have HB2 := Lib.hid (HBA.out.trans (hb2.mono (by simp)))
      have hs2 := HB2.out.size
      clear hb2
      obtain ⟨⟨y1, y2, y3⟩, hy⟩ : ∃ y, fnd (byNode o3) l = y := ⟨_, rfl⟩
      obtain ⟨z, hz⟩ : ∃ z, fis (byNode o3) l = z := ⟨_, rfl⟩
      have hqq := HQ.out
      rw [hy, hz] at hqq
      rw [hy, hz]
      have HQ2 := Lib.hid hqq
      clear hy hz HQ hqq
      cases z with
      | true =>
        go_wp2_with (fail)
        go_ret
        rw [HQ2.out]
        exact ⟨by simp, HB2.out.alloc (by omega) _⟩
      | false =>
        go_wp2_with (fail)
        go_ret
        rw [HQ2.out]
        exact ⟨by simp, HB2.out.alloc (by omega) _⟩
    · have e1 : (o2 == 1) = false := by simp [h1]
      by_cases h3 : o2 = 3
      · have e3 : (o2 == 3) = true := by simp [h3]
        have HQ := Lib.hid (PV3.out h3)
        clear h1 h2 h3
        go_enter Try.func39, Try.ntmps39
        go_wp2_with (fail)
        obtain ⟨wa, hwa⟩ : ∃ wa, w.alloc (.cells #[.int .i64 o1, .int .i64 o2, .int .i64 o3] 42) = wa := ⟨_, rfl⟩
        rw [hwa] at HH HBA GP ⊢
        clear hwa
        go_loopg [7, 9, 35] n (fun gg s7 s9 s35 wr => ∃ i : Nat, s35 = .int .i64 i ∧ i ≤ n ∧ n - i ≤ gg ∧ (∃ c : Nat, s7 = .int .i64 c ∧ c ≤ i ∧ Aside (heirs (l.take i) o1 = c)) ∧ Aside (Below w.heap.size w wr) ∧ Aside (IsV3 42 wr w.heap.size (.int .i64 o1) (.int .i64 o2) (.int .i64 o3)) ∧ Aside (Ls OE wr B A n l))
        case atStart => exact ⟨0, rfl, by omega, by omega, ⟨0, rfl, by omega, by show heirs _ _ = _; simp [heirs]⟩, HBA.out, GP.out, HH.out⟩
        case round =>
          obtain ⟨i, rfl, hi, hg, ⟨k, rfl, hk, HK⟩, HB, HV, HR⟩ := hrel
          clear HH HBA GP
          have hs := HB.out.size
          by_cases hlt : i < n
          · have hltz : (i : Int) < (n : Int) := by omega
            obtain ⟨x, hx⟩ := HR.out.get hlt
            obtain ⟨b, off, rfl, hb, l0, l1, l2⟩ := own_at HR.out hx
            have hbw : b < wr.heap.size := by omega
            have HX := Lib.hid (heirs_succ o1 hx)
            obtain ⟨x1, x2, x3⟩ := x
            simp only at l0 l1 l2 HX
            have hlw : w.heap.size < wr.heap.size := blk_lt HV.out
            obtain ⟨⟨c0, c1, c2⟩, _⟩ := isv3_cells HV.out
            have HB2 := Lib.hid (show Below w.heap.size w (wr.alloc (.cells #[.int .i64 x1, .int .i64 x2, .int .i64 x3] 42)) from HB.out.alloc (by omega) _)
            have HV2 := Lib.hid (show IsV3 42 (wr.alloc (.cells #[.int .i64 x1, .int .i64 x2, .int .i64 x3] 42)) w.heap.size (.int .i64 o1) (.int .i64 o2) (.int .i64 o3) from alloc_old _ HV.out)
            have HR2 := Lib.hid (HR.out.below (below_al wr (.cells #[.int .i64 x1, .int .i64 x2, .int .i64 x3] 42)) (by omega))
            clear hx
            by_cases hq1 : x2 = 1
            · have q1 : (x2 == 1) = true := by simp [hq1]
              by_cases hq2 : x3 = o1
              · have q2 : (x3 == o1) = true := by simp [hq2]
                have HX2 := Lib.hid (show heirs (l.take (i + 1)) o1 = k + 1 by rw [HX.out, HK.out, q1, q2]; rfl)
                clear hq1 hq2
                go_wp2_with (fail)
                go_roundg (n - (i + 1))
                case measure => omega
                case rel => exact ⟨i + 1, by go_num, by omega, by omega, ⟨k + 1, by go_num, by omega, HX2.out⟩, HB2.out, HV2.out, HR2.out⟩
              · have q2 : (x3 == o1) = false := by simp [hq2]
                have HX2 := Lib.hid (show heirs (l.take (i + 1)) o1 = k by rw [HX.out, HK.out, q1, q2]; rfl)
                clear hq1 hq2
                go_wp2_with (fail)
                go_roundg (n - (i + 1))
                case measure => omega
                case rel => exact ⟨i + 1, by go_num, by omega, by omega, ⟨k, rfl, by omega, HX2.out⟩, HB2.out, HV2.out, HR2.out⟩
            · have q1 : (x2 == 1) = false := by simp [hq1]
              have HX2 := Lib.hid (show heirs (l.take (i + 1)) o1 = k by rw [HX.out, HK.out, q1]; rfl)
              clear hq1
              go_wp2_with (fail)
              go_roundg (n - (i + 1))
              case measure => omega
              case rel => exact ⟨i + 1, by go_num, by omega, by omega, ⟨k, rfl, by omega, HX2.out⟩, HB2.out, HV2.out, HR2.out⟩
          · obtain rfl : i = n := by omega
            have hltz : ¬ (i : Int) < (i : Int) := by omega
            have hfin := HK.out
            rw [List.take_of_length_le (by rw [HL.out]; omega)] at hfin
            have HFN := Lib.hid hfin
            clear hfin
            have hlw : w.heap.size < wr.heap.size := blk_lt HV.out
            obtain ⟨⟨c0, c1, c2⟩, _⟩ := isv3_cells HV.out
            by_cases hq1 : o3 = -1
            · have q1 : (o3 == -1) = true := by simp [hq1]
              have HQ2 := Lib.hid (show tb (pval l (o1, o2, o3)) = ((k : Int) == 1) by rw [HQ.out, HFN.out, q1]; rfl)
              clear hq1
              go_wp2_with (fail)
              go_ret
              rw [HQ2.out]
              exact ⟨rfl, HB.out⟩
            · have q1 : (o3 == -1) = false := by simp [hq1]
              have HQ2 := Lib.hid (show tb (pval l (o1, o2, o3)) = false by rw [HQ.out, q1]; rfl)
              clear hq1
              go_wp2_with (fail)
              go_ret
              rw [HQ2.out]
              exact ⟨rfl, HB.out⟩
      · have e3 : (o2 == 3) = false := by simp [h3]
        have HQ := Lib.hid (PV0.out h1 h2 h3)
        clear h1 h2 h3
        go_enter Try.func39, Try.ntmps39
        go_wp2_with (fail)
        go_ret
        rw [HQ.out]
        exact ⟨rfl, HBA.out⟩
end Go.Proofs.Ytheanpcbjjogfaa.pm
/-
  Placements: the program's Check of a shard's owners, and of the whole.
-/
namespace Go.Proofs.Ytheanpcbjjogfaa.pm
open Go.ChangeShapes Go.WideShapes Go.ChangeAt Go.RowKit Go.Shelf plain words ord mem

abbrev OOk (val : List O → O → Prop) (nodes : List Int) (l : List O) (o : O) : Prop := isNode o.1 ∧ val l o ∧ (o.2.1 ≠ 3 → has nodes o.1 = true)
abbrev OUp (val : List O → O → Prop) (nodes : List Int) (l : List O) (i : Nat) : Prop := Upto (fun o : O => o.1) (OOk val nodes l) l i
theorem shard_bad {val : List O → O → Prop} {nodes : List Int} {l : List O} {i : Nat} {x : O} (hx : l[i]? = some x) (h : ¬ OOk val nodes l x) : tb (ShardBy val nodes l) = false := tb_false fun hn => h (hn.each x (List.mem_of_getElem? hx))
theorem shard_down {val : List O → O → Prop} {nodes : List Int} {l : List O} {i : Nat} {x y : O} (hx : l[i]? = some x) (hy : l[i + 1]? = some y) (h : y.1 ≤ x.1) : tb (ShardBy val nodes l) = false := tb_false fun hn => not_rise (f := fun o : O => o.1) hx hy h hn.rise
theorem shard_up {val : List O → O → Prop} {nodes : List Int} {l : List O} {n k : Nat} (h : OUp val nodes l n) (hn : l.length = n) (hk : stay (l.take n) = k) : tb (ShardBy val nodes l) = ((k : Int) == 3) := by
  have := h.all hn
  rw [List.take_of_length_le (by omega)] at hk
  by_cases h3 : k = 3
  · rw [tb_true ⟨this.1, this.2, by omega⟩]; simp [h3]
  · rw [tb_false fun hh => by have := hh.three; omega]; simp; omega
theorem stay_succ {l : List O} {i : Nat} {o : O} (h : l[i]? = some o) : stay (l.take (i + 1)) = stay (l.take i) + (if o.2.1 != 3 then 1 else 0) := by
  unfold stay
  rw [List.take_add_one, h, List.countP_append]
  simp [List.countP_cons]
set_option maxHeartbeats 4000000 in
theorem ownersValid_x (w : World) (B n c : Nat) (A : Option Addr) (l : List O) (h : Ls OE w B A n l) (hB : B ≤ w.heap.size) (hn : n ≤ 9223372036854775807) (nn nc : Nat) (nA : Option Addr) (nodes : List Int) (hN : Ls NE w B nA nn nodes) (hnn : nn ≤ 9223372036854775807) :
    Calls Try.prog 24 #[.slice A n c, .slice nA nn nc] w fun e w' => e = .returned (.bool (tb (ShardBy pval nodes l))) ∧ Below w.heap.size w w' := by
  have HH := Lib.hid h
  have HL := Lib.hid h.1
  have HOV := Lib.hid (fun (u : World) (hu : Below w.heap.size w u) (o : O) => ownerValid_x u B n c A l (h.below hu hB) (by have := hu.size; omega) hn o)
  have HCT := Lib.hid (fun (u : World) (hu : Below w.heap.size w u) (k : Int) => contains_x u B nn nc nA nodes (hN.below hu hB) (by have := hu.size; omega) hnn k)
  clear h hN
  go_enter Try.func24, Try.ntmps24
  go_wp2_with (fail)
  go_loopg [4, 5, 6, 7, 10] n (fun gg s4 s5 s6 s7 s10 wr => ∃ i : Nat, s10 = .int .i64 i ∧ i ≤ n ∧ n - i ≤ gg ∧ s4 = .bool false ∧ (∃ k : Nat, s5 = .int .i64 k ∧ k ≤ i ∧ Aside (stay (l.take i) = k)) ∧ Aside (OUp pval nodes l i) ∧ Aside (Below w.heap.size w wr))
  case atStart => exact ⟨0, rfl, by omega, by omega, rfl, ⟨0, rfl, by omega, by show stay _ = _; simp [stay]⟩, Upto.zero _ _ _, Below.refl _ _⟩
  case round =>
    obtain ⟨i, rfl, hi, hg, rfl, ⟨k, rfl, hk, HK⟩, HU, HB⟩ := hrel
    have hs := HB.out.size
    by_cases hlt : i < n
    · have hltz : (i : Int) < (n : Int) := by omega
      obtain ⟨x, hx⟩ := HH.out.get hlt
      obtain ⟨b, off, rfl, hb, l0, l1, l2⟩ := own_at (HH.out.below HB.out hB) hx
      have hbw : b < wr.heap.size := by omega
      have HX := Lib.hid hx
      have HST := Lib.hid (stay_succ hx)
      obtain ⟨x1, x2, x3⟩ := x
      simp only at l0 l1 l2 HST
      obtain ⟨wb, hwb⟩ : ∃ wb, wr.alloc (.cells #[.int .i64 x1, .int .i64 x2, .int .i64 x3] 42) = wb := ⟨_, rfl⟩
      have hbb : Below wr.heap.size wr wb := by rw [← hwb]; exact below_al _ _
      have gx : IsV3 42 wb wr.heap.size (.int .i64 x1) (.int .i64 x2) (.int .i64 x3) := by rw [← hwb]; exact alloc_new _ _
      have hsb : wr.heap.size < wb.heap.size := blk_lt gx
      have HBB := Lib.hid hbb
      have GX := Lib.hid gx
      have HWB := Lib.hid hwb
      have HB2 := Lib.hid (HB.out.trans (hbb.mono (by omega)))
      clear hx hbb gx hwb
      go_wp2_with (fail)
      rw [HWB.out]
      clear l0 l1 l2
      obtain ⟨⟨c0, c1, c2⟩, _⟩ := isv3_cells GX.out
      have q0 := Wb.at_ c0
      have q1 := Wb.at_ c1
      have q2 := Wb.at_ c2
      by_cases g1 : x1 < 0
      · have t1 : decide (x1 < 0) = true := by simp [g1]
        have HQ := Lib.hid (shard_bad (val := pval) (nodes := nodes) HX.out (fun h => by have := h.1.1; simp only at this; omega))
        refine wp_region_plan [([0, 1, 2, 3, 4, 5, 6, 7, 8, 9, 10, 11, 12, 13, 14, 15, 16, 17, 18, 19, 20, 21, 22, 23, 24, 25], some (26, false)), ([27, 28], none)] (by kernel_rfl) (by kernel_rfl) ?_
        refine seg_act _ (by dsimp only [pick, at_]) _ (by dsimp only [pick, at_]) ?_
        repeat (go_big_quiet_step (fail))
        refine wpQuiet_nil ?_
        intro K1 h1 h2
        clear h2
        go_wp2_with (fail)
        refine h1 _ _ (Below.refl _ _).drew ?_
        clear h1
        refine seg_end _ (by dsimp only [pick, at_]) ?_
        repeat (go_big_quiet_step (fail))
        refine wpQuiet_nil ?_
        refine NoPanic.normal ?_
        clear q0 q1 q2
        go_wp2_with (fail)
        go_ret
        rw [HQ.out]
        exact ⟨rfl, HB2.out.drew⟩
      · have t1 : decide (x1 < 0) = false := by simp; omega
        by_cases g2 : (8 : Int) ≤ x1
        · have t2 : decide ((8 : Int) ≤ x1) = true := by simp [g2]
          have HQ := Lib.hid (shard_bad (val := pval) (nodes := nodes) HX.out (fun h => by have := h.1.2; simp only at this; omega))
          refine wp_region_plan [([0, 1, 2, 3, 4, 5, 6, 7, 8, 9, 10, 11, 12, 13, 14, 15, 16, 17, 18, 19, 20, 21, 22, 23, 24, 25], some (26, false)), ([27, 28], none)] (by kernel_rfl) (by kernel_rfl) ?_
          refine seg_act _ (by dsimp only [pick, at_]) _ (by dsimp only [pick, at_]) ?_
          repeat (go_big_quiet_step (fail))
          refine wpQuiet_nil ?_
          intro K1 h1 h2
          clear h2
          go_wp2_with (fail)
          refine h1 _ _ (Below.refl _ _).drew ?_
          clear h1
          refine seg_end _ (by dsimp only [pick, at_]) ?_
          repeat (go_big_quiet_step (fail))
          refine wpQuiet_nil ?_
          refine NoPanic.normal ?_
          clear q0 q1 q2
          go_wp2_with (fail)
          go_ret
          rw [HQ.out]
          exact ⟨rfl, HB2.out.drew⟩
        · have t2 : decide ((8 : Int) ≤ x1) = false := by simp; omega
          have HND := Lib.hid (show isNode x1 from ⟨by omega, by omega⟩)
          by_cases h0 : i = 0
          · subst h0
            have HI := Lib.hid (show (0 : Nat) = 0 from rfl)
            refine wp_region_plan [([0, 1, 2, 3, 4, 5, 6, 7, 8, 9, 10, 11, 12, 13, 14, 15, 16, 17, 18, 19, 20, 21, 22, 23, 24, 25], some (26, false)), ([27, 28], none)] (by kernel_rfl) (by kernel_rfl) ?_
            refine seg_act _ (by dsimp only [pick, at_]) _ (by dsimp only [pick, at_]) ?_
            repeat (go_big_quiet_step (fail))
            refine wpQuiet_nil ?_
            intro K1 h1 h2
            clear h2
            go_wp2_with (fail)
            refine (HOV.out wb.drew HB2.out.drew (x1, x2, x3)).mono ?_
            rintro e w3 ⟨rfl, hb3⟩
            have HB3 := Lib.hid (show Below wb.heap.size wb w3 from (Below.refl _ _).drew.trans hb3)
            have HBW := Lib.hid (HB2.out.trans (HB3.out.mono HB2.out.size))
            have GX3 := Lib.hid (blk_below HB3.out GX.out hsb)
            clear hb3
            by_cases hv : pval l (x1, x2, x3)
            · have hvt := tb_true hv
              rw [hvt]
              have HV := Lib.hid hv
              clear hv hvt
              go_wp2_with (fail)
              refine h1 _ _ HB3.out ?_
              clear h1
              refine seg_end _ (by dsimp only [pick, at_]) ?_
              repeat (go_big_quiet_step (fail))
              refine wpQuiet_nil ?_
              refine NoPanic.normal ?_
              clear q0 q1 q2
              have hlw : wr.heap.size < w3.heap.size := blk_lt GX3.out
              obtain ⟨⟨d0, d1, d2⟩, _⟩ := isv3_cells GX3.out
              by_cases hx3 : x2 = 3
              · have e3 : (x2 == 3) = true := by simp [hx3]
                have HUP := Lib.hid (show OUp pval nodes l (0 + 1) from HU.out.succ HX.out ⟨HND.out, HV.out, fun h => absurd hx3 h⟩ (fun j y hj _ => by have := HI.out; omega))
                have HST2 := Lib.hid (show stay (l.take (0 + 1)) = k by rw [HST.out, HK.out]; simp [hx3])
                clear hx3 c0 c1 c2
                go_wp2_with (fail)
                go_roundg (n - (0 + 1))
                case measure => omega
                case rel => exact ⟨0 + 1, by go_num, by omega, by omega, rfl, ⟨k, rfl, by omega, HST2.out⟩, HUP.out, HBW.out⟩
              · have e3 : (x2 == 3) = false := by simp [hx3]
                have HX3 := Lib.hid hx3
                clear hx3 c0 c1 c2
                go_wp2_with (fail)
                refine (HCT.out w3 HBW.out x1).mono ?_
                rintro e w4 ⟨rfl, hb4⟩
                have HBW4 := Lib.hid (HBW.out.trans (hb4.mono HBW.out.size))
                clear hb4
                cases hh : has nodes x1 with
                | true =>
                  have HUP := Lib.hid (show OUp pval nodes l (0 + 1) from HU.out.succ HX.out ⟨HND.out, HV.out, fun _ => hh⟩ (fun j y hj _ => by have := HI.out; omega))
                  have HST2 := Lib.hid (show stay (l.take (0 + 1)) = k + 1 by rw [HST.out, HK.out]; have := HX3.out; simp [this])
                  go_wp2_with (fail)
                  go_roundg (n - (0 + 1))
                  case measure => omega
                  case rel => exact ⟨0 + 1, by go_num, by omega, by omega, rfl, ⟨k + 1, by go_num, by omega, HST2.out⟩, HUP.out, HBW4.out⟩
                | false =>
                  have HQ := Lib.hid (shard_bad (val := pval) (nodes := nodes) HX.out (fun h => by have := h.2.2 HX3.out; rw [hh] at this; cases this))
                  go_wp2_with (fail)
                  go_ret
                  rw [HQ.out]
                  exact ⟨rfl, HBW4.out⟩
            · have hvt := tb_false hv
              rw [hvt]
              have HQ := Lib.hid (shard_bad (val := pval) (nodes := nodes) HX.out (fun h => hv h.2.1))
              clear hv hvt
              go_wp2_with (fail)
              refine h1 _ _ HB3.out ?_
              clear h1
              refine seg_end _ (by dsimp only [pick, at_]) ?_
              repeat (go_big_quiet_step (fail))
              refine wpQuiet_nil ?_
              refine NoPanic.normal ?_
              clear q0 q1 q2
              go_wp2_with (fail)
              go_ret
              rw [HQ.out]
              exact ⟨rfl, HBW.out⟩
          · obtain ⟨j, hj⟩ : ∃ j, i = j + 1 := ⟨i - 1, by omega⟩
            have h0z : (0 : Int) < (i : Int) := by omega
            have t3 : decide ((0 : Int) < (i : Int)) = true := decide_eq_true h0z
            have t3n : 0 < i := by omega
            have t3b : decide (0 < i) = true := decide_eq_true t3n
            obtain ⟨y, hy⟩ := HH.out.get (show j < n by omega)
            obtain ⟨b', off', he, hb', m0, _, _⟩ := own_at (HH.out.below HB2.out hB) hy
            cases he
            have q3 := Wb.at_ m0
            have hw : IntKind.i64.wrap ((i : Int) - 1) = (j : Int) := by rw [IntWalk.i64_in _ (by omega)]; omega
            have hjn : (j : Int) < (n : Int) := by omega
            have HY := Lib.hid hy
            have HJ := Lib.hid hj
            clear hy hj h0
            obtain ⟨y1, y2, y3⟩ := y
            simp only at m0 q3
            by_cases g3 : x1 ≤ y1
            · have t4 : decide (x1 ≤ y1) = true := by simp [g3]
              have HQ := Lib.hid (shard_down (val := pval) (nodes := nodes) HY.out (by rw [← HJ.out]; exact HX.out) g3)
              refine wp_region_plan [([0, 1, 2, 3, 4, 5, 6, 7, 8, 9, 10, 11, 12, 13, 14, 15, 16, 17, 18, 19, 20, 21, 22, 23, 24, 25], some (26, false)), ([27, 28], none)] (by kernel_rfl) (by kernel_rfl) ?_
              refine seg_act _ (by dsimp only [pick, at_]) _ (by dsimp only [pick, at_]) ?_
              repeat (go_big_quiet_step (fail))
              refine wpQuiet_nil ?_
              intro K1 h1 h2
              clear h2
              go_wp2_with (fail)
              refine h1 _ _ (Below.refl _ _).drew ?_
              clear h1
              refine seg_end _ (by dsimp only [pick, at_]) ?_
              repeat (go_big_quiet_step (fail))
              refine wpQuiet_nil ?_
              refine NoPanic.normal ?_
              clear q0 q1 q2
              go_wp2_with (fail)
              go_ret
              rw [HQ.out]
              exact ⟨rfl, HB2.out.drew⟩
            · have t4 : decide (x1 ≤ y1) = false := by simp; omega
              have HLT := Lib.hid (show y1 < x1 by omega)
              refine wp_region_plan [([0, 1, 2, 3, 4, 5, 6, 7, 8, 9, 10, 11, 12, 13, 14, 15, 16, 17, 18, 19, 20, 21, 22, 23, 24, 25], some (26, false)), ([27, 28], none)] (by kernel_rfl) (by kernel_rfl) ?_
              refine seg_act _ (by dsimp only [pick, at_]) _ (by dsimp only [pick, at_]) ?_
              repeat (go_big_quiet_step (fail))
              refine wpQuiet_nil ?_
              intro K1 h1 h2
              clear h2
              go_wp2_with (fail)
              refine (HOV.out wb.drew HB2.out.drew (x1, x2, x3)).mono ?_
              rintro e w3 ⟨rfl, hb3⟩
              have HB3 := Lib.hid (show Below wb.heap.size wb w3 from (Below.refl _ _).drew.trans hb3)
              have HBW := Lib.hid (HB2.out.trans (HB3.out.mono HB2.out.size))
              have GX3 := Lib.hid (blk_below HB3.out GX.out hsb)
              clear hb3
              by_cases hv : pval l (x1, x2, x3)
              · have hvt := tb_true hv
                rw [hvt]
                have HV := Lib.hid hv
                clear hv hvt
                go_wp2_with (fail)
                refine h1 _ _ HB3.out ?_
                clear h1
                refine seg_end _ (by dsimp only [pick, at_]) ?_
                repeat (go_big_quiet_step (fail))
                refine wpQuiet_nil ?_
                refine NoPanic.normal ?_
                clear q0 q1 q2
                have hlw : wr.heap.size < w3.heap.size := blk_lt GX3.out
                obtain ⟨⟨d0, d1, d2⟩, _⟩ := isv3_cells GX3.out
                by_cases hx3 : x2 = 3
                · have e3 : (x2 == 3) = true := by simp [hx3]
                  have HUP := Lib.hid (show OUp pval nodes l (i + 1) from HU.out.succ HX.out ⟨HND.out, HV.out, fun h => absurd hx3 h⟩ (fun q z hq hz => by
                    have e0 := HJ.out
                    obtain rfl : q = j := by omega
                    have e := HY.out
                    rw [hz] at e; cases e
                    exact HLT.out))
                  have HST2 := Lib.hid (show stay (l.take (i + 1)) = k by rw [HST.out, HK.out]; simp [hx3])
                  clear hx3 c0 c1 c2
                  go_wp2_with (fail)
                  go_roundg (n - (i + 1))
                  case measure => omega
                  case rel => exact ⟨i + 1, by go_num, by omega, by omega, rfl, ⟨k, rfl, by omega, HST2.out⟩, HUP.out, HBW.out⟩
                · have e3 : (x2 == 3) = false := by simp [hx3]
                  have HX3 := Lib.hid hx3
                  clear hx3 c0 c1 c2
                  go_wp2_with (fail)
                  refine (HCT.out w3 HBW.out x1).mono ?_
                  rintro e w4 ⟨rfl, hb4⟩
                  have HBW4 := Lib.hid (HBW.out.trans (hb4.mono HBW.out.size))
                  clear hb4
                  cases hh : has nodes x1 with
                  | true =>
                    have HUP := Lib.hid (show OUp pval nodes l (i + 1) from HU.out.succ HX.out ⟨HND.out, HV.out, fun _ => hh⟩ (fun q z hq hz => by
                    have e0 := HJ.out
                    obtain rfl : q = j := by omega
                    have e := HY.out
                    rw [hz] at e; cases e
                    exact HLT.out))
                    have HST2 := Lib.hid (show stay (l.take (i + 1)) = k + 1 by rw [HST.out, HK.out]; have := HX3.out; simp [this])
                    go_wp2_with (fail)
                    go_roundg (n - (i + 1))
                    case measure => omega
                    case rel => exact ⟨i + 1, by go_num, by omega, by omega, rfl, ⟨k + 1, by go_num, by omega, HST2.out⟩, HUP.out, HBW4.out⟩
                  | false =>
                    have HQ := Lib.hid (shard_bad (val := pval) (nodes := nodes) HX.out (fun h => by have := h.2.2 HX3.out; rw [hh] at this; cases this))
                    go_wp2_with (fail)
                    go_ret
                    rw [HQ.out]
                    exact ⟨rfl, HBW4.out⟩
              · have hvt := tb_false hv
                rw [hvt]
                have HQ := Lib.hid (shard_bad (val := pval) (nodes := nodes) HX.out (fun h => hv h.2.1))
                clear hv hvt
                go_wp2_with (fail)
                refine h1 _ _ HB3.out ?_
                clear h1
                refine seg_end _ (by dsimp only [pick, at_]) ?_
                repeat (go_big_quiet_step (fail))
                refine wpQuiet_nil ?_
                refine NoPanic.normal ?_
                clear q0 q1 q2
                go_wp2_with (fail)
                go_ret
                rw [HQ.out]
                exact ⟨rfl, HBW.out⟩
    · obtain rfl : i = n := by omega
      have hltz : ¬ (i : Int) < (i : Int) := by omega
      have HQ := Lib.hid (shard_up HU.out HL.out HK.out)
      go_wp2_with (fail)
      go_ret
      rw [HQ.out]
      exact ⟨rfl, HB.out⟩
end Go.Proofs.Ytheanpcbjjogfaa.pm
/-
  Placements: the program's Check.
-/
namespace Go.Proofs.Ytheanpcbjjogfaa.pm
open Go.ChangeShapes Go.WideShapes Go.ChangeAt Go.RowKit Go.Shelf plain words ord mem

noncomputable def chk (p : Pl) : Int := if tb (PlOk p) = true then 0 else 50
theorem chk_ok {p : Pl} (h : PlOk p) : chk p = 0 := by unfold chk; rw [if_pos (tb_true h)]
theorem chk_bad {p : Pl} (h : ¬ PlOk p) : chk p = 50 := by unfold chk; rw [tb_false h]; rfl
theorem chk_iff {p : Pl} : chk p = 0 ↔ PlOk p := by
  by_cases h : PlOk p
  · simp [chk_ok h, h]
  · simp [chk_bad h, h]
theorem pl_more {p : Pl} {i : Nat} {l : List O} (h : ∀ (j : Nat) (l : List O), j < i → p.ss[j]? = some l → ShardOk p.nodes l) (hl : p.ss[i]? = some l) (ho : ShardOk p.nodes l) : ∀ (j : Nat) (l : List O), j < i + 1 → p.ss[j]? = some l → ShardOk p.nodes l := fun j m hj hm => by
  rcases Nat.lt_or_ge j i with h1 | h1
  · exact h j m h1 hm
  · obtain rfl : j = i := by omega
    rw [hl] at hm; cases hm; exact ho
set_option maxHeartbeats 2000000 in
theorem pcheck_x (w : World) (B : Nat) (v : PV) (h : PVok w B v) (hB : B ≤ w.heap.size) :
    Calls Try.prog 13 #[v.val] w fun e w' => e = .returned (.int .i64 (chk v.pl)) ∧ Below w.heap.size w w' := by
  obtain ⟨wa, hwa⟩ : ∃ wa, w.alloc (boxO v) = wa := ⟨_, rfl⟩
  have hba : Below w.heap.size w wa := by rw [← hwa]; exact below_al _ _
  have gp : Boxed wa w.heap.size v := by rw [← hwa]; exact alloc_new _ _
  have hsa : w.heap.size < wa.heap.size := blk_lt gp
  have hl := h.len
  have CB := Lib.hid (chk_bad (p := v.pl))
  have CO := Lib.hid (chk_ok (p := v.pl))
  have HNV := Lib.hid (nodesValid_x wa B v.nodes.length v.nc v.nA v.nodes (h.n.below hba hB) (by omega) hl.2)
  have HOV := Lib.hid (fun (u : World) (hu : Below w.heap.size w u) (r : Rw3) (hr : RwOk u B r) => ownersValid_x u B r.l.length r.c r.A r.l hr.ls (by have := hu.size; omega) hr.len v.nodes.length v.nc v.nA v.nodes (h.n.below hu hB) hl.2)
  have hP : v.pl.ss = v.rs.map (·.l) := rfl
  have hP1 : v.pl.ver = v.ver := rfl
  have hP2 : v.pl.nodes = v.nodes := rfl
  have hs := h.s
  obtain ⟨p, hp⟩ : ∃ p, v.pl = p := ⟨_, rfl⟩
  rw [hp] at CB CO hP hP1 hP2 ⊢
  obtain ⟨ver, nA, nc, nodes, sA, sc, rs⟩ := v
  obtain ⟨N, hN⟩ : ∃ N, rs.length = N := ⟨_, rfl⟩
  obtain ⟨nl, hnl⟩ : ∃ nl, nodes.length = nl := ⟨_, rfl⟩
  have hsl : p.ss.length = N := by rw [hP, List.length_map, hN]
  simp only [PV.val, boxO, Boxed, hN, hnl] at hl hwa hs gp HNV HOV hP hP1 hP2 ⊢
  have HWA := Lib.hid hwa
  have HBA := Lib.hid hba
  have GP := Lib.hid gp
  have HH := Lib.hid hs
  have HN := Lib.hid hN
  have HP := Lib.hid (And.intro hP (And.intro hP1 hP2))
  have HSL := Lib.hid hsl
  clear h hwa hba hN hs hnl gp hP hP1 hP2 hsl hp
  by_cases g1 : ver < 1
  · have t1 : decide (ver < 1) = true := decide_eq_true g1
    have HQ := Lib.hid (show ¬ PlOk p from fun h => by have := h.lo; rw [HP.out.2.1] at this; omega)
    go_enter Try.func13, Try.ntmps13
    go_wp2_with (fail)
    rw [HWA.out]
    go_ret
    rw [CB.out HQ.out]
    exact ⟨rfl, HBA.out⟩
  · have t1 : decide (ver < 1) = false := decide_eq_false g1
    by_cases g2 : (1099511627776 : Int) < ver
    · have t2 : decide ((1099511627776 : Int) < ver) = true := decide_eq_true g2
      have HQ := Lib.hid (show ¬ PlOk p from fun h => by have := h.hi; rw [HP.out.2.1] at this; omega)
      go_enter Try.func13, Try.ntmps13
      go_wp2_with (fail)
      rw [HWA.out]
      go_ret
      rw [CB.out HQ.out]
      exact ⟨rfl, HBA.out⟩
    · have t2 : decide ((1099511627776 : Int) < ver) = false := decide_eq_false g2
      have HV := Lib.hid (show 1 ≤ p.ver ∧ p.ver ≤ 1099511627776 by rw [HP.out.2.1]; omega)
      by_cases hno : NodesOk nodes
      · rw [tb_true hno] at HNV
        have HNO := Lib.hid hno
        clear hno
        by_cases g3 : N < 1
        · have t3 : decide ((N : Int) < 1) = true := decide_eq_true (by omega)
          have HQ := Lib.hid (show ¬ PlOk p from fun h => by have := h.some_; rw [HSL.out] at this; omega)
          go_enter Try.func13, Try.ntmps13
          go_wp2_with (fail)
          rw [HWA.out]
          refine HNV.out.mono ?_
          rintro e w2 ⟨rfl, hb2⟩
          have HB2 := Lib.hid (HBA.out.trans (hb2.mono (by omega)))
          have GP2 := Lib.hid (blk_below hb2 GP.out hsa)
          have hlw : w.heap.size < w2.heap.size := blk_lt GP2.out
          obtain ⟨⟨c0, c1, c2⟩, _⟩ := isv3_cells GP2.out
          clear hb2
          go_wp2_with (fail)
          go_ret
          rw [CB.out HQ.out]
          exact ⟨rfl, HB2.out⟩
        · have t3 : ¬ (N : Int) < 1 := by omega
          by_cases g4 : 8 < N
          · have t4 : (8 : Int) < (N : Int) := by omega
            have HQ := Lib.hid (show ¬ PlOk p from fun h => by have := h.few; rw [HSL.out] at this; omega)
            go_enter Try.func13, Try.ntmps13
            go_wp2_with (fail)
            rw [HWA.out]
            refine HNV.out.mono ?_
            rintro e w2 ⟨rfl, hb2⟩
            have HB2 := Lib.hid (HBA.out.trans (hb2.mono (by omega)))
            have GP2 := Lib.hid (blk_below hb2 GP.out hsa)
            have hlw : w.heap.size < w2.heap.size := blk_lt GP2.out
            obtain ⟨⟨c0, c1, c2⟩, _⟩ := isv3_cells GP2.out
            clear hb2
            go_wp2_with (fail)
            go_ret
            rw [CB.out HQ.out]
            exact ⟨rfl, HB2.out⟩
          · have t4 : ¬ (8 : Int) < (N : Int) := by omega
            go_enter Try.func13, Try.ntmps13
            go_wp2_with (fail)
            rw [HWA.out]
            refine HNV.out.mono ?_
            rintro e w2 ⟨rfl, hb2⟩
            have HB2 := Lib.hid (HBA.out.trans (hb2.mono (by omega)))
            have GP2 := Lib.hid (blk_below hb2 GP.out hsa)
            have hlw : w.heap.size < w2.heap.size := blk_lt GP2.out
            obtain ⟨⟨c0, c1, c2⟩, _⟩ := isv3_cells GP2.out
            clear hb2
            go_wp2_with (fail)
            go_loopg [2, 4, 34] N (fun gg s2 s4 s34 wr => ∃ i : Nat, s34 = .int .i64 i ∧ i ≤ N ∧ N - i ≤ gg ∧ s2 = .int .i64 0 ∧ Aside (∀ (j : Nat) (l : List O), j < i → p.ss[j]? = some l → ShardOk p.nodes l) ∧ Aside (Below w.heap.size w wr) ∧ Aside (IsV3 25 wr w.heap.size (.int .i64 ver) (.slice nA nl nc) (.slice sA N sc)))
            case atStart => exact ⟨0, rfl, by omega, by omega, rfl, fun j l hj => by omega, HB2.out, GP2.out⟩
            case round =>
              obtain ⟨i, rfl, hi, hg, rfl, HU, HB, HV3⟩ := hrel
              clear HBA GP HB2 GP2 c0 c1 c2
              have hs := HB.out.size
              by_cases hlt : i < N
              · have hltz : (i : Int) < (N : Int) := by omega
                obtain ⟨r, hr⟩ : ∃ r, rs[i]? = some r := ⟨_, List.getElem?_eq_getElem (by rw [HN.out]; exact hlt)⟩
                obtain ⟨b, off, rfl, hb, l0, ho⟩ := (HH.out.below HB.out hB).at_ hr
                have hbw : b < wr.heap.size := by omega
                have HS := Lib.hid (HOV.out wr HB.out r ho)
                have HL := Lib.hid (show p.ss[i]? = some r.l by rw [HP.out.1]; simp [hr])
                rw [show r.val = .slice r.A r.l.length r.c from rfl] at l0
                have hpw : w.heap.size < wr.heap.size := blk_lt HV3.out
                obtain ⟨⟨c0, c1, c2⟩, _⟩ := isv3_cells HV3.out
                clear hr ho
                go_wp2_with (fail)
                refine HS.out.mono ?_
                rintro e w3 ⟨rfl, hb3⟩
                have HB3 := Lib.hid (HB.out.trans (hb3.mono hs))
                have GP3 := Lib.hid (blk_below hb3 HV3.out hpw)
                clear hb3 HS
                by_cases hv : ShardOk nodes r.l
                · rw [tb_true hv]
                  have HU2 := Lib.hid (pl_more HU.out HL.out (by rw [HP.out.2.2]; exact hv))
                  clear hv
                  go_wp2_with (fail)
                  go_roundg (N - (i + 1))
                  case measure => omega
                  case rel => exact ⟨i + 1, by go_num, by omega, by omega, rfl, HU2.out, HB3.out, GP3.out⟩
                · rw [tb_false hv]
                  have HQ := Lib.hid (show ¬ PlOk p from fun h => hv (by have := h.each _ (List.mem_of_getElem? HL.out); rw [HP.out.2.2] at this; exact this))
                  clear hv
                  go_wp2_with (fail)
                  go_ret
                  rw [CB.out HQ.out]
                  exact ⟨rfl, HB3.out⟩
              · obtain rfl : i = N := by omega
                have hltz : ¬ (i : Int) < (i : Int) := by omega
                have HQ := Lib.hid (show PlOk p from ⟨HV.out.1, HV.out.2, by rw [HP.out.2.2]; exact HNO.out, by rw [HSL.out]; omega, by rw [HSL.out]; omega, fun l hl => by
                  obtain ⟨j, hj, rfl⟩ := List.getElem_of_mem hl
                  exact HU.out j _ (by rw [← HSL.out]; exact hj) (List.getElem?_eq_getElem hj)⟩)
                go_wp2_with (fail)
                go_ret
                rw [CO.out HQ.out]
                exact ⟨rfl, HB.out⟩
      · rw [tb_false hno] at HNV
        have HQ := Lib.hid (show ¬ PlOk p from fun h => hno (by have := h.nodes; rw [HP.out.2.2] at this; exact this))
        clear hno
        go_enter Try.func13, Try.ntmps13
        go_wp2_with (fail)
        rw [HWA.out]
        refine HNV.out.mono ?_
        rintro e w2 ⟨rfl, hb2⟩
        have HB2 := Lib.hid (HBA.out.trans (hb2.mono (by omega)))
        have GP2 := Lib.hid (blk_below hb2 GP.out hsa)
        have hlw : w.heap.size < w2.heap.size := blk_lt GP2.out
        obtain ⟨⟨c0, c1, c2⟩, _⟩ := isv3_cells GP2.out
        clear hb2
        go_wp2_with (fail)
        go_ret
        rw [CB.out HQ.out]
        exact ⟨rfl, HB2.out⟩
end Go.Proofs.Ytheanpcbjjogfaa.pm
