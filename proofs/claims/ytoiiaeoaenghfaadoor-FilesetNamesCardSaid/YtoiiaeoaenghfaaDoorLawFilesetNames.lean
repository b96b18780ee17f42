/-
  FilesetNames: the walk.
-/
import Derived.Test.YtoiiaeoaenghfaaDoorFn2
import Derived.Lib.SmallJoins
namespace Go.Proofs.YtoiiaeoaenghfaaDoor.lawFilesetNames
open Go.ChangeShapes Go.WideShapes Go.ChangeAt Go.RowKit plain words ord mem fn

theorem ans_len {a b c d : Int} {P : By} (h : may a b c d = true) : (nameS a b c d P).length ≤ 36 + P.length := by
  have hm := of_decide_eq_true h
  have l1 : (dg a).length ≤ 1 := by unfold dg; rw [Lib.decDigits_length]; exact ndig_le (by omega) (by decide)
  have l2 : (dg b).length ≤ 1 := by unfold dg; rw [Lib.decDigits_length]; exact ndig_le (by omega) (by decide)
  have l3 := dg_len (a := c) (by omega)
  have l4 : (dg d).length ≤ 6 := by unfold dg; rw [Lib.decDigits_length]; exact ndig_le (by omega) (by decide)
  unfold nameS
  simp only [List.length_append, List.length_singleton]
  omega
theorem ans_form (a b c d : Int) (P : By) : ∃ (S : By) (k : Int), ans a b c d P = .tuple #[.string (tx S), .int .i64 k] ∧ (k = 0 ∨ k = 1) ∧ (k = 0 → S.length ≤ 36 + P.length) := by
  unfold ans
  split
  · rename_i h
    rw [Bool.and_eq_true] at h
    exact ⟨_, 0, rfl, .inl rfl, fun _ => ans_len h.1⟩
  · exact ⟨[], 1, rfl, .inr rfl, fun h => by omega⟩
set_option maxRecDepth 100000 in
set_option maxHeartbeats 2000000 in
theorem walk_ok (a b c d : Int) (s : ByteArray) (w : World) (hlay : Lay w) {p0 p1 p2 p3 : Prop} (_ : p0) (_ : p1) (_ : p2) (_ : p3) (hs : s.size ≤ maxLen) :
    Calls Tryd.prog 3 #[.agg #[.int .i64 a, .int .i64 b, .int .i64 c, .int .i64 d], .string s] w fun e w' => e = .returned (.bool true) ∧ Below w.heap.size w w' := by
  obtain ⟨P, rfl⟩ : ∃ P, s = tx P := ⟨s.data.toList, by simp [tx]⟩
  have hz := tx_size P
  by_cases hP : P.length ≤ 4096
  · obtain ⟨S1, k1, e1, o1, _⟩ := ans_form a b c d P
    obtain ⟨S2, k2, e2, o2, L2⟩ := ans_form a b c d [105, 110, 102, 111]
    have H1 := Lib.hid (Name_x a b c d P hP)
    have H2 := Lib.hid (Name_y a b c d P hP)
    have H3 := Lib.hid (Name_x a b c d [105, 110, 102, 111] (by decide))
    have H4 := Lib.hid (Name_y a b c d [105, 110, 102, 111] (by decide))
    rw [e1] at H1 H2
    rw [e2] at H3 H4
    rw [show tx [105, 110, 102, 111] = (⟨#[105, 110, 102, 111]⟩ : ByteArray) from rfl] at H3 H4
    have HLY := Lib.hid hlay
    have i1 : ¬ (4096 : Int) < (P.length : Int) := by omega
    have z2 := tx_size S2
    have L2' : k2 = 0 → S2.length ≤ 40 := fun h => by have := L2 h; simpa using this
    have HL2 := Lib.hid L2'
    clear e1 e2 hlay L2 L2' hP hs
    go_enter Tryd.func3, Tryd.ntmps3
    go_wp2_with (fail)
    obtain ⟨wv, hwv⟩ : ∃ wv, (w.alloc (Obj.cells #[.int .i64 a, .int .i64 b, .int .i64 c, .int .i64 d] 23)) = wv := ⟨_, rfl⟩
    have HB0 := Lib.hid (show Below w.heap.size w wv from hwv ▸ ba _ _)
    have c0 : ∀ j, wv.cell? ⟨w.heap.size, j, none⟩ = (#[.int .i64 a, .int .i64 b, .int .i64 c, .int .i64 d] : Array Value)[j]? := fun j => by rw [← hwv, ca]
    have HF := Lib.hid (show ∀ w2, Below wv.heap.size wv w2 → w.heap.size < w2.heap.size ∧ w2.cell? ⟨w.heap.size, 0, none⟩ = some (.int .i64 a) ∧ w2.cell? ⟨w.heap.size, 1, none⟩ = some (.int .i64 b) ∧ w2.cell? ⟨w.heap.size, 2, none⟩ = some (.int .i64 c) ∧ w2.cell? ⟨w.heap.size, 3, none⟩ = some (.int .i64 d) from fun w2 h =>
      have hl : w.heap.size < wv.heap.size := hwv ▸ la _ _
      ⟨Nat.lt_of_lt_of_le hl h.size, (h.cell (p := ⟨w.heap.size, 0, none⟩) hl).trans (c0 0), (h.cell (p := ⟨w.heap.size, 1, none⟩) hl).trans (c0 1), (h.cell (p := ⟨w.heap.size, 2, none⟩) hl).trans (c0 2), (h.cell (p := ⟨w.heap.size, 3, none⟩) hl).trans (c0 3)⟩)
    rw [hwv]
    clear hwv c0
    have HB := Lib.hid (Below.refl wv.heap.size wv)
    obtain ⟨k0, k1', k2', k3, k4⟩ := HF.out _ (Below.refl _ _)
    go_wp2_with (fail)
    refine (H1.out _ (HLY.out.below HB0.out)).mono ?_
    rintro e w1 ⟨rfl, hb⟩
    have HB1 := Lib.hid hb
    clear hb k0 k1' k2' k3 k4
    obtain ⟨k0, k1', k2', k3, k4⟩ := HF.out _ HB1.out
    go_wp2_with (fail)
    refine (H2.out _).mono ?_
    rintro e w2 ⟨rfl, hb⟩
    have HB2 := Lib.hid (HB1.out.trans (hb.mono HB1.out.size))
    clear hb k0 k1' k2' k3 k4
    obtain ⟨k0, k1', k2', k3, k4⟩ := HF.out _ HB2.out
    go_wp2_with (fail)
    refine (H3.out _ (HLY.out.below (HB0.out.trans (HB2.out.mono HB0.out.size)))).mono ?_
    rintro e w3 ⟨rfl, hb⟩
    have HB3 := Lib.hid (HB2.out.trans (hb.mono HB2.out.size))
    clear hb k0 k1' k2' k3 k4
    obtain ⟨k0, k1', k2', k3, k4⟩ := HF.out _ HB3.out
    rcases o2 with rfl | rfl
    · have hL : (S2.length : Int) ≤ 40 := by have := HL2.out rfl; omega
      go_wp2_with (fail)
      refine (H4.out _).mono ?_
      rintro e w4 ⟨rfl, hb⟩
      have HB4 := Lib.hid (HB3.out.trans (hb.mono HB3.out.size))
      clear hb k0 k1' k2' k3 k4
      go_wp2_with (fail)
      go_ret
      exact ⟨ret_bool (by simp), HB0.out.trans (HB4.out.mono HB0.out.size)⟩
    · go_wp2_with (fail)
      refine (H4.out _).mono ?_
      rintro e w4 ⟨rfl, hb⟩
      have HB4 := Lib.hid (HB3.out.trans (hb.mono HB3.out.size))
      clear hb k0 k1' k2' k3 k4
      go_wp2_with (fail)
      go_ret
      exact ⟨ret_bool (by simp), HB0.out.trans (HB4.out.mono HB0.out.size)⟩
  · have i1 : (4096 : Int) < (P.length : Int) := by omega
    go_enter Tryd.func3, Tryd.ntmps3
    go_wp2_with (fail)
    go_ret
    exact ⟨rfl, ba _ _⟩
end Go.Proofs.YtoiiaeoaenghfaaDoor.lawFilesetNames
