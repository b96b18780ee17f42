/-
  The document's nets: what is looked at and taken.
-/
import Derived.Test.YtcebmlcdhapnkaaNetY
namespace Go.Proofs.Ytcebmlcdhapnkaa.net
open Go.ChangeShapes Go.WideShapes Go.ChangeAt Go.RowKit plain words ord mem

set_option maxHeartbeats 1000000 in
theorem at_y (F : Nat → Prop) (w : World) (p : Nat) (r : Option Nat) (P : List Msg) (hN : IsNetF 46 F w p r P) (k : Nat) (x y : Int) (bs : List UInt8) (hk : P[k]? = some (x, y, bs)) (hn : bs.length ≤ 1099511627776) (n : Nat) (hbn : bs.length = n) :
    Calls Try.prog 26 #[.pointer (some ⟨p, 0, none⟩), .int .i64 (k : Int)] w (AtPost w x y n bs (.bool true)) := by
  have hkl : k < P.length := by
    rcases Nat.lt_or_ge k P.length with h | h
    · exact h
    · rw [List.getElem?_eq_none h] at hk; cases hk
  have hpl := hN.lt
  obtain ⟨g, c, A, n', d, hc, c0, c1, c2, hbs, hA, hc1, hc2, hgl, _⟩ := hN.at_ hk
  obtain rfl : n' = n := hbs.len_.symm.trans hbn
  have hin : inP P (k : Int) = true := by simp [inP]; omega
  obtain ⟨P1, hP1⟩ : ∃ o, Obj.cells #[.int .i64 0, .int .i64 0, .slice none 0 0] 32 (0, 0) = o := ⟨_, rfl⟩
  have hha := fun w' h => has_y F w' p r P h (k : Int)
  rw [hin] at hha
  have hha0 := hha (w.alloc P1) (hN.below ((Below.refl _ _).alloc (Nat.le_refl _) _))
  have hcl := copied_y (w.alloc P1) x y w.heap.size n' d A bs (hbs.alloc (Nat.le_refl _) _) hA (by simp) (by omega)
  have i1 : (0 : Int) ≤ (k : Int) := by omega
  have i2 : (k : Int) < (P.length : Int) := by omega
  subst hP1
  have HHA := Lib.hid hha0
  have HCL := Lib.hid hcl
  clear hha hha0 hcl hin hbs hk hbn
  go_enter Try.func26, Try.ntmps26
  go_wp2_with (fail)
  refine HHA.out.mono ?_
  rintro e w1 ⟨rfl, rfl⟩
  go_wp2_with (fail)
  refine HCL.out.mono ?_
  rintro e w1 ⟨A', c', rfl, hown, hb⟩
  have f0 := blk_below hb (alloc_new w _) (by simp)
  have d0 : w1.cell? ⟨w.heap.size, 0, none⟩ = some (.int .i64 0) := by rw [cell_of_row _ _ _ _ _ _ f0]; rfl
  have d1 : w1.cell? ⟨w.heap.size, 1, none⟩ = some (.int .i64 0) := by rw [cell_of_row _ _ _ _ _ _ f0]; rfl
  have d2 : w1.cell? ⟨w.heap.size, 2, none⟩ = some (.slice none 0 0) := by rw [cell_of_row _ _ _ _ _ _ f0]; rfl
  have y0 : w1.frozen? ⟨w.heap.size, 0, none⟩ = false := frozen_of_row _ _ _ _ _ f0
  have y1 : w1.frozen? ⟨w.heap.size, 1, none⟩ = false := frozen_of_row _ _ _ _ _ f0
  have y2 : w1.frozen? ⟨w.heap.size, 2, none⟩ = false := frozen_of_row _ _ _ _ _ f0
  have HOWN := Lib.hid hown
  have HB := Lib.hid hb
  clear hown hb f0 HCL HHA
  go_wp2_with (fail)
  refine bodyPost_ret (v := .tuple #[.agg #[.int .i64 x, .int .i64 y, .slice A' n' c'], .bool true]) (by simp [results, Try.results26, go_sem, d0, d1, d2]) rfl ⟨A', c', rfl, ?_, ?_⟩
  · have hch : Chg (fun k => k = w.heap.size) w1 (((w1.setCell ⟨w.heap.size, 0, none⟩ (.int .i64 x)).setCell ⟨w.heap.size, 1, none⟩ (.int .i64 y)).setCell ⟨w.heap.size, 2, none⟩ (.slice A' n' c')) :=
      (((Chg.refl (fun k => k = w.heap.size) w1).setCell (p := ⟨w.heap.size, 0, none⟩) (fun _ => rfl) _).setCell (p := ⟨w.heap.size, 1, none⟩) (fun _ => rfl) _).setCell (p := ⟨w.heap.size, 2, none⟩) (fun _ => rfl) _
    refine own_base (own_chg HOWN.out hch fun g hg => ?_) (by simp)
    have := (HOWN.out.lt g hg).1
    simp at this
    omega
  · exact ((((((Below.refl _ _).alloc (Nat.le_refl _) _).trans (HB.out.mono (by simp))).setCell (by simp) _).setCell (by simp) _).setCell (by simp) _)
theorem at_ny (F : Nat → Prop) (w : World) (p : Nat) (r : Option Nat) (P : List Msg) (hN : IsNetF 46 F w p r P) (i : Int) (hi : inP P i = false) :
    Calls Try.prog 26 #[.pointer (some ⟨p, 0, none⟩), .int .i64 i] w fun e w' => e = .returned (.tuple #[.agg #[.int .i64 0, .int .i64 0, .slice none 0 0], .bool false]) ∧ Below w.heap.size w w' := by
  have hha := has_y F (w.alloc (.cells #[.int .i64 0, .int .i64 0, .slice none 0 0] 32)) p r P (hN.below ((Below.refl _ _).alloc (Nat.le_refl _) _)) i
  rw [hi] at hha
  have HHA := Lib.hid hha
  clear hha hi
  go_enter Try.func26, Try.ntmps26
  go_wp2_with (fail)
  refine HHA.out.mono ?_
  rintro e w1 ⟨rfl, rfl⟩
  go_wp2_with (fail)
  refine bodyPost_ret (v := .tuple #[.agg #[.int .i64 0, .int .i64 0, .slice none 0 0], .bool false]) (by simp [results, Try.results26, go_sem]) rfl ⟨rfl, ?_⟩
  exact (Below.refl _ _).alloc (Nat.le_refl _) _
end Go.Proofs.Ytcebmlcdhapnkaa.net
