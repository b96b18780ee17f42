/-
  The document's nets: Drop, Double.
-/
import Derived.Test.YtcebmlcdhapnkaaNetY3
namespace Go.Proofs.Ytcebmlcdhapnkaa.net
open Go.ChangeShapes Go.WideShapes Go.ChangeAt Go.RowKit plain words ord mem

def ChP (F : Nat → Prop) (w : World) (p : Nat) (r : Option Nat) (P : List Msg) (w' : World) (r' : Option Nat) : Prop :=
  IsNetF 46 F w' p r' P ∧ Chg (fun b => b = p ∨ some b = r) w w' ∧ ∀ g, r' = some g → r = some g ∨ w.heap.size ≤ g
set_option maxHeartbeats 4000000 in
set_option maxRecDepth 100000 in
theorem take_ny (F : Nat → Prop) (w : World) (p : Nat) (r : Option Nat) (P : List Msg) (hN : IsNetF 46 F w p r P) (i : Int) (hi : inP P i = false) :
    Calls Try.prog 23 #[.pointer (some ⟨p, 0, none⟩), .int .i64 i] w fun e w' => e = .returned (.tuple #[.agg #[.int .i64 0, .int .i64 0, .slice none 0 0], .int .i64 11]) ∧ Below w.heap.size w w' := by
  obtain ⟨w1, hw1⟩ : ∃ w1, w.alloc (.cells #[.int .i64 0, .int .i64 0, .slice none 0 0] 32) = w1 := ⟨_, rfl⟩
  have hb1 : Below w.heap.size w w1 := by rw [← hw1]; exact (Below.refl _ _).alloc (Nat.le_refl _) _
  have g1 : w1.heap[w.heap.size]? = some (.cells #[.int .i64 0, .int .i64 0, .slice none 0 0] 32 (0, 0)) := by rw [← hw1]; exact alloc_new _ _
  have hs1 : w.heap.size < w1.heap.size := blk_lt g1
  have HAT := Lib.hid (at_ny F w1 p r P (hN.below hb1) i hi)
  have HW1 := Lib.hid hw1
  have B1 := Lib.hid hb1
  have G1 := Lib.hid g1
  clear hi hw1 hb1 g1
  go_enter Try.func23, Try.ntmps23
  go_wp2_with (fail)
  rw [HW1.out]
  refine HAT.out.mono ?_
  rintro e w2 ⟨rfl, hb2⟩
  have hs2 := hb2.size
  have g2 := blk_below hb2 G1.out hs1
  obtain ⟨z0, z1, z2⟩ := cells3p g2
  obtain ⟨y0, y1, y2⟩ := frozen3p g2
  have B2 := Lib.hid (B1.out.trans (hb2.mono (by omega)))
  have G2 := Lib.hid g2
  have hl2 : w.heap.size < w2.heap.size := blk_lt g2
  clear hb2 g2 HAT
  go_wp2_with (fail)
  refine bodyPost_ret (ret_ct rfl _ _ w.heap.size 32 _ _ _ rfl (alloc_old _ (set3p G2.out)) Try.underlying32 rfl infoP3) rfl ?_
  exact ⟨rfl, (((B2.out.setCell (p := ⟨w.heap.size, 0, none⟩) (Nat.le_refl _) _).setCell (p := ⟨w.heap.size, 1, none⟩) (Nat.le_refl _) _).setCell (p := ⟨w.heap.size, 2, none⟩) (Nat.le_refl _) _).alloc (by simp; omega) _⟩
set_option maxHeartbeats 1000000 in
theorem drop_y (F : Nat → Prop) (w : World) (p : Nat) (r : Option Nat) (P : List Msg) (hN : IsNetF 46 F w p r P) (hP : P.length ≤ 1000000) (k : Nat) (x y : Int) (bs : List UInt8) (hk : P[k]? = some (x, y, bs)) (hn : bs.length ≤ 1099511627776) :
    Calls Try.prog 24 #[.pointer (some ⟨p, 0, none⟩), .int .i64 (k : Int)] w fun e w' => e = .returned (.int .i64 0) ∧ ∃ r', ChP F w p r (P.eraseIdx k) w' r' := by
  have HT := Lib.hid (take_y F w p r P hN hP k x y bs hk hn bs.length rfl)
  clear hN hk
  go_enter Try.func24, Try.ntmps24
  go_wp2_with (fail)
  refine HT.out.mono ?_
  rintro e w1 ⟨r', A, c, rfl, _, hN', hc, hr⟩
  have HN := Lib.hid hN'
  have HC := Lib.hid hc
  have HR := Lib.hid hr
  obtain ⟨m, hm⟩ : ∃ m, bs.length = m := ⟨_, rfl⟩
  rw [hm]
  clear hN' hc hr HT hm
  go_wp2_with (fail)
  go_ret
  have hb : Below w1.heap.size w1 (w1.alloc (.cells #[.int .i64 x, .int .i64 y, .slice A m c] 32)) := (Below.refl _ _).alloc (Nat.le_refl _) _
  exact ⟨rfl, r', HN.out.below hb, HC.out.then_below hb, HR.out⟩
theorem drop_ny (F : Nat → Prop) (w : World) (p : Nat) (r : Option Nat) (P : List Msg) (hN : IsNetF 46 F w p r P) (i : Int) (hi : inP P i = false) :
    Calls Try.prog 24 #[.pointer (some ⟨p, 0, none⟩), .int .i64 i] w fun e w' => e = .returned (.int .i64 11) ∧ Below w.heap.size w w' := by
  have HT := Lib.hid (take_ny F w p r P hN i hi)
  clear hN hi
  go_enter Try.func24, Try.ntmps24
  go_wp2_with (fail)
  refine HT.out.mono ?_
  rintro e w1 ⟨rfl, hb⟩
  have HB := Lib.hid hb
  clear hb HT
  go_wp2_with (fail)
  go_ret
  exact ⟨rfl, HB.out.alloc HB.out.size _⟩
set_option maxHeartbeats 1000000 in
theorem double_y (F : Nat → Prop) (w : World) (hF : ∀ g, F g → g < w.heap.size) (p : Nat) (r : Option Nat) (P : List Msg) (hN : IsNetF 46 F w p r P) (hP : P.length ≤ 256) (k : Nat) (x y : Int) (bs : List UInt8) (hk : P[k]? = some (x, y, bs)) (hn : bs.length ≤ 1099511627776) :
    Calls Try.prog 25 #[.pointer (some ⟨p, 0, none⟩), .int .i64 (k : Int)] w fun e w' => e = .returned (.int .i64 (sent P (x, y, bs)).1) ∧ ∃ r', ChP F w p r (sent P (x, y, bs)).2 w' r' := by
  have HA := Lib.hid (at_y F w p r P hN k x y bs hk hn bs.length rfl)
  have HN := Lib.hid hN
  obtain ⟨m, hm⟩ : ∃ m, bs.length = m := ⟨_, rfl⟩
  rw [hm] at HA hn
  clear hN hk hm
  go_enter Try.func25, Try.ntmps25
  go_wp2_with (fail)
  refine HA.out.mono ?_
  rintro e w1 ⟨A, c, rfl, ho, hb⟩
  have hs1 := hb.size
  obtain ⟨w2, hw2⟩ : ∃ w2, w1.alloc (.cells #[.int .i64 x, .int .i64 y, .slice A m c] 32) = w2 := ⟨_, rfl⟩
  have hb2 : Below w1.heap.size w1 w2 := by rw [← hw2]; exact (Below.refl _ _).alloc (Nat.le_refl _) _
  have hB2 := hb.trans (hb2.mono hs1)
  have hs2 := hB2.size
  have hA : A = none → c = 0 := by
    intro e
    rcases own_form ho with ⟨e2, _⟩ | ⟨g, c', e2, _⟩
    · cases e2; rfl
    · rw [e] at e2; cases e2
  have HS := Lib.hid (send_y F w2 (fun g hg => by have := hF g hg; omega) p r P (HN.out.below hB2) x y w1.heap.size m c A bs ((own_bs ho).below hb2 (Nat.le_refl _)) hA (by rw [← hw2]; simp) (by omega) hP)
  have HB2 := Lib.hid hB2
  have HW2 := Lib.hid hw2
  clear hb ho hb2 hB2 hA HA hw2
  go_wp2_with (fail)
  rw [HW2.out]
  refine HS.out.mono ?_
  rintro e w3 ⟨r', rfl, hN3, hc3, hr3⟩
  obtain ⟨z, hz⟩ : ∃ z, (sent P (x, y, bs)).1 = z := ⟨_, rfl⟩
  have HN3 := Lib.hid hN3
  have HC3 := Lib.hid hc3
  have HR3 := Lib.hid hr3
  have HZ := Lib.hid hz
  rw [hz]
  clear hN3 hc3 hr3 HS hz
  go_wp2_with (fail)
  go_ret
  refine ⟨by rw [HZ.out]; rfl, r', HN3.out, ((Chg.of_below HB2.out).mono (S' := fun b => b = p ∨ some b = r) (fun _ _ e => e.elim)).trans HC3.out (fun _ _ e => e), fun g hg => ?_⟩
  rcases HR3.out with e | ⟨g', e, hg'⟩
  · exact .inl (e.symm.trans hg)
  · rw [e] at hg; cases hg; exact .inr (by omega)
theorem double_ny (F : Nat → Prop) (w : World) (p : Nat) (r : Option Nat) (P : List Msg) (hN : IsNetF 46 F w p r P) (i : Int) (hi : inP P i = false) :
    Calls Try.prog 25 #[.pointer (some ⟨p, 0, none⟩), .int .i64 i] w fun e w' => e = .returned (.int .i64 11) ∧ Below w.heap.size w w' := by
  have HA := Lib.hid (at_ny F w p r P hN i hi)
  clear hN hi
  go_enter Try.func25, Try.ntmps25
  go_wp2_with (fail)
  refine HA.out.mono ?_
  rintro e w1 ⟨rfl, hb⟩
  have HB := Lib.hid hb
  clear hb HA
  go_wp2_with (fail)
  go_ret
  exact ⟨rfl, HB.out.alloc HB.out.size _⟩
end Go.Proofs.Ytcebmlcdhapnkaa.net
