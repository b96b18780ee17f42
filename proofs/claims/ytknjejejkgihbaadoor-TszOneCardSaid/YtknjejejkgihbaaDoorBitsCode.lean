/-
  The writer and the reader of bits: the program's.
-/
import Derived.Test.YtknjejejkgihbaaDoorRows
import Derived.Test.YtknjejejkgihbaaDoorSlices
import Derived.Test.YtknjejejkgihbaaDoorBitsMath
import Derived.ProofKit
import Derived.Outline
import Derived.Handy
import Derived.BigQuiet
import Derived.Deep.QuietTactic
import Derived.Deep.RegionHeld3
import Derived.Deep.RegionWith
import Derived.Deep.DeepCutAuto
import Derived.WalkLawsBesides
namespace Go.Proofs.YtknjejejkgihbaaDoor.bitc
open Go.ChangeShapes Go.WideShapes Go.ChangeAt Go.RowKit plain words bitm

def cl (n : Int) : Nat := (min (max n 0) 64).toNat
theorem cl_le (n : Int) : cl n ≤ 64 := by unfold cl; omega
theorem width_x (n : Int) (w : World) (h : -9223372036854775808 ≤ n ∧ n ≤ 9223372036854775807) :
    Calls Tryd.prog 51 #[.int .i64 n] w fun e w' => e = .returned (.int .i64 (cl n)) ∧ w = w' := by
  rcases (show n < 0 ∨ (0 ≤ n ∧ n ≤ 64) ∨ 64 < n from by omega) with h1 | ⟨h1, h2⟩ | h1
  all_goals
    go_enter Tryd.func51, Tryd.ntmps51
    go_wp2
    all_goals
      go_ret
      exact ⟨ret_int (by unfold cl; omega), rfl⟩
theorem cut_y (n : Int) (w : World) (h : -9223372036854775808 ≤ n ∧ n ≤ 9223372036854775807) :
    Calls Tryd.prog 47 #[.int .i64 n] w fun e w' => e = .returned (.int .i64 (cl n)) ∧ w = w' := by
  rcases (show n < 0 ∨ (0 ≤ n ∧ n ≤ 64) ∨ 64 < n from by omega) with h1 | ⟨h1, h2⟩ | h1
  all_goals
    go_enter Tryd.func47, Tryd.ntmps47
    go_wp2
    all_goals
      go_ret
      exact ⟨ret_int (by unfold cl; omega), rfl⟩
theorem touched_x (s k : Nat) (w : World) (hs : s ≤ 4611686018427387904) (hk : k ≤ 64) :
    Calls Tryd.prog 52 #[.int .i64 s, .int .i64 k] w fun e w' => e = .returned (.int .i64 (((s % 8 + k + 7) / 8 : Nat) : Int)) ∧ w = w' := by
  go_enter Tryd.func52, Tryd.ntmps52
  go_wp2
  go_ret
  exact ⟨ret_int (by omega), rfl⟩
theorem low_code (v k : Nat) (hk : k ≤ 8) : bits BinOp.and IntKind.u8 ((v : Int) % 256) ((2 ^ k - 1) % 256) = ((v % 2 ^ k : Nat) : Int) := by
  have hp : 2 ^ k ≤ 256 := by have := Nat.pow_le_pow_right (n := 2) (by omega) hk; simpa using this
  have h0 := Nat.two_pow_pos k
  have e1 : ((v : Int) % 256) = ((v % 256 : Nat) : Int) := by omega
  have e2 : ((2 ^ k - 1 : Int) % 256) = ((2 ^ k - 1 : Nat) : Int) := by
    have : (2 ^ k : Int) = ((2 ^ k : Nat) : Int) := by simp
    rw [this]; omega
  rw [e1, e2, u8_and_nat _ _ (by omega) (by omega), Nat.and_two_pow_sub_one_eq_mod]
  congr 1
  have : (256 : Nat) = 2 ^ k * 2 ^ (8 - k) := by rw [← Nat.pow_add, show k + (8 - k) = 8 from by omega]
  rw [this, Nat.mod_mul_right_mod]
theorem low_x (v k : Nat) (w : World) (hk : k ≤ 8) :
    Calls Tryd.prog 53 #[.int .u64 (v : Int), .int .i64 k] w fun e w' => e = .returned (.int .u8 ((v % 2 ^ k : Nat) : Int)) ∧ w = w' := by
  have hv : (0 : Int) ≤ (v : Int) := by omega
  go_enter Tryd.func53, Tryd.ntmps53
  go_wp2
  go_ret
  exact ⟨ret_int (low_code v k hk), rfl⟩

/-! ### what a call may change -/
/-- only blocks of S may have changed, of those that were there *-/
structure Chg (S : Nat → Prop) (w w' : World) : Prop where
  os : w'.os = w.os
  tape : w'.tape = w.tape
  output : w'.output = w.output
  size : w.heap.size ≤ w'.heap.size
  block : ∀ k, k < w.heap.size → ¬ S k → w'.heap[k]? = w.heap[k]?
theorem Chg.refl (S : Nat → Prop) (w : World) : Chg S w w := ⟨rfl, rfl, rfl, Nat.le_refl _, fun _ _ _ => rfl⟩
theorem Chg.trans {S S' : Nat → Prop} {a b c : World} (h : Chg S a b) (k : Chg S' b c) (hs : ∀ i, i < a.heap.size → S' i → S i) : Chg S a c :=
  ⟨k.os.trans h.os, k.tape.trans h.tape, k.output.trans h.output, Nat.le_trans h.size k.size, fun i hi hn => (k.block i (Nat.lt_of_lt_of_le hi h.size) (fun e => hn (hs i hi e))).trans (h.block i hi hn)⟩
theorem Chg.drew {S : Nat → Prop} {a w : World} (h : Chg S a w) : Chg S a w.drew := ⟨h.os, h.tape, h.output, h.size, h.block⟩
theorem Chg.alloc {S : Nat → Prop} {a w : World} (h : Chg S a w) (o : Obj) : Chg S a (w.alloc o) :=
  ⟨h.os, h.tape, h.output, by simp; have := h.size; omega, fun i hi hn => (Below.heap_alloc w o i (Nat.lt_of_lt_of_le hi h.size)).trans (h.block i hi hn)⟩
theorem Chg.setCell {S : Nat → Prop} {a w : World} (h : Chg S a w) {p : Addr} (hp : p.block < a.heap.size → S p.block) (u : Value) : Chg S a (w.setCell p u) :=
  ⟨h.os, h.tape, h.output, by simp [World.setCell]; exact h.size, fun i hi hn => (Below.heap_setCell w p u i (fun e => by subst e; exact hn (hp hi))).trans (h.block i hi hn)⟩
theorem Chg.grown {S : Nat → Prop} {a w w' : World} {row : Option Nat} (h : Chg S a w) (hg : w.grownBy w' row) (hr : ∀ k, row = some k → k < a.heap.size → S k) : Chg S a w' :=
  ⟨hg.os.trans h.os, hg.tape.trans h.tape, hg.output.trans h.output, Nat.le_trans h.size hg.size, fun i hi hn => (hg.block i (Nat.lt_of_lt_of_le hi h.size) (fun e => hn (hr i e.symm hi))).trans (h.block i hi hn)⟩
theorem Chg.below {S : Nat → Prop} {w w' : World} {B : Nat} (h : Chg S w w') (hB : B ≤ w.heap.size) (hs : ∀ k, S k → B ≤ k) : Below B w w' :=
  ⟨h.os, h.tape, h.output, h.size, fun k hk => h.block k (by omega) (fun e => by have := hs k e; omega)⟩
theorem Chg.of_below {w w' : World} (h : Below w.heap.size w w') : Chg (fun _ => False) w w' := ⟨h.os, h.tape, h.output, h.size, fun k hk _ => h.block k hk⟩
theorem Chg.mono {S S' : Nat → Prop} {w w' : World} (h : Chg S w w') (hs : ∀ k, S k → S' k) : Chg S' w w' := ⟨h.os, h.tape, h.output, h.size, fun k hk hn => h.block k hk (fun e => hn (hs k e))⟩

/-- a writer at block p with its row in block r: it has the bits l *-/
def IsW (w : World) (p : Nat) (r : Option Nat) (l : List Bool) : Prop :=
  ∃ v, w.heap[p]? = some (.cells #[v, .int .i64 (l.length : Int)] 77 (0, 0)) ∧ w.ownsRow 0 5 1 v ((l.length + 7) / 8) (u8s (pack l)) ∧ v.ownBlock = r
theorem IsW.lt {w : World} {p : Nat} {r : Option Nat} {l : List Bool} (h : IsW w p r l) : p < w.heap.size := by
  obtain ⟨v, h1, _⟩ := h
  rcases Nat.lt_or_ge p w.heap.size with hlt | hge
  · exact hlt
  · rw [Array.getElem?_eq_none hge] at h1; cases h1
theorem IsW.row_lt {w : World} {p g : Nat} {l : List Bool} (h : IsW w p (some g) l) : g < w.heap.size := by
  obtain ⟨v, _, h2, h3⟩ := h
  exact (h2.lt g h3).2
theorem own_chg {S : Nat → Prop} {w w' : World} {base size n : Nat} {e : TypeId} {v : Value} {xs : List Value} (h : w.ownsRow base e size v n xs) (hc : Chg S w w') (hS : ∀ g, v.ownBlock = some g → ¬ S g) : w'.ownsRow base e size v n xs := by
  obtain ⟨h1, h2⟩ := h
  refine ⟨h1, ?_⟩
  rcases h2 with h2 | ⟨g, cap, cur, rfl, e2, e3, e4⟩
  · exact .inl h2
  · refine .inr ⟨g, cap, cur, rfl, e2, ?_, e4⟩
    rw [hc.block g ?_ (hS g rfl)]; exact e3
    rcases Nat.lt_or_ge g w.heap.size with hlt | hge
    · exact hlt
    · rw [Array.getElem?_eq_none hge] at e3; cases e3
theorem IsW.chg {S : Nat → Prop} {w w' : World} {p : Nat} {r : Option Nat} {l : List Bool} (h : IsW w p r l) (hc : Chg S w w') (hp : ¬ S p) (hr : ∀ g, r = some g → ¬ S g) : IsW w' p r l := by
  have hlt := h.lt
  obtain ⟨v, h1, h2, h3⟩ := h
  exact ⟨v, (hc.block p hlt hp).trans h1, own_chg h2 hc (fun g hg => hr g (h3 ▸ hg)), h3⟩
end Go.Proofs.YtknjejejkgihbaaDoor.bitc
