/-
  Sets of times as lists of ranges: the small functions of the program.
-/
import Derived.Test.YtheanpcbjjogfaaRgMath
import Derived.Test.YtheanpcbjjogfaaCells
import Derived.Test.YtheanpcbjjogfaaPoint
import Derived.Shelf.Abstract
import Derived.Deep.LoopGhost
import Derived.Lib.Hide
namespace Go.Proofs.Ytheanpcbjjogfaa.rg
open Go.ChangeShapes Go.WideShapes Go.ChangeAt Go.RowKit plain words ord mem

def rgE (r : R) : List Value := [.int .i64 r.1, .int .i64 r.2]
theorem rgE_len (r : R) : (rgE r).length = 2 := rfl
theorem rgE_one (r : R) : ∀ v ∈ rgE r, v.oneCell' = true := by
  intro v hv
  simp [rgE] at hv
  rcases hv with rfl | rfl <;> rfl
theorem infoR : (Try.prog.info? 27).map (fun i => (i.zero, i.size, i.bytes)) = some (some (.agg #[.int .i64 0, .int .i64 0]), 2, 16) := by kernel_rfl
/-- a list of ranges that is read -/
abbrev Rgs (w : World) (B : Nat) (A : Option Addr) (n : Nat) (l : List R) : Prop := l.length = n ∧ Rd w B A (n * 2) (cs rgE l)
/-- a list of ranges in a row of its own -/
abbrev Own (w : World) (B : Nat) (v : Value) (n : Nat) (l : List R) : Prop := l.length = n ∧ w.ownsRow B 27 2 v n (cs rgE l)
theorem Rgs.below {w w' : World} {B C n : Nat} {A : Option Addr} {l : List R} (h : Rgs w B A n l) (hb : Below C w w') (hB : B ≤ C) : Rgs w' B A n l := ⟨h.1, h.2.below hb hB⟩
theorem Own.rgs {w : World} {B n c : Nat} {A : Option Addr} {l : List R} (h : Own w B (.slice A n c) n l) : Rgs w w.heap.size A n l := ⟨h.1, own_rd h.2⟩
theorem Own.below {w w' : World} {B C n : Nat} {v : Value} {l : List R} (h : Own w B v n l) (hb : Below C w w') (hC : w.heap.size ≤ C) : Own w' B v n l := ⟨h.1, own_keep h.2 hb hC⟩
theorem Own.base {w : World} {B C n : Nat} {v : Value} {l : List R} (h : Own w B v n l) (hC : C ≤ B) : Own w C v n l := ⟨h.1, own_base h.2 hC⟩
/-- an element's two cells -/
theorem Rgs.at_ {w : World} {B n : Nat} {A : Option Addr} {l : List R} (h : Rgs w B A n l) {i : Nat} (hi : i < n) :
    ∃ b off, A = some ⟨b, off, none⟩ ∧ b < B ∧ w.cell? ⟨b, off + i * 2, none⟩ = some (.int .i64 (l[i]'(h.1 ▸ hi)).1) ∧ w.cell? ⟨b, off + i * 2 + 1, none⟩ = some (.int .i64 (l[i]'(h.1 ▸ hi)).2) := by
  obtain ⟨b, off, rfl, hb⟩ := Rd.some_of h.2 (show 0 < n * 2 by omega)
  have hi' : l[i]? = some (l[i]'(h.1 ▸ hi)) := List.getElem?_eq_getElem _
  refine ⟨b, off, rfl, hb, ?_, ?_⟩
  · exact (Rd.cellsAt (k := 2) rgE_len h.2 hi' hi (j := 0) (by omega)).1
  · exact (Rd.cellsAt (k := 2) rgE_len h.2 hi' hi (j := 1) (by omega)).1

theorem empty_x (a b : Int) (w : World) : Calls Try.prog 29 #[.agg #[.int .i64 a, .int .i64 b]] w fun e w' => e = .returned (.bool (emptyR (a, b))) ∧ Below w.heap.size w w' := by
  go_enter Try.func29, Try.ntmps29
  go_wp2_with fail
  go_ret
  exact ⟨ret_bool (by simp [emptyR]), (Below.refl _ _).alloc (Nat.le_refl _) _⟩

/-- what is asked of a function that says yes or no to a range -/
def Pred (g : Nat) (cb : Array Value) (p : R → Bool) (w0 : World) : Prop :=
  ∀ u : World, Below w0.heap.size w0 u → ∀ x : R, Calls Try.prog g (#[.agg #[.int .i64 x.1, .int .i64 x.2]] ++ cb) u fun e w' => e = .returned (.bool (p x)) ∧ Below u.heap.size u w'
theorem pred_empty (w : World) : Pred 29 #[] emptyR w := fun u _ x => empty_x x.1 x.2 u
def hasB (t : Int) (r : R) : Bool := decide (r.1 ≤ t) && decide (t < r.2)
def covB (r x : R) : Bool := decide (x.1 ≤ r.1) && decide (r.2 ≤ x.2)
/-- the first place at which p holds, or -1 -/
def ixF (p : R → Bool) : List R → Nat → Int
  | [], _ => -1
  | x :: l, i => if p x then (i : Int) else ixF p l (i + 1)
theorem ixF_miss (p : R → Bool) (l : List R) (i : Nat) (h : ∀ j (hj : j < l.length), p l[j] = false) : ixF p l i = -1 := by
  induction l generalizing i with
  | nil => rfl
  | cons x l ih =>
    have h0 := h 0 (by simp)
    simp only [List.getElem_cons_zero] at h0
    rw [ixF, h0]
    exact ih (i + 1) fun j hj => by have := h (j + 1) (by simp; omega); simpa using this
theorem ixF_hit (p : R → Bool) (l : List R) (i k : Nat) (hk : k < l.length) (h1 : p l[k] = true) (h : ∀ j (hj : j < k), p l[j] = false) : ixF p l i = ((i + k : Nat) : Int) := by
  induction l generalizing i k with
  | nil => simp at hk
  | cons x l ih =>
    cases k with
    | zero => simp only [List.getElem_cons_zero] at h1; rw [ixF, h1]; rfl
    | succ k =>
      have h0 := h 0 (by omega)
      simp only [List.getElem_cons_zero] at h0
      rw [ixF, h0]
      simp only [Bool.false_eq_true, if_false]
      rw [ih (i + 1) k (by simpa using hk) (by simpa using h1) fun j hj => by have := h (j + 1) (by omega); simpa using this]
      congr 1; omega
theorem ixF_any (p : R → Bool) (l : List R) (i : Nat) : decide (0 ≤ ixF p l i) = l.any p := by
  induction l generalizing i with
  | nil => rfl
  | cons x l ih =>
    rw [ixF, List.any_cons]
    cases hx : p x
    · simp [ih]
    · simp

set_option maxHeartbeats 1000000 in
theorem index_x (w : World) (B n c : Nat) (A : Option Addr) (l : List R) (h : Rgs w B A n l) (hB : B ≤ w.heap.size) (hn : n ≤ 1099511627776) (g : Nat) (cb : Array Value) (p : R → Bool) (hp : Pred g cb p w) (eg : ∀ args w, (callFunc g args).run Try.prog w = .ok (.enter g args) w) :
    Calls Try.prog 40 #[.slice A n c, .func (.func g) #[] cb] w fun e w' => e = .returned (.int .i64 (ixF p l 0)) ∧ Below w.heap.size w w' := by
  have HH := Lib.hid h
  have HP := Lib.hid hp
  clear h hp
  go_enter Try.func40, Try.ntmps40
  go_wp2
  go_loopg [5, 8] n (fun gg _ s8 wr => ∃ kk : Nat, kk ≤ n ∧ n - kk ≤ gg ∧ s8 = .int .i64 kk ∧ Aside (Below w.heap.size w wr) ∧ Aside (∀ j (hj : j < kk) (hj' : j < l.length), p l[j] = false))
  case atStart => exact ⟨0, Nat.zero_le _, by omega, rfl, Below.refl _ w, fun j hj => absurd hj (Nat.not_lt_zero _)⟩
  case round =>
    obtain ⟨kk, hkk, hg, rfl, BW, A1⟩ := hrel
    have hl := HH.out.1
    by_cases hlt : kk < n
    · have hltz : (kk : Int) < (n : Int) := by omega
      obtain ⟨b, off, rfl, hb, l1, l2⟩ := (HH.out.below BW.out hB).at_ hlt
      have hcall := HP.out wr BW.out (l[kk]'(by omega))
      obtain ⟨x, hx⟩ : ∃ x, l[kk]'(by omega) = x := ⟨_, rfl⟩
      rw [hx] at l1 l2 hcall
      have HX := Lib.hid hx
      clear hx
      have hbw : b < wr.heap.size := by have := BW.out.size; omega
      cases hq : p x with
      | true =>
        rw [hq] at hcall
        go_wp2_with (go_at_fn g; refine hcall.mono ?_; rintro e w' ⟨rfl, hb'⟩)
        go_ret
        refine ⟨?_, BW.out.trans (hb'.mono BW.out.size)⟩
        rw [ixF_hit p l 0 kk (by omega) (by rw [HX.out]; exact hq) (fun j hj => A1.out j hj (by omega)), Nat.zero_add]
        rfl
      | false =>
        rw [hq] at hcall
        go_wp2_with (go_at_fn g; refine hcall.mono ?_; rintro e w' ⟨rfl, hb'⟩)
        go_roundg (n - (kk + 1))
        case measure => omega
        case rel =>
          refine ⟨kk + 1, by omega, by omega, by go_num, BW.out.trans (hb'.mono BW.out.size), (show Aside _ from fun j hj hj' => ?_)⟩
          by_cases e : j = kk
          · subst e
            rw [HX.out]; exact hq
          · exact A1.out j (by omega) hj'
    · have hltz : ¬ (kk : Int) < (n : Int) := by omega
      have : kk = n := by omega
      subst this
      go_wp2
      go_ret
      refine ⟨?_, BW.out⟩
      rw [ixF_miss p l 0 (fun j hj => A1.out j (by omega) hj)]
      rfl
end Go.Proofs.Ytheanpcbjjogfaa.rg
