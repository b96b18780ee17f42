/-
  Three writers side by side; a reader's next bit.
-/
import Derived.Test.YtnjhdifnjkcmcaaStepBits
namespace Go.Proofs.Ytnjhdifnjkcmcaa.bitc
open Go.ChangeShapes Go.WideShapes Go.ChangeAt Go.RowKit plain words bitm

structure W3 (w : World) (Q p1 : Nat) (r1 : Option Nat) (l1 : List Bool) (p2 : Nat) (r2 : Option Nat) (l2 : List Bool) (p3 : Nat) (r3 : Option Nat) (l3 : List Bool) : Prop where
  a : IsW w p1 r1 l1
  b : IsW w p2 r2 l2
  c : IsW w p3 r3 l3
  qa : p1 < Q
  qb : p2 < Q
  qc : p3 < Q
  ab : p1 ≠ p2
  ac : p1 ≠ p3
  bc : p2 ≠ p3
  ra : ∀ g, r1 = some g → Q ≤ g
  rb : ∀ g, r2 = some g → Q ≤ g
  rc : ∀ g, r3 = some g → Q ≤ g
  rab : ∀ g, r1 = some g → r2 ≠ some g
  rac : ∀ g, r1 = some g → r3 ≠ some g
  rbc : ∀ g, r2 = some g → r3 ≠ some g
variable {w w' : World} {Q p1 p2 p3 : Nat} {r1 r2 r3 : Option Nat} {l1 l2 l3 : List Bool}
theorem W3.swap12 (h : W3 w Q p1 r1 l1 p2 r2 l2 p3 r3 l3) : W3 w Q p2 r2 l2 p1 r1 l1 p3 r3 l3 :=
  ⟨h.b, h.a, h.c, h.qb, h.qa, h.qc, h.ab.symm, h.bc, h.ac, h.rb, h.ra, h.rc, fun g h2 h1 => h.rab g h1 h2, h.rbc, h.rac⟩
theorem W3.swap13 (h : W3 w Q p1 r1 l1 p2 r2 l2 p3 r3 l3) : W3 w Q p3 r3 l3 p2 r2 l2 p1 r1 l1 :=
  ⟨h.c, h.b, h.a, h.qc, h.qb, h.qa, h.bc.symm, h.ac.symm, h.ab.symm, h.rc, h.rb, h.ra, fun g h2 h1 => h.rbc g h1 h2, fun g h2 h1 => h.rac g h1 h2, fun g h2 h1 => h.rab g h1 h2⟩
theorem W3.keep {S : Nat → Prop} (h : W3 w Q p1 r1 l1 p2 r2 l2 p3 r3 l3) (hc : Chg S w w') (hS : ∀ k, S k → w.heap.size ≤ k) : W3 w' Q p1 r1 l1 p2 r2 l2 p3 r3 l3 :=
  ⟨h.a.chg hc (fun e => by have := hS _ e; have := h.a.lt; omega) (fun g hg e => by subst hg; have := hS _ e; have := h.a.row_lt; omega),
   h.b.chg hc (fun e => by have := hS _ e; have := h.b.lt; omega) (fun g hg e => by subst hg; have := hS _ e; have := h.b.row_lt; omega),
   h.c.chg hc (fun e => by have := hS _ e; have := h.c.lt; omega) (fun g hg e => by subst hg; have := hS _ e; have := h.c.row_lt; omega),
   h.qa, h.qb, h.qc, h.ab, h.ac, h.bc, h.ra, h.rb, h.rc, h.rab, h.rac, h.rbc⟩
theorem W3.put {r1' : Option Nat} {l1' : List Bool} (h : W3 w Q p1 r1 l1 p2 r2 l2 p3 r3 l3) (hc : Chg (fun k => k = p1 ∨ some k = r1) w w') (hW : IsW w' p1 r1' l1') (hr : r1' = r1 ∨ ∃ g, r1' = some g ∧ w.heap.size ≤ g) (hQ : Q ≤ w.heap.size) :
    W3 w' Q p1 r1' l1' p2 r2 l2 p3 r3 l3 := by
  have hb : IsW w' p2 r2 l2 := h.b.chg hc (fun e => e.elim (fun e => h.ab e.symm) (fun e => by have := h.ra _ e.symm; have := h.qb; omega)) (fun g hg e => e.elim (fun e => by have := h.rb _ hg; have := h.qa; omega) (fun e => h.rab g e.symm hg))
  have hcc : IsW w' p3 r3 l3 := h.c.chg hc (fun e => e.elim (fun e => h.ac e.symm) (fun e => by have := h.ra _ e.symm; have := h.qc; omega)) (fun g hg e => e.elim (fun e => by have := h.rc _ hg; have := h.qa; omega) (fun e => h.rac g e.symm hg))
  refine ⟨hW, hb, hcc, h.qa, h.qb, h.qc, h.ab, h.ac, h.bc, fun g hg => ?_, h.rb, h.rc, fun g hg e => ?_, fun g hg e => ?_, h.rbc⟩
  · rcases hr with e | ⟨g', e, e2⟩
    · exact h.ra g (e ▸ hg)
    · rw [hg] at e; cases e; omega
  · rcases hr with e1 | ⟨g', e1, e2⟩
    · exact h.rab g (e1 ▸ hg) e
    · rw [hg] at e1; cases e1; subst e; have := h.b.row_lt; omega
  · rcases hr with e1 | ⟨g', e1, e2⟩
    · exact h.rac g (e1 ▸ hg) e
    · rw [hg] at e1; cases e1; subst e; have := h.c.row_lt; omega
theorem nxt_in (l : List Bool) (j n : Nat) (h : j + n ≤ l.length) : nxt (pack l) j n = (l.drop j).take n := by
  unfold nxt
  rw [ofBytes_pack, List.drop_append_of_le_length (by omega), List.take_append_of_le_length (by rw [List.length_drop]; omega)]
/-- writer's bytes, and a reader of them -/
theorem pack_room (l : List Bool) : l.length ≤ 8 * (pack l).length := by rw [pack_len]; omega
theorem get_one (w : World) (p : Nat) (r : Option Nat) (l : List Bool) (k X : Nat) (h : IsR w p r (pack l) k) (hl : l.length ≤ 1099511627776) (hk : k + 1 ≤ l.length) (hX : val ((l.drop k).take 1) = X) :
    Calls Try.prog 22 #[.pointer (some ⟨p, 0, none⟩), .int .i64 1] w fun e w' =>
      e = .returned (.tuple #[.int .u64 (X : Int), .bool true]) ∧ IsR w' p r (pack l) (k + 1) ∧ Chg (fun j => j = p) w w' := by
  have hroom := pack_room l
  have hpl : (pack l).length ≤ 1099511627776 := by rw [pack_len]; omega
  have := get_x w p r (pack l) k 1 (by omega) h hpl (by omega) (by unfold cl; omega)
  rwa [show cl 1 = 1 from rfl, nxt_in l k 1 hk, hX] at this
theorem bytes_a (w : World) (p : Nat) (r : Option Nat) (l : List Bool) (L : Nat) (h : IsW w p r l) (hl : l.length ≤ 1099511627776) (hL : (pack l).length = L) :
    Calls Try.prog 20 #[.pointer (some ⟨p, 0, none⟩)] w fun e w' =>
      ∃ A cap, e = .returned (.slice A L cap) ∧ Bs w' w'.heap.size A L (pack l) ∧ (A = none → cap = 0) ∧ Below w.heap.size w w' := by
  rw [pack_len] at hL
  have := bytes_x w p r l h hl
  rw [hL] at this
  refine this.mono ?_
  rintro e w' ⟨A, cap, rfl, hown, hb⟩
  refine ⟨A, cap, rfl, own_bs hown, fun e => ?_, hb⟩
  rcases own_form hown with ⟨e1, _⟩ | ⟨_, _, e1, _⟩
  · injection e1
  · injection e1 with e1; rw [e] at e1; cases e1
theorem keepR {w w' : World} {p : Nat} {r : Option Nat} {bs : List UInt8} {k : Nat} (h : IsR w p r bs k) (hb : Below w.heap.size w w') : IsR w' p r bs k := h.chg (Chg.of_below hb) (fun e => e) (fun _ _ e => e)

theorem len_m (w : World) (p : Nat) (r : Option Nat) (l : List Bool) (M : Nat) (h : IsW w p r l) (hM : l.length = M) :
    Calls Try.prog 21 #[.pointer (some ⟨p, 0, none⟩)] w fun e w' => e = .returned (.int .i64 (M : Int)) ∧ w = w' := by
  subst hM; exact len_x w p r l h
theorem bit_left (a b : List Bool) (q : Nat) (h : q < a.length) : ((a ++ b).drop q).take 1 = (a.drop q).take 1 := by
  rw [List.drop_append_of_le_length (by omega), List.take_append_of_le_length (by rw [List.length_drop]; omega)]
theorem bit_right (a b : List Bool) (q : Nat) : ((a ++ b).drop (a.length + q)).take 1 = (b.drop q).take 1 := by
  rw [← List.drop_drop, List.drop_left]
theorem nat_same (X : Nat) : ((X : Int) != (X : Int)) = false := by simp

end Go.Proofs.Ytnjhdifnjkcmcaa.bitc
