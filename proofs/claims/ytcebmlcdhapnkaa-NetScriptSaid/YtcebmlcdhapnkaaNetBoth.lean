/-
  Net: the program's net and the document's side by side.
-/
import Derived.Test.YtcebmlcdhapnkaaNetY4
import Derived.Test.YtcebmlcdhapnkaaNetHeavyL
namespace Go.Proofs.Ytcebmlcdhapnkaa.net
open Go.ChangeShapes Go.WideShapes Go.ChangeAt Go.RowKit plain words ord mem

/-- two nets, apart from each other and behind H0; no packet's bytes lie in F -/
structure Both (H0 : Nat) (w wr : World) (p1 p2 : Nat) (F : Nat → Prop) (r1 r2 : Option Nat) (P1 P2 : List Msg) : Prop where
  bel : Below H0 w wr
  sz : H0 ≤ wr.heap.size
  n1 : IsNetF 73 F wr p1 r1 P1
  n2 : IsNetF 46 F wr p2 r2 P2
  lo1 : H0 ≤ p1
  lo2 : H0 ≤ p2
  up1 : ∀ g, r1 = some g → H0 ≤ g
  up2 : ∀ g, r2 = some g → H0 ≤ g
  ne : ∀ g, r1 = some g → r2 ≠ some g
section
variable {H0 : Nat} {w wr w' : World} {p1 p2 : Nat} {F : Nat → Prop} {r1 r2 : Option Nat} {P1 P2 : List Msg}
theorem Both.row1 (h : Both H0 w wr p1 p2 F r1 r2 P1 P2) {g : Nat} (e : r1 = some g) : ∃ cur, wr.heap[g]? = some (.cells cur 32 (0, 0)) := by
  have := h.n1
  rw [e] at this
  exact this.row_type
theorem Both.row2 (h : Both H0 w wr p1 p2 F r1 r2 P1 P2) {g : Nat} (e : r2 = some g) : ∃ cur, wr.heap[g]? = some (.cells cur 32 (0, 0)) := by
  have := h.n2
  rw [e] at this
  exact this.row_type
/-- what a call on the program's net leaves -/
theorem Both.one (h : Both H0 w wr p1 p2 F r1 r2 P1 P2) {r' : Option Nat} {P' : List Msg} (hN : IsNetF 73 F w' p1 r' P') (hc : Chg (fun b => b = p1 ∨ some b = r1) wr w') (hr' : ∀ g, r' = some g → r1 = some g ∨ wr.heap.size ≤ g) : Both H0 w w' p1 p2 F r' r2 P' P2 := by
  obtain ⟨v1, t1⟩ := h.n1.type
  obtain ⟨v2, t2⟩ := h.n2.type
  have hsz := h.sz
  have hs := hc.size
  refine ⟨h.bel.trans (hc.below h.sz (fun b e => ?_)), by omega, hN, h.n2.chg hc ?_ ?_ ?_, h.lo1, h.lo2, fun g hg => ?_, h.up2, fun g hg e => ?_⟩
  · rcases e with rfl | e
    · exact h.lo1
    · exact h.up1 _ e.symm
  · rintro (e | e)
    · exact blk_type t2 t1 (by decide) e
    · obtain ⟨cur, hcur⟩ := h.row1 e.symm
      exact blk_type t2 hcur (by decide) rfl
  · intro g hg
    obtain ⟨cur, hcur⟩ := h.row2 hg
    rintro (e | e)
    · exact blk_type hcur t1 (by decide) e
    · exact h.ne g e.symm hg
  · rintro b cur (rfl | e) hb
    · exact absurd rfl (blk_type hb t1 (by decide))
    · obtain ⟨cur', hcur⟩ := h.row1 e.symm
      exact absurd rfl (blk_type hb hcur (by decide))
  · rcases hr' g hg with e | e
    · exact h.up1 g e
    · omega
  · rcases hr' g hg with e' | e'
    · exact h.ne g e' e
    · obtain ⟨cur, hcur⟩ := h.row2 e
      have := blk_lt hcur
      omega
/-- what a call on the document's net leaves -/
theorem Both.two (h : Both H0 w wr p1 p2 F r1 r2 P1 P2) {r' : Option Nat} {P' : List Msg} (hN : IsNetF 46 F w' p2 r' P') (hc : Chg (fun b => b = p2 ∨ some b = r2) wr w') (hr' : ∀ g, r' = some g → r2 = some g ∨ wr.heap.size ≤ g) : Both H0 w w' p1 p2 F r1 r' P1 P' := by
  obtain ⟨v1, t1⟩ := h.n1.type
  obtain ⟨v2, t2⟩ := h.n2.type
  have hsz := h.sz
  have hs := hc.size
  refine ⟨h.bel.trans (hc.below h.sz (fun b e => ?_)), by omega, h.n1.chg hc ?_ ?_ ?_, hN, h.lo1, h.lo2, h.up1, fun g hg => ?_, fun g hg e => ?_⟩
  · rcases e with rfl | e
    · exact h.lo2
    · exact h.up2 _ e.symm
  · rintro (e | e)
    · exact blk_type t1 t2 (by decide) e
    · obtain ⟨cur, hcur⟩ := h.row2 e.symm
      exact blk_type t1 hcur (by decide) rfl
  · intro g hg
    obtain ⟨cur, hcur⟩ := h.row1 hg
    rintro (e | e)
    · exact blk_type hcur t2 (by decide) e
    · exact h.ne g hg e.symm
  · rintro b cur (rfl | e) hb
    · exact absurd rfl (blk_type hb t2 (by decide))
    · obtain ⟨cur', hcur⟩ := h.row2 e.symm
      exact absurd rfl (blk_type hb hcur (by decide))
  · rcases hr' g hg with e | e
    · exact h.up2 g e
    · omega
  · rcases hr' g e with e' | e'
    · exact h.ne g hg e'
    · obtain ⟨cur, hcur⟩ := h.row1 hg
      have := blk_lt hcur
      omega
theorem Both.below (h : Both H0 w wr p1 p2 F r1 r2 P1 P2) (hb : Below wr.heap.size wr w') : Both H0 w w' p1 p2 F r1 r2 P1 P2 := by
  have h1 := h.sz
  have h2 := hb.size
  exact ⟨h.bel.trans (hb.mono h.sz), by omega, h.n1.below hb, h.n2.below hb, h.lo1, h.lo2, h.up1, h.up2, h.ne⟩
/-- another fence: one behind all that is there, or a weaker one -/
theorem Both.fence (h : Both H0 w wr p1 p2 F r1 r2 P1 P2) (F' : Nat → Prop) (hF : ∀ g, F' g → wr.heap.size ≤ g) : Both H0 w wr p1 p2 F' r1 r2 P1 P2 :=
  ⟨h.bel, h.sz, h.n1.fence F' hF, h.n2.fence F' hF, h.lo1, h.lo2, h.up1, h.up2, h.ne⟩
theorem Both.weak (h : Both H0 w wr p1 p2 F r1 r2 P1 P2) {F' : Nat → Prop} (hF : ∀ g, F' g → F g) : Both H0 w wr p1 p2 F' r1 r2 P1 P2 :=
  ⟨h.bel, h.sz, h.n1.weak hF, h.n2.weak hF, h.lo1, h.lo2, h.up1, h.up2, h.ne⟩
/-- a change within the fence -/
theorem Both.data (h : Both H0 w wr p1 p2 F r1 r2 P1 P2) {S : Nat → Prop} (hc : Chg S wr w') (hS : ∀ b, S b → F b ∧ H0 ≤ b ∧ ∃ cur, wr.heap[b]? = some (.cells cur 5 (0, 0))) : Both H0 w w' p1 p2 F r1 r2 P1 P2 := by
  obtain ⟨v1, t1⟩ := h.n1.type
  obtain ⟨v2, t2⟩ := h.n2.type
  have hsz := h.sz
  have hs := hc.size
  refine ⟨h.bel.trans (hc.below h.sz (fun b e => (hS b e).2.1)), by omega, h.n1.chg hc ?_ ?_ (fun b _ e _ => (hS b e).1), h.n2.chg hc ?_ ?_ (fun b _ e _ => (hS b e).1), h.lo1, h.lo2, h.up1, h.up2, h.ne⟩
  · intro e
    obtain ⟨_, _, cur, hcur⟩ := hS _ e
    exact blk_type t1 hcur (by decide) rfl
  · intro g hg e
    obtain ⟨_, _, cur, hcur⟩ := hS _ e
    obtain ⟨cur', hcur'⟩ := h.row1 hg
    exact blk_type hcur' hcur (by decide) rfl
  · intro e
    obtain ⟨_, _, cur, hcur⟩ := hS _ e
    exact blk_type t2 hcur (by decide) rfl
  · intro g hg e
    obtain ⟨_, _, cur, hcur⟩ := hS _ e
    obtain ⟨cur', hcur'⟩ := h.row2 hg
    exact blk_type hcur' hcur (by decide) rfl
end
end Go.Proofs.Ytcebmlcdhapnkaa.net
