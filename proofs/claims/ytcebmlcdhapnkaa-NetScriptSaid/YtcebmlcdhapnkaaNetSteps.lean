/-
  Net: a script that came in; the law's heavy.
-/
import Derived.Test.YtcebmlcdhapnkaaStructs
import Derived.Test.YtcebmlcdhapnkaaNetSeen
namespace Go.Proofs.Ytcebmlcdhapnkaa.net
open Go.ChangeShapes Go.WideShapes Go.ChangeAt Go.RowKit Go.Deep plain words ord mem

abbrev St := Int × Int × Int × List UInt8
structure Scr (w : World) (B : Nat) (a : Option Addr) (n : Nat) (st : List St) : Prop where
  len : st.length = n
  at_ : ∀ j, j < n → ∃ b off A L C k x y bs, a = some ⟨b, off, none⟩ ∧ b < B ∧ st[j]? = some (k, x, y, bs) ∧ w.cell? ⟨b, off + j * 4, none⟩ = some (.int .i64 k) ∧ w.cell? ⟨b, off + j * 4 + 1, none⟩ = some (.int .i64 x) ∧ w.cell? ⟨b, off + j * 4 + 2, none⟩ = some (.int .i64 y) ∧ w.cell? ⟨b, off + j * 4 + 3, none⟩ = some (.slice A L C) ∧
    Bs w B A L bs ∧ (A = none → C = 0) ∧ L ≤ C ∧ C ≤ maxLen ∧ (-9223372036854775808 ≤ x ∧ x ≤ 9223372036854775807)
theorem Scr.keep {w w' : World} {B n : Nat} {a : Option Addr} {st : List St} (h : Scr w B a n st) (hk : ∀ p : Addr, p.block < B → w'.cell? p = w.cell? p) : Scr w' B a n st :=
  ⟨h.len, fun j hj => by
    obtain ⟨b, off, A, L, C, k, x, y, bs, e, hb, hs, c0, c1, c2, c3, hr, hv⟩ := h.at_ j hj
    exact ⟨b, off, A, L, C, k, x, y, bs, e, hb, hs, (hk _ hb).trans c0, (hk _ hb).trans c1, (hk _ hb).trans c2, (hk _ hb).trans c3, hr.keep hk, hv⟩⟩
theorem Scr.below {w w' : World} {B B' n : Nat} {a : Option Addr} {st : List St} (h : Scr w B a n st) (hb : Below B' w w') (hB : B ≤ B') : Scr w' B a n st := h.keep fun _ hp => hb.cell (by omega)
/-- how the frame says it *-/
def IsSteps (w : World) (a : Option Addr) (len cap : Nat) : Prop := ∃ st, Scr w w.heap.size a len st ∧ len ≤ cap ∧ cap ≤ maxLen ∧ (a = none → cap = 0)
theorem steps_of {H : Type} {enc : TypeId × Value → H} {W : World} {a : Option Addr} {len cap : Nat} {d : DataW H} {p : List MemPlace}
    (h0 : DataW.Trod enc Try.prog W 0 (fun _ => true) true 41 (.slice a len cap) d p) : IsSteps W a len cap := by
  rcases structs_of Try.underlying41 Try.underlying48 (by kernel_rfl) (by kernel_rfl) h0 with ⟨rfl, rfl, rfl⟩ | ⟨x, rfl, hl, hm, hx⟩
  · exact ⟨[], ⟨rfl, fun j h => absurd h (by omega)⟩, Nat.le_refl _, by simp, fun _ => rfl⟩
  · have each : ∀ i, i < len → ∃ q : St × (Option Addr × Nat × Nat), W.cell? (x.add (i * 4)) = some (.int .i64 q.1.1) ∧ W.cell? (x.add (i * 4 + 1)) = some (.int .i64 q.1.2.1) ∧ W.cell? (x.add (i * 4 + 2)) = some (.int .i64 q.1.2.2.1) ∧ W.cell? (x.add (i * 4 + 3)) = some (.slice q.2.1 q.2.2.1 q.2.2.2) ∧
        Bs W W.heap.size q.2.1 q.2.2.1 q.1.2.2.2 ∧ (q.2.1 = none → q.2.2.2 = 0) ∧ q.2.2.1 ≤ q.2.2.2 ∧ q.2.2.2 ≤ maxLen ∧ (-9223372036854775808 ≤ q.1.2.1 ∧ q.1.2.1 ≤ 9223372036854775807) := fun i hi => by
      obtain ⟨v0, c0, r0⟩ := hx i hi 0 _ rfl
      obtain ⟨v1, c1, r1⟩ := hx i hi 1 _ rfl
      obtain ⟨v2, c2, r2⟩ := hx i hi 2 _ rfl
      obtain ⟨v3, c3, r3⟩ := hx i hi 3 _ rfl
      obtain ⟨n0, rfl, _⟩ := reads_int Try.underlying3 r0
      obtain ⟨n1, rfl, w1⟩ := reads_int Try.underlying3 r1
      obtain ⟨n2, rfl, _⟩ := reads_int Try.underlying3 r2
      obtain ⟨A, L, C, bs, rfl, h1, h2, h3, h4⟩ := reads_bytes Try.underlying28 Try.underlying5 (by kernel_rfl) r3
      exact ⟨((n0, n1, n2, bs), (A, L, C)), c0, c1, c2, c3, h1, h2, h3, h4, wf_i64 w1⟩
    obtain ⟨q, hq⟩ := choose_lt each
    refine ⟨(List.range len).map fun i => (q i).1, ⟨by simp, fun j hj => ?_⟩, hl, hm, fun e => by cases e⟩
    obtain ⟨b, off, spot⟩ := x
    have hspot : spot = none := by
      have := World.cell?_spot (hq 0 (by omega)).1
      simpa [Addr.add] using this
    subst hspot
    obtain ⟨c0, c1, c2, c3, hb, h1, h2, h3, h4⟩ := hq j hj
    rw [words.add_plain] at c0 c1 c2 c3
    exact ⟨b, off, (q j).2.1, (q j).2.2.1, (q j).2.2.2, (q j).1.1, (q j).1.2.1, (q j).1.2.2.1, (q j).1.2.2.2, rfl, World.block_lt_of_cell? W _ c0, by simp [hj], c0, c1, c2, c3, hb, h1, h2, h3, h4⟩
end Go.Proofs.Ytcebmlcdhapnkaa.net
