/-
  Slices of structs of two numbers that came in, opened.
-/
import Derived.Test.YtemmfcinpkfoiaaFrame
import Derived.Test.YtemmfcinpkfoiaaSlices
import Derived.Deep.SlicePairs
namespace Go.Proofs.Ytemmfcinpkfoiaa.words
open Go.ChangeShapes Go.WideShapes Go.ChangeAt Go.RowKit Go.Deep words

/-- a slice of pairs of numbers of two kinds that came in -/
def IsPairs (k0 k1 : IntKind) (w : World) (a : Option Addr) (len cap : Nat) : Prop :=
  (a = none ∧ len = 0 ∧ cap = 0) ∨
  ∃ x, a = some x ∧ len ≤ cap ∧ cap ≤ maxLen ∧ ∀ i, i < len → ∃ n0 n1, w.cell? (x.add (i * 2)) = some (.int k0 n0) ∧ w.cell? (x.add (i * 2 + 1)) = some (.int k1 n1) ∧ (Lit.int k0 n0).wf = true ∧ (Lit.int k1 n1).wf = true

theorem pairs_of {k0 k1 : IntKind} {t e : TypeId} {H : Type} {enc : TypeId × Value → H} {P : Program} {W : World} {a : Option Addr} {len cap : Nat} {d : DataW H} {p : List MemPlace} {f0 f1 : Field}
    (ht : P.underlying t = some (.slice e)) (he : P.underlying e = some (.struct #[f0, f1])) (ce : P.cellsOf e = 2) (o0 : f0.offset = 0) (o1 : f1.offset = 1) (c0 : P.cellsOf f0.type = 1) (c1 : P.cellsOf f1.type = 1)
    (u0 : P.underlying f0.type = some (.int k0)) (u1 : P.underlying f1.type = some (.int k1))
    (h0 : DataW.Trod enc P W 0 (fun _ => true) true t (.slice a len cap) d p) : IsPairs k0 k1 W a len cap := by
  obtain ⟨fuel, hf⟩ := h0
  rcases open_slice_pairs ht he ce o0 o1 c0 c1 hf with ⟨hcs, _⟩ | ⟨x, l, c, m, n, V0, V1, D0, D1, P0, P1, hcs, _, hl, hm, hmm, _, hx⟩
  · simp [Value.cells] at hcs
    obtain ⟨rfl, rfl, rfl⟩ := hcs
    exact .inl ⟨rfl, rfl, rfl⟩
  · simp [Value.cells] at hcs
    obtain ⟨rfl, rfl, rfl⟩ := hcs
    rw [if_pos rfl] at hmm
    subst hmm
    refine .inr ⟨x, rfl, hl, hm, fun i hi => ?_⟩
    obtain ⟨g0, g1, y0, y1⟩ := hx i (by omega)
    obtain ⟨z0, e0, _, w0⟩ := DataW.trod_int u0 y0
    obtain ⟨z1, e1, _, w1⟩ := DataW.trod_int u1 y1
    injection e0 with e0
    injection e1 with e1
    exact ⟨z0, z1, by rw [g0, e0], by rw [g1, e1], w0, w1⟩

/-- the steps of a slice of steps: (number, width) -/
structure StepRow (w : World) (B : Nat) (a : Option Addr) (n : Nat) (st : List (Nat × Int)) : Prop where
  len : st.length = n
  at_ : ∀ j, j < n → ∃ b off v z, a = some ⟨b, off, none⟩ ∧ b < B ∧ st[j]? = some (v, z) ∧ w.cell? ⟨b, off + j * 2, none⟩ = some (.int .u64 (v : Int)) ∧ w.cell? ⟨b, off + j * 2 + 1, none⟩ = some (.int .i64 z) ∧ lt64 v ∧ (-9223372036854775808 ≤ z ∧ z ≤ 9223372036854775807)
theorem StepRow.keep {w w' : World} {B n : Nat} {a : Option Addr} {st : List (Nat × Int)} (h : StepRow w B a n st) (hk : ∀ p : Addr, p.block < B → w'.cell? p = w.cell? p) : StepRow w' B a n st :=
  ⟨h.len, fun j hj => by
    obtain ⟨b, off, v, z, e, hb, hs, hc0, hc1, hv⟩ := h.at_ j hj
    exact ⟨b, off, v, z, e, hb, hs, (hk _ hb).trans hc0, (hk _ hb).trans hc1, hv⟩⟩
theorem StepRow.below {w w' : World} {B B' n : Nat} {a : Option Addr} {st : List (Nat × Int)} (h : StepRow w B a n st) (hb : Below B' w w') (hB : B ≤ B') : StepRow w' B a n st := h.keep fun _ hp => hb.cell (by omega)
theorem IsPairs.steps {w : World} {a : Option Addr} {len cap : Nat} (h : IsPairs .u64 .i64 w a len cap) :
    ∃ st, StepRow w w.heap.size a len st ∧ len ≤ maxLen := by
  rcases h with ⟨rfl, rfl, rfl⟩ | ⟨x, rfl, hl, hm, hc⟩
  · exact ⟨[], ⟨rfl, fun j h => absurd h (by omega)⟩, by simp⟩
  · have each : ∀ i, i < len → ∃ q : Nat × Int, w.cell? (x.add (i * 2)) = some (.int .u64 (q.1 : Int)) ∧ w.cell? (x.add (i * 2 + 1)) = some (.int .i64 q.2) ∧ lt64 q.1 ∧ (-9223372036854775808 ≤ q.2 ∧ q.2 ≤ 9223372036854775807) := fun i hi => by
      obtain ⟨n0, n1, c0, c1, w0, w1⟩ := hc i hi
      have h0 := wf_u64 w0
      refine ⟨(n0.toNat, n1), ?_, c1, ?_, wf_i64 w1⟩
      · rw [c0, show ((n0.toNat : Nat) : Int) = n0 from by omega]
      · unfold lt64; omega
    obtain ⟨q, hq⟩ := choose_lt each
    refine ⟨(List.range len).map q, ⟨by simp, fun j hj => ?_⟩, by omega⟩
    obtain ⟨b, off, spot⟩ := x
    have hspot : spot = none := by
      have := World.cell?_spot (hq 0 (by omega)).1
      simpa [Addr.add] using this
    subst hspot
    obtain ⟨c0, c1, hv⟩ := hq j hj
    rw [add_plain] at c0 c1
    have hx : b < w.heap.size := by
      rcases Nat.lt_or_ge b w.heap.size with hlt | hge
      · exact hlt
      · simp [World.cell?, Array.getElem?_eq_none hge] at c0
    exact ⟨b, off, (q j).1, (q j).2, rfl, hx, by simp [hj], c0, by rw [show off + j * 2 + 1 = off + (j * 2 + 1) from by omega]; exact c1, hv⟩

end Go.Proofs.Ytemmfcinpkfoiaa.words
