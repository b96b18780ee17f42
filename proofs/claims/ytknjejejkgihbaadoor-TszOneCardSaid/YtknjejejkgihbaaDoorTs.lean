/-
  Tsz: points as cells; which lists may be.
-/
import Derived.Test.YtknjejejkgihbaaDoorStructs
import Derived.Test.YtknjejejkgihbaaDoorCells
namespace Go.Proofs.YtknjejejkgihbaaDoor.ts
open Go.ChangeShapes Go.WideShapes Go.ChangeAt Go.RowKit Go.Deep plain words ord mem

/-- a point: its time, its value, its stamp -/
abbrev Pt := Int × Int × Int
def pE (x : Pt) : List Value := [.int .i64 x.1, .int .u64 x.2.1, .int .u64 x.2.2]
theorem pE_len (x : Pt) : (pE x).length = 3 := rfl
theorem pE_one (x : Pt) : ∀ v ∈ pE x, v.oneCell' = true := by
  intro v hv
  simp [pE] at hv
  rcases hv with rfl | rfl | rfl <;> rfl
/-- a list of points that is read -/
abbrev Pts (w : World) (B : Nat) (A : Option Addr) (n : Nat) (l : List Pt) : Prop := l.length = n ∧ Rd w B A (n * 3) (cs pE l)
theorem Pts.below {w w' : World} {B C n : Nat} {A : Option Addr} {l : List Pt} (h : Pts w B A n l) (hb : Below C w w') (hB : B ≤ C) : Pts w' B A n l := ⟨h.1, h.2.below hb hB⟩
theorem Pts.at_ {w : World} {B n : Nat} {A : Option Addr} {l : List Pt} (h : Pts w B A n l) {i : Nat} (hi : i < n) {x : Pt} (hx : l[i]? = some x) :
    ∃ b off, A = some ⟨b, off, none⟩ ∧ b < B ∧ w.cell? ⟨b, off + i * 3, none⟩ = some (.int .i64 x.1) ∧ w.cell? ⟨b, off + i * 3 + 1, none⟩ = some (.int .u64 x.2.1) ∧ w.cell? ⟨b, off + i * 3 + 2, none⟩ = some (.int .u64 x.2.2) := by
  obtain ⟨b, off, rfl, hb⟩ := Rd.some_of h.2 (show 0 < n * 3 by omega)
  refine ⟨b, off, rfl, hb, ?_, ?_, ?_⟩
  · exact (Rd.cellsAt (k := 3) pE_len h.2 hx hi (j := 0) (by omega)).1
  · exact (Rd.cellsAt (k := 3) pE_len h.2 hx hi (j := 1) (by omega)).1
  · exact (Rd.cellsAt (k := 3) pE_len h.2 hx hi (j := 2) (by omega)).1
theorem Pts.take {w : World} {B n : Nat} {A : Option Addr} {l : List Pt} (h : Pts w B A n l) (k : Nat) (hk : k ≤ n) : Pts w B A k (l.take k) := by
  refine ⟨by rw [List.length_take, h.1]; omega, by rw [cs_len pE_len, List.length_take, h.1]; omega, fun j hj => ?_⟩
  obtain ⟨b', off', v, e, hb, hv, hc⟩ := h.2.at_ j (by omega)
  exact ⟨b', off', v, e, hb, by rw [← cs_take pE_len, List.getElem?_take, if_pos hj]; exact hv, hc⟩
theorem Pts.none0 (w : World) (B : Nat) (A : Option Addr) : Pts w B A 0 [] := ⟨rfl, Rd.nil _ _ _⟩
/-- numbers that a machine has -/
def FitP (x : Pt) : Prop := (-9223372036854775808 ≤ x.1 ∧ x.1 ≤ 9223372036854775807) ∧ (0 ≤ x.2.1 ∧ x.2.1 ≤ 18446744073709551615) ∧ 0 ≤ x.2.2 ∧ x.2.2 ≤ 18446744073709551615
/-- how the frame says it *-/
def IsPts (w : World) (a : Option Addr) (len cap : Nat) : Prop := ∃ l, Pts w w.heap.size a len l ∧ (∀ x ∈ l, FitP x) ∧ len ≤ cap ∧ cap ≤ maxLen ∧ (a = none → cap = 0)
theorem points_of {H : Type} {enc : TypeId × Value → H} {W : World} {a : Option Addr} {len cap : Nat} {d : DataW H} {p : List MemPlace}
    (h0 : DataW.Trod enc Tryd.prog W 0 (fun _ => true) true 22 (.slice a len cap) d p) : IsPts W a len cap := by
  rcases structs_of Tryd.underlying22 Tryd.underlying39 (by kernel_rfl) (by kernel_rfl) h0 with ⟨rfl, rfl, rfl⟩ | ⟨x, rfl, hl, hm, hx⟩
  · exact ⟨[], Pts.none0 _ _ _, fun x hx => by simp at hx, Nat.le_refl _, by simp, fun _ => rfl⟩
  · have each : ∀ i, i < len → ∃ q : Pt, W.cell? (x.add (i * 3)) = some (.int .i64 q.1) ∧ W.cell? (x.add (i * 3 + 1)) = some (.int .u64 q.2.1) ∧ W.cell? (x.add (i * 3 + 2)) = some (.int .u64 q.2.2) ∧ FitP q := fun i hi => by
      obtain ⟨v0, c0, r0⟩ := hx i hi 0 _ rfl
      obtain ⟨v1, c1, r1⟩ := hx i hi 1 _ rfl
      obtain ⟨v2, c2, r2⟩ := hx i hi 2 _ rfl
      obtain ⟨n0, rfl, w0⟩ := reads_int Tryd.underlying3 r0
      obtain ⟨n1, rfl, w1⟩ := reads_int Tryd.underlying37 r1
      obtain ⟨n2, rfl, w2⟩ := reads_int Tryd.underlying37 r2
      exact ⟨(n0, n1, n2), c0, c1, c2, wf_i64 w0, wf_u64 w1, wf_u64 w2⟩
    obtain ⟨q, hq⟩ := choose_lt each
    refine ⟨(List.range len).map q, ⟨by simp, by rw [cs_len pE_len]; simp, fun j hj => ?_⟩, fun y hy => ?_, hl, hm, fun e => by cases e⟩
    · have hj3 : j / 3 < len := by omega
      obtain ⟨b, off, spot⟩ := x
      have hspot : spot = none := by
        have := World.cell?_spot (hq 0 (by omega)).1
        simpa [Addr.add] using this
      subst hspot
      obtain ⟨c0, c1, c2, _⟩ := hq (j / 3) hj3
      rw [words.add_plain] at c0 c1 c2
      have hb := World.block_lt_of_cell? W _ c0
      have hg : ((List.range len).map q)[j / 3]? = some (q (j / 3)) := by simp [hj3]
      have h7 := cs_at (k := 3) pE_len ((List.range len).map q) (j / 3) _ hg (j % 3) (by omega)
      rw [show j / 3 * 3 + j % 3 = j from by omega] at h7
      have h3 : j % 3 = 0 ∨ j % 3 = 1 ∨ j % 3 = 2 := by omega
      rcases h3 with e | e | e <;> rw [e] at h7
      · exact ⟨b, off, _, rfl, hb, h7, by rw [show off + j = off + (j / 3 * 3) from by omega]; exact c0⟩
      · exact ⟨b, off, _, rfl, hb, h7, by rw [show off + j = off + (j / 3 * 3 + 1) from by omega]; exact c1⟩
      · exact ⟨b, off, _, rfl, hb, h7, by rw [show off + j = off + (j / 3 * 3 + 2) from by omega]; exact c2⟩
    · obtain ⟨i, hi, rfl⟩ := List.mem_map.1 hy
      exact (hq i (by simpa using hi)).2.2.2

/-! ### what is asked of points -/
def lateB (p : Option Int) (z : Int) : Bool := match p with
  | none => false
  | some q => decide (z ≤ q)
def ckF : Option Int → List Pt → Int
  | _, [] => 0
  | p, x :: l => if x.1 < 0 ∨ 1099511627776 < x.1 then 1 else if lateB p x.1 = true then 51 else ckF (some x.1) l
def checkP (l : List Pt) : Int := if 512 < l.length then 52 else ckF none l
def prevP (l : List Pt) : Nat → Option Int
  | 0 => none
  | k + 1 => (l[k]?).map fun x => x.1
theorem ck_arg {l : List Pt} {k : Nat} {x : Pt} (hx : l[k]? = some x) (h : x.1 < 0 ∨ 1099511627776 < x.1) : ckF (prevP l k) (l.drop k) = 1 := by
  obtain ⟨hk, rfl⟩ := List.getElem?_eq_some_iff.1 hx
  rw [List.drop_eq_getElem_cons hk, ckF, if_pos h]
theorem ck_order {l : List Pt} {k : Nat} {x : Pt} (hx : l[k]? = some x) (h : ¬ (x.1 < 0 ∨ 1099511627776 < x.1)) (h2 : lateB (prevP l k) x.1 = true) : ckF (prevP l k) (l.drop k) = 51 := by
  obtain ⟨hk, rfl⟩ := List.getElem?_eq_some_iff.1 hx
  rw [List.drop_eq_getElem_cons hk, ckF, if_neg h, if_pos h2]
theorem ck_next {l : List Pt} {k : Nat} {x : Pt} (hx : l[k]? = some x) (h : ¬ (x.1 < 0 ∨ 1099511627776 < x.1)) (h2 : lateB (prevP l k) x.1 = false) : ckF (prevP l k) (l.drop k) = ckF (prevP l (k + 1)) (l.drop (k + 1)) := by
  have hp : prevP l (k + 1) = some x.1 := by simp [prevP, hx]
  obtain ⟨hk, rfl⟩ := List.getElem?_eq_some_iff.1 hx
  rw [hp]
  conv => lhs; rw [List.drop_eq_getElem_cons hk, ckF, if_neg h, if_neg (by simp [h2])]
theorem ck_end {l : List Pt} {k : Nat} (hk : l.length ≤ k) : ckF (prevP l k) (l.drop k) = 0 := by
  rw [List.drop_of_length_le hk]
  cases prevP l k <;> rfl
theorem late_at {l : List Pt} {m : Nat} {y : Pt} (hy : l[m]? = some y) (z : Int) : lateB (prevP l (m + 1)) z = decide (z ≤ y.1) := by simp [lateB, prevP, hy]
end Go.Proofs.YtknjejejkgihbaaDoor.ts
