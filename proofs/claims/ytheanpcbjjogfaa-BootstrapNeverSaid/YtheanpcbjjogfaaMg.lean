/-
  Points: how they lie, how they are ordered, what the view of a list of them is.
-/
import Derived.Test.YtheanpcbjjogfaaLst
namespace Go.Proofs.Ytheanpcbjjogfaa.mg
open Go.ChangeShapes Go.WideShapes Go.ChangeAt Go.RowKit plain words ord mem

abbrev Pt := Int × Int × Int
instance : Inhabited Pt := ⟨(0, 0, 0)⟩
def ptE (p : Pt) : List Value := [.int .i64 p.1, .int .u64 p.2.1, .int .u64 p.2.2]
theorem ptE_len (p : Pt) : (ptE p).length = 3 := rfl
theorem ptE_one (p : Pt) : ∀ v ∈ ptE p, v.oneCell' = true := by
  intro v hv
  simp [ptE] at hv
  rcases hv with rfl | rfl | rfl <;> rfl
def PE : El Pt := ⟨ptE, 3, 91, ptE_len, ptE_one, by decide⟩
theorem infoP : (Try.prog.info? 91).map (fun i => (i.zero, i.size, i.bytes)) = some (some (.agg #[.int .i64 0, .int .u64 0, .int .u64 0]), 3, 24) := by kernel_rfl
/-- a wins against b -/
def wins (a b : Pt) : Bool := decide (b.2.2 < a.2.2) || (a.2.2 == b.2.2 && decide (b.2.1 < a.2.1))
theorem wins_irrefl (a : Pt) : wins a a = false := by simp [wins]
theorem wins_asymm (a b : Pt) (h : wins a b = true) : wins b a = false := by
  simp [wins] at h ⊢
  omega
theorem wins_trans (a b c : Pt) (h : wins a b = true) (k : wins b c = true) : wins a c = true := by
  simp [wins] at h k ⊢
  omega
theorem wins_total (a b : Pt) (ht : a.1 = b.1) (h : wins a b = false) (k : wins b a = false) : a = b := by
  obtain ⟨a1, a2, a3⟩ := a
  obtain ⟨b1, b2, b3⟩ := b
  simp [wins] at *
  omega
/-- what does not win is beaten by whatever beats .. -/
theorem not_wins_trans (a b c : Pt) (h : wins a b = false) (k : wins b c = false) : wins a c = false := by
  simp [wins] at *
  omega
/-- v is the view of l: rising times, its points are of l, and each of l is there, or one of its time that it does not win against -/
structure Views (l v : List Pt) : Prop where
  rise : v.Pairwise fun a b => a.1 < b.1
  from_ : ∀ p ∈ v, p ∈ l
  best : ∀ p ∈ l, ∃ q ∈ v, q.1 = p.1 ∧ wins p q = false
theorem rise_unique {v : List Pt} (h : v.Pairwise fun a b => a.1 < b.1) {a b : Pt} (ha : a ∈ v) (hb : b ∈ v) (e : a.1 = b.1) : a = b := by
  rw [List.pairwise_iff_getElem] at h
  obtain ⟨i, hi, rfl⟩ := List.getElem_of_mem ha
  obtain ⟨j, hj, rfl⟩ := List.getElem_of_mem hb
  rcases Nat.lt_trichotomy i j with k | k | k
  · have := h i j hi hj k; omega
  · subst k; rfl
  · have := h j i hj hi k; omega
/-- which points a view has -/
theorem Views.mem {l v : List Pt} (h : Views l v) (p : Pt) : p ∈ v ↔ p ∈ l ∧ ∀ q ∈ l, q.1 = p.1 → wins q p = false := by
  constructor
  · intro hp
    refine ⟨h.from_ p hp, fun q hq e => ?_⟩
    obtain ⟨r, hr, e2, hw⟩ := h.best q hq
    have := rise_unique h.rise hr hp (by omega)
    rw [← this]; exact hw
  · rintro ⟨hp, hb⟩
    obtain ⟨r, hr, e, hw⟩ := h.best p hp
    have := wins_total p r e.symm hw (hb r (h.from_ r hr) e)
    rw [this]; exact hr
theorem rise_ext {v v' : List Pt} (h : v.Pairwise fun a b => a.1 < b.1) (h' : v'.Pairwise fun a b => a.1 < b.1) (hm : ∀ p, p ∈ v ↔ p ∈ v') : v = v' := by
  have nd : ∀ {v : List Pt}, (v.Pairwise fun a b => a.1 < b.1) → v.Nodup := fun h => h.imp (fun h e => by subst e; omega)
  have hp : v.Perm v' := (List.perm_ext_iff_of_nodup (nd h) (nd h')).2 hm
  exact hp.eq_of_pairwise (le := fun a b => a.1 < b.1) (fun a b _ _ h1 h2 => by omega) h h'
theorem Views.unique {l l' v v' : List Pt} (h : Views l v) (h' : Views l' v') (hm : ∀ p, p ∈ l ↔ p ∈ l') : v = v' :=
  rise_ext h.rise h'.rise fun p => by
    rw [h.mem, h'.mem, hm]
    exact ⟨fun ⟨a, b⟩ => ⟨a, fun q hq => b q ((hm q).2 hq)⟩, fun ⟨a, b⟩ => ⟨a, fun q hq => b q ((hm q).1 hq)⟩⟩
theorem Views.self {v : List Pt} (h : v.Pairwise fun a b => a.1 < b.1) : Views v v := ⟨h, fun _ h => h, fun p hp => ⟨p, hp, rfl, wins_irrefl p⟩⟩
theorem Views.trans {l m v : List Pt} (h : Views m v) (hm : ∀ p ∈ m, p ∈ l) (hb : ∀ p ∈ l, ∃ q ∈ m, q.1 = p.1 ∧ wins p q = false) : Views l v :=
  ⟨h.rise, fun p hp => hm p (h.from_ p hp), fun p hp => by
    obtain ⟨q, hq, e, hw⟩ := hb p hp
    obtain ⟨r, hr, e2, hw2⟩ := h.best q hq
    exact ⟨r, hr, by omega, not_wins_trans p q r hw hw2⟩⟩
end Go.Proofs.Ytheanpcbjjogfaa.mg
