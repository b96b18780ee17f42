/-
  Tsz: what has been laid down when so many points are over.
-/
import Derived.Test.YtknjejejkgihbaaDoorTsVal
import Derived.Test.YtknjejejkgihbaaDoorTsDec
namespace Go.Proofs.YtknjejejkgihbaaDoor.ts
open Go.RowKit plain words bitm

/-- k points are over: the bits, the distance of the last two, the windows *-/
def St (l : List Pt) (k : Nat) (d : Int) (X : List Bool) (a b : Win) : Prop :=
  (k = 0 ∧ d = 0 ∧ X = [] ∧ a = none ∧ b = none) ∨
  ∃ m q, k = m + 1 ∧ l[m]? = some q ∧ X ++ restB q.1 d q.2.1.toNat q.2.2.toNat a b (l.drop k) = bitsP l ∧ WinOk a ∧ WinOk b
theorem St.start (l : List Pt) : St l 0 0 [] none none := .inl ⟨rfl, rfl, rfl, rfl, rfl⟩
theorem St.zero {l : List Pt} {d : Int} {X : List Bool} {a b : Win} (h : St l 0 d X a b) : d = 0 ∧ X = [] ∧ a = none ∧ b = none := by
  rcases h with ⟨_, h⟩ | ⟨m, q, e, _⟩
  · exact h
  · omega
theorem St.first {l : List Pt} {p : Pt} (hp : l[0]? = some p) : St l 1 0 (bitsOf p.1.toNat 64 ++ bitsOf p.2.1.toNat 64 ++ bitsOf p.2.2.toNat 64) none none := by
  refine .inr ⟨0, p, rfl, hp, ?_, win0, win0⟩
  cases l with
  | nil => simp at hp
  | cons x l => simp at hp; subst hp; simp [bitsP]
theorem St.prev {l : List Pt} {m : Nat} {d : Int} {X : List Bool} {a b : Win} (h : St l (m + 1) d X a b) : ∃ q, l[m]? = some q ∧ X ++ restB q.1 d q.2.1.toNat q.2.2.toNat a b (l.drop (m + 1)) = bitsP l ∧ WinOk a ∧ WinOk b := by
  rcases h with ⟨e, _⟩ | ⟨m', q, e, h⟩
  · omega
  · obtain rfl : m' = m := by omega
    exact ⟨q, h⟩
theorem St.next {l : List Pt} {m : Nat} {d : Int} {X : List Bool} {a b : Win} (h : St l (m + 1) d X a b) {p q : Pt} (hp : l[m + 1]? = some p) (hq : l[m]? = some q) (hf : ∀ x ∈ l, FitP x) :
    St l (m + 1 + 1) (p.1 - q.1) (X ++ timeB (p.1 - q.1 - d) ++ valB a (p.2.1.toNat ^^^ q.2.1.toNat) ++ valB b (p.2.2.toNat ^^^ q.2.2.toNat)) (valW a (p.2.1.toNat ^^^ q.2.1.toNat)) (valW b (p.2.2.toNat ^^^ q.2.2.toNat)) := by
  obtain ⟨q', hq', hX, ha, hb⟩ := h.prev
  rw [hq] at hq'
  cases hq'
  obtain ⟨hk, rfl⟩ := List.getElem?_eq_some_iff.1 hp
  obtain ⟨hk', rfl⟩ := List.getElem?_eq_some_iff.1 hq
  have h1 := fit_v (hf _ (List.getElem_mem hk))
  have h2 := fit_v (hf _ (List.getElem_mem hk'))
  refine .inr ⟨m + 1, _, rfl, hp, ?_, valW_ok _ _ ha (xor_lt _ _ h1.1 h2.1), valW_ok _ _ hb (xor_lt _ _ h1.2 h2.2)⟩
  rw [← hX]
  conv => rhs; rw [List.drop_eq_getElem_cons hk]
  simp only [restB, List.append_assoc]
theorem St.done {l : List Pt} {k : Nat} {d : Int} {X : List Bool} {a b : Win} (h : St l k d X a b) (hk : l.length ≤ k) : X = bitsP l := by
  rcases h with ⟨e, _, e2, _⟩ | ⟨m, q, e, _, h, _⟩
  · have : l = [] := List.eq_nil_of_length_eq_zero (by omega)
    subst this; rw [e2]; rfl
  · rw [List.drop_of_length_le hk] at h
    simpa [restB] using h
theorem St.len {l : List Pt} {k : Nat} {d : Int} {X : List Bool} {a b : Win} (h : St l k d X a b) (hf : ∀ x ∈ l, FitP x) : X.length ≤ 222 * l.length := by
  have h0 := bitsP_len l hf
  rcases h with ⟨e, _, e2, _⟩ | ⟨m, q, e, _, h, _⟩
  · subst e2; simp
  · rw [← h, List.length_append] at h0; omega
theorem St.win {l : List Pt} {k : Nat} {d : Int} {X : List Bool} {a b : Win} (h : St l k d X a b) : WinOk a ∧ WinOk b := by
  rcases h with ⟨_, _, _, rfl, rfl⟩ | ⟨m, q, e, _, h, h1, h2⟩
  · exact ⟨win0, win0⟩
  · exact ⟨h1, h2⟩
/-! ### times, where a list may be -/
theorem goes_at (l : List Pt) : ∀ (t : Int), Goes t l → 0 ≤ t → ∀ (k : Nat) (p : Pt), l[k]? = some p → t < p.1 ∧ p.1 ≤ 1099511627776 := by
  induction l with
  | nil => intro t _ _ k p h; simp at h
  | cons x l ih =>
    intro t hg ht k p h
    obtain ⟨h1, h2, h3⟩ := hg
    cases k with
    | zero => simp at h; subst h; exact ⟨h1, h2⟩
    | succ k =>
      have := ih x.1 h3 (by omega) k p (by simpa using h)
      omega
theorem goes_two (l : List Pt) : ∀ (t : Int), Goes t l → ∀ (m : Nat) (p q : Pt), l[m + 1]? = some p → l[m]? = some q → q.1 < p.1 := by
  induction l with
  | nil => intro t _ m p q h; simp at h
  | cons x l ih =>
    intro t hg m p q hp hq
    obtain ⟨_, _, h3⟩ := hg
    cases m with
    | zero =>
      simp at hp hq; subst hq
      cases l with
      | nil => simp at hp
      | cons y l => simp at hp; subst hp; exact h3.1
    | succ m => exact ih x.1 h3 m p q (by simpa using hp) (by simpa using hq)
theorem check_goes {l : List Pt} (h : checkP l = 0) : l.length ≤ 512 ∧ (l = [] ∨ ∃ p r, l = p :: r ∧ 0 ≤ p.1 ∧ p.1 ≤ 1099511627776 ∧ Goes p.1 r) := by
  unfold checkP at h
  split at h
  · simp at h
  · refine ⟨by omega, ?_⟩
    cases l with
    | nil => exact .inl rfl
    | cons p r =>
      unfold ckF at h
      split at h
      · simp at h
      · split at h
        · simp at h
        · exact .inr ⟨p, r, rfl, by omega, by omega, goes_of r p.1 (by omega) h⟩
theorem check_at {l : List Pt} (h : checkP l = 0) {k : Nat} {p : Pt} (hp : l[k]? = some p) : 0 ≤ p.1 ∧ p.1 ≤ 1099511627776 := by
  rcases (check_goes h).2 with rfl | ⟨x, r, rfl, h1, h2, h3⟩
  · simp at hp
  · cases k with
    | zero => simp at hp; subst hp; exact ⟨h1, h2⟩
    | succ k => have := goes_at r x.1 h3 h1 k p (by simpa using hp); omega
theorem check_two {l : List Pt} (h : checkP l = 0) {m : Nat} {p q : Pt} (hp : l[m + 1]? = some p) (hq : l[m]? = some q) : q.1 < p.1 := by
  rcases (check_goes h).2 with rfl | ⟨x, r, rfl, h1, h2, h3⟩
  · simp at hp
  · refine goes_two (x :: r) (x.1 - 1) ⟨by omega, h2, h3⟩ m p q hp hq
end Go.Proofs.YtknjejejkgihbaaDoor.ts
