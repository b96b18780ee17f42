/-
  Slices of strings that came in.
-/
import Derived.Test.YtmnliieiiaedeaaStructs
namespace Go.Proofs.Ytmnliieiiaedeaa.words
open Go.ChangeShapes Go.WideShapes Go.ChangeAt Go.RowKit Go.Deep words

/-- strings as cells -/
def strv (ss : List ByteArray) : List Value := ss.map Value.string
theorem strv_length (ss : List ByteArray) : (strv ss).length = ss.length := by simp [strv]
theorem strv_at {ss : List ByteArray} {j : Nat} {v : Value} (h : (strv ss)[j]? = some v) : ∃ s, ss[j]? = some s ∧ v = .string s := by
  unfold strv at h
  rw [List.getElem?_map] at h
  cases hb : ss[j]? with
  | none => rw [hb] at h; cases h
  | some c => rw [hb] at h; exact ⟨c, rfl, by cases h; rfl⟩
theorem strv_one (ss : List ByteArray) : ∀ u ∈ strv ss, u.oneCell' = true := by
  intro v hv
  simp only [strv, List.mem_map] at hv
  obtain ⟨_, _, rfl⟩ := hv
  rfl
abbrev Strs (w : World) (B : Nat) (a : Option Addr) (n : Nat) (ss : List ByteArray) : Prop := Rd w B a n (strv ss)
theorem Strs.len_ {w : World} {B n : Nat} {a : Option Addr} {ss : List ByteArray} (h : Strs w B a n ss) : ss.length = n := by simpa [strv] using h.len
theorem Strs.get {w : World} {B n : Nat} {a : Option Addr} {ss : List ByteArray} (h : Strs w B a n ss) {j : Nat} (hj : j < n) :
    ∃ b off s, a = some ⟨b, off, none⟩ ∧ b < B ∧ ss[j]? = some s ∧ w.cell? ⟨b, off + j, none⟩ = some (.string s) := by
  obtain ⟨b, off, v, e, hb, hv, hc⟩ := h.at_ j hj
  obtain ⟨s, hs, rfl⟩ := strv_at hv
  exact ⟨b, off, s, e, hb, hs, hc⟩
def IsStrs (w : World) (a : Option Addr) (len cap : Nat) : Prop := ∃ ss, Strs w w.heap.size a len ss ∧ (∀ s ∈ ss, s.size ≤ maxLen) ∧ len ≤ cap ∧ cap ≤ maxLen ∧ (a = none → cap = 0)
theorem list_of {n : Nat} {Q : Nat → ByteArray → Prop} (h : ∀ i, i < n → ∃ s, Q i s) : ∃ l : List ByteArray, l.length = n ∧ ∀ i s, l[i]? = some s → Q i s := by
  induction n with
  | zero => exact ⟨[], rfl, fun i s h => by cases h⟩
  | succ n ih =>
    obtain ⟨l, hl, hq⟩ := ih (fun i hi => h i (by omega))
    obtain ⟨s, hs⟩ := h n (by omega)
    refine ⟨l ++ [s], by simp [hl], fun i t ht => ?_⟩
    rcases Nat.lt_trichotomy i n with h | h | h
    · rw [List.getElem?_append_left (by omega)] at ht
      exact hq i t ht
    · subst h
      rw [List.getElem?_append_right (by omega), hl] at ht
      simp at ht
      subst ht
      exact hs
    · rw [List.getElem?_eq_none (by simp; omega)] at ht
      cases ht
theorem strs_of {t e : TypeId} {H : Type} {enc : TypeId × Value → H} {P : Program} {W : World} {a : Option Addr} {len cap : Nat} {d : DataW H} {p : List MemPlace}
    (ht : P.underlying t = some (.slice e)) (he : P.underlying e = some .string) (ce : P.cellsOf e = 1)
    (h0 : DataW.Trod enc P W 0 (fun _ => true) true t (.slice a len cap) d p) : IsStrs W a len cap := by
  obtain ⟨fuel, hfu⟩ := h0
  rcases open_slice ht hfu with ⟨hcs, _⟩ | ⟨x, l, c, m, n, D, Pl, hcs, _, hl, hm, hmm, _, hx⟩
  · simp [Value.cells] at hcs
    obtain ⟨rfl, rfl, rfl⟩ := hcs
    exact ⟨[], Rd.nil _ _ _, (fun _ h => by cases h), Nat.le_refl _, by simp, fun _ => rfl⟩
  · simp [Value.cells] at hcs
    obtain ⟨rfl, rfl, rfl⟩ := hcs
    rw [if_pos rfl] at hmm
    subst hmm
    have key : ∀ i, i < len → ∃ s : ByteArray, W.cell? (x.add i) = some (.string s) ∧ s.size ≤ maxLen := fun i hi => by
      obtain ⟨cs', h1, h2⟩ := hx i (by omega)
      rw [ce] at h1
      obtain ⟨s, rfl, _, hs⟩ := DataW.trod_string he h2
      obtain ⟨_, hlen, hcell⟩ := World.cells?_some h1
      have e := hcell 0 (by omega)
      have e0 : ∀ y : Addr, y.add 0 = y := fun y => by unfold Addr.add; simp
      rw [Nat.mul_one, e0] at e
      exact ⟨s, by rw [e]; rfl, hs⟩
    obtain ⟨ss, hsl, hss⟩ := list_of key
    refine ⟨ss, ⟨by rw [strv_length, hsl], fun j hj => ?_⟩, fun s hs => ?_, hl, hm, fun e => by cases e⟩
    · have hj' : j < ss.length := by omega
      obtain ⟨hc, _⟩ := hss j ss[j] (List.getElem?_eq_getElem hj')
      obtain ⟨b, off, spot⟩ := x
      have hspot : spot = none := by
        obtain ⟨hc0, _⟩ := hss 0 (ss[0]'(by omega)) (List.getElem?_eq_getElem (by omega))
        simpa [Addr.add] using World.cell?_spot hc0
      subst hspot
      rw [words.add_plain] at hc
      refine ⟨b, off, .string ss[j], rfl, World.block_lt_of_cell? W _ hc, ?_, hc⟩
      unfold strv
      rw [List.getElem?_map, List.getElem?_eq_getElem hj']
      rfl
    · obtain ⟨i, hi, rfl⟩ := List.getElem_of_mem hs
      exact (hss i _ (List.getElem?_eq_getElem hi)).2
end Go.Proofs.Ytmnliieiiaedeaa.words
