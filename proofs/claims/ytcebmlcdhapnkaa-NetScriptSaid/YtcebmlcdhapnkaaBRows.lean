/-
  A slice of slices of bytes that came in, opened.
-/
import Derived.Test.YtcebmlcdhapnkaaFrame
import Derived.Test.YtcebmlcdhapnkaaSlices
import Derived.Deep.Matrix
namespace Go.Proofs.Ytcebmlcdhapnkaa.words
open Go.ChangeShapes Go.WideShapes Go.ChangeAt Go.RowKit Go.Deep words

structure BRows (w : World) (B : Nat) (a : Option Addr) (n : Nat) (ls : List (List UInt8)) : Prop where
  len : ls.length = n
  at_ : ∀ j, j < n → ∃ b off A L C bs, a = some ⟨b, off, none⟩ ∧ b < B ∧ ls[j]? = some bs ∧ w.cell? ⟨b, off + j, none⟩ = some (.slice A L C) ∧ Bs w B A L bs ∧ (A = none → C = 0) ∧ L ≤ C ∧ C ≤ maxLen
theorem BRows.keep {w w' : World} {B n : Nat} {a : Option Addr} {ls : List (List UInt8)} (h : BRows w B a n ls) (hk : ∀ p : Addr, p.block < B → w'.cell? p = w.cell? p) : BRows w' B a n ls :=
  ⟨h.len, fun j hj => by
    obtain ⟨b, off, A, L, C, bs, e, hb, hs, hc, hr, hv⟩ := h.at_ j hj
    exact ⟨b, off, A, L, C, bs, e, hb, hs, (hk _ hb).trans hc, hr.keep hk, hv⟩⟩
theorem BRows.below {w w' : World} {B B' n : Nat} {a : Option Addr} {ls : List (List UInt8)} (h : BRows w B a n ls) (hb : Below B' w w') (hB : B ≤ B') : BRows w' B a n ls := h.keep fun _ hp => hb.cell (by omega)
/-- how the frame says it *-/
def IsBRows (w : World) (a : Option Addr) (len cap : Nat) : Prop := ∃ ls, BRows w w.heap.size a len ls ∧ len ≤ cap ∧ cap ≤ maxLen ∧ (a = none → cap = 0)
theorem brows_of {t e q : TypeId} {H : Type} {enc : TypeId × Value → H} {P : Program} {W : World} {a : Option Addr} {len cap : Nat} {d : DataW H} {p : List MemPlace}
    (ht : P.underlying t = some (.slice e)) (he : P.underlying e = some (.slice q)) (hq : P.underlying q = some (.int .u8)) (ce : P.cellsOf e = 1) (cq : P.cellsOf q = 1)
    (h0 : DataW.Trod enc P W 0 (fun _ => true) true t (.slice a len cap) d p) : IsBRows W a len cap := by
  obtain ⟨fuel, hf⟩ := h0
  rcases open_int_rows ht he hq ce cq hf with ⟨hcs, _⟩ | ⟨x, l, c, A, L, C, Z, hcs, _, hl, hm, _, hx⟩
  · simp [Value.cells] at hcs
    obtain ⟨rfl, rfl, rfl⟩ := hcs
    exact ⟨[], ⟨rfl, fun j h => absurd h (by omega)⟩, Nat.le_refl _, by simp, fun _ => rfl⟩
  · simp [Value.cells] at hcs
    obtain ⟨rfl, rfl, rfl⟩ := hcs
    refine ⟨(List.range len).map fun r => toBytes ((Z r).take (L r)), ⟨by simp, fun j hj => ?_⟩, hl, hm, fun e => by cases e⟩
    obtain ⟨h1, h2, h3, h4, h5, h6, h7⟩ := hx j (by omega)
    obtain ⟨b, off, spot⟩ := x
    have hspot : spot = none := by
      have := World.cell?_spot (hx 0 (by omega)).1
      simpa [Addr.add] using this
    subst hspot
    rw [words.add_plain] at h1
    have hb : b < W.heap.size := by
      rcases Nat.lt_or_ge b W.heap.size with hlt | hge
      · exact hlt
      · simp [World.cell?, Array.getElem?_eq_none hge] at h1
    have hrow : IsRow .u8 W (A j) (L j) (C j) (Z j) := by
      cases hA : A j with
      | none =>
        have hc0 := h6 hA
        have hl0 : L j = 0 := by omega
        refine .inl ⟨rfl, hl0, hc0, List.eq_nil_of_length_eq_zero (by omega)⟩
      | some ad => exact .inr ⟨ad, rfl, h2, h3, h4, fun i hi => (h7 ad hA).2 i (by omega), h5⟩
    have hbytes : Bs W W.heap.size (A j) (L j) (toBytes ((Z j).take (L j))) := by
      rcases hrow with ⟨e1, e2, e3, e4⟩ | ⟨ad, e1, e2, e3, e4, e5, e6⟩
      · rw [e1, e2, e4]; exact Rd.nil _ _ _
      · obtain ⟨bs, hbs, _⟩ := IsRow.bytes (.inr ⟨ad, e1, e2, e3, e4, e5, e6⟩ : IsRow .u8 W (A j) (L j) (C j) (Z j))
        have : bs = toBytes ((Z j).take (L j)) := by
          have hlen := hbs.len_
          apply List.ext_getElem?
          intro i
          by_cases hi : i < L j
          · obtain ⟨b', off', c', ea, _, eb, ec⟩ := hbs.get hi
            have e7 := e5 i (by omega)
            rw [e1] at ea
            cases ea
            rw [words.add_plain] at e7
            rw [e7] at ec
            have hz : (Z j).getD i 0 = (c'.toNat : Int) := by injection ec with ec; injection ec
            rw [eb]
            have hiz : i < (Z j).length := by omega
            simp only [toBytes, List.getElem?_map, List.getElem?_take, if_pos hi, List.getElem?_eq_getElem hiz]
            have hg : (Z j).getD i 0 = (Z j)[i] := by simp [List.getD, List.getElem?_eq_getElem hiz]
            rw [← hg, hz]
            simp
          · rw [List.getElem?_eq_none (by omega), List.getElem?_eq_none (by simp [toBytes]; omega)]
        rw [← this]; exact hbs
    exact ⟨b, off, A j, L j, C j, _, rfl, hb, by simp [hj], h1, hbytes, h6, h2, h3⟩
end Go.Proofs.Ytcebmlcdhapnkaa.words
