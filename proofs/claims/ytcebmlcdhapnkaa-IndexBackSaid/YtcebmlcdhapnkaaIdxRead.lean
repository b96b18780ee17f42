/-
  Index: reading: numbers, names, the reader; mathematics and numbers.
-/
import Derived.Test.YtcebmlcdhapnkaaIdxLaw
namespace Go.Proofs.Ytcebmlcdhapnkaa.idx
open Go.ChangeShapes Go.WideShapes Go.ChangeAt Go.RowKit plain words ord mem uvs uvc Go.Lib

/-- a number up to 2^31 - 1: it, how many bytes; 0: there is none -/
def rn (l : List UInt8) : Nat × Nat := if 2147483647 < (ru l 0 0).1 then (0, 0) else ru l 0 0
theorem rn_facts (l : List UInt8) : (rn l).1 ≤ 2147483647 ∧ (rn l).2 ≤ l.length ∧ ((rn l).2 = 0 → rn l = (0, 0)) := by
  unfold rn
  split
  · exact ⟨by simp, by simp, fun _ => rfl⟩
  · rename_i h
    refine ⟨by omega, ?_, fun e => ru_zero _ _ _ e⟩
    by_cases e : (ru l 0 0).2 = 0
    · omega
    · exact (ru_back0 l _ _ rfl e).2.1
theorem rn_back (l : List UInt8) (h : (rn l).2 ≠ 0) : l.take (rn l).2 = uv (rn l).1 := by
  unfold rn at h ⊢
  split
  · rename_i h1
    rw [if_pos h1] at h
    exact absurd rfl h
  · rename_i h1
    rw [if_neg h1] at h
    exact (ru_back0 l _ _ rfl h).2.2
theorem rn_uv (v : Nat) (hv : v ≤ 2147483647) (rest : List UInt8) : rn (uv v ++ rest) = (v, (uv v).length) := by
  unfold rn
  rw [ru_uv v rest (by omega), if_neg (by simp only; omega)]
/-- a name: it, how many bytes -/
def rt (l : List UInt8) : ByteArray × Nat := if (rn l).2 = 0 ∨ (rn l).1 < 1 ∨ 16 < (rn l).1 ∨ l.length - (rn l).2 < (rn l).1 then (⟨#[]⟩, 0) else (⟨((l.drop (rn l).2).take (rn l).1).toArray⟩, (rn l).2 + (rn l).1)
def sum4 : List UInt8 → Int
  | a :: b :: c :: d :: _ => ((((a.toNat * 256 + b.toNat) * 256 + c.toNat) * 256 + d.toNat : Nat) : Int)
  | _ => 0
def re (l : List UInt8) : En × Nat :=
  if (rt l).2 = 0 ∨ (rn (l.drop (rt l).2)).2 = 0 ∨ (rn (l.drop ((rt l).2 + (rn (l.drop (rt l).2)).2))).2 = 0 ∨ l.length < (rt l).2 + (rn (l.drop (rt l).2)).2 + (rn (l.drop ((rt l).2 + (rn (l.drop (rt l).2)).2))).2 + 4 then ((⟨#[]⟩, 0, 0, 0), 0)
  else ((((rt l).1, ((rn (l.drop (rt l).2)).1 : Int), ((rn (l.drop ((rt l).2 + (rn (l.drop (rt l).2)).2))).1 : Int), sum4 (l.drop ((rt l).2 + (rn (l.drop (rt l).2)).2 + (rn (l.drop ((rt l).2 + (rn (l.drop (rt l).2)).2))).2)))), (rt l).2 + (rn (l.drop (rt l).2)).2 + (rn (l.drop ((rt l).2 + (rn (l.drop (rt l).2)).2))).2 + 4)
theorem rt_le (l : List UInt8) : (rt l).2 ≤ l.length := by
  have := rn_facts l
  unfold rt
  split
  · simp
  · simp only; omega
theorem re_le (l : List UInt8) : (re l).2 ≤ l.length := by
  unfold re
  split
  · simp
  · simp only; omega

theorem bs_rest {w : World} {B n c : Nat} {A : Option Addr} {bs : List UInt8} (h : Bs w B A n bs) (k : Nat) (hk : k ≤ n) (hc : n ≤ c) : ∃ A', Bs w B A' (n - k) (bs.drop k) ∧ (∀ b off, A = some ⟨b, off, none⟩ → A' = if c = k then some ⟨b, off, none⟩ else some ⟨b, off + k, none⟩) ∧ (A = none → A' = none ∧ n = 0) := by
  rcases A with _ | ⟨b, off, sp⟩
  · have hn : n = 0 := by
      rcases Nat.eq_zero_or_pos n with e | e
      · exact e
      · obtain ⟨_, _, _, e2, _⟩ := h.at_ 0 e
        cases e2
    subst hn
    obtain rfl : k = 0 := by omega
    exact ⟨none, by simpa using h, (fun _ _ e => by cases e), fun _ => ⟨rfl, rfl⟩⟩
  · by_cases hn : n = 0
    · subst hn
      obtain rfl : k = 0 := by omega
      refine ⟨some ⟨b, off, sp⟩, by simpa using h, (fun b' off' e => ?_), (fun e => by cases e)⟩
      cases e
      split <;> simp
    · obtain ⟨b', off', e, _⟩ := Rd.some_of h (show 0 < n by omega)
      cases e
      exact ⟨_, bs_cut h hk hc, (fun _ _ e => by cases e; rfl), (fun e => by cases e)⟩
/-- a reader at block p: what is left of the bytes that lie below B -/
def IsRd (w : World) (p B : Nat) (bs : List UInt8) : Prop :=
  ∃ A c, w.heap[p]? = some (.cells #[.slice A bs.length c] 86 (0, 0)) ∧ Bs w B A bs.length bs ∧ B ≤ p ∧ bs.length ≤ c ∧ c ≤ 9223372036854775807
theorem IsRd.lt {w : World} {p B : Nat} {bs : List UInt8} (h : IsRd w p B bs) : B ≤ p ∧ p < w.heap.size := by
  obtain ⟨A, c, h1, _, h2, _⟩ := h
  exact ⟨h2, blk_lt h1⟩
theorem IsRd.drew {w : World} {p B : Nat} {bs : List UInt8} (h : IsRd w p B bs) : IsRd w.drew p B bs := by
  obtain ⟨A, c, h1, h2, h3⟩ := h
  exact ⟨A, c, h1, h2.drew, h3⟩
theorem IsRd.below {w w' : World} {p B H : Nat} {bs : List UInt8} (h : IsRd w p B bs) (hb : Below H w w') (hp : p < H) : IsRd w' p B bs := by
  obtain ⟨A, c, h1, h2, h3, h4⟩ := h
  exact ⟨A, c, blk_below hb h1 hp, h2.below hb (by omega), h3, h4⟩
theorem IsRd.set {w : World} {p B : Nat} {A : Option Addr} {n c : Nat} {v : Value} {bs : List UInt8} (h : w.heap[p]? = some (.cells #[v] 86 (0, 0))) (hb : Bs w B A n bs) (hn : bs.length = n) (hB : B ≤ p) (hc : n ≤ c) (hm : c ≤ 9223372036854775807) : IsRd (w.setCell ⟨p, 0, none⟩ (.slice A n c)) p B bs := by
  subst hn
  refine ⟨A, c, ?_, ?_, hB, hc, hm⟩
  · rw [heap_setCell_same _ p 0 _ _ _ h]; simp
  · refine Rd.keep hb fun q hq => ?_
    exact World.cell?_setCell_far w _ _ _ (by simp only; omega)

set_option maxRecDepth 100000 in
theorem number_r (w : World) (p B : Nat) (bs : List UInt8) (h : IsRd w p B bs) (hn : bs.length ≤ 1099511627776) :
    Calls Try.prog 56 #[.pointer (some ⟨p, 0, none⟩)] w fun e w' => e = .returned (.tuple #[.int .i64 ((rn bs).1 : Int), .bool (!decide ((rn bs).2 = 0))]) ∧ IsRd w' p B (bs.drop (rn bs).2) ∧ Chg (fun b => b = p) w w' := by
  obtain ⟨hp1, hp2⟩ := h.lt
  obtain ⟨A, c, g, hb, _, hnc, hcm⟩ := id h
  have hru := readuv_x w B bs.length c A bs hb hn
  have hr0 := rn_facts bs
  obtain ⟨V, N, hVN⟩ : ∃ V N, ru bs 0 0 = (V, N) := ⟨_, _, rfl⟩
  have hrn : rn bs = if 2147483647 < V then (0, 0) else (V, N) := by unfold rn; rw [hVN]
  rw [hVN] at hru
  have c0 : w.cell? ⟨p, 0, none⟩ = some (.slice A bs.length c) := by rw [cell_of_row _ _ _ _ _ _ g]; rfl
  have hfz := frozen_of_row _ _ 0 _ _ g
  have HRU := Lib.hid hru
  have H := Lib.hid h
  have G := Lib.hid g
  have HB := Lib.hid hb
  have HVN := Lib.hid hVN
  clear hru h g hb hVN
  go_enter Try.func56, Try.ntmps56
  go_wp2_with (fail)
  refine HRU.out.mono ?_
  rintro e w1 ⟨rfl, rfl⟩
  by_cases hz : N = 0
  · have hV0 : V = 0 := by
      have := ru_zero bs 0 0 (by rw [HVN.out]; exact hz)
      rw [HVN.out] at this
      injection this
    have hnz : ((N : Int) == 0) = true := by simp; omega
    have e1 : rn bs = (0, 0) := by rw [hrn, hz, hV0]; rfl
    have E1 := Lib.hid e1
    clear hrn hr0 e1
    go_wp2_with (fail)
    go_ret2
    rw [E1.out]
    exact ⟨rfl, H.out, Chg.refl _ _⟩
  · have hnz : ((N : Int) == 0) = false := by simp; omega
    by_cases hbig : 2147483647 < V
    · have hi : (2147483647 : Int) < (V : Int) := by omega
      have e1 : rn bs = (0, 0) := by rw [hrn, if_pos hbig]
      have E1 := Lib.hid e1
      clear hrn hr0 e1
      go_wp2_with (fail)
      go_ret2
      rw [E1.out]
      exact ⟨rfl, H.out, Chg.refl _ _⟩
    · have hi : ¬ (2147483647 : Int) < (V : Int) := by omega
      have e1 : rn bs = (V, N) := by rw [hrn, if_neg hbig]
      rw [e1] at hr0
      have hNl : N ≤ bs.length := hr0.2.1
      obtain ⟨b, off, rfl, hbB⟩ := Rd.some_of HB.out (show 0 < bs.length by omega)
      have i1 : (0 : Int) ≤ (N : Int) := by omega
      have i2 : (N : Int) ≤ (bs.length : Int) := by omega
      have i3 : (bs.length : Int) ≤ (c : Int) := by omega
      have hvm : (V : Int) % 18446744073709551616 = (V : Int) := by omega
      have hdz : decide (N = 0) = false := by simpa using hz
      have E1 := Lib.hid e1
      have hV31 : V ≤ 2147483647 := by omega
      obtain ⟨A', hA', hA1, _⟩ := bs_rest HB.out N hNl hnc
      have hA2 := hA1 _ _ rfl
      have HA' := Lib.hid hA'
      have HA2 := Lib.hid hA2
      clear hrn hr0 e1 hA' hA2 hA1
      go_wp2_with (fail)
      all_goals
        go_ret2
        rw [E1.out]
        have h2 := HA2.out
        first | rw [if_pos rfl] at h2 | rw [if_pos (by assumption)] at h2 | rw [if_neg (by assumption)] at h2
        have h3 := HA'.out
        rw [h2] at h3
        refine ⟨by simp only [hdz]; rfl, ?_, (Chg.refl (fun b => b = p) w).setCell (p := ⟨p, 0, none⟩) (fun _ => rfl) _⟩
        refine IsRd.set G.out h3 (by rw [List.length_drop]) hp1 (by omega) (by omega)
end Go.Proofs.Ytcebmlcdhapnkaa.idx
