/-
  Lists of points that came in, opened.
-/
import Derived.Test.YtemmfcinpkfoiaaMgMerge
import Derived.Test.YtemmfcinpkfoiaaStructs
namespace Go.Proofs.Ytemmfcinpkfoiaa.mem
open Go.ChangeShapes Go.WideShapes Go.ChangeAt Go.RowKit Go.Shelf plain words ord mem rg
theorem Ls.of {α : Type} {E : El α} {w : World} {B n b off : Nat} {l : List α} (hl : l.length = n) (hb : 0 < n → b < B) (hc : ∀ i, i < n → ∃ x, l[i]? = some x ∧ ∀ j, j < E.k → w.cell? ⟨b, off + (i * E.k + j), none⟩ = (E.enc x)[j]?) :
    Ls E w B (some ⟨b, off, none⟩) n l := by
  refine ⟨hl, by rw [cs_len E.len, hl], fun j hj => ?_⟩
  have hp := E.pos
  have hi : j / E.k < n := by rw [Nat.div_lt_iff_lt_mul hp]; exact hj
  obtain ⟨x, hx, hcx⟩ := hc (j / E.k) hi
  have hm : j % E.k < E.k := Nat.mod_lt _ hp
  have h1 := cs_at (k := E.k) E.len l (j / E.k) x hx (j % E.k) hm
  have h2 := hcx (j % E.k) hm
  have e : j / E.k * E.k + j % E.k = j := by rw [Nat.mul_comm]; exact Nat.div_add_mod j E.k
  rw [e] at h1 h2
  have h3 : j % E.k < (E.enc x).length := by rw [E.len]; exact hm
  rw [List.getElem?_eq_getElem h3] at h1 h2
  exact ⟨b, off, _, rfl, hb (Nat.lt_of_le_of_lt (Nat.zero_le _) hi), h1, h2⟩
end Go.Proofs.Ytemmfcinpkfoiaa.mem
namespace Go.Proofs.Ytemmfcinpkfoiaa.mg
open Go.ChangeShapes Go.WideShapes Go.ChangeAt Go.RowKit Go.Shelf Go.Deep plain words ord mem rg

abbrev inI (z : Int) : Prop := -9223372036854775808 ≤ z ∧ z ≤ 9223372036854775807
/-- a list of points that came in -/
structure IsPts (w : World) (a : Option Addr) (len cap : Nat) (l : List Pt) : Prop where
  ls : Ls PE w w.heap.size a len l
  cap_ : len ≤ cap
  most : cap ≤ 9223372036854775807
  nil : a = none → cap = 0
  time : ∀ p ∈ l, inI p.1
def IsPts' (w : World) (a : Option Addr) (len cap : Nat) : Prop := ∃ l, IsPts w a len cap l
theorem pts_of {H : Type} {enc : TypeId × Value → H} {W : World} {a : Option Addr} {len cap : Nat} {d : DataW H} {p : List MemPlace}
    (h0 : DataW.Trod enc Try.prog W 0 (fun _ => true) true 27 (.slice a len cap) d p) : IsPts' W a len cap := by
  rcases structs_of Try.underlying27 Try.underlying24 (by kernel_rfl) (by kernel_rfl) h0 with ⟨rfl, rfl, rfl⟩ | ⟨x, rfl, hl, hm, hx⟩
  · exact ⟨[], Ls.nil _ _ _, Nat.le_refl _, by simp, fun _ => rfl, fun p hp => (by simp at hp)⟩
  · have each : ∀ i, i < len → ∃ q : Pt, W.cell? (x.add (i * 3)) = some (.int .i64 q.1) ∧ W.cell? (x.add (i * 3 + 1)) = some (.int .u64 q.2.1) ∧ W.cell? (x.add (i * 3 + 2)) = some (.int .u64 q.2.2) ∧ inI q.1 := fun i hi => by
      obtain ⟨v0, c0, r0⟩ := hx i hi 0 _ rfl
      obtain ⟨v1, c1, r1⟩ := hx i hi 1 _ rfl
      obtain ⟨v2, c2, r2⟩ := hx i hi 2 _ rfl
      obtain ⟨n0, rfl, w0⟩ := reads_int Try.underlying3 r0
      obtain ⟨n1, rfl, _⟩ := reads_int Try.underlying22 r1
      obtain ⟨n2, rfl, _⟩ := reads_int Try.underlying22 r2
      exact ⟨(n0, n1, n2), c0, c1, c2, wf_i64 w0⟩
    obtain ⟨q, hq⟩ := choose_lt each
    obtain ⟨b, off, spot⟩ := x
    refine ⟨(List.range len).map q, ?_, hl, hm, fun e => (by cases e), fun p hp => ?_⟩
    · rcases Nat.eq_zero_or_pos len with hz | hz
      · subst hz; exact Ls.nil _ _ _
      have hspot : spot = none := by
        have := World.cell?_spot (hq 0 hz).1
        simpa [Addr.add] using this
      subst hspot
      refine Ls.of (by simp) (fun _ => ?_) fun i hi => ⟨q i, by simp [hi], fun j hj => ?_⟩
      · have c0 := (hq 0 hz).1
        rw [words.add_plain] at c0
        exact World.block_lt_of_cell? W _ c0
      · obtain ⟨c0, c1, c2, _⟩ := hq i hi
        rw [words.add_plain] at c0 c1 c2
        have hj : j < 3 := hj
        have : j = 0 ∨ j = 1 ∨ j = 2 := by omega
        rcases this with rfl | rfl | rfl
        · exact c0
        · exact c1
        · exact c2
    · obtain ⟨i, hi, rfl⟩ := List.mem_map.1 hp
      exact (hq i (by simpa using hi)).2.2.2
/-- lists of points that came in -/
structure IsLists (w : World) (a : Option Addr) (len cap : Nat) (ls : List It) : Prop where
  row : Lists w w.heap.size len a ls
  cap_ : len ≤ cap
  most : cap ≤ 9223372036854775807
  nil : a = none → cap = 0
  time : ∀ x ∈ ls, ∀ p ∈ x.l, inI p.1
def IsLists' (w : World) (a : Option Addr) (len cap : Nat) : Prop := ∃ ls, IsLists w a len cap ls
theorem reads_slice {H : Type} {enc : TypeId × Value → H} {P : Program} {W : World} {t e : TypeId} {v : Value} (ht : P.underlying t = some (.slice e)) (h : Reads enc P W t v) : ∃ A L C d p, v = .slice A L C ∧ DataW.Trod enc P W 0 (fun _ => true) true t (.slice A L C) d p := by
  obtain ⟨n, y, h⟩ := h
  rcases open_slice ht h with ⟨hcs, _⟩ | ⟨a, l, c, _, _, _, _, hcs, _⟩
  · injection hcs with hcs
    subst hcs
    exact ⟨none, 0, 0, y.1, y.2, rfl, n, h⟩
  · injection hcs with hcs
    subst hcs
    exact ⟨some a, l, c, y.1, y.2, rfl, n, h⟩
theorem lists_of {H : Type} {enc : TypeId × Value → H} {W : World} {a : Option Addr} {len cap : Nat} {d : DataW H} {p : List MemPlace}
    (h0 : DataW.Trod enc Try.prog W 0 (fun _ => true) true 28 (.slice a len cap) d p) : IsLists' W a len cap := by
  obtain ⟨fuel, hfu⟩ := h0
  rcases open_slice Try.underlying28 hfu with ⟨hcs, _⟩ | ⟨x, l, c, m, n, D, Pl, hcs, _, hl, hm, hmm, _, hx⟩
  · simp [Value.cells] at hcs
    obtain ⟨rfl, rfl, rfl⟩ := hcs
    exact ⟨[], ⟨Ls.nil _ _ _, fun x hx => (by simp at hx)⟩, Nat.le_refl _, by simp, fun _ => rfl, fun x hx => (by simp at hx)⟩
  · simp [Value.cells] at hcs
    obtain ⟨rfl, rfl, rfl⟩ := hcs
    rw [if_pos rfl] at hmm
    subst hmm
    have each : ∀ i, i < len → ∃ q : It, W.cell? (x.add i) = some q.val ∧ ItI W W.heap.size q ∧ ∀ p ∈ q.l, inI p.1 := fun i hi => by
      obtain ⟨cs', h1, h2⟩ := hx i (by omega)
      have ce : Try.prog.cellsOf 27 = 1 := by kernel_rfl
      rw [ce, Nat.mul_one] at h1
      obtain ⟨_, hlen, hcell⟩ := World.cells?_some h1
      obtain ⟨v, rfl⟩ : ∃ v, cs' = [v] := List.length_eq_one_iff.1 hlen
      obtain ⟨A, L, C, d', p', rfl, ht⟩ := reads_slice Try.underlying27 ⟨n, _, h2⟩
      obtain ⟨lp, hp⟩ := pts_of ht
      have e := hcell 0 (by simp)
      rw [add_add, Nat.add_zero] at e
      have hlp : lp.length = L := hp.ls.1
      refine ⟨⟨A, C, lp⟩, ?_, ⟨?_, ?_, hp.most, hp.nil⟩, hp.time⟩
      · rw [e]; simp [It.val, hlp]
      · show Ls PE W _ A lp.length lp
        rw [hlp]; exact hp.ls
      · show lp.length ≤ C
        rw [hlp]; exact hp.cap_
    obtain ⟨q, hq⟩ := choose_lt each
    obtain ⟨b, off, spot⟩ := x
    refine ⟨(List.range len).map q, ⟨?_, fun y hy => ?_⟩, hl, hm, fun e => (by cases e), fun y hy => ?_⟩
    · rcases Nat.eq_zero_or_pos len with hz | hz
      · subst hz; exact Ls.nil _ _ _
      have hspot : spot = none := by
        have := World.cell?_spot (hq 0 hz).1
        simpa [Addr.add] using this
      subst hspot
      refine Ls.of (by simp) (fun _ => ?_) fun i hi => ⟨q i, by simp [hi], fun j hj => ?_⟩
      · have c0 := (hq 0 hz).1
        rw [words.add_plain] at c0
        exact World.block_lt_of_cell? W _ c0
      · have c0 := (hq i hi).1
        rw [words.add_plain] at c0
        have hj : j < 1 := hj
        obtain rfl : j = 0 := by omega
        show W.cell? ⟨b, off + (i * 1 + 0), none⟩ = some (q i).val
        rw [Nat.mul_one, Nat.add_zero]
        exact c0
    · obtain ⟨i, hi, rfl⟩ := List.mem_map.1 hy
      exact (hq i (by simpa using hi)).2.1
    · obtain ⟨i, hi, rfl⟩ := List.mem_map.1 hy
      exact (hq i (by simpa using hi)).2.2
end Go.Proofs.Ytemmfcinpkfoiaa.mg
