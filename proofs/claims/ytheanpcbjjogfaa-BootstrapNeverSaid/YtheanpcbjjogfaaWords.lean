/-
  Words for memory that is only read, and small lemmas on lists and worlds: nothing of the program.
-/
import Derived.Test.YtheanpcbjjogfaaPlain
import Derived.Below
import Derived.Lib.Hide
import Derived.Laws.OwnMore
import Derived.Deep.Draws
namespace Go.Proofs.Ytheanpcbjjogfaa.words
open Go Go.RowKit

/-- How the frame says that a slice of integers came in: nil, or a row of 'cap' cells, each number fitting its kind. -/
def IsRow (k : IntKind) (w : World) (a : Option Addr) (len cap : Nat) (zs : List Int) : Prop :=
  (a = none ∧ len = 0 ∧ cap = 0 ∧ zs = []) ∨
  ∃ x, a = some x ∧ len ≤ cap ∧ cap ≤ maxLen ∧ zs.length = cap ∧ (∀ i, i < zs.length → w.cell? (x.add i) = some (.int k (zs.getD i 0))) ∧ ∀ n ∈ zs, (Lit.int k n).wf = true

/-- The slice at address a with n cells reads as the values vs, all below block B. -/
structure Rd (w : World) (B : Nat) (a : Option Addr) (n : Nat) (vs : List Value) : Prop where
  len : vs.length = n
  at_ : ∀ j, j < n → ∃ b off v, a = some ⟨b, off, none⟩ ∧ b < B ∧ vs[j]? = some v ∧ w.cell? ⟨b, off + j, none⟩ = some v

theorem Rd.nil (w : World) (B : Nat) (a : Option Addr) : Rd w B a 0 [] := ⟨rfl, fun j h => absurd h (by omega)⟩
theorem Rd.keep {w w' : World} {B n : Nat} {a : Option Addr} {vs : List Value} (h : Rd w B a n vs) (hk : ∀ p : Addr, p.block < B → w'.cell? p = w.cell? p) : Rd w' B a n vs :=
  ⟨h.len, fun j hj => by
    obtain ⟨b, off, v, e, hb, hv, hc⟩ := h.at_ j hj
    exact ⟨b, off, v, e, hb, hv, (hk _ hb).trans hc⟩⟩
theorem Rd.below {w w' : World} {B B' n : Nat} {a : Option Addr} {vs : List Value} (h : Rd w B a n vs) (hb : Below B' w w') (hB : B ≤ B') : Rd w' B a n vs := h.keep fun _ hp => hb.cell (by omega)
theorem Rd.alloc {w : World} {B n : Nat} {a : Option Addr} {vs : List Value} (h : Rd w B a n vs) (hB : B ≤ w.heap.size) (o : Obj) : Rd (w.alloc o) B a n vs := h.keep fun p hp => World.cell?_alloc_lt w o p (by omega)
theorem Rd.drew {w : World} {B n : Nat} {a : Option Addr} {vs : List Value} (h : Rd w B a n vs) : Rd w.drew B a n vs := ⟨h.len, h.at_⟩
theorem Rd.more {w : World} {B B' n : Nat} {a : Option Addr} {vs : List Value} (h : Rd w B a n vs) (hB : B ≤ B') : Rd w B' a n vs :=
  ⟨h.len, fun j hj => by
    obtain ⟨b, off, v, e, hb, hv, hc⟩ := h.at_ j hj
    exact ⟨b, off, v, e, by omega, hv, hc⟩⟩
theorem Rd.less {w : World} {B n : Nat} {a : Option Addr} {vs : List Value} (h : Rd w B a n vs) {m : Nat} (hm : m ≤ n) : Rd w B a m (vs.take m) :=
  ⟨by rw [List.length_take, h.len]; omega, fun j hj => by
    obtain ⟨b, off, v, e, hb, hv, hc⟩ := h.at_ j (by omega)
    exact ⟨b, off, v, e, hb, by rw [List.getElem?_take, if_pos hj]; exact hv, hc⟩⟩

theorem below_drewN (B : Nat) (w : World) (n : Nat) : Below B w (w.drewN n) := ⟨rfl, rfl, rfl, Nat.le_refl _, fun _ _ => rfl⟩

/-- bytes as cells -/
def U8 (b : UInt8) : Value := .int .u8 (b.toNat : Int)
def u8s (bs : List UInt8) : List Value := bs.map U8
theorem u8s_at {bs : List UInt8} {j : Nat} {v : Value} (h : (u8s bs)[j]? = some v) : ∃ c : UInt8, bs[j]? = some c ∧ v = .int .u8 (c.toNat : Int) := by
  unfold u8s at h
  rw [List.getElem?_map] at h
  cases hb : bs[j]? with
  | none => rw [hb] at h; cases h
  | some c => rw [hb] at h; exact ⟨c, rfl, by cases h; rfl⟩
theorem u8s_append (a b : List UInt8) : u8s (a ++ b) = u8s a ++ u8s b := by simp [u8s]
theorem u8s_length (a : List UInt8) : (u8s a).length = a.length := by simp [u8s]

abbrev Bs (w : World) (B : Nat) (a : Option Addr) (n : Nat) (bs : List UInt8) : Prop := Rd w B a n (u8s bs)
theorem Bs.len_ {w : World} {B n : Nat} {a : Option Addr} {bs : List UInt8} (h : Bs w B a n bs) : bs.length = n := by simpa [u8s] using h.len
theorem Bs.get {w : World} {B n : Nat} {a : Option Addr} {bs : List UInt8} (h : Bs w B a n bs) {j : Nat} (hj : j < n) :
    ∃ b off c, a = some ⟨b, off, none⟩ ∧ b < B ∧ bs[j]? = some c ∧ w.cell? ⟨b, off + j, none⟩ = some (.int .u8 (c.toNat : Int)) := by
  obtain ⟨b, off, v, e, hb, hv, hc⟩ := h.at_ j hj
  obtain ⟨c, hb', rfl⟩ := u8s_at hv
  exact ⟨b, off, c, e, hb, hb', hc⟩

theorem take_succ_of {α : Type} {l : List α} {k : Nat} {c : α} (h : l[k]? = some c) : l.take (k + 1) = l.take k ++ [c] := by
  rw [List.take_add_one, h]; rfl
theorem take_all {α : Type} {l : List α} {k : Nat} (h : l.length ≤ k) : l.take k = l := List.take_of_length_le h

theorem wf_u8 {n : Int} (h : (Lit.int .u8 n).wf = true) : 0 ≤ n ∧ n < 256 := by
  have : 0 ≤ n ∧ n ≤ 255 := by simpa [Lit.wf, IntKind.min, IntKind.max, IntKind.signed, IntKind.bits] using h
  omega
theorem wf_u32 {n : Int} (h : (Lit.int .u32 n).wf = true) : 0 ≤ n ∧ n ≤ 4294967295 := by
  simpa [Lit.wf, IntKind.min, IntKind.max, IntKind.signed, IntKind.bits] using h
theorem wf_u64 {n : Int} (h : (Lit.int .u64 n).wf = true) : 0 ≤ n ∧ n ≤ 18446744073709551615 := by
  simpa [Lit.wf, IntKind.min, IntKind.max, IntKind.signed, IntKind.bits] using h
theorem wf_i64 {n : Int} (h : (Lit.int .i64 n).wf = true) : -9223372036854775808 ≤ n ∧ n ≤ 9223372036854775807 := by
  simpa [Lit.wf, IntKind.min, IntKind.max, IntKind.signed, IntKind.bits] using h

/-- the bytes that a list of small numbers is -/
def toBytes (zs : List Int) : List UInt8 := zs.map fun z => UInt8.ofNat z.toNat
theorem toBytes_back {zs : List Int} (h : ∀ n ∈ zs, (Lit.int .u8 n).wf = true) : zs.map (Value.int .u8) = u8s (toBytes zs) := by
  unfold toBytes u8s
  rw [List.map_map]
  apply List.map_congr_left
  intro z hz
  have := wf_u8 (h z hz)
  simp only [Function.comp, U8]
  congr 1
  rw [UInt8.toNat_ofNat']
  omega

/-- what came in as bytes -/
theorem IsRow.bytes {w : World} {a : Option Addr} {len cap : Nat} {zs : List Int} (h : IsRow .u8 w a len cap zs) :
    ∃ bs, Bs w w.heap.size a len bs ∧ len ≤ maxLen ∧ (len ≤ cap ∧ cap ≤ maxLen) ∧ (a = none → cap = 0) := by
  rcases h with ⟨rfl, rfl, rfl, rfl⟩ | ⟨x, rfl, hl, hm, hz, hcell, hwz⟩
  · exact ⟨[], Rd.nil _ _ _, by simp, ⟨Nat.le_refl _, by simp⟩, fun _ => rfl⟩
  · refine ⟨toBytes (zs.take len), ⟨?_, fun j hj => ?_⟩, by omega, ⟨hl, hm⟩, fun e => by cases e⟩
    · simp [u8s, toBytes]; omega
    · have hc := hcell j (by omega)
      obtain ⟨b, off, spot⟩ := x
      have hspot : spot = none := by simpa [Addr.add] using World.cell?_spot (hcell 0 (by omega))
      subst hspot
      have e : (⟨b, off, none⟩ : Addr).add j = ⟨b, off + j, none⟩ := by
        unfold Addr.add
        by_cases hj0 : j = 0
        · simp [hj0]
        · simp [hj0]
      rw [e] at hc
      have hx : b < w.heap.size := by
        rcases Nat.lt_or_ge b w.heap.size with hlt | hge
        · exact hlt
        · simp [World.cell?, Array.getElem?_eq_none hge] at hc
      refine ⟨b, off, .int .u8 (zs.getD j 0), rfl, hx, ?_, hc⟩
      have hw : ∀ n ∈ zs.take len, (Lit.int .u8 n).wf = true := fun n hn => hwz n (List.mem_of_mem_take hn)
      rw [← toBytes_back hw, List.getElem?_map, List.getElem?_take, if_pos hj]
      have : j < zs.length := by omega
      rw [List.getElem?_eq_getElem this]
      simp [List.getD, List.getElem?_eq_getElem this]
/-- numbers of 64 bits as cells *-/
def u64s (vs : List Nat) : List Value := vs.map fun (v : Nat) => Value.int .u64 (v : Int)
/-- a bound near 2^64 on a natural number: kept behind a name, away from the walk *-/
def lt64 (v : Nat) : Prop := v < 18446744073709551616
theorem u64s_length (vs : List Nat) : (u64s vs).length = vs.length := by simp [u64s]
theorem IsRow.u64s {w : World} {a : Option Addr} {len cap : Nat} {zs : List Int} (h : IsRow .u64 w a len cap zs) :
    ∃ vs, Rd w w.heap.size a len (u64s vs) ∧ vs.length = len ∧ (∀ v ∈ vs, lt64 v) ∧ len ≤ maxLen ∧ (len ≤ cap ∧ cap ≤ maxLen) ∧ (a = none → cap = 0) := by
  rcases h with ⟨rfl, rfl, rfl, rfl⟩ | ⟨x, rfl, hl, hm, hz, hcell, hwz⟩
  · exact ⟨[], Rd.nil _ _ _, rfl, fun _ h => by simp at h, by simp, ⟨Nat.le_refl _, by simp⟩, fun _ => rfl⟩
  · have hlen : ((zs.take len).map Int.toNat).length = len := by simp; omega
    refine ⟨(zs.take len).map Int.toNat, ⟨by rw [u64s_length, hlen], fun j hj => ?_⟩, hlen, fun v hv => ?_, by omega, ⟨hl, hm⟩, fun e => by cases e⟩
    · have hc := hcell j (by omega)
      obtain ⟨b, off, spot⟩ := x
      have hspot : spot = none := by simpa [Addr.add] using World.cell?_spot (hcell 0 (by omega))
      subst hspot
      have e : (⟨b, off, none⟩ : Addr).add j = ⟨b, off + j, none⟩ := by
        unfold Addr.add
        by_cases hj0 : j = 0
        · simp [hj0]
        · simp [hj0]
      rw [e] at hc
      have hx : b < w.heap.size := by
        rcases Nat.lt_or_ge b w.heap.size with hlt | hge
        · exact hlt
        · simp [World.cell?, Array.getElem?_eq_none hge] at hc
      have hjz : j < zs.length := by omega
      have hg : zs.getD j 0 = zs[j] := by simp [List.getD, List.getElem?_eq_getElem hjz]
      have hw := wf_u64 (hwz zs[j] (List.getElem_mem hjz))
      refine ⟨b, off, .int .u64 (zs.getD j 0), rfl, hx, ?_, hc⟩
      unfold words.u64s
      rw [List.getElem?_map, List.getElem?_map, List.getElem?_take, if_pos hj, List.getElem?_eq_getElem hjz, hg]
      simp
      omega
    · rw [List.mem_map] at hv
      obtain ⟨z, hz', rfl⟩ := hv
      have hw := wf_u64 (hwz z (List.mem_of_mem_take hz'))
      unfold lt64
      omega
end Go.Proofs.Ytheanpcbjjogfaa.words
