/-
  Streams of bits: plain mathematics. A stream is a list of Bools, the most significant first.
-/
import Derived.WalkKit
namespace Go.Proofs.YtknjejejkgihbaaDoor.bitm

def bitsOf (v : Nat) : Nat → List Bool
  | 0 => []
  | n + 1 => v.testBit n :: bitsOf v n
def val (l : List Bool) : Nat := l.foldl (fun a b => 2 * a + b.toNat) 0

theorem bitsOf_len (v n : Nat) : (bitsOf v n).length = n := by induction n with | zero => rfl | succ n ih => simp [bitsOf, ih]
theorem val_from (l : List Bool) (a : Nat) : l.foldl (fun a b => 2 * a + b.toNat) a = a * 2 ^ l.length + val l := by
  induction l generalizing a with
  | nil => simp [val]
  | cons b l ih =>
    unfold val
    simp only [List.foldl_cons, List.length_cons]
    rw [ih, ih (2 * 0 + b.toNat), Nat.pow_succ, Nat.add_mul, Nat.mul_comm 2 a, Nat.mul_assoc, Nat.mul_comm 2]
    simp
    omega
theorem val_app (a b : List Bool) : val (a ++ b) = val a * 2 ^ b.length + val b := by
  unfold val
  rw [List.foldl_append, val_from]
  rfl
theorem val_cons (b : Bool) (l : List Bool) : val (b :: l) = b.toNat * 2 ^ l.length + val l := by
  have := val_app [b] l
  simpa [val] using this
theorem val_lt (l : List Bool) : val l < 2 ^ l.length := by
  induction l with
  | nil => simp [val]
  | cons b l ih =>
    rw [val_cons, List.length_cons, Nat.pow_succ]
    cases b
    · simp; omega
    · simp; omega
theorem mod_succ (v n : Nat) : v % 2 ^ (n + 1) = (v.testBit n).toNat * 2 ^ n + v % 2 ^ n := by
  have h := Nat.mod_pow_succ (b := 2) (k := n) (x := v)
  rw [h, Nat.toNat_testBit, Nat.mul_comm, Nat.add_comm]
theorem val_bitsOf (v n : Nat) : val (bitsOf v n) = v % 2 ^ n := by
  induction n with
  | zero => simp [bitsOf, val, Nat.mod_one]
  | succ n ih => rw [bitsOf, val_cons, bitsOf_len, ih, mod_succ]
theorem bitsOf_add (v m n : Nat) : bitsOf v (m + n) = bitsOf (v >>> n) m ++ bitsOf v n := by
  induction m with
  | zero => simp [bitsOf]
  | succ m ih =>
    rw [show m + 1 + n = (m + n) + 1 from by omega]
    simp only [bitsOf, List.cons_append]
    rw [ih, Nat.testBit_shiftRight, Nat.add_comm n m]
theorem bitsOf_val (l : List Bool) : bitsOf (val l) l.length = l := by
  induction l with
  | nil => rfl
  | cons b l ih =>
    rw [List.length_cons, bitsOf]
    have hl := val_lt l
    congr 1
    · rw [val_cons]
      cases b
      · simpa using Nat.testBit_lt_two_pow hl
      · simp only [Bool.toNat_true, Nat.one_mul]
        rw [Nat.testBit_two_pow_add_eq, Nat.testBit_lt_two_pow hl]
        rfl
    · suffices h : ∀ n, n ≤ l.length → bitsOf (val (b :: l)) n = bitsOf (val l) n by rw [h _ (Nat.le_refl _), ih]
      intro n hn
      induction n with
      | zero => rfl
      | succ n ih2 =>
        rw [bitsOf, bitsOf, ih2 (by omega)]
        congr 1
        rw [val_cons]
        cases b
        · simp
        · simp only [Bool.toNat_true, Nat.one_mul]
          rw [Nat.testBit_two_pow_add_gt (by omega)]
theorem bitsOf_mod (v n : Nat) : bitsOf (v % 2 ^ n) n = bitsOf v n := by
  have h := bitsOf_val (bitsOf v n)
  rwa [bitsOf_len, val_bitsOf] at h

/-! ### bytes -/
/-- the j-th byte of a stream, filled up with noughts *-/
def chunk (l : List Bool) (j : Nat) : List Bool := (l.drop (8 * j)).take 8
def byteAt (l : List Bool) (j : Nat) : Nat := val (chunk l j) * 2 ^ (8 - (chunk l j).length)
def pack (l : List Bool) : List UInt8 := (List.range ((l.length + 7) / 8)).map fun j => UInt8.ofNat (byteAt l j)
theorem pack_len (l : List Bool) : (pack l).length = (l.length + 7) / 8 := by simp [pack]
theorem chunk_len (l : List Bool) (j : Nat) : (chunk l j).length = min 8 (l.length - 8 * j) := by simp [chunk]
theorem byteAt_lt (l : List Bool) (j : Nat) : byteAt l j < 256 := by
  have h := val_lt (chunk l j)
  have hl := chunk_len l j
  unfold byteAt
  have : val (chunk l j) * 2 ^ (8 - (chunk l j).length) < 2 ^ (chunk l j).length * 2 ^ (8 - (chunk l j).length) := Nat.mul_lt_mul_of_pos_right h (Nat.two_pow_pos _)
  rw [← Nat.pow_add, show (chunk l j).length + (8 - (chunk l j).length) = 8 from by omega] at this
  simpa using this
theorem pack_at (l : List Bool) (j : Nat) (h : j < (l.length + 7) / 8) : (pack l)[j]? = some (UInt8.ofNat (byteAt l j)) := by
  unfold pack
  rw [List.getElem?_map, List.getElem?_range h]
  rfl
theorem chunk_app (l x : List Bool) (j : Nat) (h : 8 * j + 8 ≤ l.length) : chunk (l ++ x) j = chunk l j := by
  unfold chunk
  rw [List.drop_append_of_le_length (by omega), List.take_append_of_le_length (by rw [List.length_drop]; omega)]
theorem byteAt_app (l x : List Bool) (j : Nat) (h : 8 * j + 8 ≤ l.length) : byteAt (l ++ x) j = byteAt l j := by
  unfold byteAt
  rw [chunk_app l x j h]
theorem chunk_last (l x : List Bool) (hx : l.length % 8 + x.length ≤ 8) : chunk (l ++ x) (l.length / 8) = l.drop (8 * (l.length / 8)) ++ x := by
  unfold chunk
  rw [List.drop_append_of_le_length (by omega), List.take_of_length_le]
  rw [List.length_append, List.length_drop]
  omega
/-- a stream that goes on within its last byte *-/
theorem pack_in (l x : List Bool) (h0 : l.length % 8 ≠ 0) (hx : l.length % 8 + x.length ≤ 8) :
    pack (l ++ x) = (pack l).set (l.length / 8) (UInt8.ofNat (byteAt l (l.length / 8) + val x * 2 ^ (8 - l.length % 8 - x.length))) := by
  apply List.ext_getElem?
  intro j
  have hl1 : ((l ++ x).length + 7) / 8 = l.length / 8 + 1 := by rw [List.length_append]; omega
  have hl2 : (l.length + 7) / 8 = l.length / 8 + 1 := by omega
  rw [List.getElem?_set]
  by_cases hj : j < l.length / 8 + 1
  · rw [pack_at _ _ (by omega)]
    by_cases e : l.length / 8 = j
    · rw [if_pos e, if_pos (by rw [pack_len]; omega)]
      subst e
      congr 2
      unfold byteAt
      have hc : chunk l (l.length / 8) = l.drop (8 * (l.length / 8)) := by
        have := chunk_last l [] (by simp; omega)
        simpa using this
      rw [chunk_last l x hx, hc, val_app, List.length_append, List.length_drop]
      rw [show l.length - 8 * (l.length / 8) = l.length % 8 from by omega, Nat.add_mul, Nat.mul_assoc, ← Nat.pow_add]
      rw [show x.length + (8 - (l.length % 8 + x.length)) = 8 - l.length % 8 from by omega, show 8 - l.length % 8 - x.length = 8 - (l.length % 8 + x.length) from by omega]
    · rw [if_neg e, pack_at _ _ (by omega), byteAt_app l x j (by omega)]
  · rw [List.getElem?_eq_none (by rw [pack_len]; omega), if_neg (by omega), List.getElem?_eq_none (by rw [pack_len]; omega)]
/-- a stream that goes on with a new byte *-/
theorem pack_new (l x : List Bool) (h0 : l.length % 8 = 0) (h1 : 1 ≤ x.length) (hx : x.length ≤ 8) :
    pack (l ++ x) = pack l ++ [UInt8.ofNat (val x * 2 ^ (8 - x.length))] := by
  apply List.ext_getElem?
  intro j
  have hl1 : ((l ++ x).length + 7) / 8 = l.length / 8 + 1 := by rw [List.length_append]; omega
  have hl2 : (l.length + 7) / 8 = l.length / 8 := by omega
  by_cases hj : j < l.length / 8
  · rw [pack_at _ _ (by omega), List.getElem?_append_left (by rw [pack_len]; omega), pack_at _ _ (by omega), byteAt_app l x j (by omega)]
  · by_cases e : j = l.length / 8
    · subst e
      rw [pack_at _ _ (by omega), List.getElem?_append_right (by rw [pack_len]; omega), pack_len, hl2, Nat.sub_self]
      simp only [List.getElem?_cons_zero]
      congr 2
      unfold byteAt
      rw [chunk_last l x (by omega), List.drop_eq_nil_of_le (by omega)]
      simp
    · rw [List.getElem?_eq_none (by rw [pack_len]; omega), List.getElem?_eq_none (by rw [List.length_append, pack_len]; simp; omega)]

/-- all bits of bytes *-/
def ofBytes (bs : List UInt8) : List Bool := bs.flatMap fun b => bitsOf b.toNat 8
theorem ofBytes_nil : ofBytes [] = [] := rfl
theorem ofBytes_cons (b : UInt8) (bs : List UInt8) : ofBytes (b :: bs) = bitsOf b.toNat 8 ++ ofBytes bs := rfl
theorem ofBytes_app (a b : List UInt8) : ofBytes (a ++ b) = ofBytes a ++ ofBytes b := by simp [ofBytes]
theorem ofBytes_len (bs : List UInt8) : (ofBytes bs).length = 8 * bs.length := by
  induction bs with
  | nil => rfl
  | cons b bs ih => rw [ofBytes_cons, List.length_append, bitsOf_len, ih, List.length_cons]; omega
theorem chunk_ofBytes (bs : List UInt8) (j : Nat) (b : UInt8) (h : bs[j]? = some b) : (ofBytes bs).drop (8 * j) = bitsOf b.toNat 8 ++ (ofBytes bs).drop (8 * (j + 1)) := by
  induction bs generalizing j with
  | nil => simp at h
  | cons c bs ih =>
    cases j with
    | zero =>
      simp only [List.getElem?_cons_zero, Option.some.injEq] at h
      subst h
      rw [ofBytes_cons, Nat.mul_zero, List.drop_zero, List.drop_append_of_le_length (by rw [bitsOf_len]; omega), List.drop_of_length_le (by rw [bitsOf_len]; omega)]
      rfl
    | succ j =>
      simp only [List.getElem?_cons_succ] at h
      have e : ∀ i, (bitsOf c.toNat 8 ++ ofBytes bs).drop (8 * (i + 1)) = (ofBytes bs).drop (8 * i) := fun i => by
        rw [show 8 * (i + 1) = (bitsOf c.toNat 8).length + 8 * i from by rw [bitsOf_len]; omega, List.drop_append]
        simp
      rw [ofBytes_cons, e, ih j h, e]
/-- some bits within a byte *-/
theorem some_bits (bs : List UInt8) (at_ k : Nat) (b : UInt8) (h : bs[at_ / 8]? = some b) (hk : at_ % 8 + k ≤ 8) :
    ((ofBytes bs).drop at_).take k = bitsOf (b.toNat >>> (8 - at_ % 8 - k)) k := by
  have h1 : (ofBytes bs).drop at_ = (bitsOf b.toNat 8 ++ (ofBytes bs).drop (8 * (at_ / 8 + 1))).drop (at_ % 8) := by
    rw [← chunk_ofBytes bs _ b h, List.drop_drop]
    congr 1
    omega
  rw [h1, List.drop_append_of_le_length (by rw [bitsOf_len]; omega), List.take_append_of_le_length (by rw [List.length_drop, bitsOf_len]; omega)]
  have e1 : bitsOf b.toNat 8 = bitsOf (b.toNat >>> (8 - at_ % 8)) (at_ % 8) ++ bitsOf b.toNat (8 - at_ % 8) := by
    rw [← bitsOf_add]; congr 1; omega
  have e2 : bitsOf b.toNat (8 - at_ % 8) = bitsOf (b.toNat >>> (8 - at_ % 8 - k)) k ++ bitsOf b.toNat (8 - at_ % 8 - k) := by
    rw [← bitsOf_add]; congr 1; omega
  rw [e1, List.drop_append_of_le_length (by rw [bitsOf_len]; omega), List.drop_of_length_le (by rw [bitsOf_len]; omega), List.nil_append, e2]
  rw [List.take_append_of_le_length (by rw [bitsOf_len]; omega), List.take_of_length_le (by rw [bitsOf_len]; omega)]
/-- what is packed is there again, and noughts behind it *-/
theorem bitsOf_fill (c : List Bool) (h : c.length ≤ 8) : bitsOf (val c * 2 ^ (8 - c.length)) 8 = c ++ List.replicate (8 - c.length) false := by
  have h1 : val (c ++ List.replicate (8 - c.length) false) = val c * 2 ^ (8 - c.length) := by
    rw [val_app, List.length_replicate]
    have : ∀ n, val (List.replicate n false) = 0 := fun n => by
      induction n with
      | zero => rfl
      | succ n ih => rw [List.replicate_succ, val_cons, ih]; simp
    rw [this, Nat.add_zero]
  have h2 := bitsOf_val (c ++ List.replicate (8 - c.length) false)
  rw [h1] at h2
  rwa [show (c ++ List.replicate (8 - c.length) false).length = 8 from by simp; omega] at h2
theorem pack_cons (l : List Bool) (h : l ≠ []) : pack l = UInt8.ofNat (byteAt l 0) :: pack (l.drop 8) := by
  apply List.ext_getElem?
  intro j
  have hp : 0 < l.length := List.length_pos_iff.2 h
  have hl : (l.drop 8).length = l.length - 8 := List.length_drop
  cases j with
  | zero => rw [pack_at _ _ (by omega)]; rfl
  | succ j =>
    rw [List.getElem?_cons_succ]
    by_cases hj : j + 1 < (l.length + 7) / 8
    · rw [pack_at _ _ hj, pack_at _ _ (by rw [hl]; omega)]
      congr 2
      unfold byteAt chunk
      rw [List.drop_drop, show 8 + 8 * j = 8 * (j + 1) from by omega]
    · rw [List.getElem?_eq_none (by rw [pack_len]; omega), List.getElem?_eq_none (by rw [pack_len, hl]; omega)]
theorem ofBytes_pack (l : List Bool) : ofBytes (pack l) = l ++ List.replicate (8 * ((l.length + 7) / 8) - l.length) false := by
  suffices H : ∀ n (l : List Bool), l.length ≤ n → ofBytes (pack l) = l ++ List.replicate (8 * ((l.length + 7) / 8) - l.length) false from H _ l (Nat.le_refl _)
  intro n
  induction n with
  | zero =>
    intro l hl
    obtain rfl : l = [] := List.eq_nil_of_length_eq_zero (by omega)
    rfl
  | succ n ih =>
    intro l hl
    by_cases h : l = []
    · subst h; rfl
    · have hp : 0 < l.length := List.length_pos_iff.2 h
      rw [pack_cons l h, ofBytes_cons, ih _ (by rw [List.length_drop]; omega)]
      rw [show (UInt8.ofNat (byteAt l 0)).toNat = byteAt l 0 from by rw [UInt8.toNat_ofNat']; have := byteAt_lt l 0; omega]
      unfold byteAt
      rw [bitsOf_fill _ (by rw [chunk_len]; omega)]
      have hc : chunk l 0 = l.take 8 := by simp [chunk]
      rw [hc, List.length_take, List.length_drop]
      by_cases h8 : 8 ≤ l.length
      · rw [show 8 - min 8 l.length = 0 from by omega, List.replicate_zero, List.append_nil, ← List.append_assoc, List.take_append_drop]
        congr 2
        omega
      · rw [List.drop_of_length_le (by omega), List.take_of_length_le (by omega), show l.length - 8 = 0 from by omega]
        simp
        omega
end Go.Proofs.YtknjejejkgihbaaDoor.bitm
