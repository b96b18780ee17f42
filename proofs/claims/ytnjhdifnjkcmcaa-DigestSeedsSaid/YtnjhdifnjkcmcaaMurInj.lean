/-
  Of the same bytes two seeds never have one hash; Adler of two texts comes of both: plain mathematics.
-/
import Derived.Test.YtnjhdifnjkcmcaaMurmur
namespace Go.Proofs.Ytnjhdifnjkcmcaa.murinj
open Go Go.RowKit plain words adler murmur

theorem xs_inj (k N : Nat) (hk : 0 < k) (x y : Nat) (hx : x < 2 ^ N) (hy : y < 2 ^ N) (h : x ^^^ (x >>> k) = y ^^^ (y >>> k)) : x = y := by
  apply Nat.eq_of_testBit_eq
  suffices H : ∀ d i, N ≤ i + d → x.testBit i = y.testBit i from fun i => H N i (by omega)
  intro d
  induction d with
  | zero =>
    intro i hi
    have hp : 2 ^ N ≤ 2 ^ i := Nat.pow_le_pow_right (by omega) (by omega)
    rw [Nat.testBit_lt_two_pow (by omega), Nat.testBit_lt_two_pow (by omega)]
  | succ d ih =>
    intro i hi
    have h1 := congrArg (fun z => z.testBit i) h
    simp only [Nat.testBit_xor, Nat.testBit_shiftRight] at h1
    rw [ih (k + i) (by omega)] at h1
    revert h1
    cases x.testBit i <;> cases y.testBit i <;> cases y.testBit (k + i) <;> simp

theorem xor_inj_u32 (a b c : Int) (ha : 0 ≤ a ∧ a ≤ 4294967295) (hb : 0 ≤ b ∧ b ≤ 4294967295) (hc : 0 ≤ c ∧ c ≤ 4294967295) (h : bits .xor .u32 a c = bits .xor .u32 b c) : a = b := by
  rw [u32_xor a c ha.1 (by omega) hc.1 (by omega), u32_xor b c hb.1 (by omega) hc.1 (by omega)] at h
  have h2 : a.toNat ^^^ c.toNat = b.toNat ^^^ c.toNat := by omega
  have h3 := congrArg (· ^^^ c.toNat) h2
  simp only [Nat.xor_assoc, Nat.xor_self, Nat.xor_zero] at h3
  omega
theorem shift_inj_u32 (k : Nat) (K : Int) (hK : (2 ^ k : Nat) = K) (hk : 0 < k) (a b : Int) (ha : 0 ≤ a ∧ a ≤ 4294967295) (hb : 0 ≤ b ∧ b ≤ 4294967295) (h : bits .xor .u32 a (a / K) = bits .xor .u32 b (b / K)) : a = b := by
  have hK1 : 1 ≤ K := by rw [← hK]; have := Nat.two_pow_pos k; omega
  have q : ∀ z : Int, 0 ≤ z ∧ z ≤ 4294967295 → 0 ≤ z / K ∧ z / K ≤ 4294967295 ∧ (z / K).toNat = z.toNat >>> k := fun z hz => by
    have h1 : 0 ≤ z / K := Int.ediv_nonneg hz.1 (by omega)
    have h2 : z / K ≤ z := Int.ediv_le_self _ hz.1
    refine ⟨h1, by omega, ?_⟩
    rw [Nat.shiftRight_eq_div_pow]
    obtain ⟨n, rfl⟩ := Int.eq_ofNat_of_zero_le hz.1
    rw [← hK, ← Int.natCast_ediv, Int.toNat_natCast, Int.toNat_natCast]
  have qa := q a ha
  have qb := q b hb
  rw [u32_xor a _ ha.1 (by omega) qa.1 (by omega), u32_xor b _ hb.1 (by omega) qb.1 (by omega), qa.2.2, qb.2.2] at h
  have h2 : a.toNat ^^^ a.toNat >>> k = b.toNat ^^^ b.toNat >>> k := by omega
  have := xs_inj k 32 hk a.toNat b.toNat (by omega) (by omega) h2
  omega
theorem rot13 (x : Int) (hx : 0 ≤ x ∧ x ≤ 4294967295) : rot x 13 = x * 8192 % 4294967296 + x / 524288 := by
  unfold rot
  rw [IntKind.wrap_u32']
  obtain ⟨n, rfl⟩ := Int.eq_ofNat_of_zero_le hx.1
  have := or_add_u32 13 8192 (n / 524288) (n * 8192 % 4294967296) (by simp) (by omega) (by omega) (by omega)
  have e1 : (n : Int) * 2 ^ 13 % 4294967296 = ((n * 8192 % 4294967296 : Nat) : Int) := by simp
  have e2 : (n : Int) / 2 ^ (32 - 13) = ((n / 524288 : Nat) : Int) := by simp
  rw [e1, e2]
  have hcomm : bits .or .u32 ((n * 8192 % 4294967296 : Nat) : Int) ((n / 524288 : Nat) : Int) = bits .or .u32 ((n / 524288 : Nat) : Int) ((n * 8192 % 4294967296 : Nat) : Int) := by
    rw [u32_or_nat _ _ (by omega) (by omega), u32_or_nat _ _ (by omega) (by omega), Nat.or_comm]
  rw [hcomm, this]
  omega
theorem odd_inj (m i : Int) (hi : m * i % 4294967296 = 1) (a b : Int) (ha : 0 ≤ a ∧ a ≤ 4294967295) (hb : 0 ≤ b ∧ b ≤ 4294967295) (h : a * m % 4294967296 = b * m % 4294967296) : a = b := by
  have q : ∀ z : Int, z * m % 4294967296 * i % 4294967296 = z % 4294967296 := fun z => by
    rw [Int.mul_emod (z * m % 4294967296) i, Int.emod_emod, ← Int.mul_emod, Int.mul_assoc, Int.mul_emod z, hi, Int.mul_one, Int.emod_emod]
  have e := congrArg (fun z => z * i % 4294967296) h
  simp only [q] at e
  omega
theorem add_inj (c x y : Int) (h : (x + c) % 4294967296 = (y + c) % 4294967296) : x % 4294967296 = y % 4294967296 := by omega
theorem turn_inj (p q : Int) (hp : 0 ≤ p ∧ p ≤ 4294967295) (hq : 0 ≤ q ∧ q ≤ 4294967295) (h : p * 8192 % 4294967296 + p / 524288 = q * 8192 % 4294967296 + q / 524288) : p = q := by
  have h1 : p * 8192 / 4294967296 = p / 524288 := by omega
  have h2 : q * 8192 / 4294967296 = q / 524288 := by omega
  omega
theorem turn_bd (p : Int) (hp : 0 ≤ p ∧ p ≤ 4294967295) : 0 ≤ p * 8192 % 4294967296 + p / 524288 ∧ p * 8192 % 4294967296 + p / 524288 ≤ 4294967295 := by omega
theorem rnd_inj (a b : Int) (k : Nat) (ha : 0 ≤ a ∧ a ≤ 4294967295) (hb : 0 ≤ b ∧ b ≤ 4294967295) (h : rnd a k = rnd b k) : a = b := by
  unfold rnd at h
  have xa := bits_u32_bd .xor a (mixd k)
  have xb := bits_u32_bd .xor b (mixd k)
  rw [rot13 _ xa, rot13 _ xb, IntKind.wrap_u32', IntKind.wrap_u32'] at h
  have h1 := odd_inj 5 3435973837 (by simp) _ _ (turn_bd _ xa) (turn_bd _ xb) (add_inj _ _ _ h)
  exact xor_inj_u32 a b _ ha hb (mixd_bd k) (turn_inj _ _ xa xb h1)
theorem mod_bd (z : Int) : 0 ≤ z % 4294967296 ∧ z % 4294967296 ≤ 4294967295 := by omega
theorem c16 : ((2 ^ 16 : Nat) : Int) = 65536 := by simp
theorem c13 : ((2 ^ 13 : Nat) : Int) = 8192 := by simp
theorem odd1 : (3266489909 : Int) * 2127672349 % 4294967296 = 1 := by simp
theorem odd2 : (2246822507 : Int) * 2781581891 % 4294967296 = 1 := by simp
theorem fin_inj (a b : Int) (ha : 0 ≤ a ∧ a ≤ 4294967295) (hb : 0 ≤ b ∧ b ≤ 4294967295) (h : fin a = fin b) : a = b := by
  have h : bits .xor .u32 (IntKind.u32.wrap (bits .xor .u32 (IntKind.u32.wrap (bits .xor .u32 a (a / 65536) * 2246822507)) (IntKind.u32.wrap (bits .xor .u32 a (a / 65536) * 2246822507) / 8192) * 3266489909)) (IntKind.u32.wrap (bits .xor .u32 (IntKind.u32.wrap (bits .xor .u32 a (a / 65536) * 2246822507)) (IntKind.u32.wrap (bits .xor .u32 a (a / 65536) * 2246822507) / 8192) * 3266489909) / 65536) =
    bits .xor .u32 (IntKind.u32.wrap (bits .xor .u32 (IntKind.u32.wrap (bits .xor .u32 b (b / 65536) * 2246822507)) (IntKind.u32.wrap (bits .xor .u32 b (b / 65536) * 2246822507) / 8192) * 3266489909)) (IntKind.u32.wrap (bits .xor .u32 (IntKind.u32.wrap (bits .xor .u32 b (b / 65536) * 2246822507)) (IntKind.u32.wrap (bits .xor .u32 b (b / 65536) * 2246822507) / 8192) * 3266489909) / 65536) := h
  simp only [IntKind.wrap_u32'] at h
  generalize hp : bits .xor .u32 a (a / 65536) = p at h
  generalize hq : bits .xor .u32 b (b / 65536) = q at h
  have bp := bits_u32_bd .xor a (a / 65536)
  have bq := bits_u32_bd .xor b (b / 65536)
  rw [hp] at bp
  rw [hq] at bq
  generalize hp2 : p * 2246822507 % 4294967296 = p2 at h
  generalize hq2 : q * 2246822507 % 4294967296 = q2 at h
  have bp2 := mod_bd (p * 2246822507)
  have bq2 := mod_bd (q * 2246822507)
  rw [hp2] at bp2
  rw [hq2] at bq2
  generalize hp3 : bits .xor .u32 p2 (p2 / 8192) = p3 at h
  generalize hq3 : bits .xor .u32 q2 (q2 / 8192) = q3 at h
  have bp3 := bits_u32_bd .xor p2 (p2 / 8192)
  have bq3 := bits_u32_bd .xor q2 (q2 / 8192)
  rw [hp3] at bp3
  rw [hq3] at bq3
  have h1 := shift_inj_u32 16 65536 c16 (by decide) (p3 * 3266489909 % 4294967296) (q3 * 3266489909 % 4294967296) (mod_bd _) (mod_bd _) h
  have h2 := odd_inj 3266489909 2127672349 odd1 p3 q3 bp3 bq3 h1
  rw [← hp3, ← hq3] at h2
  have h3 := shift_inj_u32 13 8192 c13 (by decide) p2 q2 bp2 bq2 h2
  rw [← hp2, ← hq2] at h3
  have h4 := odd_inj 2246822507 2781581891 odd2 p q bp bq h3
  rw [← hp, ← hq] at h4
  exact shift_inj_u32 16 65536 c16 (by decide) a b ha hb h4
theorem mfold_inj (l : List UInt8) (a b : Int) (k r : Nat) (ha : 0 ≤ a ∧ a ≤ 4294967295) (hb : 0 ≤ b ∧ b ≤ 4294967295) :
    (l.foldl mstep (a, k, r)).2 = (l.foldl mstep (b, k, r)).2 ∧ (0 ≤ (l.foldl mstep (a, k, r)).1 ∧ (l.foldl mstep (a, k, r)).1 ≤ 4294967295) ∧ ((l.foldl mstep (a, k, r)).1 = (l.foldl mstep (b, k, r)).1 → a = b) := by
  induction l generalizing a b k r with
  | nil => exact ⟨rfl, ha, fun h => h⟩
  | cons c l ih =>
    simp only [List.foldl_cons]
    unfold mstep
    simp only
    by_cases hr : r = 3
    · simp only [if_pos hr]
      have := ih (rnd a (k + c.toNat * 256 ^ r)) (rnd b (k + c.toNat * 256 ^ r)) 0 0 (rnd_bd _ _) (rnd_bd _ _)
      exact ⟨this.1, this.2.1, fun h => rnd_inj a b _ ha hb (this.2.2 h)⟩
    · simp only [if_neg hr]
      exact ih a b _ _ ha hb
theorem mur_inj (bs : List UInt8) (hl : bs.length ≤ 65536) (a b : Int) (ha : 0 ≤ a ∧ a ≤ 4294967295) (hb : 0 ≤ b ∧ b ≤ 4294967295) (h : mur a bs = mur b bs) : a = b := by
  have H := mfold_inj bs a b 0 0 ha hb
  have Hb := (mfold_inj bs b a 0 0 hb ha).2.1
  unfold mur at h
  simp only at h
  have h1 := fin_inj _ _ (bits_u32_bd _ _ _) (bits_u32_bd _ _ _) h
  have h2 := xor_inj_u32 _ _ _ (bits_u32_bd _ _ _) (bits_u32_bd _ _ _) (by omega) h1
  rw [H.1] at h2
  exact H.2.2 (xor_inj_u32 _ _ _ H.2.1 Hb (mixd_bd _) h2)

/-! ### Adler of two texts -/
theorem adl_two (b c : List UInt8) : adl (b ++ c) = (((adl b).1 + (adl c).1 + 65520) % 65521, ((adl b).2 + (adl c).2 + (c.length : Int) * ((adl b).1 + 65520)) % 65521) := by
  suffices H : ∀ (n : Nat) (c : List UInt8), c.length = n → adl (b ++ c) = (((adl b).1 + (adl c).1 + 65520) % 65521, ((adl b).2 + (adl c).2 + (c.length : Int) * ((adl b).1 + 65520)) % 65521) from H _ c rfl
  intro n
  induction n with
  | zero =>
    intro c hc
    obtain rfl : c = [] := List.eq_nil_of_length_eq_zero hc
    have hb := adl_bd b
    have h0 : adl [] = (1, 0) := rfl
    rw [List.append_nil, h0]
    ext
    · simp only; omega
    · simp only [List.length_nil]; omega
  | succ n ih =>
    intro c hc
    obtain ⟨r, k, rfl⟩ : ∃ r k, c = r ++ [k] := ⟨c.dropLast, c.getLast (by intro e; subst e; simp at hc), (List.dropLast_concat_getLast _).symm⟩
    have hr : r.length = n := by simpa using hc
    rw [← List.append_assoc, adl_snoc, adl_snoc, ih r hr, hc, hr]
    have hb := adl_bd b
    have hrb := adl_bd r
    have e : ((n + 1 : Nat) : Int) * ((adl b).1 + 65520) = (n : Int) * ((adl b).1 + 65520) + ((adl b).1 + 65520) := by
      rw [Int.natCast_add, Int.add_mul]; simp
    rw [e]
    generalize (n : Int) * ((adl b).1 + 65520) = t
    unfold adler.step
    simp only
    have hk := k.toNat_lt
    ext
    · simp only; omega
    · simp only; omega
end Go.Proofs.Ytnjhdifnjkcmcaa.murinj
