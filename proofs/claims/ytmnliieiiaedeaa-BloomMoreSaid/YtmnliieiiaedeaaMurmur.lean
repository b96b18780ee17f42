/-
  Murmur: the pieces. One fold serves the program's text and the document's own.
-/
import Derived.Test.YtmnliieiiaedeaaRows
import Derived.Test.YtmnliieiiaedeaaWords
import Derived.ProofKit
import Derived.Outline
import Derived.Handy
import Derived.BigQuiet
import Derived.Deep.QuietTactic
import Derived.Laws.CopyOwn
namespace Go.Proofs.Ytmnliieiiaedeaa.murmur
open Go.ChangeShapes Go.WideShapes Go.ChangeAt Go.RowKit plain words

theorem bits_u32_bd (op : BinOp) (a b : Int) : 0 ≤ bits op .u32 a b ∧ bits op .u32 a b ≤ 4294967295 := by
  have h : ∀ z : Int, 0 ≤ IntKind.u32.wrap z ∧ IntKind.u32.wrap z ≤ 4294967295 := fun z => by rw [IntKind.wrap_u32']; omega
  unfold bits
  exact h _

def rot (x : Int) (n : Nat) : Int := bits .or .u32 (IntKind.u32.wrap (x * 2 ^ n)) (x / 2 ^ (32 - n))
def mixd (k : Int) : Int := IntKind.u32.wrap (rot (IntKind.u32.wrap (k * 3432918353)) 15 * 461845907)
def fin (h : Int) : Int :=
  let a := IntKind.u32.wrap (bits .xor .u32 h (h / 65536) * 2246822507)
  let b := IntKind.u32.wrap (bits .xor .u32 a (a / 8192) * 3266489909)
  bits .xor .u32 b (b / 65536)
theorem rot_bd (x : Int) (n : Nat) : 0 ≤ rot x n ∧ rot x n ≤ 4294967295 := bits_u32_bd _ _ _
theorem mixd_bd (x : Int) : 0 ≤ mixd x ∧ mixd x ≤ 4294967295 := by unfold mixd; rw [IntKind.wrap_u32']; omega
theorem fin_bd (x : Int) : 0 ≤ fin x ∧ fin x ≤ 4294967295 := by unfold fin; exact bits_u32_bd _ _ _

theorem rot_code (x : Int) (n : Nat) : bits BinOp.or IntKind.u32 (x * 2 ^ n % 4294967296) (x / 2 ^ (32 - n)) = rot x n := by
  unfold rot; rw [IntKind.wrap_u32']

theorem left_y (x : Int) (n : Nat) (w : World) (h0 : 0 ≤ x) (h1 : x ≤ 4294967295) (hn : 0 < n) (hn' : n < 32) :
    Calls Try.prog 91 #[.int .u32 x, .int .i64 n] w fun e w' => e = .returned (.int .u32 (rot x n)) ∧ Below w.heap.size w w' := by
  go_enter Try.func91, Try.ntmps91
  go_wp2
  go_quiet (fail)
  go_wp2
  go_ret
  exact ⟨ret_int (rot_code x n), below_drewN _ _ _⟩
theorem rot_x (x : Int) (n : Nat) (w : World) (h0 : 0 ≤ x) (h1 : x ≤ 4294967295) (hn : 0 < n) (hn' : n < 32) :
    Calls Try.prog 87 #[.int .u32 x, .int .i64 n] w fun e w' => e = .returned (.int .u32 (rot x n)) ∧ w = w' := by
  have hand : bits BinOp.and IntKind.u64 (n : Int) 31 = n := by
    rw [u64_and _ _ (by omega) (by omega) (by omega) (by omega)]
    have : (31 : Int).toNat = 31 := rfl
    rw [this, nat_mask5]
    omega
  go_enter Try.func87, Try.ntmps87
  go_wp2
  go_ret
  exact ⟨ret_int (rot_code x n), rfl⟩
theorem last_x (h : Int) (w : World) (h0 : 0 ≤ h) (h1 : h ≤ 4294967295) :
    Calls Try.prog 90 #[.int .u32 h] w fun e w' => e = .returned (.int .u32 (fin h)) ∧ w = w' := by
  go_enter Try.func90, Try.ntmps90
  go_wp2
  go_ret
  exact ⟨ret_int rfl, rfl⟩
theorem mix_x (k : Int) (w : World) (h0 : 0 ≤ k) (h1 : k ≤ 4294967295) :
    Calls Try.prog 88 #[.int .u32 k] w fun e w' => e = .returned (.int .u32 (mixd k)) ∧ w = w' := by
  go_enter Try.func88, Try.ntmps88
  go_wp2_with fail
  refine (rot_x _ 15 _ (by omega) (by omega) (by omega) (by omega)).mono ?_
  rintro e w' ⟨rfl, rfl⟩
  go_wp2_with fail
  go_ret
  exact ⟨ret_int (by unfold mixd; simp only [IntKind.wrap_u32']), rfl⟩
theorem mixed_y (k : Int) (w : World) (h0 : 0 ≤ k) (h1 : k ≤ 4294967295) :
    Calls Try.prog 92 #[.int .u32 k] w fun e w' => e = .returned (.int .u32 (mixd k)) ∧ Below w.heap.size w w' := by
  go_enter Try.func92, Try.ntmps92
  go_wp2_with fail
  refine (left_y _ 15 _ (by omega) (by omega) (by omega) (by omega)).mono ?_
  rintro e w' ⟨rfl, hb⟩
  go_wp2_with fail
  go_ret
  exact ⟨ret_int (by unfold mixd; simp only [IntKind.wrap_u32']), hb⟩
theorem word_or (a b c d : Nat) (ha : a < 256) (hb : b < 256) (hc : c < 256) (hd : d < 256) :
    bits BinOp.or IntKind.u32 (bits BinOp.or IntKind.u32 (bits BinOp.or IntKind.u32 (bits BinOp.or IntKind.u32 0 (a : Int)) ((b : Int) * 256)) ((c : Int) * 65536)) ((d : Int) * 16777216) = a + b * 256 + c * 65536 + d * 16777216 := by
  have e0 : bits BinOp.or IntKind.u32 0 (a : Int) = a := by
    have := or_add_u32 0 1 0 a rfl (by omega) (by omega) (by omega)
    simpa using this
  have e1 := or_add_u32 8 256 a (b * 256) p8 (by omega) (by omega) (by omega)
  have e2 := or_add_u32 16 65536 (a + b * 256) (c * 65536) p16 (by omega) (by omega) (by omega)
  have e3 := or_add_u32 24 16777216 (a + b * 256 + c * 65536) (d * 16777216) p24 (by omega) (by omega) (by omega)
  have c1 : ((b * 256 : Nat) : Int) = (b : Int) * 256 := by simp
  have c2 : ((c * 65536 : Nat) : Int) = (c : Int) * 65536 := by simp
  have c3 : ((d * 16777216 : Nat) : Int) = (d : Int) * 16777216 := by simp
  rw [c1] at e1
  rw [c2] at e2
  rw [c3] at e3
  rw [e0, e1, e2, e3]
  omega
theorem or_step (r s c M : Nat) (hM : 256 ^ r = M) (hr : r < 4) (h : s < M) (hc : c < 256) : bits .or .u32 (s : Int) ((c : Int) * (M : Int)) = ((s + c * M : Nat) : Int) := by
  have hm : 2 ^ (8 * r) = M := by rw [← hM, Nat.pow_mul]
  have hM' : M ≤ 16777216 := by
    rcases (show r = 0 ∨ r = 1 ∨ r = 2 ∨ r = 3 from by omega) with e | e | e | e <;> subst e <;> omega
  have h1 : c * M ≤ 255 * M := Nat.mul_le_mul_right _ (by omega)
  have := or_add_u32 (8 * r) M s (c * M) hm h (Nat.mul_mod_left _ _) (by omega)
  rw [← this]
  congr 1
theorem word_x (a b c d : UInt8) (w : World) :
    Calls Try.prog 89 #[.agg #[U8 a, U8 b, U8 c, U8 d]] w fun e w' => e = .returned (.int .u32 (a.toNat + b.toNat * 256 + c.toNat * 65536 + d.toNat * 16777216)) ∧ Below w.heap.size w w' := by
  unfold U8
  have ha := a.toNat_lt
  have hb := b.toNat_lt
  have hc := c.toNat_lt
  have hd := d.toNat_lt
  generalize a.toNat = a at *
  generalize b.toNat = b at *
  generalize c.toNat = c at *
  generalize d.toNat = d at *
  have i0 : ∀ (w : World) (x y z t : Value), (Instr.index 126 (.agg #[x, y, z, t]) (.int .i64 0)).run Try.prog w = .ok x w := fun _ _ _ _ _ => by kernel_rfl
  have i1 : ∀ (w : World) (x y z t : Value), (Instr.index 126 (.agg #[x, y, z, t]) (.int .i64 1)).run Try.prog w = .ok y w := fun _ _ _ _ _ => by kernel_rfl
  have i2 : ∀ (w : World) (x y z t : Value), (Instr.index 126 (.agg #[x, y, z, t]) (.int .i64 2)).run Try.prog w = .ok z w := fun _ _ _ _ _ => by kernel_rfl
  have i3 : ∀ (w : World) (x y z t : Value), (Instr.index 126 (.agg #[x, y, z, t]) (.int .i64 3)).run Try.prog w = .ok t w := fun _ _ _ _ _ => by kernel_rfl
  go_enter Try.func89, Try.ntmps89
  go_wp2
  go_rounds 5
  go_ret
  exact ⟨ret_int (word_or a b c d (by omega) (by omega) (by omega) (by omega)), (Below.refl _ _).alloc (Nat.le_refl _) _⟩

/-! ### the fold -/
def rnd (h : Int) (k : Nat) : Int := IntKind.u32.wrap (rot (bits .xor .u32 h (mixd k)) 13 * 5 + 3864292196)
def mstep (s : Int × Nat × Nat) (c : UInt8) : Int × Nat × Nat :=
  if s.2.2 = 3 then (rnd s.1 (s.2.1 + c.toNat * 256 ^ s.2.2), 0, 0) else (s.1, s.2.1 + c.toNat * 256 ^ s.2.2, s.2.2 + 1)
def mur (seed : Int) (bs : List UInt8) : Int :=
  let s := bs.foldl mstep (seed, 0, 0)
  fin (bits .xor .u32 (bits .xor .u32 s.1 (mixd s.2.1)) bs.length)
theorem rnd_bd (h : Int) (k : Nat) : 0 ≤ rnd h k ∧ rnd h k ≤ 4294967295 := by unfold rnd; rw [IntKind.wrap_u32']; omega
theorem mur_bd (seed : Int) (bs : List UInt8) : 0 ≤ mur seed bs ∧ mur seed bs ≤ 4294967295 := by unfold mur; exact fin_bd _
theorem mixd_zero : mixd 0 = 0 := by decide +kernel
theorem xor_zero_u32 (a : Int) (h0 : 0 ≤ a) (h1 : a ≤ 4294967295) : bits .xor .u32 a 0 = a := by
  rw [u32_xor a 0 h0 (by omega) (by omega) (by omega)]; simp; omega
theorem four (h : Int) (a b c d : UInt8) (l : List UInt8) :
    (a :: b :: c :: d :: l).foldl mstep (h, 0, 0) = l.foldl mstep (rnd h (a.toNat + b.toNat * 256 + c.toNat * 65536 + d.toNat * 16777216), 0, 0) := by
  simp [List.foldl_cons, mstep]
theorem mstate_snoc (seed : Int) (l : List UInt8) (c : UInt8) : (l ++ [c]).foldl mstep (seed, 0, 0) = mstep (l.foldl mstep (seed, 0, 0)) c := by simp
theorem mstate_bd (seed : Int) (l : List UInt8) (h : 0 ≤ seed ∧ seed ≤ 4294967295) :
    0 ≤ (l.foldl mstep (seed, 0, 0)).1 ∧ (l.foldl mstep (seed, 0, 0)).1 ≤ 4294967295 ∧ (l.foldl mstep (seed, 0, 0)).2.2 = l.length % 4 ∧ (l.foldl mstep (seed, 0, 0)).2.1 < 256 ^ (l.length % 4) := by
  suffices H : ∀ (n : Nat) (l : List UInt8), l.length = n → 0 ≤ (l.foldl mstep (seed, 0, 0)).1 ∧ (l.foldl mstep (seed, 0, 0)).1 ≤ 4294967295 ∧ (l.foldl mstep (seed, 0, 0)).2.2 = l.length % 4 ∧ (l.foldl mstep (seed, 0, 0)).2.1 < 256 ^ (l.length % 4) from H _ l rfl
  intro n
  induction n with
  | zero =>
    intro l hl
    obtain rfl : l = [] := List.eq_nil_of_length_eq_zero hl
    simpa using h
  | succ n ih =>
    intro l hl
    obtain ⟨r, c, rfl⟩ : ∃ r c, l = r ++ [c] := ⟨l.dropLast, l.getLast (by intro e; subst e; simp at hl), (List.dropLast_concat_getLast _).symm⟩
    have hr : r.length = n := by simpa using hl
    have := ih r hr
    rw [mstate_snoc]
    generalize r.foldl mstep (seed, 0, 0) = s at *
    obtain ⟨h1, h2, h3, h4⟩ := this
    have hc := c.toNat_lt
    have hlen : (r ++ [c]).length = n + 1 := by simp [hr]
    rw [hlen]
    rw [hr] at h3 h4
    unfold mstep
    by_cases e : s.2.2 = 3
    · rw [if_pos e]
      have h0 : (n + 1) % 4 = 0 := by omega
      rw [h0]
      have := rnd_bd s.1 (s.2.1 + c.toNat * 256 ^ s.2.2)
      exact ⟨this.1, this.2, rfl, by simp⟩
    · rw [if_neg e]
      have h0 : (n + 1) % 4 = n % 4 + 1 := by omega
      refine ⟨h1, h2, by simp only; omega, ?_⟩
      simp only
      rw [h0, h3, Nat.pow_succ]
      have : c.toNat * 256 ^ (n % 4) ≤ 255 * 256 ^ (n % 4) := Nat.mul_le_mul_right _ (by omega)
      omega

set_option maxHeartbeats 1000000 in
theorem murmur_y (w : World) (B n c : Nat) (a : Option Addr) (bs : List UInt8) (seed : Int) (hs : 0 ≤ seed ∧ seed ≤ 4294967295) (h : Bs w B a n bs) (hB : B ≤ w.heap.size) (hn : n < 4294967296) :
    Calls Try.prog 82 #[.slice a n c, .int .u32 seed] w fun e w' => e = .returned (.int .u32 (mur seed bs)) ∧ Below w.heap.size w w' := by
  go_enter Try.func82, Try.ntmps82
  go_wp2
  go_loopw [5, 6, 7] (fun x y i wr => ∃ k : Nat, k ≤ n ∧ i = .int .i64 k ∧ x = .int .u32 ((bs.take k).foldl mstep (seed, 0, 0)).1 ∧ y = .int .u32 ((bs.take k).foldl mstep (seed, 0, 0)).2.1 ∧ Below w.heap.size w wr) (fun _ _ i _ => n - (intOf i).toNat)
  case atStart => exact ⟨0, Nat.zero_le _, rfl, rfl, rfl, Below.refl _ _⟩
  case round =>
    obtain ⟨k, hk, rfl, rfl, rfl, hbel⟩ := hrel
    have hb := mstate_bd seed (bs.take k) hs
    by_cases hlt : k < n
    · obtain ⟨b, off, ch, rfl, _, hg, hc⟩ := Bs.get (h.below hbel hB) hlt
      have hs : (bs.take (k + 1)).foldl mstep (seed, 0, 0) = mstep ((bs.take k).foldl mstep (seed, 0, 0)) ch := by rw [take_succ_of hg, mstate_snoc]
      have hlen : (bs.take k).length = k := by rw [List.length_take, h.len_]; omega
      rw [hlen] at hb
      have HS := Lib.hid hs
      clear hs h hlen hg
      have hch := ch.toNat_lt
      generalize (bs.take k).foldl mstep (seed, 0, 0) = s at *
      obtain ⟨s1, s2, s3⟩ := s
      obtain ⟨h1, h2, h3, h4⟩ := hb
      simp only at h1 h2 h3 h4
      have hcase : k % 4 = 0 ∨ k % 4 = 1 ∨ k % 4 = 2 ∨ k % 4 = 3 := by omega
      rcases hcase with e | e | e | e
      · subst h3
        rw [e] at h4 HS
        have hki : (k : Int) % 4 = 0 := by omega
        have ho := or_step 0 s2 ch.toNat 1 (by decide) (by omega) (by omega) (by omega)
        have HO := Lib.hid ho
        clear ho
        go_wp2_with fail
        go_roundw
        case rel => exact ⟨k + 1, by omega, by go_num, by rw [HS.out]; rfl, by rw [HS.out]; exact congrArg (Value.int .u32) (by simpa [mstep] using HO.out), hbel⟩
        case measure => simp [intOf]; omega
      · subst h3
        rw [e] at h4 HS
        have hki : (k : Int) % 4 = 1 := by omega
        have ho := or_step 1 s2 ch.toNat 256 (by decide) (by omega) (by omega) (by omega)
        have HO := Lib.hid ho
        clear ho
        go_wp2_with fail
        go_roundw
        case rel => exact ⟨k + 1, by omega, by go_num, by rw [HS.out]; rfl, by rw [HS.out]; exact congrArg (Value.int .u32) (by simpa [mstep] using HO.out), hbel⟩
        case measure => simp [intOf]; omega
      · subst h3
        rw [e] at h4 HS
        have hki : (k : Int) % 4 = 2 := by omega
        have ho := or_step 2 s2 ch.toNat 65536 (by decide) (by omega) (by omega) (by omega)
        have HO := Lib.hid ho
        clear ho
        go_wp2_with fail
        go_roundw
        case rel => exact ⟨k + 1, by omega, by go_num, by rw [HS.out]; rfl, by rw [HS.out]; exact congrArg (Value.int .u32) (by simpa [mstep] using HO.out), hbel⟩
        case measure => simp [intOf]; omega
      · subst h3
        rw [e] at h4 HS
        have hki : (k : Int) % 4 = 3 := by omega
        have ho := or_step 3 s2 ch.toNat 16777216 (by decide) (by omega) (by omega) (by omega)
        have HO := Lib.hid ho
        clear ho
        go_wp2_with fail
        rw [show bits BinOp.or IntKind.u32 (s2 : Int) ((ch.toNat : Int) * 16777216) = ((s2 + ch.toNat * 16777216 : Nat) : Int) from HO.out]
        refine (mixed_y _ _ (by omega) (by omega)).mono ?_
        rintro e w' ⟨rfl, hb2⟩
        go_wp2_with fail
        refine (left_y _ 13 _ (bits_u32_bd _ _ _).1 (bits_u32_bd _ _ _).2 (by omega) (by omega)).mono ?_
        rintro e w'' ⟨rfl, hb3⟩
        go_wp2_with fail
        have hbb := hbel.trans ((hb2.trans (hb3.mono hb2.size)).mono hbel.size)
        go_roundw
        case rel => exact ⟨k + 1, by omega, by go_num, by rw [HS.out]; exact congrArg (Value.int .u32) (by simp [mstep, rnd, IntKind.wrap_u32']), by rw [HS.out]; rfl, hbb⟩
        case measure => simp [intOf]; omega
    · have hkn : k = n := by omega
      subst hkn
      have hall : bs.take k = bs := take_all (by rw [h.len_]; omega)
      rw [hall] at hb ⊢
      rw [h.len_] at hb
      have hlen := h.len_
      have HL := Lib.hid hlen
      clear hlen hall h
      generalize hst : bs.foldl mstep (seed, 0, 0) = s at *
      have HST := Lib.hid hst
      clear hst
      obtain ⟨s1, s2, s3⟩ := s
      obtain ⟨h1, h2, h3, h4⟩ := hb
      simp only at h1 h2 h3 h4
      clear h3
      have hs2 : s2 < 4294967296 := by
        have : k % 4 = 0 ∨ k % 4 = 1 ∨ k % 4 = 2 ∨ k % 4 = 3 := by omega
        rcases this with e | e | e | e <;> rw [e] at h4 <;> omega
      have hw : IntKind.u32.wrap (k : Int) = k := by rw [IntKind.wrap_u32']; omega
      have HW := Lib.hid hw
      clear hw
      by_cases h0 : k % 4 = 0
      · have hki : (k : Int) % 4 = 0 := by omega
        have hz : s2 = 0 := by rw [h0] at h4; omega
        subst hz
        go_wp2_with fail
        go_ret
        exact ⟨ret_int (by unfold mur fin; rw [HST.out, HL.out]; simp only []; rw [show ((0 : Nat) : Int) = 0 from rfl, mixd_zero, xor_zero_u32 _ h1 h2]; simp only [IntKind.wrap_u32']), hbel⟩
      · have hki : ((k : Int) % 4 == 0) = false := by simp; omega
        have hki' : ((k : Int) % 4 != 0) = true := by simp; omega
        go_wp2_with fail
        refine (mixed_y _ _ (by omega) (by omega)).mono ?_
        rintro e w' ⟨rfl, hb2⟩
        go_wp2_with fail
        go_ret
        exact ⟨ret_int (by unfold mur fin; rw [HST.out, HL.out]; simp only [IntKind.wrap_u32']), hbel.trans (hb2.mono hbel.size)⟩
end Go.Proofs.Ytmnliieiiaedeaa.murmur
