/-
  Tsz: the bits of a list of points, as mathematics; bits 0 at a number's head and at its end.
-/
import Derived.Test.YtknjejejkgihbaaDoorTsLead
import Derived.Test.YtknjejejkgihbaaDoorUv
import Derived.Test.YtknjejejkgihbaaDoorBitsMath
namespace Go.Proofs.YtknjejejkgihbaaDoor.ts
open Go.RowKit plain words bitm

theorem ldF_bd (y : Nat) : ∀ f n, n ≤ ldF y f n ∧ ldF y f n ≤ n + f := by
  intro f
  induction f with
  | zero => intro n; simp [ldF]
  | succ f ih =>
    intro n
    unfold ldF
    split
    · have := ih (n + 1); omega
    · omega
theorem trF_bd (y : Nat) : ∀ f n, n ≤ trF y f n ∧ trF y f n ≤ n + f := by
  intro f
  induction f with
  | zero => intro n; simp [trF]
  | succ f ih =>
    intro n
    unfold trF
    split
    · have := ih (n + 1); omega
    · omega
theorem lead_le (y : Nat) : lead y ≤ 31 := by have := ldF_bd y 31 0; unfold lead; omega
theorem trail_le (y : Nat) : trail y ≤ 64 := by have := trF_bd y 64 0; unfold trail; omega
theorem ldF_lt (y : Nat) : ∀ f n, n + f ≤ 64 → y < 2 ^ (64 - n) → y < 2 ^ (64 - ldF y f n) := by
  intro f
  induction f with
  | zero => intro n _ h; simpa [ldF] using h
  | succ f ih =>
    intro n hn h
    unfold ldF
    split
    · rename_i h0
      refine ih (n + 1) (by omega) ?_
      have e : 64 - n = 63 - n + 1 := by omega
      rw [e, Nat.pow_succ] at h
      have h2 : y / 2 ^ (63 - n) < 2 := Nat.div_lt_of_lt_mul h
      have h3 : y / 2 ^ (63 - n) = 0 := by
        generalize y / 2 ^ (63 - n) = z at h0 h2
        omega
      rw [show 64 - (n + 1) = 63 - n from by omega]
      exact (Nat.div_eq_zero_iff_lt (Nat.two_pow_pos _)).1 h3
    · exact h
theorem ldF_one (y : Nat) : ∀ f n, ldF y f n < n + f → y / 2 ^ (63 - ldF y f n) % 2 = 1 := by
  intro f
  induction f with
  | zero => intro n h; simp [ldF] at h
  | succ f ih =>
    intro n h
    unfold ldF at h ⊢
    split
    · rename_i h0
      rw [if_pos h0] at h
      exact ih (n + 1) (by omega)
    · omega
theorem trF_mod (y : Nat) : ∀ f n, y % 2 ^ n = 0 → y % 2 ^ (trF y f n) = 0 := by
  intro f
  induction f with
  | zero => intro n h; simpa [trF] using h
  | succ f ih =>
    intro n h
    unfold trF
    split
    · rename_i h0
      refine ih (n + 1) ?_
      rw [Nat.pow_succ, Nat.mod_mul, h, h0]; simp
    · exact h
theorem trF_one (y : Nat) : ∀ f n, trF y f n < n + f → y / 2 ^ (trF y f n) % 2 = 1 := by
  intro f
  induction f with
  | zero => intro n h; simp [trF] at h
  | succ f ih =>
    intro n h
    unfold trF at h ⊢
    split
    · rename_i h0
      rw [if_pos h0] at h
      exact ih (n + 1) (by omega)
    · omega
theorem p64 : (2 : Nat) ^ 64 = 18446744073709551616 := by decide
theorem lead_lt (y : Nat) (h : lt64 y) : y < 2 ^ (64 - lead y) := ldF_lt y 31 0 (by omega) (by rw [Nat.sub_zero, p64]; exact h)
theorem trail_mod (y : Nat) : y % 2 ^ trail y = 0 := trF_mod y 64 0 (by simp [Nat.mod_one])
theorem both_le (y : Nat) (h : lt64 y) (h0 : y ≠ 0) : lead y + trail y ≤ 63 := by
  have h1 := lead_lt y h
  have h2 := trail_mod y
  have h3 : 2 ^ trail y ≤ y := Nat.le_of_dvd (by omega) (Nat.dvd_of_mod_eq_zero h2)
  have h4 : (2 : Nat) ^ trail y < 2 ^ (64 - lead y) := by omega
  have h5 := (Nat.pow_lt_pow_iff_right (a := 2) (by omega)).1 h4
  have := lead_le y
  omega
/-- by the place of its first bit 1 -/
theorem lead_of (y L : Nat) (hL : L ≤ 64) (h1 : y < 2 ^ L) (h2 : 2 ^ L ≤ 2 * y) (h0 : y ≠ 0) : lead y = min (64 - L) 31 := by
  have hy : lt64 y := by
    have : (2 : Nat) ^ L ≤ 2 ^ 64 := Nat.pow_le_pow_right (by omega) hL
    unfold lt64; rw [p64] at this; omega
  have h3 := lead_lt y hy
  have hle := lead_le y
  by_cases h31 : lead y = 31
  · rw [h31] at h3
    have h4 : (2 : Nat) ^ L < 2 ^ (64 - 31 + 1) := by rw [Nat.pow_succ]; omega
    have h5 := (Nat.pow_lt_pow_iff_right (a := 2) (by omega)).1 h4
    omega
  · have h4 := ldF_one y 31 0 (by have : lead y < 31 := by omega
                                  simpa [lead] using this)
    have h5 : 2 ^ (63 - lead y) ≤ y := by
      rcases Nat.lt_or_ge y (2 ^ (63 - lead y)) with hlt | hge
      · have : y / 2 ^ (63 - lead y) = 0 := Nat.div_eq_of_lt hlt
        unfold lead at this
        rw [this] at h4; simp at h4
      · exact hge
    have h6 : (2 : Nat) ^ (63 - lead y) < 2 ^ L := by omega
    have h7 := (Nat.pow_lt_pow_iff_right (a := 2) (by omega)).1 h6
    have h8 : (2 : Nat) ^ L < 2 ^ (64 - lead y + 1) := by rw [Nat.pow_succ]; omega
    have h9 := (Nat.pow_lt_pow_iff_right (a := 2) (by omega)).1 h8
    omega
theorem even_div {y k : Nat} (h : 2 ^ (k + 1) ∣ y) : y / 2 ^ k % 2 = 0 := by
  obtain ⟨q, rfl⟩ := h
  rw [Nat.pow_succ, Nat.mul_assoc, Nat.mul_div_cancel_left _ (Nat.two_pow_pos _)]
  omega
/-- by the place of its last bit 1 -/
theorem trail_of (y k : Nat) (hk : k < 64) (h1 : y % 2 ^ k = 0) (h2 : y / 2 ^ k % 2 = 1) : trail y = k := by
  have h3 := trail_mod y
  have h3' : 2 ^ trail y ∣ y := Nat.dvd_of_mod_eq_zero h3
  rcases Nat.lt_trichotomy (trail y) k with h | h | h
  · have h4 := trF_one y 64 0 (by have := h; unfold trail at this; omega)
    have h5 : 2 ^ (trail y + 1) ∣ y := Nat.dvd_trans (Nat.pow_dvd_pow 2 (by omega)) (Nat.dvd_of_mod_eq_zero h1)
    have h6 : y / 2 ^ trail y % 2 = 0 := by
      exact even_div h5
    unfold trail at h6
    omega
  · exact h
  · have h5 : 2 ^ (k + 1) ∣ y := Nat.dvd_trans (Nat.pow_dvd_pow 2 (by omega)) h3'
    have h6 : y / 2 ^ k % 2 = 0 := by
      exact even_div h5
    omega

/-! ### the bits -/
/-- the window of a value's bits: how many lie ahead of it, and behind it *-/
abbrev Win := Option (Nat × Nat)
def WinOk (w : Win) : Prop := ∀ a b, w = some (a, b) → a + b ≤ 63
def timeB (x : Int) : List Bool :=
  if x = 0 then bitsOf 0 1
  else if -63 ≤ x ∧ x ≤ 64 then bitsOf 2 2 ++ bitsOf (x + 63).toNat 7
  else if -255 ≤ x ∧ x ≤ 256 then bitsOf 6 3 ++ bitsOf (x + 255).toNat 9
  else if -2047 ≤ x ∧ x ≤ 2048 then bitsOf 14 4 ++ bitsOf (x + 2047).toNat 12
  else bitsOf 15 4 ++ bitsOf (x % 18446744073709551616).toNat 64
def fitB (w : Win) (y : Nat) : Bool := match w with
  | none => false
  | some (a, b) => decide (a ≤ lead y) && decide (b ≤ trail y)
def newB (y : Nat) : List Bool := bitsOf 3 2 ++ bitsOf (lead y) 5 ++ bitsOf (63 - lead y - trail y) 6 ++ bitsOf (y / 2 ^ trail y) (64 - lead y - trail y)
def oldB (w : Win) (y : Nat) : List Bool := match w with
  | none => []
  | some (a, b) => bitsOf 2 2 ++ bitsOf (y / 2 ^ b) (64 - a - b)
def valB (w : Win) (y : Nat) : List Bool := if y = 0 then bitsOf 0 1 else if fitB w y then oldB w y else newB y
def valW (w : Win) (y : Nat) : Win := if y = 0 then w else if fitB w y then w else some (lead y, trail y)
def restB (t d : Int) (v s : Nat) (a b : Win) : List Pt → List Bool
  | [] => []
  | p :: l => (timeB (p.1 - t - d) ++ valB a (p.2.1.toNat ^^^ v) ++ valB b (p.2.2.toNat ^^^ s)) ++ restB p.1 (p.1 - t) p.2.1.toNat p.2.2.toNat (valW a (p.2.1.toNat ^^^ v)) (valW b (p.2.2.toNat ^^^ s)) l
def bitsP : List Pt → List Bool
  | [] => []
  | p :: l => (bitsOf p.1.toNat 64 ++ bitsOf p.2.1.toNat 64 ++ bitsOf p.2.2.toNat 64) ++ restB p.1 0 p.2.1.toNat p.2.2.toNat none none l
def encP (l : List Pt) : List UInt8 := uvs.uv l.length ++ pack (bitsP l)

theorem timeB_len (x : Int) : 1 ≤ (timeB x).length ∧ (timeB x).length ≤ 68 := by
  unfold timeB
  repeat' split
  all_goals simp [bitsOf_len]
theorem valB_len (w : Win) (y : Nat) (hw : WinOk w) (hy : lt64 y) : 1 ≤ (valB w y).length ∧ (valB w y).length ≤ 77 := by
  unfold valB
  split
  · simp [bitsOf_len]
  · rename_i h0
    have h := both_le y hy h0
    split
    · cases w with
      | none => simp [fitB] at *
      | some w => obtain ⟨a, b⟩ := w; simp only [oldB, List.length_append, bitsOf_len]; omega
    · simp only [newB, List.length_append, bitsOf_len]; omega
theorem valW_ok (w : Win) (y : Nat) (hw : WinOk w) (hy : lt64 y) : WinOk (valW w y) := by
  unfold valW
  split
  · exact hw
  · rename_i h0
    split
    · exact hw
    · intro a b e
      cases e
      exact both_le y hy h0
theorem xor_lt (a b : Nat) (ha : lt64 a) (hb : lt64 b) : lt64 (a ^^^ b) := by
  unfold lt64 at *
  rw [← p64] at *
  exact Nat.xor_lt_two_pow ha hb
theorem fit_v {x : Pt} (h : FitP x) : lt64 x.2.1.toNat ∧ lt64 x.2.2.toNat := by
  obtain ⟨_, ⟨h1, h2⟩, h3, h4⟩ := h
  unfold lt64
  omega
theorem restB_len (l : List Pt) : ∀ t d v s a b, (∀ x ∈ l, FitP x) → lt64 v → lt64 s → WinOk a → WinOk b → (restB t d v s a b l).length ≤ 222 * l.length := by
  induction l with
  | nil => intros; simp [restB]
  | cons p l ih =>
    intro t d v s a b hf hv hs ha hb
    have hp := fit_v (hf p (by simp))
    have h1 := timeB_len (p.1 - t - d)
    have h2 := valB_len a (p.2.1.toNat ^^^ v) ha (xor_lt _ _ hp.1 hv)
    have h3 := valB_len b (p.2.2.toNat ^^^ s) hb (xor_lt _ _ hp.2 hs)
    have h4 := ih p.1 (p.1 - t) p.2.1.toNat p.2.2.toNat (valW a (p.2.1.toNat ^^^ v)) (valW b (p.2.2.toNat ^^^ s)) (fun x hx => hf x (by simp [hx])) hp.1 hp.2 (valW_ok _ _ ha (xor_lt _ _ hp.1 hv)) (valW_ok _ _ hb (xor_lt _ _ hp.2 hs))
    simp only [restB, List.length_append, List.length_cons]
    omega
theorem win0 : WinOk none := fun _ _ e => by cases e
theorem bitsP_len (l : List Pt) (hf : ∀ x ∈ l, FitP x) : (bitsP l).length ≤ 222 * l.length := by
  cases l with
  | nil => simp [bitsP]
  | cons p l =>
    have hp := fit_v (hf p (by simp))
    have h4 := restB_len l p.1 0 p.2.1.toNat p.2.2.toNat none none (fun x hx => hf x (by simp [hx])) hp.1 hp.2 win0 win0
    simp only [bitsP, List.length_append, bitsOf_len, List.length_cons]
    omega
end Go.Proofs.YtknjejejkgihbaaDoor.ts
