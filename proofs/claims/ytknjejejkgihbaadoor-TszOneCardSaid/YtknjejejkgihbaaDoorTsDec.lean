/-
  Tsz: which bits are a list of points, as mathematics; what is laid down is read back.
-/
import Derived.Test.YtknjejejkgihbaaDoorTsMath
namespace Go.Proofs.YtknjejejkgihbaaDoor.ts
open Go.RowKit plain words bitm uvs

def w64 (x : Int) : Int := (x + 9223372036854775808) % 18446744073709551616 - 9223372036854775808
theorem w64_in {x : Int} (h : -9223372036854775808 ≤ x ∧ x ≤ 9223372036854775807) : w64 x = x := by unfold w64; omega
theorem w64_bd (x : Int) : -9223372036854775808 ≤ w64 x ∧ w64 x ≤ 9223372036854775807 := by unfold w64; omega
theorem w64_mod (x : Int) (h : -9223372036854775808 ≤ x ∧ x ≤ 9223372036854775807) : w64 (x % 18446744073709551616) = x := by unfold w64; omega

/-- so many bits as a number, and what is left -/
def gb (n : Nat) (X : List Bool) : Option (Nat × List Bool) := if n ≤ X.length then some (val (X.take n), X.drop n) else none
theorem gb_put (V n : Nat) (X : List Bool) (h : V < 2 ^ n) : gb n (bitsOf V n ++ X) = some (V, X) := by
  unfold gb
  rw [if_pos (by rw [List.length_append, bitsOf_len]; omega), List.take_append_of_le_length (by rw [bitsOf_len]; exact Nat.le_refl _), List.drop_append_of_le_length (by rw [bitsOf_len]; exact Nat.le_refl _), List.take_of_length_le (by rw [bitsOf_len]; exact Nat.le_refl _), List.drop_of_length_le (by rw [bitsOf_len]; exact Nat.le_refl _), val_bitsOf, Nat.mod_eq_of_lt h, List.nil_append]
theorem gb_app {n : Nat} {X Y : List Bool} {V : Nat} {X' : List Bool} (h : gb n X = some (V, X')) : gb n (X ++ Y) = some (V, X' ++ Y) := by
  unfold gb at h ⊢
  split at h
  · rename_i hn
    injection h with h
    injection h with h1 h2
    rw [if_pos (by rw [List.length_append]; omega), List.take_append_of_le_length hn, List.drop_append_of_le_length hn, h1, h2]
  · cases h
theorem gb_lt {n : Nat} {X : List Bool} {V : Nat} {X' : List Bool} (h : gb n X = some (V, X')) : V < 2 ^ n := by
  unfold gb at h
  split at h
  · injection h with h
    injection h with h1 h2
    rw [← h1]
    refine Nat.lt_of_lt_of_le (val_lt _) (Nat.pow_le_pow_right (by omega) ?_)
    rw [List.length_take]; omega
  · cases h
theorem gb_len {n : Nat} {X : List Bool} {V : Nat} {X' : List Bool} (h : gb n X = some (V, X')) : X'.length + n = X.length := by
  unfold gb at h
  split at h
  · injection h with h
    injection h with h1 h2
    rw [← h2, List.length_drop]; omega
  · cases h

def dTime (X : List Bool) : Option (Int × List Bool) :=
  (gb 1 X).bind fun (b, X) => if b = 0 then some (0, X) else
  (gb 1 X).bind fun (b, X) => if b = 0 then (gb 7 X).map fun (v, X) => ((v : Int) - 63, X) else
  (gb 1 X).bind fun (b, X) => if b = 0 then (gb 9 X).map fun (v, X) => ((v : Int) - 255, X) else
  (gb 1 X).bind fun (b, X) => if b = 0 then (gb 12 X).map fun (v, X) => ((v : Int) - 2047, X) else
  (gb 64 X).map fun (v, X) => (w64 v, X)
def dWin (w : Win) (X : List Bool) : Option (Nat × Win × List Bool) := match w with
  | none => none
  | some (a, b) => (gb (64 - a - b) X).map fun (v, X) => (v * 2 ^ b, some (a, b), X)
def dVal (w : Win) (X : List Bool) : Option (Nat × Win × List Bool) :=
  (gb 1 X).bind fun (b, X) => if b = 0 then some (0, w, X) else
  (gb 1 X).bind fun (b, X) => if b = 0 then dWin w X else
  (gb 5 X).bind fun (a, X) => (gb 6 X).bind fun (n, X) => if a + n ≤ 63 then dWin (some (a, 63 - a - n)) X else none
def dRest (t d : Int) (v s : Nat) (a b : Win) : Nat → List Bool → Option (List Pt × List Bool)
  | 0, X => some ([], X)
  | n + 1, X =>
    (dTime X).bind fun (x, X) => (dVal a X).bind fun (y, a, X) => (dVal b X).bind fun (z, b, X) =>
      (dRest (w64 (t + w64 (d + x))) (w64 (d + x)) (v ^^^ y) (s ^^^ z) a b n X).map fun (l, X) => ((w64 (t + w64 (d + x)), ((v ^^^ y : Nat) : Int), ((s ^^^ z : Nat) : Int)) :: l, X)
def dPts : Nat → List Bool → Option (List Pt × List Bool)
  | 0, X => some ([], X)
  | n + 1, X =>
    (gb 64 X).bind fun (t, X) => (gb 64 X).bind fun (v, X) => (gb 64 X).bind fun (s, X) =>
      (dRest (w64 t) 0 v s none none n X).map fun (l, X) => ((w64 t, (v : Int), (s : Int)) :: l, X)

theorem dTime_put (x : Int) (hx : -9223372036854775808 ≤ x ∧ x ≤ 9223372036854775807) (X : List Bool) : dTime (timeB x ++ X) = some (x, X) := by
  have g1 : ∀ b r, b < 2 → gb 1 (bitsOf b 1 ++ r) = some (b, r) := fun b r hb => gb_put b 1 r (by omega)
  have s2 : bitsOf 2 2 = bitsOf 1 1 ++ bitsOf 0 1 := by decide
  have s6 : bitsOf 6 3 = bitsOf 1 1 ++ (bitsOf 1 1 ++ bitsOf 0 1) := by decide
  have s14 : bitsOf 14 4 = bitsOf 1 1 ++ (bitsOf 1 1 ++ (bitsOf 1 1 ++ bitsOf 0 1)) := by decide
  have s15 : bitsOf 15 4 = bitsOf 1 1 ++ (bitsOf 1 1 ++ (bitsOf 1 1 ++ bitsOf 1 1)) := by decide
  unfold timeB dTime
  split
  · rename_i h; rw [g1 0 _ (by omega)]; simp [h]
  · split
    · rename_i h0 h
      rw [s2]
      simp only [List.append_assoc]
      rw [g1 1 _ (by omega)]
      simp only [Option.bind_some, Nat.one_ne_zero, if_false, g1 0 _ (show 0 < 2 by omega), if_true]
      rw [gb_put _ 7 _ (by omega)]
      simp only [Option.map_some]
      congr 2; omega
    · split
      · rename_i h0 h1 h
        rw [s6]
        simp only [List.append_assoc]
        simp only [g1 1 _ (show 1 < 2 by omega), Option.bind_some, Nat.one_ne_zero, if_false, g1 0 _ (show 0 < 2 by omega), if_true]
        rw [gb_put _ 9 _ (by omega)]
        simp only [Option.map_some]
        congr 2; omega
      · split
        · rename_i h0 h1 h2 h
          rw [s14]
          simp only [List.append_assoc]
          simp only [g1 1 _ (show 1 < 2 by omega), Option.bind_some, Nat.one_ne_zero, if_false, g1 0 _ (show 0 < 2 by omega), if_true]
          rw [gb_put _ 12 _ (by omega)]
          simp only [Option.map_some]
          congr 2; omega
        · rw [s15]
          simp only [List.append_assoc]
          simp only [g1 1 _ (show 1 < 2 by omega), Option.bind_some, Nat.one_ne_zero, if_false]
          rw [gb_put _ 64 _ (by rw [p64]; omega)]
          simp only [Option.map_some]
          have e1 : w64 (((x % 18446744073709551616).toNat : Nat) : Int) = x := by
            rw [show (((x % 18446744073709551616).toNat : Nat) : Int) = x % 18446744073709551616 from by omega]
            exact w64_mod x hx
          rw [e1]
theorem mod_div_mul {y b : Nat} (h : y % 2 ^ b = 0) : y / 2 ^ b * 2 ^ b = y := Nat.div_mul_cancel (Nat.dvd_of_mod_eq_zero h)
theorem div_fits {y a b : Nat} (h : y < 2 ^ (64 - a)) (hab : a + b ≤ 63) : y / 2 ^ b < 2 ^ (64 - a - b) := by
  refine Nat.div_lt_of_lt_mul ?_
  rw [← Nat.pow_add]
  rwa [show b + (64 - a - b) = 64 - a from by omega]
theorem dVal_put (w : Win) (hw : WinOk w) (y : Nat) (hy : lt64 y) (X : List Bool) : dVal w (valB w y ++ X) = some (y, valW w y, X) := by
  have g1 : ∀ b r, b < 2 → gb 1 (bitsOf b 1 ++ r) = some (b, r) := fun b r hb => gb_put b 1 r (by omega)
  have s2 : bitsOf 2 2 = bitsOf 1 1 ++ bitsOf 0 1 := by decide
  have s3 : bitsOf 3 2 = bitsOf 1 1 ++ bitsOf 1 1 := by decide
  unfold valB valW dVal
  by_cases h0 : y = 0
  · rw [if_pos h0, if_pos h0, g1 0 _ (by omega)]; simp [h0]
  · rw [if_neg h0, if_neg h0]
    have hb := both_le y hy h0
    have hl := lead_lt y hy
    by_cases hf : fitB w y = true
    · rw [if_pos hf, if_pos hf]
      cases w with
      | none => simp [fitB] at hf
      | some w =>
        obtain ⟨a, b⟩ := w
        simp only [fitB, Bool.and_eq_true, decide_eq_true_eq] at hf
        have hab := hw a b rfl
        simp only [oldB, s2, List.append_assoc]
        simp only [g1 1 _ (show 1 < 2 by omega), Option.bind_some, Nat.one_ne_zero, if_false, g1 0 _ (show 0 < 2 by omega), if_true]
        unfold dWin
        have h3 : y % 2 ^ b = 0 := Nat.mod_eq_zero_of_dvd (Nat.dvd_trans (Nat.pow_dvd_pow 2 hf.2) (Nat.dvd_of_mod_eq_zero (trail_mod y)))
        have h4 : y < 2 ^ (64 - a) := Nat.lt_of_lt_of_le hl (Nat.pow_le_pow_right (by omega) (by omega))
        simp only
        rw [gb_put _ _ _ (div_fits h4 hab)]
        simp only [Option.map_some]
        rw [mod_div_mul h3]
    · rw [if_neg hf, if_neg hf]
      have hle := lead_le y
      simp only [newB, s3, List.append_assoc]
      simp only [g1 1 _ (show 1 < 2 by omega), Option.bind_some, Nat.one_ne_zero, if_false]
      rw [gb_put _ 5 _ (by omega)]
      simp only [Option.bind_some]
      rw [gb_put _ 6 _ (by omega)]
      simp only [Option.bind_some]
      rw [if_pos (by omega)]
      unfold dWin
      simp only
      have e : 63 - lead y - (63 - lead y - trail y) = trail y := by omega
      rw [e, gb_put _ _ _ (div_fits hl (by omega))]
      simp only [Option.map_some]
      rw [mod_div_mul (trail_mod y)]
/-- points that may follow -/
def Goes : Int → List Pt → Prop
  | _, [] => True
  | t, p :: l => t < p.1 ∧ p.1 ≤ 1099511627776 ∧ Goes p.1 l
theorem xor_back (a b : Nat) : a ^^^ (b ^^^ a) = b := by rw [Nat.xor_comm b a, ← Nat.xor_assoc, Nat.xor_self, Nat.zero_xor]
theorem dRest_put (l : List Pt) : ∀ t d v s a b X, (∀ x ∈ l, FitP x) → Goes t l → 0 ≤ t → t ≤ 1099511627776 → 0 ≤ d → d ≤ 1099511627776 → lt64 v → lt64 s → WinOk a → WinOk b → dRest t d v s a b l.length (restB t d v s a b l ++ X) = some (l, X) := by
  induction l with
  | nil => intros; rfl
  | cons p l ih =>
    intro t d v s a b X hf hg ht0 ht1 hd0 hd1 hv hs ha hb
    obtain ⟨g1, g2, g3⟩ := hg
    have hp := fit_v (hf p (by simp))
    have hp' := hf p (by simp)
    simp only [List.length_cons, dRest, restB, List.append_assoc]
    rw [dTime_put _ (by omega)]
    simp only [Option.bind_some]
    rw [dVal_put a ha _ (xor_lt _ _ hp.1 hv)]
    simp only [Option.bind_some]
    rw [dVal_put b hb _ (xor_lt _ _ hp.2 hs)]
    simp only [Option.bind_some]
    rw [show d + (p.1 - t - d) = p.1 - t from by omega, w64_in (x := p.1 - t) (by omega), show t + (p.1 - t) = p.1 from by omega, w64_in (x := p.1) (by omega), xor_back, xor_back]
    rw [ih _ _ _ _ _ _ X (fun x hx => hf x (by simp [hx])) g3 (by omega) g2 (by omega) (by omega) hp.1 hp.2 (valW_ok _ _ ha (xor_lt _ _ hp.1 hv)) (valW_ok _ _ hb (xor_lt _ _ hp.2 hs))]
    simp only [Option.map_some]
    have e1 : ((p.2.1.toNat : Nat) : Int) = p.2.1 := by have := hp'.2.1.1; omega
    have e2 : ((p.2.2.toNat : Nat) : Int) = p.2.2 := by have := hp'.2.2.1; omega
    rw [e1, e2]
theorem goes_of (l : List Pt) : ∀ t, 0 ≤ t → ckF (some t) l = 0 → Goes t l := by
  induction l with
  | nil => intros; trivial
  | cons p l ih =>
    intro t ht h
    unfold ckF at h
    split at h
    · simp at h
    · split at h
      · simp at h
      · rename_i h1 h2
        simp only [lateB, decide_eq_true_eq] at h2
        exact ⟨by omega, by omega, ih _ (by omega) h⟩
theorem dPts_put (l : List Pt) (hf : ∀ x ∈ l, FitP x) (hc : checkP l = 0) (X : List Bool) : dPts l.length (bitsP l ++ X) = some (l, X) := by
  cases l with
  | nil => rfl
  | cons p l =>
    have hp := fit_v (hf p (by simp))
    have hp' := hf p (by simp)
    unfold checkP at hc
    split at hc
    · simp at hc
    · unfold ckF at hc
      split at hc
      · simp at hc
      · split at hc
        · simp at hc
        · rename_i h1 h2
          have hg := goes_of l p.1 (by omega) hc
          simp only [List.length_cons, dPts, bitsP, List.append_assoc]
          rw [gb_put _ 64 _ (by rw [p64]; omega)]
          simp only [Option.bind_some]
          rw [gb_put _ 64 _ (by rw [p64]; exact hp.1)]
          simp only [Option.bind_some]
          rw [gb_put _ 64 _ (by rw [p64]; exact hp.2)]
          simp only [Option.bind_some]
          have e0 : ((p.1.toNat : Nat) : Int) = p.1 := by omega
          have e1 : ((p.2.1.toNat : Nat) : Int) = p.2.1 := by have := hp'.2.1.1; omega
          have e2 : ((p.2.2.toNat : Nat) : Int) = p.2.2 := by have := hp'.2.2.1; omega
          rw [e0, w64_in (by omega), dRest_put l _ _ _ _ _ _ X (fun x hx => hf x (by simp [hx])) hg (by omega) (by omega) (by omega) (by omega) hp.1 hp.2 win0 win0]
          simp only [Option.map_some]
          rw [e1, e2]
/-! ### more bits behind -/
theorem dTime_app {X : List Bool} {x : Int} {X' : List Bool} (h : dTime X = some (x, X')) (Y : List Bool) : dTime (X ++ Y) = some (x, X' ++ Y) := by
  unfold dTime at h ⊢
  obtain ⟨⟨b, X1⟩, e1, h⟩ := Option.bind_eq_some_iff.1 h
  rw [gb_app e1]
  simp only [Option.bind_some] at h ⊢
  split at h
  · rename_i hb; rw [if_pos hb]; cases h; rfl
  · rename_i hb
    rw [if_neg hb]
    obtain ⟨⟨b, X2⟩, e2, h⟩ := Option.bind_eq_some_iff.1 h
    rw [gb_app e2]
    simp only [Option.bind_some] at h ⊢
    split at h
    · rename_i hb
      rw [if_pos hb]
      obtain ⟨⟨v, X3⟩, e3, h⟩ := Option.map_eq_some_iff.1 h
      rw [gb_app e3]; cases h; rfl
    · rename_i hb
      rw [if_neg hb]
      obtain ⟨⟨b, X3⟩, e3, h⟩ := Option.bind_eq_some_iff.1 h
      rw [gb_app e3]
      simp only [Option.bind_some] at h ⊢
      split at h
      · rename_i hb
        rw [if_pos hb]
        obtain ⟨⟨v, X4⟩, e4, h⟩ := Option.map_eq_some_iff.1 h
        rw [gb_app e4]; cases h; rfl
      · rename_i hb
        rw [if_neg hb]
        obtain ⟨⟨b, X4⟩, e4, h⟩ := Option.bind_eq_some_iff.1 h
        rw [gb_app e4]
        simp only [Option.bind_some] at h ⊢
        split at h
        · rename_i hb
          rw [if_pos hb]
          obtain ⟨⟨v, X5⟩, e5, h⟩ := Option.map_eq_some_iff.1 h
          rw [gb_app e5]; cases h; rfl
        · rename_i hb
          rw [if_neg hb]
          obtain ⟨⟨v, X5⟩, e5, h⟩ := Option.map_eq_some_iff.1 h
          rw [gb_app e5]
          simp only [Option.map_some]
          have h1 := congrArg Prod.fst h
          have h2 := congrArg Prod.snd h
          simp only at h1 h2
          rw [h1, h2]
theorem dWin_app {w : Win} {X : List Bool} {y : Nat} {w' : Win} {X' : List Bool} (h : dWin w X = some (y, w', X')) (Y : List Bool) : dWin w (X ++ Y) = some (y, w', X' ++ Y) := by
  unfold dWin at h ⊢
  cases w with
  | none => cases h
  | some w =>
    obtain ⟨a, b⟩ := w
    simp only at h ⊢
    obtain ⟨⟨v, X1⟩, e1, h⟩ := Option.map_eq_some_iff.1 h
    rw [gb_app e1]; cases h; rfl
theorem dVal_app {w : Win} {X : List Bool} {y : Nat} {w' : Win} {X' : List Bool} (h : dVal w X = some (y, w', X')) (Y : List Bool) : dVal w (X ++ Y) = some (y, w', X' ++ Y) := by
  unfold dVal at h ⊢
  obtain ⟨⟨b, X1⟩, e1, h⟩ := Option.bind_eq_some_iff.1 h
  rw [gb_app e1]
  simp only [Option.bind_some] at h ⊢
  split at h
  · rename_i hb; rw [if_pos hb]; cases h; rfl
  · rename_i hb
    rw [if_neg hb]
    obtain ⟨⟨b, X2⟩, e2, h⟩ := Option.bind_eq_some_iff.1 h
    rw [gb_app e2]
    simp only [Option.bind_some] at h ⊢
    split at h
    · rename_i hb; rw [if_pos hb]; exact dWin_app h Y
    · rename_i hb
      rw [if_neg hb]
      obtain ⟨⟨a, X3⟩, e3, h⟩ := Option.bind_eq_some_iff.1 h
      rw [gb_app e3]
      simp only [Option.bind_some] at h ⊢
      obtain ⟨⟨n, X4⟩, e4, h⟩ := Option.bind_eq_some_iff.1 h
      rw [gb_app e4]
      simp only [Option.bind_some] at h ⊢
      split at h
      · rename_i hb; rw [if_pos hb]; exact dWin_app h Y
      · cases h
theorem dRest_app (n : Nat) : ∀ t d v s a b X l X' (Y : List Bool), dRest t d v s a b n X = some (l, X') → dRest t d v s a b n (X ++ Y) = some (l, X' ++ Y) := by
  induction n with
  | zero => intro t d v s a b X l X' Y h; cases h; rfl
  | succ n ih =>
    intro t d v s a b X l X' Y h
    unfold dRest at h ⊢
    obtain ⟨⟨x, X1⟩, e1, h⟩ := Option.bind_eq_some_iff.1 h
    rw [dTime_app e1]
    simp only [Option.bind_some] at h ⊢
    obtain ⟨⟨y, a1, X2⟩, e2, h⟩ := Option.bind_eq_some_iff.1 h
    rw [dVal_app e2]
    simp only [Option.bind_some] at h ⊢
    obtain ⟨⟨z, b1, X3⟩, e3, h⟩ := Option.bind_eq_some_iff.1 h
    rw [dVal_app e3]
    simp only [Option.bind_some] at h ⊢
    obtain ⟨⟨l1, X4⟩, e4, h⟩ := Option.map_eq_some_iff.1 h
    rw [ih _ _ _ _ _ _ _ _ _ Y e4]
    cases h; rfl
theorem dPts_app (n : Nat) (X : List Bool) (l : List Pt) (X' Y : List Bool) (h : dPts n X = some (l, X')) : dPts n (X ++ Y) = some (l, X' ++ Y) := by
  cases n with
  | zero => cases h; rfl
  | succ n =>
    simp only [dPts] at h ⊢
    obtain ⟨⟨x, X1⟩, e1, h⟩ := Option.bind_eq_some_iff.1 h
    rw [gb_app e1]
    simp only [Option.bind_some] at h ⊢
    obtain ⟨⟨y, X2⟩, e2, h⟩ := Option.bind_eq_some_iff.1 h
    rw [gb_app e2]
    simp only [Option.bind_some] at h ⊢
    obtain ⟨⟨z, X3⟩, e3, h⟩ := Option.bind_eq_some_iff.1 h
    rw [gb_app e3]
    simp only [Option.bind_some] at h ⊢
    obtain ⟨⟨l1, X4⟩, e4, h⟩ := Option.map_eq_some_iff.1 h
    rw [dRest_app _ _ _ _ _ _ _ _ _ _ Y e4]
    cases h; rfl
end Go.Proofs.YtknjejejkgihbaaDoor.ts
