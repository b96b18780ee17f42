/-
  The log's files: their names and numbers, what they tell: mathematics, nothing of the program.
-/
import Derived.Test.YtmegkemileailaaGreatDoorCl
import Derived.Test.YtmegkemileailaaGreatDoorAl
import Derived.Lib.Atoi
import Derived.Lib.ItoaNum
import Derived.Lib.ItoaMem
namespace Go.Proofs.YtmegkemileailaaGreatDoor.lg
open al cl uvs

/-! ### numerals -/
theorem decFrom_app (a b : By) : ∀ acc n, Lib.decFrom acc a = some n → Lib.decFrom acc (a ++ b) = Lib.decFrom n b := by
  induction a with
  | nil => intro acc n h; simp [Lib.decFrom] at h; subst h; rfl
  | cons x a ih =>
    intro acc n h
    simp only [Lib.decFrom, List.cons_append] at h ⊢
    cases hx : Lib.digitVal x with
    | none => rw [hx] at h; simp at h
    | some d => rw [hx] at h; simp only at h ⊢; exact ih _ _ h
theorem digitVal_of {d : Nat} (h : d < 10) : Lib.digitVal (UInt8.ofNat (48 + d)) = some d := by
  have e : (UInt8.ofNat (48 + d)).toNat = 48 + d := ofNat_lt _ (by omega)
  unfold Lib.digitVal
  rw [e, if_pos (by omega)]
  congr 1; omega
theorem decFrom_dig : ∀ n, Lib.decFrom 0 (Lib.decDigits n) = some n := by
  intro n
  induction n using Nat.strongRecOn with
  | _ n ih =>
    rw [Lib.decDigits]
    by_cases h : n < 10
    · rw [dif_pos h]
      simp only [Lib.decFrom, digitVal_of h]
      congr 1; omega
    · rw [dif_neg h, decFrom_app _ _ _ _ (ih (n / 10) (by omega))]
      simp only [Lib.decFrom, digitVal_of (show n % 10 < 10 by omega)]
      congr 1; omega
theorem dig_ne (n : Nat) : Lib.decDigits n ≠ [] := by
  intro e
  have := Lib.decDigits_length n
  rw [e] at this
  have := Lib.nDigits_pos n
  simp at *
  omega
theorem dig_first (n : Nat) : ∃ b r, Lib.decDigits n = b :: r ∧ 48 ≤ b.toNat ∧ b.toNat ≤ 57 := by
  obtain ⟨b, r, e⟩ := List.exists_cons_of_ne_nil (dig_ne n)
  obtain ⟨d, hd⟩ := Lib.digit_of_decFrom _ _ _ (decFrom_dig n) 0 b (by rw [e]; rfl)
  refine ⟨b, r, e, ?_⟩
  unfold Lib.digitVal at hd
  split at hd
  · assumption
  · cases hd
theorem atoi_dig (n : Nat) : Lib.atoi (Lib.decDigits n) = some (n : Int) := by
  obtain ⟨b, r, e, h1, h2⟩ := dig_first n
  have hd := decFrom_dig n
  rw [e] at hd ⊢
  unfold Lib.atoi
  have n1 : (b == 45) = false := by
    rw [beq_eq_false_iff_ne]; intro e; rw [e] at h1; revert h1; decide
  have n2 : (b == 43) = false := by
    rw [beq_eq_false_iff_ne]; intro e; rw [e] at h1; revert h1; decide
  simp only [n1, n2, Bool.false_eq_true, if_false, Lib.decNat, List.isEmpty_cons, hd]
  rfl
theorem dig_inj {m n : Nat} (h : Lib.decDigits m = Lib.decDigits n) : m = n := by
  have a := decFrom_dig m
  rw [h, decFrom_dig n] at a
  cases a; rfl
theorem ndig_le {n k : Nat} (h : n < 10 ^ k) (hk : 1 ≤ k) : Lib.nDigits n ≤ k := by
  induction k generalizing n with
  | zero => omega
  | succ k ih =>
    by_cases h10 : n < 10
    · rw [Lib.nDigits_small h10]; omega
    · rw [Lib.nDigits_big h10]
      have hk1 : 1 ≤ k := by
        rcases k with _ | k
        · simp at h; omega
        · omega
      have := ih (n := n / 10) (by rw [Nat.pow_succ] at h; omega) hk1
      omega
theorem ndig_lt {n k : Nat} (h : Lib.nDigits n ≤ k) : n < 10 ^ k := Nat.lt_of_lt_of_le (Lib.lt_pow_nDigits n) (Nat.pow_le_pow_right (by decide) h)

/-! ### names -/
def pre : By := [108, 111, 103, 45]
/-- the name of a number's file -/
def lname (n : Nat) : By := pre ++ Lib.decDigits n
theorem lname_inj {m n : Nat} (h : lname m = lname n) : m = n := dig_inj (List.append_cancel_left h)
theorem lname_len (n : Nat) : (lname n).length = 4 + Lib.nDigits n := by unfold lname; rw [List.length_append, Lib.decDigits_length]; rfl
/-- the number of a file's name, as the program finds it -/
def numOf (s : By) : Option Nat :=
  if s.take 4 = pre then
    if 9 < (s.drop 4).length then none else match Lib.atoi (s.drop 4) with
      | none => none
      | some n => if n < 1 then none else if lname n.toNat = s then some n.toNat else none
  else none
theorem numOf_some {s : By} {n : Nat} (h : numOf s = some n) : s = lname n ∧ 1 ≤ n ∧ n < 1000000000 := by
  unfold numOf at h
  split at h
  · split at h
    · cases h
    · rename_i hl
      split at h
      · cases h
      · rename_i m hm
        split at h
        · cases h
        · split at h
          · rename_i e
            cases h
            refine ⟨e.symm, by omega, ?_⟩
            have := lname_len m.toNat
            rw [e] at this
            have h4 : (s.drop 4).length = s.length - 4 := List.length_drop
            exact ndig_lt (k := 9) (by omega)
          · cases h
  · cases h
theorem numOf_name {n : Nat} (h1 : 1 ≤ n) (h2 : n < 1000000000) : numOf (lname n) = some n := by
  unfold numOf
  have e1 : (lname n).take 4 = pre := by unfold lname; rw [List.take_append_of_le_length (by decide)]; rfl
  have e2 : (lname n).drop 4 = Lib.decDigits n := by unfold lname; exact List.drop_left (l₁ := pre)
  have := ndig_le (n := n) (k := 9) (by simpa using h2) (by decide)
  rw [if_pos e1, e2, if_neg (by rw [Lib.decDigits_length]; omega), atoi_dig]
  show (if (n : Int) < 1 then none else if lname (n : Int).toNat = lname n then some (n : Int).toNat else none) = some n
  rw [if_neg (by omega), Int.toNat_natCast, if_pos rfl]
theorem numOf_iff {s : By} {n : Nat} : numOf s = some n ↔ s = lname n ∧ 1 ≤ n ∧ n < 1000000000 :=
  ⟨numOf_some, fun ⟨e, h1, h2⟩ => e ▸ numOf_name h1 h2⟩

/-! ### what files tell -/
/-- the numbers of the log's files, rising -/
def nums (fs : AL By) : List Nat := (fs.filterMap fun p => numOf p.1).mergeSort
def told (fs : AL By) : List Rec := (nums fs).flatMap fun n => (dec ((get fs (lname n)).getD [])).1
/-- fs are the files of a log: by rising numbers below m -/
structure Files (fs : AL By) (gs : List (Nat × By)) : Prop where
  srt : Srt fs
  up : gs.Pairwise fun p q => p.1 < q.1
  pos : ∀ p ∈ gs, 1 ≤ p.1 ∧ p.1 < 1000000000
  is : ∀ q s, get fs q = some s ↔ ∃ n, (n, s) ∈ gs ∧ q = lname n
theorem Files.nil : Files [] [] := ⟨.nil, .nil, fun p h => by (cases h), fun q s => ⟨fun h => (by cases h), fun ⟨n, h, _⟩ => (by cases h)⟩⟩
theorem Files.at {fs : AL By} {gs : List (Nat × By)} (h : Files fs gs) {n : Nat} {s : By} (hm : (n, s) ∈ gs) : get fs (lname n) = some s := (h.is _ _).2 ⟨n, hm, rfl⟩
theorem Files.none {fs : AL By} {gs : List (Nat × By)} (h : Files fs gs) {n : Nat} (hm : ∀ p ∈ gs, p.1 ≠ n) : get fs (lname n) = none := by
  cases hg : get fs (lname n) with
  | none => rfl
  | some s =>
    obtain ⟨m, h1, h2⟩ := (h.is _ _).1 hg
    exact absurd (lname_inj h2).symm (hm _ h1)
theorem pw_ext {l m : List Nat} (hl : l.Pairwise (· < ·)) (hm : m.Pairwise (· < ·)) (h : ∀ x, x ∈ l ↔ x ∈ m) : l = m := by
  induction l generalizing m with
  | nil =>
    cases m with
    | nil => rfl
    | cons y m => exact absurd ((h y).2 (by simp)) (by simp)
  | cons x l ih =>
    cases m with
    | nil => exact absurd ((h x).1 (by simp)) (by simp)
    | cons y m =>
      obtain ⟨h1, h2⟩ := List.pairwise_cons.1 hl
      obtain ⟨k1, k2⟩ := List.pairwise_cons.1 hm
      have hxy : x = y := by
        rcases List.mem_cons.1 ((h x).1 (by simp)) with e | e
        · exact e
        · rcases List.mem_cons.1 ((h y).2 (by simp)) with f | f
          · exact f.symm
          · have := k1 _ e; have := h1 _ f; omega
      subst hxy
      congr 1
      refine ih h2 k2 fun z => ⟨fun hz => ?_, fun hz => ?_⟩
      · rcases List.mem_cons.1 ((h z).1 (by simp [hz])) with e | e
        · subst e; have := h1 _ hz; omega
        · exact e
      · rcases List.mem_cons.1 ((h z).2 (by simp [hz])) with e | e
        · subst e; have := k1 _ hz; omega
        · exact e
theorem nums_mem {fs : AL By} {n : Nat} : n ∈ nums fs ↔ ∃ p ∈ fs, numOf p.1 = some n := by
  unfold nums
  rw [List.mem_mergeSort, List.mem_filterMap]
theorem srt_inj {fs : AL By} (hs : Srt fs) : fs.Pairwise fun p q => p.1 ≠ q.1 := by
  refine hs.imp ?_
  intro p q h
  exact nm_ne h
theorem nums_pw {fs : AL By} (hs : Srt fs) : (nums fs).Pairwise (· < ·) := by
  unfold nums
  have h1 : ((fs.filterMap fun p => numOf p.1).mergeSort).Pairwise fun a b => (decide (a ≤ b)) = true :=
    List.pairwise_mergeSort (fun a b c h1 h2 => by simp at *; omega) (fun a b => by simp; omega) _
  have h2 : ((fs.filterMap fun p => numOf p.1).mergeSort).Pairwise (· ≠ ·) := by
    refine (List.mergeSort_perm _ _).symm.pairwise_iff (fun h => h.symm) |>.1 ?_
    rw [List.pairwise_filterMap]
    refine (srt_inj hs).imp ?_
    intro p q h a ha b hb e
    subst e
    exact h ((numOf_some ha).1.trans (numOf_some hb).1.symm)
  exact (h1.and h2).imp fun ⟨a, b⟩ => by simp at a; omega
theorem Files.nums {fs : AL By} {gs : List (Nat × By)} (h : Files fs gs) : nums fs = gs.map (·.1) := by
  refine pw_ext (nums_pw h.srt) (by rw [List.pairwise_map]; exact h.up) fun n => ?_
  rw [nums_mem, List.mem_map]
  constructor
  · rintro ⟨p, hp, hn⟩
    obtain ⟨m, h1, h2⟩ := (h.is p.1 p.2).1 (get_mem h.srt hp)
    obtain ⟨e, _⟩ := numOf_some hn
    rw [e] at h2
    exact ⟨_, h1, (lname_inj h2).symm⟩
  · rintro ⟨p, hp, rfl⟩
    refine ⟨(lname p.1, p.2), mem_get (h.at hp), numOf_name (h.pos p hp).1 (h.pos p hp).2⟩
theorem Files.told {fs : AL By} {gs : List (Nat × By)} (h : Files fs gs) : told fs = gs.flatMap fun p => (dec p.2).1 := by
  unfold lg.told
  rw [h.nums]
  have key : ∀ l : List (Nat × By), (∀ p ∈ l, p ∈ gs) → (l.map (·.1)).flatMap (fun n => (dec ((get fs (lname n)).getD [])).1) = l.flatMap fun p => (dec p.2).1 := by
    intro l
    induction l with
    | nil => intro _; rfl
    | cons p l ih =>
      intro hl
      rw [List.map_cons, List.flatMap_cons, List.flatMap_cons, ih (fun q hq => hl q (by simp [hq])), h.at (hl p (by simp))]
      rfl
  exact key gs fun p hp => hp
/-- a file with a number that is not below the others': written on -/
theorem Files.app {fs : AL By} {gs : List (Nat × By)} (h : Files fs gs) {n : Nat} (h1 : 1 ≤ n) (h2 : n < 1000000000) (hb : ∀ p ∈ gs, p.1 < n) (s : By) : Files (put fs (lname n) s) (gs ++ [(n, s)]) := by
  refine ⟨srt_put h.srt _ _, ?_, ?_, ?_⟩
  · rw [List.pairwise_append]
    exact ⟨h.up, by simp, fun p hp q hq => by simp at hq; subst hq; exact hb p hp⟩
  · intro p hp
    rcases List.mem_append.1 hp with e | e
    · exact h.pos p e
    · simp at e; subst e; exact ⟨h1, h2⟩
  · intro q t
    by_cases hq : q = lname n
    · subst hq
      rw [get_put_same]
      constructor
      · intro e; cases e; exact ⟨n, by simp, rfl⟩
      · rintro ⟨m, hm, e⟩
        have e := lname_inj e
        subst e
        rcases List.mem_append.1 hm with e | e
        · have := hb _ e; simp at this
        · simp at e; rw [e]
    · rw [get_put_other _ hq, h.is]
      constructor
      · rintro ⟨m, hm, e⟩; exact ⟨m, by simp [hm], e⟩
      · rintro ⟨m, hm, e⟩
        rcases List.mem_append.1 hm with f | f
        · exact ⟨m, f, e⟩
        · simp at f; exact absurd (f.1 ▸ e) hq
theorem Files.less {fs : AL By} {gs : List (Nat × By)} {n : Nat} {s : By} (h : Files fs (gs ++ [(n, s)])) (t : By) : Files (put fs (lname n) t) (gs ++ [(n, t)]) := by
  have hb : ∀ p ∈ gs, p.1 < n := fun p hp => (List.pairwise_append.1 h.up).2.2 p hp (n, s) (by simp)
  refine ⟨srt_put h.srt _ _, ?_, ?_, ?_⟩
  · rw [List.pairwise_append]
    exact ⟨(List.pairwise_append.1 h.up).1, by simp, fun p hp q hq => by simp at hq; subst hq; exact hb p hp⟩
  · intro p hp
    rcases List.mem_append.1 hp with e | e
    · exact h.pos p (by simp [e])
    · simp at e; subst e; exact h.pos (n, s) (by simp)
  · intro q u
    by_cases hq : q = lname n
    · subst hq
      rw [get_put_same]
      constructor
      · intro e; cases e; exact ⟨n, by simp, rfl⟩
      · rintro ⟨m, hm, e⟩
        have e := lname_inj e
        subst e
        rcases List.mem_append.1 hm with e | e
        · have := hb _ e; simp at this
        · simp at e; rw [e]
    · rw [get_put_other _ hq, h.is]
      constructor
      · rintro ⟨m, hm, e⟩
        rcases List.mem_append.1 hm with f | f
        · exact ⟨m, by simp [f], e⟩
        · simp at f; exact absurd (f.1 ▸ e) hq
      · rintro ⟨m, hm, e⟩
        rcases List.mem_append.1 hm with f | f
        · exact ⟨m, by simp [f], e⟩
        · simp at f; exact absurd (f.1 ▸ e) hq
end Go.Proofs.YtmegkemileailaaGreatDoor.lg
