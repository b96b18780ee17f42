/-
  Sets of times as lists of ranges: the mathematics; nothing of the program.
-/
import Derived.Test.YtheanpcbjjogfaaPlain
namespace Go.Proofs.Ytheanpcbjjogfaa.rg

abbrev R := Int × Int
def hasR (l : List R) (t : Int) : Prop := ∃ r ∈ l, r.1 ≤ t ∧ t < r.2
/-- rising, none touching the next, all above b -/
def NFb : Int → List R → Prop
  | _, [] => True
  | b, r :: l => b < r.1 ∧ r.1 < r.2 ∧ NFb r.2 l
def NF (l : List R) : Prop := ∃ b, NFb b l
theorem NFb.mono {b b' : Int} {l : List R} (h : NFb b l) (hb : b' ≤ b) : NFb b' l := by
  cases l with
  | nil => trivial
  | cons r l => exact ⟨by have := h.1; omega, h.2⟩
theorem hasR_nil (t : Int) : ¬ hasR [] t := fun ⟨_, h, _⟩ => by simp at h
theorem hasR_cons (r : R) (l : List R) (t : Int) : hasR (r :: l) t ↔ (r.1 ≤ t ∧ t < r.2) ∨ hasR l t := by
  constructor
  · rintro ⟨x, hx, h⟩
    rcases List.mem_cons.1 hx with rfl | hx
    · exact .inl h
    · exact .inr ⟨x, hx, h⟩
  · rintro (h | ⟨x, hx, h⟩)
    · exact ⟨r, by simp, h⟩
    · exact ⟨x, by simp [hx], h⟩
theorem hasR_append (l m : List R) (t : Int) : hasR (l ++ m) t ↔ hasR l t ∨ hasR m t := by
  induction l with
  | nil => simp [hasR_nil]
  | cons r l ih => simp only [List.cons_append, hasR_cons, ih, or_assoc]
theorem NFb.low {b : Int} {l : List R} (h : NFb b l) {t : Int} (ht : hasR l t) : b < t := by
  induction l generalizing b with
  | nil => exact absurd ht (hasR_nil t)
  | cons r l ih =>
    rcases (hasR_cons r l t).1 ht with h1 | h1
    · have := h.1; omega
    · have := ih h.2.2 h1; have := h.1; have := h.2.1; omega
theorem NFb.ne {b : Int} {l : List R} (h : NFb b l) : ∀ r ∈ l, r.1 < r.2 := by
  induction l generalizing b with
  | nil => simp
  | cons x l ih =>
    intro r hr
    rcases List.mem_cons.1 hr with rfl | hr
    · exact h.2.1
    · exact ih h.2.2 r hr
theorem NFb.uniq {b : Int} {l m : List R} (hl : NFb b l) (hm : NFb b m) (h : ∀ t, hasR l t ↔ hasR m t) : l = m := by
  induction l generalizing b m with
  | nil =>
    cases m with
    | nil => rfl
    | cons s m => exact absurd ((h s.1).2 ((hasR_cons s m s.1).2 (.inl ⟨Int.le_refl _, hm.2.1⟩))) (hasR_nil _)
  | cons r l ih =>
    cases m with
    | nil => exact absurd ((h r.1).1 ((hasR_cons r l r.1).2 (.inl ⟨Int.le_refl _, hl.2.1⟩))) (hasR_nil _)
    | cons s m =>
      have lo : ∀ {r : R} {l : List R} {t : Int}, NFb r.2 l → r.1 < r.2 → hasR (r :: l) t → r.1 ≤ t := fun {r l t} h1 h2 h3 => by
        rcases (hasR_cons r l t).1 h3 with h4 | h4
        · exact h4.1
        · have := h1.low h4; omega
      have e1 : r.1 = s.1 := by
        have a := lo hm.2.2 hm.2.1 ((h r.1).1 ((hasR_cons r l r.1).2 (.inl ⟨Int.le_refl _, hl.2.1⟩)))
        have b := lo hl.2.2 hl.2.1 ((h s.1).2 ((hasR_cons s m s.1).2 (.inl ⟨Int.le_refl _, hm.2.1⟩)))
        omega
      have gap : ∀ {r : R} {l : List R}, NFb r.2 l → ¬ hasR (r :: l) r.2 := fun {r l} h1 h3 => by
        rcases (hasR_cons r l _).1 h3 with h4 | h4
        · omega
        · have := h1.low h4; omega
      have e2 : r.2 = s.2 := by
        rcases Int.lt_trichotomy r.2 s.2 with h1 | h1 | h1
        · exact absurd ((h r.2).2 ((hasR_cons s m r.2).2 (.inl ⟨by have := hl.2.1; omega, h1⟩))) (gap hl.2.2)
        · exact h1
        · exact absurd ((h s.2).1 ((hasR_cons r l s.2).2 (.inl ⟨by have := hm.2.1; omega, h1⟩))) (gap hm.2.2)
      have er : r = s := Prod.ext e1 e2
      subst er
      congr 1
      refine ih hl.2.2 hm.2.2 fun t => ?_
      have := h t
      simp only [hasR_cons] at this
      constructor
      · intro ht
        rcases this.1 (.inr ht) with h1 | h1
        · have := hl.2.2.low ht; omega
        · exact h1
      · intro ht
        rcases this.2 (.inr ht) with h1 | h1
        · have := hm.2.2.low ht; omega
        · exact h1
theorem NF.uniq {l m : List R} (hl : NF l) (hm : NF m) (h : ∀ t, hasR l t ↔ hasR m t) : l = m := by
  obtain ⟨b, hl⟩ := hl
  obtain ⟨c, hm⟩ := hm
  exact NFb.uniq (hl.mono (Int.min_le_left b c)) (hm.mono (Int.min_le_right b c)) h

/-! ### the document's -/
def eat : List R → R → List R
  | [], r => [r]
  | x :: l, r => if x.1 ≤ r.2 then eat l (min r.1 x.1, max r.2 x.2) else r :: x :: l
def addF : List R → R → List R
  | [], r => [r]
  | x :: l, r => if x.2 < r.1 then x :: addF l r else eat (x :: l) r
def addR (l : List R) (r : R) : List R := if r.2 ≤ r.1 then l else addF l r
theorem eat_nf (l : List R) (r : R) (b c : Int) (hl : NFb c l) (hbc : b ≤ c) (hb : b < r.1) (hr : r.1 < r.2) (hx : ∀ x ∈ l, r.1 ≤ x.2) :
    NFb b (eat l r) ∧ ∀ t, hasR (eat l r) t ↔ hasR l t ∨ (r.1 ≤ t ∧ t < r.2) := by
  induction l generalizing r c with
  | nil => exact ⟨⟨hb, hr, trivial⟩, fun t => by simp [eat, hasR_cons, hasR_nil]⟩
  | cons x l ih =>
    have hx0 := hx x (by simp)
    by_cases h : x.1 ≤ r.2
    · simp only [eat, if_pos h]
      have hmem : ∀ y ∈ l, (min r.1 x.1) ≤ y.2 := fun y hy => by have := hx y (by simp [hy]); omega
      obtain ⟨h1, h2⟩ := ih (min r.1 x.1, max r.2 x.2) x.2 hl.2.2 (by have := hl.1; have := hl.2.1; omega) (by have := hl.1; simp only; omega) (by simp only; omega) hmem
      refine ⟨h1, fun t => ?_⟩
      rw [h2 t, hasR_cons]
      have := hl.2.1
      constructor
      · rintro (h3 | h3)
        · exact .inl (.inr h3)
        · simp only at h3
          by_cases h4 : r.1 ≤ t ∧ t < r.2
          · exact .inr h4
          · exact .inl (.inl (by omega))
      · rintro ((h3 | h3) | h3)
        · exact .inr (by simp only; omega)
        · exact .inl h3
        · exact .inr (by simp only; omega)
    · simp only [eat, if_neg h]
      refine ⟨⟨hb, hr, by omega, hl.2.1, hl.2.2⟩, fun t => ?_⟩
      rw [hasR_cons]
      exact Or.comm
theorem addF_nf (l : List R) (r : R) (b : Int) (hl : NFb b l) (hb : b < r.1) (hr : r.1 < r.2) : NFb b (addF l r) ∧ ∀ t, hasR (addF l r) t ↔ hasR l t ∨ (r.1 ≤ t ∧ t < r.2) := by
  induction l generalizing b with
  | nil => exact ⟨⟨hb, hr, trivial⟩, fun t => by simp [addF, hasR_cons, hasR_nil]⟩
  | cons x l ih =>
    by_cases h : x.2 < r.1
    · simp only [addF, if_pos h]
      obtain ⟨h1, h2⟩ := ih x.2 hl.2.2 h
      exact ⟨⟨hl.1, hl.2.1, h1⟩, fun t => by rw [hasR_cons, hasR_cons, h2 t, or_assoc]⟩
    · simp only [addF, if_neg h]
      refine eat_nf (x :: l) r b b hl (Int.le_refl _) hb hr fun y hy => ?_
      rcases List.mem_cons.1 hy with rfl | hy
      · omega
      · have hne := hl.2.2.ne y hy
        have := hl.2.2.low ⟨y, hy, Int.le_refl _, hne⟩
        omega
theorem addR_nf (l : List R) (r : R) (hl : NF l) : NF (addR l r) ∧ ∀ t, hasR (addR l r) t ↔ hasR l t ∨ (r.1 ≤ t ∧ t < r.2) := by
  obtain ⟨b, hb⟩ := hl
  unfold addR
  by_cases h : r.2 ≤ r.1
  · rw [if_pos h]
    exact ⟨⟨b, hb⟩, fun t => ⟨.inl, fun h' => h'.resolve_right (by omega)⟩⟩
  · rw [if_neg h]
    obtain ⟨h1, h2⟩ := addF_nf l r (min b (r.1 - 1)) (hb.mono (Int.min_le_left _ _)) (by omega) (by omega)
    exact ⟨⟨_, h1⟩, h2⟩
def normR (l : List R) : List R := l.foldl addR []
theorem fold_nf (l acc : List R) (h : NF acc) : NF (l.foldl addR acc) ∧ ∀ t, hasR (l.foldl addR acc) t ↔ hasR acc t ∨ hasR l t := by
  induction l generalizing acc with
  | nil => exact ⟨h, fun t => by simp [hasR_nil]⟩
  | cons r l ih =>
    obtain ⟨h1, h2⟩ := addR_nf acc r h
    obtain ⟨h3, h4⟩ := ih _ h1
    exact ⟨h3, fun t => by simp only [List.foldl_cons]; rw [h4 t, h2 t, hasR_cons, or_assoc]⟩
theorem normR_nf (l : List R) : NF (normR l) ∧ ∀ t, hasR (normR l) t ↔ hasR l t := by
  obtain ⟨h1, h2⟩ := fold_nf l [] ⟨0, trivial⟩
  exact ⟨h1, fun t => by rw [normR, h2 t]; simp [hasR_nil]⟩
/-- whatever is in normal form and has the same times is it -/
theorem normR_of {l m : List R} (hm : NF m) (h : ∀ t, hasR m t ↔ hasR l t) : m = normR l :=
  hm.uniq (normR_nf l).1 fun t => (h t).trans ((normR_nf l).2 t).symm

/-! ### the program's -/
def go : R → List R → List R
  | r, [] => [r]
  | r, x :: l => if r.2 < x.1 then r :: go x l else go (r.1, max r.2 x.2) l
def joinR : List R → List R
  | [] => []
  | r :: l => go r l
/-- by rising beginnings, none empty -/
def Srt : Int → List R → Prop
  | _, [] => True
  | b, r :: l => b ≤ r.1 ∧ r.1 < r.2 ∧ Srt r.1 l
theorem go_nf (l : List R) (r : R) (b : Int) (hb : b < r.1) (hr : r.1 < r.2) (hl : Srt r.1 l) : NFb b (go r l) ∧ ∀ t, hasR (go r l) t ↔ (r.1 ≤ t ∧ t < r.2) ∨ hasR l t := by
  induction l generalizing r b with
  | nil => exact ⟨⟨hb, hr, trivial⟩, fun t => by simp [go, hasR_cons, hasR_nil]⟩
  | cons x l ih =>
    by_cases h : r.2 < x.1
    · simp only [go, if_pos h]
      obtain ⟨h1, h2⟩ := ih x r.2 h hl.2.1 hl.2.2
      exact ⟨⟨hb, hr, h1⟩, fun t => by rw [hasR_cons, h2 t, hasR_cons]⟩
    · simp only [go, if_neg h]
      have hs : Srt r.1 l := by
        cases l with
        | nil => trivial
        | cons y l => exact ⟨by have := hl.2.2.1; have := hl.1; omega, hl.2.2.2⟩
      obtain ⟨h1, h2⟩ := ih (r.1, max r.2 x.2) b hb (by simp only; omega) hs
      refine ⟨h1, fun t => ?_⟩
      rw [h2 t, hasR_cons]
      have := hl.1
      constructor
      · rintro (h3 | h3)
        · simp only at h3
          by_cases h4 : t < r.2
          · exact .inl ⟨h3.1, h4⟩
          · exact .inr (.inl (by omega))
        · exact .inr (.inr h3)
      · rintro (h3 | h3 | h3)
        · exact .inl (by simp only; omega)
        · exact .inl (by simp only; omega)
        · exact .inr h3
theorem joinR_nf (l : List R) (b : Int) (hl : Srt b l) : NF (joinR l) ∧ ∀ t, hasR (joinR l) t ↔ hasR l t := by
  cases l with
  | nil => exact ⟨⟨0, trivial⟩, fun t => Iff.rfl⟩
  | cons r l =>
    obtain ⟨h1, h2⟩ := go_nf l r (r.1 - 1) (by omega) hl.2.1 hl.2.2
    exact ⟨⟨_, h1⟩, fun t => by rw [hasR_cons]; exact h2 t⟩
def emptyR (r : R) : Bool := decide (r.2 ≤ r.1)
theorem hasR_filter (l : List R) (t : Int) : hasR (l.filter fun r => !emptyR r) t ↔ hasR l t := by
  constructor
  · rintro ⟨r, hr, h⟩
    exact ⟨r, (List.mem_filter.1 hr).1, h⟩
  · rintro ⟨r, hr, h⟩
    exact ⟨r, List.mem_filter.2 ⟨hr, by simp [emptyR]; omega⟩, h⟩
theorem hasR_perm {l m : List R} (h : l.Perm m) (t : Int) : hasR l t ↔ hasR m t := by
  unfold hasR
  constructor
  · rintro ⟨r, hr, h1⟩; exact ⟨r, h.mem_iff.1 hr, h1⟩
  · rintro ⟨r, hr, h1⟩; exact ⟨r, h.mem_iff.2 hr, h1⟩
theorem srt_of (l : List R) (hs : l.Pairwise fun a b => a.1 ≤ b.1) (hn : ∀ r ∈ l, r.1 < r.2) (b : Int) (hb : ∀ r ∈ l, b ≤ r.1) : Srt b l := by
  induction l generalizing b with
  | nil => trivial
  | cons r l ih =>
    have := List.pairwise_cons.1 hs
    exact ⟨hb r (by simp), hn r (by simp), ih this.2 (fun x hx => hn x (by simp [hx])) r.1 (fun x hx => this.1 x hx)⟩
/-- what Normal makes: nothing empty, sorted, joined -/
theorem normal_eq (l s : List R) (hp : s.Perm (l.filter fun r => !emptyR r)) (hs : s.Pairwise fun a b => a.1 ≤ b.1) : joinR s = normR l := by
  have hn : ∀ r ∈ s, r.1 < r.2 := fun r hr => by
    have := (List.mem_filter.1 (hp.mem_iff.1 hr)).2
    simp [emptyR] at this
    exact this
  have hb : ∃ b : Int, ∀ r ∈ s, b ≤ r.1 := by
    cases s with
    | nil => exact ⟨0, by simp⟩
    | cons r s =>
      have := List.pairwise_cons.1 hs
      exact ⟨r.1, fun x hx => by rcases List.mem_cons.1 hx with rfl | hx; exact Int.le_refl _; exact this.1 x hx⟩
  obtain ⟨b, hb⟩ := hb
  obtain ⟨h1, h2⟩ := joinR_nf s b (srt_of s hs hn b hb)
  exact normR_of h1 fun t => by rw [h2 t, hasR_perm hp t, hasR_filter]
def keepR (r : R) : List R := if r.2 ≤ r.1 then [] else [r]
def cutR (x r : R) : List R := keepR (x.1, min x.2 r.1) ++ keepR (max x.1 r.2, x.2)
def subP (l : List R) (r : R) : List R := if r.2 ≤ r.1 then l else l.flatMap fun x => cutR x r
theorem keep_has (r : R) (t : Int) : hasR (keepR r) t ↔ r.1 ≤ t ∧ t < r.2 := by
  unfold keepR
  split
  · exact ⟨fun h => absurd h (hasR_nil t), fun h => by omega⟩
  · rw [hasR_cons]
    exact ⟨fun h => h.resolve_right (hasR_nil t), .inl⟩
theorem cut_has (x r : R) (hr : r.1 < r.2) (t : Int) : hasR (cutR x r) t ↔ (x.1 ≤ t ∧ t < x.2) ∧ ¬ (r.1 ≤ t ∧ t < r.2) := by
  unfold cutR
  rw [hasR_append, keep_has, keep_has]
  simp only
  omega
theorem cut_nf (x r : R) (hr : r.1 < r.2) (hx : x.1 < x.2) (b : Int) (hb : b < x.1) (m : List R) (hm : NFb x.2 m) : NFb b (cutR x r ++ m) := by
  unfold cutR keepR
  split <;> split
  · exact hm.mono (by omega)
  · refine ⟨?_, ?_, ?_⟩
    · simp only at *; omega
    · simp only at *; omega
    · exact hm
  · refine ⟨?_, ?_, ?_⟩
    · simp only at *; omega
    · simp only at *; omega
    · exact hm.mono (by simp only at *; omega)
  · refine ⟨?_, ?_, ?_, ?_, ?_⟩
    · simp only at *; omega
    · simp only at *; omega
    · simp only at *; omega
    · simp only at *; omega
    · exact hm
theorem sub_nfb (l : List R) (r : R) (hr : r.1 < r.2) (b : Int) (hl : NFb b l) : NFb b (l.flatMap fun x => cutR x r) ∧ ∀ t, hasR (l.flatMap fun x => cutR x r) t ↔ hasR l t ∧ ¬ (r.1 ≤ t ∧ t < r.2) := by
  induction l generalizing b with
  | nil => exact ⟨trivial, fun t => by simp [hasR_nil]⟩
  | cons x l ih =>
    obtain ⟨h1, h2⟩ := ih x.2 hl.2.2
    simp only [List.flatMap_cons]
    refine ⟨cut_nf x r hr hl.2.1 b hl.1 _ h1, fun t => ?_⟩
    rw [hasR_append, cut_has x r hr, h2 t, hasR_cons]
    constructor
    · rintro (h | h)
      · exact ⟨.inl h.1, h.2⟩
      · exact ⟨.inr h.1, h.2⟩
    · rintro ⟨h | h, h3⟩
      · exact .inl ⟨h, h3⟩
      · exact .inr ⟨h, h3⟩
theorem subP_nf (l : List R) (r : R) (hl : NF l) : NF (subP l r) ∧ ∀ t, hasR (subP l r) t ↔ hasR l t ∧ ¬ (r.1 ≤ t ∧ t < r.2) := by
  unfold subP
  by_cases h : r.2 ≤ r.1
  · rw [if_pos h]
    exact ⟨hl, fun t => ⟨fun h' => ⟨h', by omega⟩, fun h' => h'.1⟩⟩
  · rw [if_neg h]
    obtain ⟨b, hb⟩ := hl
    obtain ⟨h1, h2⟩ := sub_nfb l r (by omega) b hb
    exact ⟨⟨b, h1⟩, h2⟩
/-- the document's Sub -/
def subR (l : List R) (r : R) : List R := if r.2 ≤ r.1 then normR l else (normR l).foldl (fun out x => addR (addR out (x.1, min x.2 r.1)) (max x.1 r.2, x.2)) []
theorem sub_fold (l acc : List R) (r : R) (hr : r.1 < r.2) (h : NF acc) : NF (l.foldl (fun out x => addR (addR out (x.1, min x.2 r.1)) (max x.1 r.2, x.2)) acc) ∧
    ∀ t, hasR (l.foldl (fun out x => addR (addR out (x.1, min x.2 r.1)) (max x.1 r.2, x.2)) acc) t ↔ hasR acc t ∨ (hasR l t ∧ ¬ (r.1 ≤ t ∧ t < r.2)) := by
  induction l generalizing acc with
  | nil => exact ⟨h, fun t => by simp [hasR_nil]⟩
  | cons x l ih =>
    obtain ⟨h1, h2⟩ := addR_nf acc (x.1, min x.2 r.1) h
    obtain ⟨h3, h4⟩ := addR_nf _ (max x.1 r.2, x.2) h1
    obtain ⟨h5, h6⟩ := ih _ h3
    refine ⟨h5, fun t => ?_⟩
    simp only [List.foldl_cons]
    rw [h6 t, h4 t, h2 t, hasR_cons]
    simp only
    constructor
    · rintro (((h7 | h7) | h7) | h7)
      · exact .inl h7
      · exact .inr ⟨.inl (by omega), by omega⟩
      · exact .inr ⟨.inl (by omega), by omega⟩
      · exact .inr ⟨.inr h7.1, h7.2⟩
    · rintro (h7 | ⟨h7 | h7, h8⟩)
      · exact .inl (.inl (.inl h7))
      · by_cases h9 : t < r.1
        · exact .inl (.inl (.inr (by omega)))
        · exact .inl (.inr (by omega))
      · exact .inr ⟨h7, h8⟩
theorem subR_nf (l : List R) (r : R) : NF (subR l r) ∧ ∀ t, hasR (subR l r) t ↔ hasR l t ∧ ¬ (r.1 ≤ t ∧ t < r.2) := by
  unfold subR
  obtain ⟨h1, h2⟩ := normR_nf l
  by_cases h : r.2 ≤ r.1
  · rw [if_pos h]
    exact ⟨h1, fun t => by rw [h2 t]; exact ⟨fun h' => ⟨h', by omega⟩, fun h' => h'.1⟩⟩
  · rw [if_neg h]
    obtain ⟨h3, h4⟩ := sub_fold (normR l) [] r (by omega) ⟨0, trivial⟩
    exact ⟨h3, fun t => by rw [h4 t, h2 t]; simp [hasR_nil]⟩
theorem sub_eq (l : List R) (r : R) : subP (normR l) r = subR l r := by
  obtain ⟨h1, h2⟩ := subP_nf (normR l) r (normR_nf l).1
  obtain ⟨h3, h4⟩ := subR_nf l r
  exact h1.uniq h3 fun t => by rw [h2 t, h4 t, (normR_nf l).2 t]
theorem normR_snoc (l : List R) (r : R) : normR (l ++ [r]) = addR (normR l) r := by simp [normR]
theorem normR_idem (l : List R) : normR (normR l) = normR l := (normR_of (normR_nf l).1 fun _ => Iff.rfl).symm
theorem normR_congr {l m : List R} (h : ∀ t, hasR l t ↔ hasR m t) : normR l = normR m := normR_of (normR_nf l).1 fun t => by rw [(normR_nf l).2 t, h t]
/-- covered: one range has it -/
def coverR (l : List R) (r : R) : Bool := emptyR r || (normR l).any fun x => decide (x.1 ≤ r.1) && decide (r.2 ≤ x.2)
theorem NFb.gap {b : Int} {l : List R} (h : NFb b l) {x : R} (hx : x ∈ l) : ¬ hasR l x.2 := by
  induction l generalizing b with
  | nil => simp at hx
  | cons y l ih =>
    rw [hasR_cons]
    rintro (h1 | h1)
    · rcases List.mem_cons.1 hx with rfl | hx
      · omega
      · have := h.2.2.low ⟨x, hx, Int.le_refl _, h.2.2.ne x hx⟩
        have := h.2.2.ne x hx
        omega
    · rcases List.mem_cons.1 hx with rfl | hx
      · have := h.2.2.low h1; omega
      · exact ih h.2.2 hx h1
theorem NF.cover {l : List R} (h : NF l) (r : R) (hr : r.1 < r.2) (ht : ∀ t, r.1 ≤ t ∧ t < r.2 → hasR l t) : ∃ x ∈ l, x.1 ≤ r.1 ∧ r.2 ≤ x.2 := by
  obtain ⟨b, h⟩ := h
  obtain ⟨x, hx, h1, h2⟩ := ht r.1 ⟨Int.le_refl _, hr⟩
  refine ⟨x, hx, h1, ?_⟩
  rcases Int.lt_or_le x.2 r.2 with h3 | h3
  · exact absurd (ht x.2 ⟨by omega, h3⟩) (h.gap hx)
  · exact h3
theorem cover_add (l : List R) (r : R) : coverR (addR (normR l) r) r = true := by
  unfold coverR emptyR
  by_cases h : r.2 ≤ r.1
  · simp [h]
  · obtain ⟨h1, h2⟩ := addR_nf (normR l) r (normR_nf l).1
    obtain ⟨x, hx, h3, h4⟩ := ((normR_nf (addR (normR l) r)).1).cover r (by omega) fun t ht => ((normR_nf _).2 t).2 ((h2 t).2 (.inr ht))
    simp only [Bool.or_eq_true, List.any_eq_true]
    exact .inr ⟨x, hx, by simp [h3, h4]⟩
theorem sub_add (l : List R) (r : R) : subR (addR (normR l) r) r = subR l r := by
  obtain ⟨h1, h2⟩ := subR_nf (addR (normR l) r) r
  obtain ⟨h3, h4⟩ := subR_nf l r
  refine h1.uniq h3 fun t => ?_
  rw [h2 t, h4 t, (addR_nf (normR l) r (normR_nf l).1).2 t, (normR_nf l).2 t]
  constructor
  · rintro ⟨h5 | h5, h6⟩
    · exact ⟨h5, h6⟩
    · exact absurd h5 h6
  · rintro ⟨h5, h6⟩; exact ⟨.inl h5, h6⟩
theorem add_sub (l : List R) (r : R) : addR (normR (subR l r)) r = addR (normR l) r := by
  obtain ⟨h1, h2⟩ := addR_nf (normR (subR l r)) r (normR_nf _).1
  obtain ⟨h3, h4⟩ := addR_nf (normR l) r (normR_nf _).1
  refine h1.uniq h3 fun t => ?_
  rw [h2 t, h4 t, (normR_nf _).2 t, (normR_nf _).2 t, (subR_nf l r).2 t]
  constructor
  · rintro (h5 | h5)
    · exact .inl h5.1
    · exact .inr h5
  · rintro (h5 | h5)
    · by_cases h6 : r.1 ≤ t ∧ t < r.2
      · exact .inr h6
      · exact .inl ⟨h5, h6⟩
    · exact .inr h5

/-! ### lengths -/
def lenI (l : List R) : Int := l.foldr (fun r n => (r.2 - r.1) + n) 0
theorem lenI_cons (r : R) (l : List R) : lenI (r :: l) = (r.2 - r.1) + lenI l := rfl
theorem lenI_nil : lenI [] = 0 := rfl
theorem lenI_append (l m : List R) : lenI (l ++ m) = lenI l + lenI m := by
  induction l with
  | nil => simp [lenI_nil]
  | cons r l ih => simp only [List.cons_append, lenI_cons, ih]; omega
theorem eat_len (l : List R) (r : R) (c : Int) (hl : NFb c l) (hr : r.1 < r.2) (hx : ∀ x ∈ l, r.1 ≤ x.2) (hd : ∀ x ∈ l, x.2 ≤ r.1 ∨ r.2 ≤ x.1) : lenI (eat l r) = lenI l + (r.2 - r.1) := by
  induction l generalizing r c with
  | nil => simp [eat, lenI_cons, lenI_nil]
  | cons x l ih =>
    have hx0 := hx x (by simp)
    have hd0 := hd x (by simp)
    have hxn := hl.2.1
    by_cases h : x.1 ≤ r.2
    · simp only [eat, if_pos h]
      have hlow : ∀ y ∈ l, x.2 < y.1 := fun y hy => hl.2.2.low ⟨y, hy, Int.le_refl _, hl.2.2.ne y hy⟩
      have hne : ∀ y ∈ l, y.1 < y.2 := hl.2.2.ne
      rw [ih (min r.1 x.1, max r.2 x.2) x.2 hl.2.2 (by simp only; omega) (fun y hy => by have := hx y (by simp [hy]); simp only; omega) (fun y hy => by
        have h1 := hd y (by simp [hy]); have h2 := hlow y hy; have h3 := hne y hy; have h4 := hx y (by simp [hy])
        simp only
        right
        omega)]
      simp only [lenI_cons]
      omega
    · simp only [eat, if_neg h, lenI_cons]
      omega
theorem addF_len (l : List R) (r : R) (b : Int) (hl : NFb b l) (hr : r.1 < r.2) (hd : ∀ x ∈ l, x.2 ≤ r.1 ∨ r.2 ≤ x.1) : lenI (addF l r) = lenI l + (r.2 - r.1) := by
  induction l generalizing b with
  | nil => simp [addF, lenI_cons, lenI_nil]
  | cons x l ih =>
    by_cases h : x.2 < r.1
    · simp only [addF, if_pos h, lenI_cons]
      rw [ih x.2 hl.2.2 (fun y hy => hd y (by simp [hy]))]
      omega
    · simp only [addF, if_neg h]
      refine eat_len (x :: l) r b hl hr (fun y hy => ?_) hd
      rcases List.mem_cons.1 hy with rfl | hy
      · omega
      · have hne := hl.2.2.ne y hy
        have := hl.2.2.low ⟨y, hy, Int.le_refl _, hne⟩
        omega
/-- what is apart adds up -/
theorem addR_len (l : List R) (r : R) (hl : NF l) (hd : ∀ t, hasR l t → ¬ (r.1 ≤ t ∧ t < r.2)) : lenI (addR l r) = lenI l + lenI (normR [r]) := by
  obtain ⟨b, hb⟩ := hl
  have e : normR [r] = addR [] r := rfl
  rw [e]
  unfold addR
  by_cases h : r.2 ≤ r.1
  · rw [if_pos h, if_pos h, lenI_nil]; omega
  · rw [if_neg h, if_neg h, addF_len l r b hb (by omega) fun x hx => ?_]
    · simp [addF, lenI_cons, lenI_nil]
    · have hne := hb.ne x hx
      have h1 := hd x.1 ⟨x, hx, Int.le_refl _, hne⟩
      rcases Int.lt_or_le x.1 r.1 with h2 | h2
      · rcases Int.lt_or_le r.1 x.2 with h3 | h3
        · exact absurd ⟨Int.le_refl _, by omega⟩ (hd r.1 ⟨x, hx, by omega, h3⟩)
        · exact .inl h3
      · exact .inr (by omega)
theorem len_add_sub (l : List R) (r : R) : lenI (normR (addR (normR (subR l r)) r)) = lenI (normR (subR l r)) + lenI (normR [r]) := by
  have h := addR_nf (normR (subR l r)) r (normR_nf _).1
  rw [← normR_of h.1 fun _ => Iff.rfl]
  refine addR_len _ _ (normR_nf _).1 fun t ht h2 => ?_
  exact (((subR_nf l r).2 t).1 (((normR_nf _).2 t).1 ht)).2 h2
/-- all lies between two numbers -/
theorem NFb.len {b : Int} {l : List R} (h : NFb b l) (hi : Int) (hh : ∀ x ∈ l, x.2 ≤ hi) (hb : b < hi) : (l.length : Int) ≤ lenI l ∧ lenI l ≤ hi - b - 1 := by
  induction l generalizing b with
  | nil => simp [lenI_nil]; omega
  | cons x l ih =>
    have h1 := h.1
    have h2 := h.2.1
    have h3 := hh x (by simp)
    by_cases he : x.2 < hi
    · have := ih h.2.2 (fun y hy => hh y (by simp [hy])) he
      simp only [lenI_cons, List.length_cons]
      omega
    · have hnil : l = [] := by
        cases l with
        | nil => rfl
        | cons y l => have := h.2.2.1; have := h.2.2.2.1; have := hh y (by simp); omega
      subst hnil
      simp [lenI_cons, lenI_nil]
      omega
end Go.Proofs.Ytheanpcbjjogfaa.rg
