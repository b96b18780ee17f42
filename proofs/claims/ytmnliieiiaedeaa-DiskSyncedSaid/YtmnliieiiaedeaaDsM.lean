/-
  DiskSynced: bounds; what a crash keeps: mathematics.
-/
import Derived.Test.YtmnliieiiaedeaaDsSp
namespace Go.Proofs.Ytmnliieiiaedeaa.dk
open al

/-- bounds behind i steps -/
structure Bs (st : St) (i : Nat) : Prop where
  live : Live st
  room : st.room = 1048576
  sum : fsum st.last + sumc st.pend ≤ 65536 * i
  len : st.last.length + st.pend.length ≤ i
  o0 : 0 ≤ st.ops
  o1 : st.ops ≤ i
  srt : Srt st.last
theorem Bs.new : Bs (newSt 1048576) 0 := ⟨⟨rfl, rfl⟩, rfl, by decide, by decide, Int.le_refl 0, Int.le_refl 0, .nil⟩
theorem Bs.mono {st : St} {i j : Nat} (h : Bs st i) (hij : i ≤ j) : Bs st j :=
  ⟨h.live, h.room, by have := h.sum; omega, by have := h.len; omega, h.o0, by have := h.o1; omega, h.srt⟩
theorem Bs.more {st : St} {i : Nat} (h : Bs st i) {c : Chn} (hc : chlen c ≤ 65536) : Bs (more st c) (i + 1) := by
  refine ⟨h.live.more c, h.room, ?_, ?_, by have := h.o0; show 0 ≤ st.ops + 1; omega, by have := h.o1; show st.ops + 1 ≤ _; omega, h.srt⟩
  · show fsum st.last + sumc (st.pend ++ [c]) ≤ _
    rw [sumc_snoc]; have := h.sum; omega
  · show st.last.length + (st.pend ++ [c]).length ≤ _
    rw [List.length_append, List.length_singleton]; have := h.len; omega
theorem Bs.sync {st : St} {i : Nat} (h : Bs st i) : Bs (syncSt st) (i + 1) := by
  rw [sync_live h.live]
  have h1 := fold_sum h.srt st.pend
  have h2 := fold_len st.last st.pend
  refine ⟨⟨h.live.due, h.live.dead⟩, h.room, ?_, ?_, by have := h.o0; show 0 ≤ st.ops + 1; omega, by have := h.o1; show st.ops + 1 ≤ _; omega, fold_srt h.srt _⟩
  · show fsum (fold st.last st.pend) + 0 ≤ _
    have := h.sum; omega
  · show (fold st.last st.pend).length + 0 ≤ _
    have := h.len; omega
theorem app_cases {st : St} (h : Live st) (a b : Nm) : (appSt st a b).1 = st ∨ (appSt st a b).1 = dk.more st (.app a b) := by
  cases hok : okn a with
  | false => rw [app_name hok]; exact .inl rfl
  | true =>
    by_cases hf : st.room < (fsum st.shown : Int) + (b.length : Int)
    · rw [app_full hok hf]; exact .inl rfl
    · rw [app_do h hok hf]; exact .inr rfl
theorem ren_cases {st : St} (h : Live st) (a b : Nm) : (renSt st a b).1 = st ∨ (renSt st a b).1 = dk.more st (.ren a b) := by
  cases hok : okn a with
  | false => rw [ren_name (.inl hok)]; exact .inl rfl
  | true =>
    cases hokb : okn b with
    | false => rw [ren_name (.inr hokb)]; exact .inl rfl
    | true =>
      by_cases hf : al.get st.shown a = none
      · rw [ren_none hok hokb hf]; exact .inl rfl
      · rw [ren_do h hok hokb hf]; exact .inr rfl
theorem rem_cases {st : St} (h : Live st) (a : Nm) : (remSt st a).1 = st ∨ (remSt st a).1 = dk.more st (.rem a) := by
  cases hok : okn a with
  | false => rw [rem_name hok]; exact .inl rfl
  | true =>
    by_cases hf : al.get st.shown a = none
    · rw [rem_none hok hf]; exact .inl rfl
    · rw [rem_do h hok hf]; exact .inr rfl
theorem Bs.step {st : St} {i : Nat} (h : Bs st i) (x : Sp) (hb : x.b.length ≤ 65536) : Bs (stepSt st x) (i + 1) := by
  unfold stepSt
  split
  · rcases app_cases h.live x.a x.b with e | e <;> rw [e]
    · exact h.mono (Nat.le_succ _)
    · exact h.more hb
  · split
    · rcases ren_cases h.live x.a x.b with e | e <;> rw [e]
      · exact h.mono (Nat.le_succ _)
      · exact h.more (Nat.zero_le _)
    · split
      · rcases rem_cases h.live x.a with e | e <;> rw [e]
        · exact h.mono (Nat.le_succ _)
        · exact h.more (Nat.zero_le _)
      · split
        · exact h.sync
        · exact h.mono (Nat.le_succ _)
theorem Bs.sm {st : St} {i : Nat} (h : Bs st i) (hi : i ≤ 2000) : Sm st :=
  ⟨by have := h.sum; omega, by have := h.len; omega, h.o0, by have := h.o1; omega⟩
/-- only bytes at the ends of files whose names begin so -/
def Zch (c : Chn) : Prop := ∃ a b, c = .app (122 :: a) b
structure Zs (L : AL Nm) (st : St) : Prop where
  last : st.last = L
  all : ∀ c ∈ st.pend, Zch c
theorem Zs.step {L : AL Nm} {st : St} (h : Zs L st) (hl : Live st) (a b : Nm) (x : Sp) (hx : x.kind = 0) (ha : x.a = 122 :: a) : Zs L (stepSt st x) := by
  unfold stepSt
  rw [if_pos hx]
  rcases app_cases hl x.a x.b with e | e <;> rw [e]
  · exact h
  · refine ⟨h.last, fun c hc => ?_⟩
    rcases List.mem_append.1 (show c ∈ st.pend ++ [.app x.a x.b] from hc) with e | e
    · exact h.all c e
    · simp at e; subst e; exact ⟨a, x.b, by rw [ha]⟩
theorem z_done {fs : AL Nm} {c : Chn} (hc : Zch c) {k u : Nm} (h : al.get fs k = some u) : ∃ t, al.get (done fs c) k = some (u ++ t) ∧ (k.head? ≠ some 122 → t = []) := by
  obtain ⟨a, b, rfl⟩ := hc
  show ∃ t, al.get (al.put fs (122 :: a) _) k = some (u ++ t) ∧ _
  by_cases e : k = 122 :: a
  · subst e
    rw [get_put_same, h]
    exact ⟨b, rfl, fun e => absurd rfl e⟩
  · rw [get_put_other _ e, h]
    exact ⟨[], by simp, fun _ => rfl⟩
theorem z_fold (l : List Chn) : ∀ {fs : AL Nm}, (∀ c ∈ l, Zch c) → ∀ {k u : Nm}, al.get fs k = some u → ∃ t, al.get (fold fs l) k = some (u ++ t) ∧ (k.head? ≠ some 122 → t = []) := by
  induction l with
  | nil => intro fs _ k u h; exact ⟨[], by rw [List.append_nil]; exact h, fun _ => rfl⟩
  | cons c l ih =>
    intro fs hl k u h
    obtain ⟨t1, h1, h2⟩ := z_done (hl c (by simp)) h
    obtain ⟨t2, h3, h4⟩ := ih (fs := done fs c) (fun d hd => hl d (by simp [hd])) h1
    exact ⟨t1 ++ t2, by rw [← List.append_assoc]; exact h3, fun e => by rw [h2 e, h4 e]; rfl⟩
/-- what a crash leaves of what had been synced -/
theorem z_crash {L : AL Nm} {st : St} (h : Zs L st) (hl : Live st) (keep part : Int) {k u : Nm} (hg : al.get L k = some u) : ∃ t, al.get (crashSt st keep part).last k = some (u ++ t) ∧ (k.head? ≠ some 122 → t = []) := by
  unfold crashSt
  rw [if_neg (by rw [hl.dead]; simp)]
  rw [← h.last] at hg
  obtain ⟨t1, h1, h2⟩ := z_fold (st.pend.take (keptN keep st.pend.length)) (fun c hc => h.all c (List.mem_of_mem_take hc)) hg
  show ∃ t, al.get (partOf _ _ part) k = some (u ++ t) ∧ _
  cases hc : st.pend[keptN keep st.pend.length]? with
  | none => exact ⟨t1, h1, h2⟩
  | some c =>
    obtain ⟨a, b, rfl⟩ := h.all c (List.mem_of_getElem? hc)
    show ∃ t, al.get (if 0 < part then _ else _) k = _ ∧ _
    split
    · obtain ⟨t2, h3, h4⟩ := z_done (c := .app (122 :: a) (b.take (min part (b.length : Int)).toNat)) ⟨a, _, rfl⟩ h1
      exact ⟨t1 ++ t2, by rw [← List.append_assoc]; exact h3, fun e => by rw [h2 e, h4 e]; rfl⟩
    · exact ⟨t1, h1, h2⟩
theorem crash_parts {st : St} (hl : Live st) (keep part : Int) : (crashSt st keep part).pend = [] ∧ (crashSt st keep part).dead = true ∧ (crashSt st keep part).shown = (crashSt st keep part).last := by
  unfold crashSt
  rw [if_neg (by rw [hl.dead]; simp)]
  exact ⟨rfl, rfl, rfl⟩
end Go.Proofs.Ytmnliieiiaedeaa.dk
