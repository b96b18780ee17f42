/-
  A region that draws its order, walked once in a given order: what only reads goes ahead of what acts, and what acts comes one by one.
-/
import Derived.Test.YtheanpcbjjogfaaWb
import Derived.OrdersHeld
import Derived.Deep.RegionHeld3
namespace Go.Proofs.Ytheanpcbjjogfaa.ord
open Go Go.RowKit words

/-- operations that never enter a function -/
def plainOp : Op → Bool
  | .move _ | .assign _ | .pick .. | .load .. | .nilCheck _ | .binOp .. | .unOp .. | .convert .. | .slice .. | .fieldAddr .. | .field .. | .indexAddr .. | .index .. | .lookup .. | .extract .. | .build .. | .makeInterface .. | .typeAssert .. => true
  | .call c => match c.callee with
    | .builtin .len | .builtin .cap | .builtin .min | .builtin .max => true
    | _ => false
  | _ => false

theorem value_only {P : Program} (s : Sem Value) (w w' : World) (n : Next) (h : (do pure (Next.value (← s)) : Sem Next).run P w = .ok n w') : ∃ v, n = .value v := by
  simp only [Sem.run_bind] at h
  generalize s.run P w = r at h
  cases r with
  | ok v w1 => simp [Result.andThen] at h; exact ⟨v, h.1.symm⟩
  | halt x w1 => simp [Result.andThen] at h

theorem plain_value {P : Program} (o : Oper) (ho : plainOp o.op = true) (ρ : Operand → Value) (w w' : World) (n : Next) (h : (execOp ρ o).run P w = .ok n w') : ∃ v, n = .value v := by
  obtain ⟨dst, op, type, pos, after, guard⟩ := o
  cases op <;> simp only [plainOp] at ho <;> simp only [execOp] at h
  case move x => simp at h; exact ⟨_, h.1.symm⟩
  case assign x => simp at h; exact ⟨_, h.1.symm⟩
  case pick c a b =>
    simp only [Sem.run_bind] at h
    generalize (asBool (ρ c)).run P w = r at h
    cases r with
    | ok v w1 => simp [Result.andThen] at h; exact ⟨_, h.1.symm⟩
    | halt x w1 => simp [Result.andThen] at h
  case nilCheck x =>
    split at h
    · simp [runtimePanic, goPanic, run_program, Result.andThen] at h
    · simp [runtimePanic, goPanic, run_program, Result.andThen] at h
    · simp [runtimePanic, goPanic, run_program, Result.andThen] at h
    · split at h
      · simp [runtimePanic, goPanic, run_program, Result.andThen] at h
      · rename_i t w0 _
        simp only [Sem.run_bind] at h
        generalize (program).run P w = r0 at h
        cases r0 with
        | halt x w1 => simp [Result.andThen] at h
        | ok p w1 =>
          simp only [Result.andThen_ok] at h
          generalize (nilAhead _ _ _ _).run P w1 = r1 at h
          cases r1 with
          | halt x w2 => simp [Result.andThen] at h
          | ok b w2 =>
            simp only [Result.andThen_ok] at h
            split at h
            · simp [unsupported] at h
            · simp at h; exact ⟨_, h.1.symm⟩
      · simp at h; exact ⟨_, h.1.symm⟩
    · simp at h; exact ⟨_, h.1.symm⟩
  case call c =>
    obtain ⟨callee, args, argTypes⟩ := c
    cases callee with
    | value f => simp at ho
    | invoke r m => simp at ho
    | builtin b =>
      cases b <;> simp at ho <;> simp only [resolve, invoke, builtin, Sem.run_bind, Sem.run_pure, Result.andThen_ok] at h <;> exact value_only _ _ _ _ (by simpa only [Sem.run_bind, Sem.run_pure] using h)
  all_goals first | exact value_only _ _ _ _ h | simp at ho

section
variable {P : Program} {ops : Array Oper} {Q : Exit → Act → World → Prop} {md : Region.Mode}

/-- what is listed is listed behind what it waits for -/
def Closed (md : Region.Mode) (ops : Array Oper) (listed : Array Bool) : Prop :=
  ∀ j oj, listed.getD j false = true → ops[j]? = some oj → ∀ e ∈ oj.after, Region.binds md e = true → listed.getD e.on false = true
theorem Closed.add {listed : Array Bool} (h : Closed md ops listed) {i : Nat} (hi : i ∈ Region.ready md ops listed) : Closed md ops (listed.setIfInBounds i true) := by
  intro j oj hj ho e he hb
  by_cases hji : j = i
  · subst hji
    obtain ⟨_, o, ho', hall⟩ := mem_ready.1 hi
    rw [ho] at ho'
    cases ho'
    exact getD_set_true (hall e he hb)
  · rw [getD_set_ne false (Ne.symm hji)] at hj
    exact getD_set_true (h j oj hj ho e he hb)

/-- k waits for i, at once or by others -/
def waits (md : Region.Mode) (ops : Array Oper) (i : Nat) : Nat → Nat → Bool
  | 0, _ => false
  | fuel + 1, k => match ops[k]? with
    | none => false
    | some o => o.after.any fun e => Region.binds md e && (e.on == i || waits md ops i fuel e.on)
theorem waits_not {i : Nat} {listed : Array Bool} (hc : Closed md ops listed) (hi : listed.getD i false = false) :
    ∀ (fuel k : Nat), waits md ops i fuel k = true → listed.getD k false = false ∧ k ∉ Region.ready md ops listed
  | 0, k, h => by simp [waits] at h
  | fuel + 1, k, h => by
    unfold waits at h
    cases ho : ops[k]? with
    | none => rw [ho] at h; simp at h
    | some o =>
      rw [ho] at h
      simp only [Array.any_eq_true'] at h
      obtain ⟨e, he, h⟩ := h
      simp only [Bool.and_eq_true, Bool.or_eq_true, beq_iff_eq] at h
      obtain ⟨hb, h⟩ := h
      have hon : listed.getD e.on false = false := by
        rcases h with h | h
        · rw [h]; exact hi
        · exact (waits_not hc hi fuel e.on h).1
      refine ⟨?_, fun hr => ?_⟩
      · cases hk : listed.getD k false with
        | false => rfl
        | true => rw [hc k o hk ho e he hb] at hon; cases hon
      · obtain ⟨_, o', ho', hall⟩ := mem_ready.1 hr
        rw [ho] at ho'
        cases ho'
        rw [hall e he hb] at hon
        cases hon

/-- Whatever order is picked from here on; S holds behind every operation that is carried out, up to one of ex. -/
def wpAnyE (P : Program) (md : Region.Mode) (ops : Array Oper) (Q : Exit → Act → World → Prop) (S : World → Prop) (ex : Nat → Bool) : Nat → Array Bool → Act → World → Prop
  | 0, listed, a, w => Region.ready md ops listed = [] ∧ Q .normal a w
  | fuel + 1, listed, a, w =>
    (Region.ready md ops listed = [] → Q .normal a w) ∧
    ∀ i ∈ Region.ready md ops listed, wpOp P ops Q i (fun a' w' => (ex i = true ∧ wpAny P md ops Q fuel (listed.setIfInBounds i true) a' w') ∨ (S w' ∧ wpAnyE P md ops Q S ex fuel (listed.setIfInBounds i true) a' w')) a w

theorem wpAny_of_E {S : World → Prop} {ex : Nat → Bool} : ∀ (fuel : Nat) (listed : Array Bool) (a : Act) (w : World), wpAnyE P md ops Q S ex fuel listed a w → wpAny P md ops Q fuel listed a w
  | 0, _, _, _, h => h
  | fuel + 1, _, _, _, h => ⟨h.1, fun i hi => wpOp_mono (fun a' w' h' => h'.elim And.right fun h' => wpAny_of_E fuel _ a' w' h'.2) (h.2 i hi)⟩

theorem wpAnyE_mono {S S' : World → Prop} {ex ex' : Nat → Bool} (hS : ∀ w, S' w → S w) (hex : ∀ i, ex' i = true → ex i = true) : ∀ (fuel : Nat) (listed : Array Bool) (a : Act) (w : World), wpAnyE P md ops Q S' ex' fuel listed a w → wpAnyE P md ops Q S ex fuel listed a w
  | 0, _, _, _, h => h
  | fuel + 1, _, _, _, h => ⟨h.1, fun i hi => wpOp_mono (fun a' w' h' => h'.elim (fun h' => .inl ⟨hex i h'.1, h'.2⟩) fun h' => .inr ⟨hS _ h'.1, wpAnyE_mono hS hex fuel _ a' w' h'.2⟩) (h.2 i hi)⟩

theorem wpAnyE_first {S : World → Prop} {ex : Nat → Bool} {i : Nat} {oi : Oper} {v : Value} (hi : ops[i]? = some oi) (hsel : ∀ (j : Nat) (o : Oper) cs b, ops[j]? = some o → o.op ≠ .select cs b)
    (hQ : ∀ c a w, Q (.panic c) (a.put oi.dst v) w → Q (.panic c) a w) :
    ∀ (fuel : Nat) (listed : Array Bool) (a : Act) (w : World), Closed md ops listed → (∀ k, ex k = true → listed.getD k false = false → ∃ f, waits md ops i f k = true) →
      (∀ j oj, ops[j]? = some oj → j ≠ i → listed.getD j true = false → (∀ e ∈ oj.after, Region.binds md e = true → e.on ≠ i) → oi.apart ops oj = true) →
      i ∈ Region.ready md ops listed → YieldsIf P ops S oi v a → S w →
      wpAnyE P md ops Q S ex fuel (listed.setIfInBounds i true) (a.put oi.dst v) w → wpAnyE P md ops Q S ex (fuel + 1) listed a w := by
  intro fuel
  induction fuel with
  | zero =>
    intro listed a w _ _ _ hr hy hS H
    refine ⟨fun h => (by rw [h] at hr; cases hr), fun j hj => ?_⟩
    by_cases hji : j = i
    · subst hji; exact hy.wpOp hi hS (.inr ⟨hS, H⟩)
    · have := ready_mono hj hji
      rw [H.1] at this
      cases this
  | succ fuel ih =>
    intro listed a w hcl hexw hfree hr hy hS H
    refine ⟨fun h => (by rw [h] at hr; cases hr), fun j hj => ?_⟩
    by_cases hji : j = i
    · subst hji; exact hy.wpOp hi hS (.inr ⟨hS, H⟩)
    · have h1 := H.2 j (ready_mono hj hji)
      obtain ⟨hjun, oj, hoj, hall⟩ := mem_ready.1 hj
      have hiun : listed.getD i true = false := (mem_ready.1 hr).1
      have hiun' : listed.getD i false = false := by
        rcases Nat.lt_or_ge i listed.size with h' | h'
        · simp [h'] at hiun ⊢; exact hiun
        · simp [Array.getElem?_eq_none h'] at hiun
      have hjun' : listed.getD j false = false := by
        rcases Nat.lt_or_ge j listed.size with h' | h'
        · simp [h'] at hjun ⊢; exact hjun
        · simp [Array.getElem?_eq_none h'] at hjun
      have hnex : ex j = false := by
        cases hx : ex j with
        | false => rfl
        | true =>
          obtain ⟨f, hf⟩ := hexw j hx hjun'
          exact absurd hj (waits_not hcl hiun' f j hf).2
      have hnot : ∀ e ∈ oj.after, Region.binds md e = true → e.on ≠ i := fun e he hb heq => by
        have h1 := hall e he hb
        rw [heq, hiun'] at h1
        cases h1
      have h2 := wpOp_putIf hoj (hfree j oj hoj hji hjun hnot) (fun cs b => hsel i oi cs b hi) (fun cs b => hsel j oj cs b hoj) hQ hy h1
      have hfree' : ∀ k ok, ops[k]? = some ok → k ≠ i → (listed.setIfInBounds j true).getD k true = false →
          (∀ e ∈ ok.after, Region.binds md e = true → e.on ≠ i) → oi.apart ops ok = true := fun k ok hk hki hun hno => by
        refine hfree k ok hk hki ?_ hno
        by_cases hjk : j = k
        · subst hjk; exact hjun
        · rw [getD_set_ne true hjk] at hun; exact hun
      have hexw' : ∀ k, ex k = true → (listed.setIfInBounds j true).getD k false = false → ∃ f, waits md ops i f k = true := fun k hk hun => by
        refine hexw k hk ?_
        by_cases hjk : j = k
        · subst hjk; exact hjun'
        · rw [getD_set_ne false hjk] at hun; exact hun
      refine wpOp_mono (fun a' w' h3 => ?_) h2
      obtain ⟨hy', h3⟩ := h3
      rcases h3 with ⟨hx, _⟩ | ⟨hS', h3⟩
      · rw [hnex] at hx; cases hx
      · refine .inr ⟨hS', ih (listed.setIfInBounds j true) a' w' (hcl.add hj) hexw' hfree' (ready_mono hr (Ne.symm hji)) hy' hS' ?_⟩
        rw [Array.setIfInBounds_comm _ _ hji]
        exact h3

/-- a copy may be taken first whatever comes -/
theorem wpAnyE_move {S : World → Prop} {ex : Nat → Bool} {i : Nat} {oi : Oper} {v : Value} (hi : ops[i]? = some oi) (hsel : ∀ (j : Nat) (o : Oper) cs b, ops[j]? = some o → o.op ≠ .select cs b)
    (hQ : ∀ c a w, Q (.panic c) (a.put oi.dst v) w → Q (.panic c) a w) :
    ∀ (fuel : Nat) (listed : Array Bool) (a : Act) (w : World),
      (∀ j oj, ops[j]? = some oj → j ≠ i → listed.getD j true = false → (∀ e ∈ oj.after, Region.binds md e = true → e.on ≠ i) → oi.apart ops oj = true) →
      i ∈ Region.ready md ops listed → Yields P ops oi v a → S w →
      wpAnyE P md ops Q S ex fuel (listed.setIfInBounds i true) (a.put oi.dst v) w → wpAnyE P md ops Q S ex (fuel + 1) listed a w := by
  intro fuel
  induction fuel with
  | zero =>
    intro listed a w _ hr hy hS H
    refine ⟨fun h => (by rw [h] at hr; cases hr), fun j hj => ?_⟩
    by_cases hji : j = i
    · subst hji; exact hy.wpOp hi (.inr ⟨hS, H⟩)
    · have := ready_mono hj hji
      rw [H.1] at this
      cases this
  | succ fuel ih =>
    intro listed a w hfree hr hy hS H
    refine ⟨fun h => (by rw [h] at hr; cases hr), fun j hj => ?_⟩
    by_cases hji : j = i
    · subst hji; exact hy.wpOp hi (.inr ⟨hS, H⟩)
    · have h1 := H.2 j (ready_mono hj hji)
      obtain ⟨hjun, oj, hoj, hall⟩ := mem_ready.1 hj
      have hiun : listed.getD i true = false := (mem_ready.1 hr).1
      have hiun' : listed.getD i false = false := by
        rcases Nat.lt_or_ge i listed.size with h' | h'
        · simp [h'] at hiun ⊢; exact hiun
        · simp [Array.getElem?_eq_none h'] at hiun
      have hnot : ∀ e ∈ oj.after, Region.binds md e = true → e.on ≠ i := fun e he hb heq => by
        have h1 := hall e he hb
        rw [heq, hiun'] at h1
        cases h1
      have h2 := wpOp_put hoj (hfree j oj hoj hji hjun hnot) (fun cs b => hsel i oi cs b hi) (fun cs b => hsel j oj cs b hoj) hQ hy h1
      have hfree' : ∀ k ok, ops[k]? = some ok → k ≠ i → (listed.setIfInBounds j true).getD k true = false →
          (∀ e ∈ ok.after, Region.binds md e = true → e.on ≠ i) → oi.apart ops ok = true := fun k ok hk hki hun hno => by
        refine hfree k ok hk hki ?_ hno
        by_cases hjk : j = k
        · subst hjk; exact hjun
        · rw [getD_set_ne true hjk] at hun; exact hun
      refine wpOp_mono (fun a' w' h3 => ?_) h2
      obtain ⟨hy', h3⟩ := h3
      rcases h3 with ⟨hx, h3⟩ | ⟨hS', h3⟩
      · refine .inl ⟨hx, wpAny_first hi hsel hQ fuel _ a' w' hfree' (ready_mono hr (Ne.symm hji)) hy' ?_⟩
        rw [Array.setIfInBounds_comm _ _ hji]
        exact h3
      · refine .inr ⟨hS', ih (listed.setIfInBounds j true) a' w' hfree' (ready_mono hr (Ne.symm hji)) hy' hS' ?_⟩
        rw [Array.setIfInBounds_comm _ _ hji]
        exact h3
def isMove : Op → Bool
  | .move _ | .assign _ | .extract .. => true
  | _ => false
theorem extract_any {P : Program} {q : Value} {ix : Nat} {w0 : World} {v : Value} (h1 : (do pure (Next.value (← Instr.extract q ix)) : Sem Next).run P w0 = .ok (.value v) w0) (w : World) : (do pure (Next.value (← Instr.extract q ix)) : Sem Next).run P w = .ok (.value v) w := by
  unfold Instr.extract at h1 ⊢
  cases q <;> try (simp [stuck, Result.andThen] at h1; done)
  rename_i vs
  simp only at h1 ⊢
  cases hv2 : vs[ix]? with
  | none => rw [hv2] at h1; simp [stuck, Result.andThen] at h1
  | some x =>
    rw [hv2] at h1
    simp [Result.andThen] at h1 ⊢
    exact h1
theorem move_yields {o : Oper} {a : Act} {v : Value} {S : World → Prop} (hm : isMove o.op = true) (w0 : World) (h0 : S w0) (h : YieldsIf P ops S o v a) : Yields P ops o v a := by
  refine h.imp (fun ⟨hw, hv⟩ => ⟨hw, fun w => ?_⟩) id
  have h1 := hv w0 h0
  obtain ⟨dst, op, type, pos, after, guard⟩ := o
  cases op <;> simp only [isMove] at hm <;> first | (cases hm; done) | (simp only [execOp] at h1 ⊢; exact extract_any h1 w) | (simp [execOp] at h1 ⊢; exact h1)

/-! ### the given order: (number, what it is): 0 reads only; 1 acts, and leaves what lay; 2 acts -/
def exs (r : List (Nat × Nat)) (k : Nat) : Bool := r.any fun p => p.1 == k && p.2 == 2
def ordB (md : Region.Mode) (ops : Array Oper) : List (Nat × Nat) → Array Bool → Bool
  | [], listed => (Region.ready md ops listed).isEmpty
  | (k, c) :: r, listed => (if c == 0 then (Region.ready md ops listed).contains k && Region.free md ops listed k && ((ops[k]?).map fun o => plainOp o.op).getD false && (((ops[k]?).map fun o => isMove o.op).getD false || r.all (fun p => p.2 != 2 || waits md ops k ops.size p.1))
      else (c == 1 || c == 2) && Region.ready md ops listed == [k]) && ordB md ops r (listed.setIfInBounds k true)

/-- the walk: w0 is the world whose memory stands, w the world at hand -/
def wpOrd (P : Program) (ops : Array Oper) (Q : Exit → Act → World → Prop) : List (Nat × Nat) → World → Act → World → Prop
  | [], _, a, w => Q .normal a w
  | (k, c) :: r, w0, a, w => match ops[k]? with
    | none => False
    | some o => if c == 0 then (if Region.wanted o (yielded ops a.tmps) then o.quiet P a (fun w' => ∃ u : Wb w0, w' = u.w) (fun a' => wpOrd P ops Q r w0 a' w) else wpOrd P ops Q r w0 (a.put o.dst undef) w)
        else if c == 1 then (if Region.wanted o (yielded ops a.tmps) then o.wp P a w (fun a' w' => Below w0.heap.size w0 w' ∧ (wpOrd P ops Q r w0 a' w' ∨ wpOrd P ops Q r w' a' w')) Q ∨ (o.asks P a w ∧ LetsOut Q) else (wpOrd P ops Q r w0 (a.put o.dst undef) w ∨ wpOrd P ops Q r w (a.put o.dst undef) w))
        else (if Region.wanted o (yielded ops a.tmps) then o.wp P a w (fun a' w' => wpOrd P ops Q r w' a' w') Q ∨ (o.asks P a w ∧ LetsOut Q) else wpOrd P ops Q r w (a.put o.dst undef) w)

theorem ord_any (hs : Region.noSelect ops = true) (hQ : ∀ c a a' w, Q (.panic c) a w → Q (.panic c) a' w) : ∀ (r : List (Nat × Nat)) (listed : Array Bool) (w0 : World) (a : Act) (w : World), Closed md ops listed → Below w0.heap.size w0 w → ordB md ops r listed = true →
    wpOrd P ops Q r w0 a w → wpAnyE P md ops Q (fun w' => Below w0.heap.size w0 w') (exs r) r.length listed a w
  | [], listed, w0, a, w, hcl, hw, hB, h => ⟨by simpa [ordB] using hB, h⟩
  | (k, c) :: r, listed, w0, a, w, hcl, hw, hB, h => by
    simp only [ordB, Bool.and_eq_true] at hB
    obtain ⟨hB, hB'⟩ := hB
    simp only [wpOrd] at h
    cases ho : ops[k]? with
    | none => rw [ho] at h; exact h.elim
    | some o =>
      rw [ho] at h
      simp only at h
      have hexm : ∀ i, exs r i = true → exs ((k, c) :: r) i = true := fun i hi => by simp [exs] at hi ⊢; exact .inr hi
      by_cases hc : (c == 0) = true
      · rw [if_pos hc] at hB h
        simp only [Bool.and_eq_true] at hB
        obtain ⟨⟨⟨hr, hf⟩, hp⟩, hx⟩ := hB
        have hk : k ∈ Region.ready md ops listed := by simpa using hr
        have hp' : plainOp o.op = true := by rw [ho] at hp; simpa using hp
        have hc0 : c = 0 := by simpa using hc
        have hex : ∀ i, exs ((k, c) :: r) i = exs r i := fun i => by simp [exs, hc0]
        have key : ∃ v, YieldsIf P ops (fun w' => Below w0.heap.size w0 w') o v a ∧ wpOrd P ops Q r w0 (a.put o.dst v) w := by
          by_cases hw' : Region.wanted o (yielded ops a.tmps) = true
          · rw [if_pos hw'] at h
            obtain ⟨v, hv, hn⟩ := h
            refine ⟨v, .inl ⟨hw', fun w1 h1 => ?_⟩, hn⟩
            have h2 := hv w1 ⟨⟨w1, h1⟩, rfl⟩
            unfold Oper.quietAt at h2
            generalize hrun : (execOp a.eval o).run P w1 = res at h2
            cases res with
            | halt x w2 => exact h2.elim
            | ok n w2 =>
              obtain ⟨u, rfl⟩ := plain_value o hp' _ _ _ _ hrun
              obtain ⟨e1, e2⟩ := h2
              rw [e1, e2]
          · rw [if_neg hw'] at h
            exact ⟨undef, .inr ⟨by simpa using hw', rfl⟩, h⟩
        obtain ⟨v, hy, hn⟩ := key
        have next := ord_any hs hQ r _ w0 _ w (hcl.add hk) hw hB' hn
        by_cases hmv : isMove o.op = true
        · exact wpAnyE_move ho (Region.noSelect_spec hs) (fun c a w => hQ c _ a w) r.length listed a w (Region.free_spec ho hf) hk (move_yields hmv w hw hy) hw (wpAnyE_mono (fun _ h => h) hexm _ _ _ _ next)
        have hx : r.all (fun p => p.2 != 2 || waits md ops k ops.size p.1) = true := by
          rw [ho] at hx
          simp only [Option.map_some, Option.getD_some, Bool.or_eq_true] at hx
          exact hx.resolve_left hmv
        refine wpAnyE_first ho (Region.noSelect_spec hs) (fun c a w => hQ c _ a w) r.length listed a w hcl (fun i hi _ => ?_) (Region.free_spec ho hf) hk hy hw ?_
        · rw [hex] at hi
          simp only [exs, List.any_eq_true] at hi
          obtain ⟨q, hq, hq2⟩ := hi
          have := (List.all_eq_true.1 hx) q hq
          simp at hq2 this
          rcases this with e | e
          · exact absurd hq2.2 e
          · exact ⟨ops.size, by rw [← hq2.1]; exact e⟩
        · exact wpAnyE_mono (fun _ h => h) hexm _ _ _ _ next
      · rw [if_neg hc] at hB h
        simp only [Bool.and_eq_true] at hB
        have hrk : Region.ready md ops listed = [k] := by simpa using hB.2
        have hk : k ∈ Region.ready md ops listed := by rw [hrk]; simp
        refine ⟨fun h0 => (by rw [hrk] at h0; cases h0), fun j hj => ?_⟩
        rw [hrk] at hj
        obtain rfl : j = k := by simpa using hj
        unfold wpOp
        simp only [ho]
        have stay : ∀ a' w', Below w0.heap.size w0 w' → wpOrd P ops Q r w0 a' w' → wpAnyE P md ops Q (fun w' => Below w0.heap.size w0 w') (exs ((j, c) :: r)) r.length (listed.setIfInBounds j true) a' w' := fun a' w' hb h' =>
          wpAnyE_mono (fun _ h => h) hexm _ _ _ _ (ord_any hs hQ r _ w0 a' w' (hcl.add hk) hb hB' h')
        have move : ∀ a' w', Below w0.heap.size w0 w' → wpOrd P ops Q r w' a' w' → wpAnyE P md ops Q (fun w' => Below w0.heap.size w0 w') (exs ((j, c) :: r)) r.length (listed.setIfInBounds j true) a' w' := fun a' w' hb h' =>
          wpAnyE_mono (fun _ h => hb.trans (h.mono hb.size)) hexm _ _ _ _ (ord_any hs hQ r _ w' a' w' (hcl.add hk) (Below.refl _ _) hB' h')
        by_cases hc1 : (c == 1) = true
        · rw [if_pos hc1] at h
          by_cases hw' : Region.wanted o (yielded ops a.tmps) = true
          · rw [if_pos hw'] at h ⊢
            refine h.imp (Oper.wp_mono fun a' w' h' => ?_) id
            obtain ⟨hb, h'⟩ := h'
            exact .inr ⟨hb, h'.elim (stay a' w' hb) (move a' w' hb)⟩
          · rw [if_neg hw'] at h ⊢
            exact .inr ⟨hw, h.elim (stay _ w hw) (move _ w hw)⟩
        · rw [if_neg hc1] at h
          have hc2 : c = 2 := by
            have := hB.1
            simp at this hc1
            omega
          have out : ∀ a' w', wpOrd P ops Q r w' a' w' → wpAny P md ops Q r.length (listed.setIfInBounds j true) a' w' := fun a' w' h' => wpAny_of_E _ _ _ _ (ord_any hs hQ r _ w' a' w' (hcl.add hk) (Below.refl _ _) hB' h')
          have hx : exs ((j, c) :: r) j = true := by simp [exs, hc2]
          by_cases hw' : Region.wanted o (yielded ops a.tmps) = true
          · rw [if_pos hw'] at h ⊢
            exact h.imp (Oper.wp_mono fun a' w' h' => .inl ⟨hx, out a' w' h'⟩) id
          · rw [if_neg hw'] at h ⊢
            exact .inl ⟨hx, out _ w h⟩

theorem wpQuiet_mono' {C : World → Prop} {K K' : Act → Prop} (h : ∀ a, K a → K' a) : ∀ (l : List Oper) (a : Act), wpQuiet P ops C K l a → wpQuiet P ops C K' l a
  | [], a, hh => h a hh
  | o :: l, a, hh => by
    simp only [wpQuiet] at hh ⊢
    split
    · rename_i hw; rw [if_pos hw] at hh; exact Oper.quiet_mono (fun a' => wpQuiet_mono' h l a') hh
    · rename_i hw; rw [if_neg hw] at hh; exact wpQuiet_mono' h l _ hh

/-! ### by segments: what reads, then one that acts -/
def at_ : List Oper → Nat → Option Oper
  | [], _ => none
  | o :: _, 0 => some o
  | _ :: l, n + 1 => at_ l n
def pick (l : List Oper) : List Nat → List Oper
  | [] => []
  | k :: r => match at_ l k with
    | some o => o :: pick l r
    | none => []
abbrev Plan := List (List Nat × Option (Nat × Bool))
def flat : Plan → List (Nat × Nat)
  | [] => []
  | (rs, none) :: t => rs.map (fun k => (k, 0)) ++ flat t
  | (rs, some (k, b)) :: t => rs.map (fun k => (k, 0)) ++ (k, if b then 2 else 1) :: flat t
theorem at_eq (l : List Oper) : ∀ k, l.toArray[k]? = at_ l k := by
  intro k
  rw [List.getElem?_toArray]
  induction l generalizing k with
  | nil => simp [at_]
  | cons o l ih => cases k with
    | zero => simp [at_]
    | succ k => simpa [at_] using ih k

def wpSeg (P : Program) (l : List Oper) (Q : Exit → Act → World → Prop) : Plan → World → Act → World → Prop
  | [], _, a, w => Q .normal a w
  | (rs, none) :: t, w0, a, w => wpQuiet P l.toArray (fun w' => ∃ u : Wb w0, w' = u.w) (fun a' => wpSeg P l Q t w0 a' w) (pick l rs) a
  | (rs, some (k, false)) :: t, w0, a, w => wpQuiet P l.toArray (fun w' => ∃ u : Wb w0, w' = u.w) (fun a' =>
      ∀ K : Exit → Act → World → Prop, (∀ a w, Below w0.heap.size w0 w → wpSeg P l Q t w0 a w → K .normal a w) → (∀ a w, Below w0.heap.size w0 w → wpSeg P l Q t w a w → K .normal a w) → (∀ e a w, e ≠ .normal → Q e a w → K e a w) → wpList P l.toArray K (pick l [k]) a' w) (pick l rs) a
  | (rs, some (k, true)) :: t, w0, a, w => wpQuiet P l.toArray (fun w' => ∃ u : Wb w0, w' = u.w) (fun a' =>
      ∀ K : Exit → Act → World → Prop, (∀ a w, wpSeg P l Q t w a w → K .normal a w) → (∀ e a w, e ≠ .normal → Q e a w → K e a w) → wpList P l.toArray K (pick l [k]) a' w) (pick l rs) a

/-- all the numbers are there -/
def inB (n : Nat) (p : Plan) : Bool := (flat p).all fun q => decide (q.1 < n)
theorem at_lt (l : List Oper) : ∀ k, k < l.length → ∃ o, at_ l k = some o := fun k hk => by
  rw [← at_eq, List.getElem?_toArray, List.getElem?_eq_getElem hk]; exact ⟨_, rfl⟩

theorem ord_reads {l : List Oper} {r : List (Nat × Nat)} {w0 w : World} : ∀ (rs : List Nat) (a : Act), (∀ k ∈ rs, k < l.length) → wpQuiet P l.toArray (fun w' => ∃ u : Wb w0, w' = u.w) (fun a' => wpOrd P l.toArray Q r w0 a' w) (pick l rs) a → wpOrd P l.toArray Q (rs.map (fun k => (k, 0)) ++ r) w0 a w
  | [], a, _, h => by simpa [pick, wpQuiet] using h
  | k :: rs, a, hlt, h => by
    obtain ⟨o, ho⟩ := at_lt l k (hlt k (by simp))
    simp only [pick, ho, wpQuiet] at h
    simp only [List.map_cons, List.cons_append, wpOrd, at_eq, ho]
    have ih := fun a => ord_reads (r := r) (w := w) (w0 := w0) rs a (fun j hj => hlt j (by simp [hj]))
    split at h
    · rename_i hw
      simp only [beq_self_eq_true, if_true, hw]
      exact Oper.quiet_mono ih h
    · rename_i hw
      simp only [beq_self_eq_true, if_true, hw]
      exact ih _ h

theorem not_normal {K Q : Exit → Act → World → Prop} (hk : ∀ e a w, e ≠ .normal → K e a w → Q e a w) : LetsOut K → LetsOut Q := fun ⟨a, w, h⟩ => ⟨a, w, hk _ a w (by simp) h⟩
theorem wp_post {o : Oper} {a : Act} {w : World} {N N' : Act → World → Prop} {K : Exit → Act → World → Prop} (hN : ∀ a w, N a w → N' a w) (hk : ∀ e a w, e ≠ .normal → K e a w → Q e a w) (h : o.wp P a w N K ∨ (o.asks P a w ∧ LetsOut K)) : o.wp P a w N' Q ∨ (o.asks P a w ∧ LetsOut Q) := by
  rcases h with h | ⟨h1, h2⟩
  · refine .inl ?_
    unfold Oper.wp at *
    generalize (execOp a.eval o).run P w = r at *
    cases r with
    | ok n w' =>
      cases n <;> simp only [Oper.upon] at h ⊢ <;>
        first
          | exact hN _ _ h
          | exact Calls.mono h (fun e w'' he => by cases e <;> first | exact hN _ _ he | exact hk _ _ _ (by simp) he | exact not_normal hk he)
          | exact Rows.mono h (fun _ _ he => hN _ _ he)
    | halt x w' => cases x <;> simp only [Oper.upon] at h ⊢ <;> first | exact hk _ _ _ (by simp) h | exact h
  · exact .inr ⟨h1, not_normal hk h2⟩

theorem seg_ord {l : List Oper} : ∀ (p : Plan) (w0 : World) (a : Act) (w : World), inB l.length p = true → wpSeg P l Q p w0 a w → wpOrd P l.toArray Q (flat p) w0 a w
  | [], w0, a, w, _, h => h
  | (rs, none) :: t, w0, a, w, hB, h => by
    simp only [inB, flat, List.all_append, Bool.and_eq_true] at hB
    simp only [wpSeg] at h
    refine ord_reads rs a (fun k hk => ?_) (wpQuiet_mono' (fun a' h' => seg_ord t w0 a' w hB.2 h') _ _ h)
    have := List.all_eq_true.1 hB.1 (k, 0) (List.mem_map.2 ⟨k, hk, rfl⟩)
    simpa using this
  | (rs, some (k, b)) :: t, w0, a, w, hB, h => by
    simp only [inB, flat, List.all_append, List.all_cons, Bool.and_eq_true] at hB
    obtain ⟨hB1, hB2, hB3⟩ := hB
    have hk : k < l.length := by simpa using hB2
    obtain ⟨o, ho⟩ := at_lt l k hk
    have hrs : ∀ j ∈ rs, j < l.length := fun j hj => by
      have := List.all_eq_true.1 hB1 (j, 0) (List.mem_map.2 ⟨j, hj, rfl⟩)
      simpa using this
    refine ord_reads rs a hrs ?_
    cases b with
    | false =>
      simp only [wpSeg] at h
      refine wpQuiet_mono' (fun a' h' => ?_) _ _ h
      have h1 := h' (fun e a w' => match e with | .normal => Below w0.heap.size w0 w' ∧ (wpSeg P l Q t w0 a w' ∨ wpSeg P l Q t w' a w') | e => Q e a w') (fun a w hb hs => ⟨hb, .inl hs⟩) (fun a w hb hs => ⟨hb, .inr hs⟩) (fun e a w he hq => by cases e <;> first | exact absurd rfl he | exact hq)
      simp only [pick, ho, wpList] at h1
      simp only [Bool.false_eq_true, if_false, wpOrd, at_eq, ho]
      have fin : ∀ a w', (wpSeg P l Q t w0 a w' ∨ wpSeg P l Q t w' a w') → (wpOrd P l.toArray Q (flat t) w0 a w' ∨ wpOrd P l.toArray Q (flat t) w' a w') := fun a w' h => h.imp (seg_ord t _ _ _ hB3) (seg_ord t _ _ _ hB3)
      split at h1
      · rename_i hw
        simp only [show ((1 : Nat) == 0) = false from rfl, Bool.false_eq_true, if_false, beq_self_eq_true, if_true, hw]
        exact wp_post (fun a w' h => ⟨h.1, fin a w' h.2⟩) (fun e a w he hq => by cases e <;> first | exact absurd rfl he | exact hq) h1
      · rename_i hw
        simp only [show ((1 : Nat) == 0) = false from rfl, Bool.false_eq_true, if_false, beq_self_eq_true, if_true, hw]
        exact fin _ _ h1.2
    | true =>
      simp only [wpSeg] at h
      refine wpQuiet_mono' (fun a' h' => ?_) _ _ h
      have h1 := h' (fun e a w' => match e with | .normal => wpSeg P l Q t w' a w' | e => Q e a w') (fun a w hs => hs) (fun e a w he hq => by cases e <;> first | exact absurd rfl he | exact hq)
      simp only [pick, ho, wpList] at h1
      simp only [if_true, wpOrd, at_eq, ho]
      split at h1
      · rename_i hw
        simp only [show ((2 : Nat) == 0) = false from rfl, show ((2 : Nat) == 1) = false from rfl, Bool.false_eq_true, if_false, if_true, hw]
        exact wp_post (fun a w' h => seg_ord t _ _ _ hB3 h) (fun e a w he hq => by cases e <;> first | exact absurd rfl he | exact hq) h1
      · rename_i hw
        simp only [show ((2 : Nat) == 0) = false from rfl, show ((2 : Nat) == 1) = false from rfl, Bool.false_eq_true, if_false, hw]
        exact seg_ord t _ _ _ hB3 h1
end

section
variable {P : Program} {l : List Oper} {Q : Exit → Act → World → Prop} {t : Plan} {w0 w : World} {a : Act} {rs : List Nat} {k : Nat}
/-- the last segment -/
theorem seg_end (seg : List Oper) (hs : pick l rs = seg) (h : wpQuiet P l.toArray (fun w' => ∃ u : Wb w0, w' = u.w) (fun a' => Q .normal a' w) seg a) : wpSeg P l Q [(rs, none)] w0 a w := by
  subst hs; exact h
/-- then one that acts, and leaves what lay -/
theorem seg_act (seg : List Oper) (hs : pick l rs = seg) (one : List Oper) (ho : pick l [k] = one)
    (h : wpQuiet P l.toArray (fun w' => ∃ u : Wb w0, w' = u.w) (fun a' => ∀ K : Exit → Act → World → Prop, (∀ a w, Below w0.heap.size w0 w → wpSeg P l Q t w0 a w → K .normal a w) → (∀ a w, Below w0.heap.size w0 w → wpSeg P l Q t w a w → K .normal a w) → wpList P l.toArray K one a' w) seg a) :
    wpSeg P l Q ((rs, some (k, false)) :: t) w0 a w := by
  subst hs ho
  exact wpQuiet_mono' (fun a' h K h1 h2 _ => h K h1 h2) _ _ h
/-- then one that writes -/
theorem seg_write (seg : List Oper) (hs : pick l rs = seg) (one : List Oper) (ho : pick l [k] = one)
    (h : wpQuiet P l.toArray (fun w' => ∃ u : Wb w0, w' = u.w) (fun a' => ∀ K : Exit → Act → World → Prop, (∀ a w, wpSeg P l Q t w a w → K .normal a w) → wpList P l.toArray K one a' w) seg a) :
    wpSeg P l Q ((rs, some (k, true)) :: t) w0 a w := by
  subst hs ho
  exact wpQuiet_mono' (fun a' h K h1 _ => h K h1) _ _ h
end

/-- the plan fits the region -/
def planB (l : List Oper) (p : Plan) : Bool := Region.noSelect l.toArray && inB l.length p && (flat p).length == l.length && ordB .any l.toArray (flat p) (Array.replicate l.length false)

theorem wp_region_plan {P : Program} {id : Nat} {Q : Exit → Act → World → Prop} {a : Act} {w : World} {l : List Oper} (p : Plan) (hm : P.follows .mixedOrders = true) (hB : planB l p = true)
    (h : wpSeg P l (NoPanic Q) p w a w.drew) : (Code.region id l.toArray true).wp P Q a w := by
  simp only [planB, Bool.and_eq_true] at hB
  obtain ⟨⟨⟨hs, hin⟩, hlen⟩, hord⟩ := hB
  have hlen' : (flat p).length = l.length := by simpa using hlen
  refine wp_region_noPanic (wp_region_any hm ?_)
  have := ord_any (md := .any) (Q := NoPanic Q) hs (fun _ _ _ _ h => h) (flat p) (Array.replicate l.length false) w a w.drew (fun j oj hj => ?_) (Below.refl _ _).drew hord (seg_ord p w a w.drew hin h)
  · have h2 := wpAny_of_E _ _ _ _ this
    rw [hlen'] at h2
    simpa using h2
  · exfalso
    rcases Nat.lt_or_ge j l.length with h | h
    · simp [h] at hj
    · simp [Array.getElem?_eq_none, h] at hj
end Go.Proofs.Ytheanpcbjjogfaa.ord
