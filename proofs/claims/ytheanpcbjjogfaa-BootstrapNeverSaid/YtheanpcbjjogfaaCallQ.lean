/-
  A region that draws its order: a call that leaves the world as it is, and yields one value in every world of the region, may be taken first.
-/
import Derived.Test.YtheanpcbjjogfaaTwo
namespace Go.Proofs.Ytheanpcbjjogfaa.ord
open Go Go.RowKit words

section
variable {P : Program} {ops : Array Oper} {Q : Exit → Act → World → Prop} {md : Region.Mode} {S : World → Prop}

/-- in every world of S the call yields v and leaves the world -/
def CallsIf (P : Program) (ops : Array Oper) (S : World → Prop) (o : Oper) (v : Value) (a : Act) : Prop :=
  (Region.wanted o (yielded ops a.tmps) = true ∧ ∃ f args, (∀ w, (execOp a.eval o).run P w = .ok (.enter f args) w) ∧ ∀ w, S w → Calls P f args w fun e w' => e = .returned v ∧ w' = w) ∨
  (Region.wanted o (yielded ops a.tmps) = false ∧ v = undef)
theorem CallsIf.same {o : Oper} {v : Value} {a a' : Act} (hy : CallsIf P ops S o v a) (he : execOp a'.eval o = execOp a.eval o) (hw : Region.wanted o (yielded ops a'.tmps) = Region.wanted o (yielded ops a.tmps)) : CallsIf P ops S o v a' := by
  unfold CallsIf at *
  rw [he, hw]
  exact hy
theorem CallsIf.run {i : Nat} {o : Oper} {v : Value} {a : Act} (hi : ops[i]? = some o) (hy : CallsIf P ops S o v a) {K : Act → World → Prop} {w : World} (hS : S w) (h : K (a.put o.dst v) w) : wpOp P ops Q i K a w := by
  unfold wpOp
  simp only [hi]
  rcases hy with ⟨hw, f, args, hr, hc⟩ | ⟨hw, rfl⟩
  · rw [if_pos hw]
    refine .inl ?_
    unfold Oper.wp
    rw [hr w]
    refine Calls.mono (hc w hS) fun e w' ⟨he, hw⟩ => ?_
    subst he
    subst hw
    exact h
  · simp only [hw, Bool.false_eq_true, if_false]; exact h
/-- taken before or behind another one that is apart from it -/
theorem callsIf_swap {j : Nat} {oi oj : Oper} {v : Value} (hj : ops[j]? = some oj) (hap : oi.apart ops oj = true) (hsi : ∀ cs b, oi.op ≠ .select cs b) (hsj : ∀ cs b, oj.op ≠ .select cs b)
    (hQ : ∀ c a a' w, Q (.panic c) a w → Q (.panic c) a' w) {K : Act → World → Prop} {a : Act} {w : World} (hy : CallsIf P ops S oi v a) (h : wpOp P ops Q j K (a.put oi.dst v) w) :
    wpOp P ops Q j (fun a' w' => CallsIf P ops S oi v a' ∧ K (a'.put oi.dst v) w') a w := by
  obtain ⟨h1, h2, h3⟩ := Oper.apart_spec hap
  have put : ∀ (b : Act), CallsIf P ops S oi v b → ∀ u, CallsIf P ops S oi v (b.put oj.dst u) := fun b hb u => hb.same (execOp_put oi hsi b oj.dst u h3) (wanted_put oi b oj.dst u h3)
  have eE := execOp_put oj hsj a oi.dst v h1
  have eW := wanted_put oj a oi.dst v h1
  unfold wpOp at h ⊢
  simp only [hj] at h ⊢
  rw [eW] at h
  by_cases hw : Region.wanted oj (yielded ops a.tmps) = true
  · rw [if_pos hw] at h ⊢
    rcases h with h | ⟨ha, hl⟩
    · refine .inl ?_
      unfold Oper.wp at h ⊢
      rw [eE] at h
      generalize (execOp a.eval oj).run P w = r at h ⊢
      rcases r with ⟨n, w'⟩ | ⟨x, w'⟩
      · cases n <;> simp only [Oper.upon] at h ⊢
        case value u => exact ⟨put a hy u, by rw [← Act.put_comm a v u h2]; exact h⟩
        case skip => exact ⟨put a hy _, by rw [← Act.put_comm a v undef h2]; exact h⟩
        case defer d => exact ⟨put { a with defers := d :: a.defers } (hy.same rfl rfl) _, by rw [← Act.put_comm _ v undef h2, ← Act.put_defers]; exact h⟩
        case enter f args =>
          refine Calls.mono h fun e w'' he => ?_
          rcases e with u | c | _
          · exact ⟨put a hy u, by rw [← Act.put_comm a v u h2]; exact he⟩
          · exact hQ _ _ _ _ he
          · exact he
        case row row args => exact Rows.mono h fun u w'' he => ⟨put a hy u, by rw [← Act.put_comm a v u h2]; exact he⟩
      · cases x <;> simp only [Oper.upon] at h ⊢
        exact hQ _ _ _ _ h
    · exact .inr ⟨by unfold Oper.asks at ha ⊢; rw [eE] at ha; exact ha, hl⟩
  · rw [if_neg hw] at h ⊢
    exact ⟨put a hy _, by rw [← Act.put_comm a v undef h2]; exact h⟩

theorem wpAnyE_call {ex : Nat → Bool} {i : Nat} {oi : Oper} {v : Value} (hi : ops[i]? = some oi) (hsel : ∀ (j : Nat) (o : Oper) cs b, ops[j]? = some o → o.op ≠ .select cs b) (hQ : ∀ c a a' w, Q (.panic c) a w → Q (.panic c) a' w) :
    ∀ (fuel : Nat) (listed : Array Bool) (a : Act) (w : World), Closed md ops listed → (∀ k, ex k = true → listed.getD k false = false → ∃ f, waits md ops i f k = true) →
      (∀ j oj, ops[j]? = some oj → j ≠ i → listed.getD j true = false → (∀ e ∈ oj.after, Region.binds md e = true → e.on ≠ i) → oi.apart ops oj = true) →
      i ∈ Region.ready md ops listed → CallsIf P ops S oi v a → S w →
      wpAnyE P md ops Q S ex fuel (listed.setIfInBounds i true) (a.put oi.dst v) w → wpAnyE P md ops Q S ex (fuel + 1) listed a w := by
  have getf : ∀ (l : Array Bool) k, l.getD k true = false → l.getD k false = false := fun l k h => by
    rcases Nat.lt_or_ge k l.size with h' | h'
    · simp [h'] at h ⊢; exact h
    · simp [Array.getElem?_eq_none h'] at h
  intro fuel
  induction fuel with
  | zero =>
    intro listed a w _ _ _ hr hy hS H
    refine ⟨fun h => (by rw [h] at hr; cases hr), fun j hj => ?_⟩
    by_cases hji : j = i
    · subst hji; exact hy.run hi hS (.inr ⟨hS, H⟩)
    · have := ready_mono hj hji
      rw [H.1] at this
      cases this
  | succ fuel ih =>
    intro listed a w hcl hexw hfree hr hy hS H
    refine ⟨fun h => (by rw [h] at hr; cases hr), fun j hj => ?_⟩
    by_cases hji : j = i
    · subst hji; exact hy.run hi hS (.inr ⟨hS, H⟩)
    obtain ⟨hjun, oj, hoj, hall⟩ := mem_ready.1 hj
    have hiun := (mem_ready.1 hr).1
    have hnot : ∀ e ∈ oj.after, Region.binds md e = true → e.on ≠ i := fun e he hb heq => by
      have h1 := hall e he hb
      rw [heq, getf _ _ hiun] at h1
      cases h1
    have hnex : ¬ ex j = true := fun hx => by
      obtain ⟨f, hf⟩ := hexw j hx (getf _ _ hjun)
      exact absurd hj (waits_not hcl (getf _ _ hiun) f j hf).2
    refine wpOp_mono (fun a' w' ⟨hy', h3⟩ => ?_) (callsIf_swap hoj (hfree j oj hoj hji hjun hnot) (fun cs b => hsel i oi cs b hi) (fun cs b => hsel j oj cs b hoj) hQ hy (H.2 j (ready_mono hj hji)))
    rcases h3 with ⟨hx, _⟩ | ⟨hS', h3⟩
    · exact absurd hx hnex
    refine .inr ⟨hS', ih (listed.setIfInBounds j true) a' w' (hcl.add hj) (fun k hk hun => hexw k hk ?_) (fun k ok hk hki hun hno => hfree k ok hk hki ?_ hno) (ready_mono hr (Ne.symm hji)) hy' hS' ?_⟩
    · by_cases hjk : j = k
      · subst hjk; exact getf _ _ hjun
      · rw [getD_set_ne false hjk] at hun; exact hun
    · by_cases hjk : j = k
      · subst hjk; exact hjun
      · rw [getD_set_ne true hjk] at hun; exact hun
    · rw [Array.setIfInBounds_comm _ _ hji]
      exact h3
end

/-! ### a plan with such calls, and two ways at an act -/
inductive Tr
  | stop : Tr
  | reads : List Nat → Tr → Tr
  | same : Nat → Tr → Tr
  | one : Nat → Bool → Tr → Tr
  | two : Nat → Bool → Tr → Nat → Bool → Tr → Tr

/-- the acts that write -/
def Tr.exs : Tr → List Nat
  | .stop => []
  | .reads _ t | .same _ t => t.exs
  | .one k b t => if b then k :: t.exs else t.exs
  | .two k b t m c u => (if b then k :: t.exs else t.exs) ++ (if c then m :: u.exs else u.exs)
def Tr.size : Tr → Nat
  | .stop => 0
  | .reads rs t => rs.length + t.size
  | .same _ t | .one _ _ t => t.size + 1
  | .two _ _ t _ _ _ => t.size + 1
section
variable {P : Program} {l : List Oper} {Q : Exit → Act → World → Prop} {md : Region.Mode}
def trB (md : Region.Mode) (ops : Array Oper) : Tr → Array Bool → Bool
  | .stop, listed => (Region.ready md ops listed).isEmpty
  | .reads rs t, listed => preB md ops t.exs rs listed && trB md ops t (lst rs listed)
  | .same k t, listed => (Region.ready md ops listed).contains k && Region.free md ops listed k && (ops[k]?).isSome && (t.exs.all fun i => waits md ops k ops.size i) && trB md ops t (listed.setIfInBounds k true)
  | .one k _ t, listed => Region.ready md ops listed == [k] && (ops[k]?).isSome && trB md ops t (listed.setIfInBounds k true)
  | .two k _ t j _ u, listed => Region.ready md ops listed == [k, j] && (ops[k]?).isSome && (ops[j]?).isSome && t.size == u.size && trB md ops t (listed.setIfInBounds k true) && trB md ops u (listed.setIfInBounds j true)

/-- an act that leaves what lay -/
def wpS (P : Program) (l : List Oper) (Q : Exit → Act → World → Prop) (k : Nat) (T : World → Act → World → Prop) (w0 : World) (a : Act) (w : World) : Prop :=
  ∀ K : Exit → Act → World → Prop, (∀ a w, Below w0.heap.size w0 w → T w0 a w → K .normal a w) → (∀ a w, Below w0.heap.size w0 w → T w a w → K .normal a w) → (∀ e a w, e ≠ .normal → Q e a w → K e a w) → wpList P l.toArray K (pick l [k]) a w
/-- an act that writes -/
def wpW (P : Program) (l : List Oper) (Q : Exit → Act → World → Prop) (k : Nat) (T : World → Act → World → Prop) (a : Act) (w : World) : Prop :=
  ∀ K : Exit → Act → World → Prop, (∀ a w, T w a w → K .normal a w) → (∀ e a w, e ≠ .normal → Q e a w → K e a w) → wpList P l.toArray K (pick l [k]) a w
/-- the walk: w0 is the world whose memory stands, w the world at hand -/
def wpTr (P : Program) (l : List Oper) (Q : Exit → Act → World → Prop) : Tr → World → Act → World → Prop
  | .stop, _, a, w => Q .normal a w
  | .reads rs t, w0, a, w => wpQuiet P l.toArray (fun w' => ∃ u : Wb w0, w' = u.w) (fun a' => wpTr P l Q t w0 a' w) (pick l rs) a
  | .same k t, w0, a, w => ∃ o v, at_ l k = some o ∧ CallsIf P l.toArray (fun w' => Below w0.heap.size w0 w') o v a ∧ wpTr P l Q t w0 (a.put o.dst v) w
  | .one k b t, w0, a, w => if b then wpW P l Q k (wpTr P l Q t) a w else wpS P l Q k (wpTr P l Q t) w0 a w
  | .two k b t j c u, w0, a, w => (if b then wpW P l Q k (wpTr P l Q t) a w else wpS P l Q k (wpTr P l Q t) w0 a w) ∧ (if c then wpW P l Q j (wpTr P l Q u) a w else wpS P l Q j (wpTr P l Q u) w0 a w)

theorem closed_lst {E : List Nat} : ∀ (rs : List Nat) (listed : Array Bool), Closed md l.toArray listed → preB md l.toArray E rs listed = true → Closed md l.toArray (lst rs listed)
  | [], _, h, _ => h
  | j :: rs, listed, h, hb => by
    simp only [preB, Bool.and_eq_true] at hb
    exact closed_lst rs _ (h.add (by simpa using hb.1.1.1.1)) hb.2
theorem act_op {k : Nat} {o : Oper} (ho : at_ l k = some o) {T : World → Act → World → Prop} {w0 w : World} {a : Act} (h : wpS P l Q k T w0 a w) :
    wpOp P l.toArray Q k (fun a' w' => Below w0.heap.size w0 w' ∧ (T w0 a' w' ∨ T w' a' w')) a w := by
  have h1 := h (fun e a w' => match e with | .normal => Below w0.heap.size w0 w' ∧ (T w0 a w' ∨ T w' a w') | e => Q e a w') (fun a w hb hs => ⟨hb, .inl hs⟩) (fun a w hb hs => ⟨hb, .inr hs⟩) (fun e a w he hq => by cases e <;> first | exact absurd rfl he | exact hq)
  simp only [pick, ho, wpList] at h1
  unfold wpOp
  simp only [at_eq, ho]
  split at h1
  · rename_i hw
    rw [if_pos hw]
    exact wp_post (fun a w' h => h) (fun e a w he hq => by cases e <;> first | exact absurd rfl he | exact hq) h1
  · rename_i hw
    rw [if_neg hw]
    exact h1
theorem act_ow {k : Nat} {o : Oper} (ho : at_ l k = some o) {T : World → Act → World → Prop} {w : World} {a : Act} (h : wpW P l Q k T a w) :
    wpOp P l.toArray Q k (fun a' w' => T w' a' w') a w := by
  have h1 := h (fun e a w' => match e with | .normal => T w' a w' | e => Q e a w') (fun a w hs => hs) (fun e a w he hq => by cases e <;> first | exact absurd rfl he | exact hq)
  simp only [pick, ho, wpList] at h1
  unfold wpOp
  simp only [at_eq, ho]
  split at h1
  · rename_i hw
    rw [if_pos hw]
    exact wp_post (fun a w' h => h) (fun e a w he hq => by cases e <;> first | exact absurd rfl he | exact hq) h1
  · rename_i hw
    rw [if_neg hw]
    exact h1
/-- one act of either kind, all told -/
theorem act_any (hs : Region.noSelect l.toArray = true) {k n : Nat} {o : Oper} (ho : at_ l k = some o) {b : Bool} {T : World → Act → World → Prop} {E E' : List Nat} {listed : Array Bool} {w0 w : World} {a : Act}
    (ih : ∀ w0 a w, Below w0.heap.size w0 w → T w0 a w → wpAnyE P md l.toArray Q (fun w' => Below w0.heap.size w0 w') (fun k => E.contains k) n (listed.setIfInBounds k true) a w)
    (hE : ∀ i, i ∈ E → i ∈ E') (hk : b = true → k ∈ E') (h : if b then wpW P l Q k T a w else wpS P l Q k T w0 a w) :
    wpOp P l.toArray Q k (fun a' w' => (E'.contains k = true ∧ wpAny P md l.toArray Q n (listed.setIfInBounds k true) a' w') ∨ (Below w0.heap.size w0 w' ∧ wpAnyE P md l.toArray Q (fun w' => Below w0.heap.size w0 w') (fun k => E'.contains k) n (listed.setIfInBounds k true) a' w')) a w := by
  have hex : ∀ i, E.contains i = true → E'.contains i = true := fun i hi => by
    have := hE i (by simpa using hi)
    simpa using this
  cases b with
  | true =>
    rw [if_pos rfl] at h
    exact wpOp_mono (fun a' w' h' => .inl ⟨by simpa using hk rfl, wpAny_of_E _ _ _ _ (ih w' a' w' (Below.refl _ _) h')⟩) (act_ow ho h)
  | false =>
    rw [if_neg (by simp)] at h
    refine wpOp_mono (fun a' w' ⟨hb, h'⟩ => .inr ⟨hb, ?_⟩) (act_op ho h)
    rcases h' with h' | h'
    · exact wpAnyE_mono (fun _ h => h) hex _ _ _ _ (ih w0 a' w' hb h')
    · exact wpAnyE_mono (fun _ h => hb.trans (h.mono hb.size)) hex _ _ _ _ (ih w' a' w' (Below.refl _ _) h')

theorem tr_any (hs : Region.noSelect l.toArray = true) (hQ : ∀ c a a' w, Q (.panic c) a w → Q (.panic c) a' w) : ∀ (t : Tr) (listed : Array Bool) (w0 : World) (a : Act) (w : World), Closed md l.toArray listed → Below w0.heap.size w0 w → trB md l.toArray t listed = true →
    wpTr P l Q t w0 a w → wpAnyE P md l.toArray Q (fun w' => Below w0.heap.size w0 w') (fun k => t.exs.contains k) t.size listed a w
  | .stop, listed, w0, a, w, _, _, hB, h => ⟨by simpa [trB] using hB, h⟩
  | .reads rs t, listed, w0, a, w, hcl, hw, hB, h => by
    simp only [trB, Bool.and_eq_true] at hB
    simp only [wpTr] at h
    have := reads_any (P := P) (Q := Q) (md := md) (w0 := w0) (w := w) (ex := fun k => t.exs.contains k) (E := t.exs) (fuel := t.size) hs hQ (fun i hi => by simpa using hi) hw rs listed a hcl hB.1
      (fun hcl' => wpQuiet_mono' (fun a' h' => tr_any hs hQ t _ w0 a' w hcl' hw hB.2 h') _ _ h)
    rw [Nat.add_comm] at this
    exact this
  | .same k t, listed, w0, a, w, hcl, hw, hB, h => by
    simp only [trB, Bool.and_eq_true] at hB
    obtain ⟨⟨⟨⟨hr, hf⟩, _⟩, hx⟩, hB'⟩ := hB
    simp only [wpTr] at h
    obtain ⟨o, v, ho, hy, h⟩ := h
    have ho' : l.toArray[k]? = some o := by rw [at_eq, ho]
    have hk : k ∈ Region.ready md l.toArray listed := by simpa using hr
    exact wpAnyE_call ho' (Region.noSelect_spec hs) hQ t.size listed a w hcl (fun i hi _ => ⟨l.toArray.size, List.all_eq_true.1 hx i (by simpa [Tr.exs] using hi)⟩) (Region.free_spec ho' hf) hk hy hw (tr_any hs hQ t _ w0 _ w (hcl.add hk) hw hB' h)
  | .one k b t, listed, w0, a, w, hcl, hw, hB, h => by
    simp only [trB, Bool.and_eq_true] at hB
    obtain ⟨⟨hr, ho⟩, hB'⟩ := hB
    have hrk : Region.ready md l.toArray listed = [k] := by simpa using hr
    rw [at_eq] at ho
    obtain ⟨o, ho⟩ := Option.isSome_iff_exists.1 ho
    simp only [wpTr] at h
    refine ⟨fun h0 => (by rw [hrk] at h0; cases h0), fun j hj => ?_⟩
    have hj' := hj
    rw [hrk] at hj'
    obtain rfl : j = k := by simpa using hj'
    exact act_any (E := t.exs) hs ho (fun w0 a w hb h' => tr_any hs hQ t _ w0 a w (hcl.add hj) hb hB' h') (fun i hi => by cases b <;> simp [Tr.exs, hi]) (fun hb => by subst hb; simp [Tr.exs]) h
  | .two k b t m c u, listed, w0, a, w, hcl, hw, hB, h => by
    simp only [trB, Bool.and_eq_true] at hB
    obtain ⟨⟨⟨⟨⟨hr, ho⟩, ho2⟩, hsz⟩, hB1⟩, hB2⟩ := hB
    have hrk : Region.ready md l.toArray listed = [k, m] := by simpa using hr
    have hsz' : t.size = u.size := by simpa using hsz
    rw [at_eq] at ho ho2
    obtain ⟨o, ho⟩ := Option.isSome_iff_exists.1 ho
    obtain ⟨o2, ho2⟩ := Option.isSome_iff_exists.1 ho2
    simp only [wpTr] at h
    refine ⟨fun h0 => (by rw [hrk] at h0; cases h0), fun j hj => ?_⟩
    have hj' := hj
    rw [hrk] at hj'
    rcases List.mem_cons.1 hj' with rfl | hj'
    · exact act_any (E := t.exs) hs ho (fun w0 a w hb h' => tr_any hs hQ t _ w0 a w (hcl.add hj) hb hB1 h') (fun i hi => by simp only [Tr.exs, List.mem_append]; exact .inl (by cases b <;> simp [hi])) (fun hb => by subst hb; simp [Tr.exs]) h.1
    · obtain rfl : j = m := by simpa using hj'
      refine act_any (E := u.exs) hs ho2 (fun w0 a w hb h' => ?_) (fun i hi => by simp only [Tr.exs, List.mem_append]; exact .inr (by cases c <;> simp [hi])) (fun hb => by subst hb; simp [Tr.exs]) h.2
      rw [hsz']
      exact tr_any hs hQ u _ w0 a w (hcl.add hj) hb hB2 h'

/-- the tree fits the region -/
def treeB (l : List Oper) (t : Tr) : Bool := Region.noSelect l.toArray && t.size == l.length && trB .any l.toArray t (Array.replicate l.length false)
theorem wp_region_tree {id : Nat} {a : Act} {w : World} (t : Tr) (hm : P.follows .mixedOrders = true) (hB : treeB l t = true) (h : wpTr P l (NoPanic Q) t w a w.drew) : (Code.region id l.toArray true).wp P Q a w := by
  simp only [treeB, Bool.and_eq_true] at hB
  obtain ⟨⟨hs, hlen⟩, hord⟩ := hB
  have hlen' : t.size = l.length := by simpa using hlen
  refine wp_region_noPanic (wp_region_any hm ?_)
  have := tr_any (md := .any) (Q := NoPanic Q) hs (fun _ _ _ _ h => h) t (Array.replicate l.length false) w a w.drew (fun j oj hj => ?_) (Below.refl _ _).drew hord h
  · have h2 := wpAny_of_E _ _ _ _ this
    rw [hlen'] at h2
    simpa using h2
  · exfalso
    rcases Nat.lt_or_ge j l.length with h | h
    · simp [h] at hj
    · simp [Array.getElem?_eq_none, h] at hj

variable {w0 w : World} {a : Act} {t u : Tr} {rs : List Nat} {k m : Nat}
theorem tr_reads (seg : List Oper) (hs : pick l rs = seg) (h : wpQuiet P l.toArray (fun w' => ∃ u : Wb w0, w' = u.w) (fun a' => wpTr P l Q t w0 a' w) seg a) : wpTr P l Q (.reads rs t) w0 a w := by
  subst hs; exact h
theorem act_s {T : World → Act → World → Prop} (one : List Oper) (ho : pick l [k] = one)
    (h : ∀ K : Exit → Act → World → Prop, (∀ a w, Below w0.heap.size w0 w → T w0 a w → K .normal a w) → (∀ a w, Below w0.heap.size w0 w → T w a w → K .normal a w) → wpList P l.toArray K one a w) : wpS P l Q k T w0 a w := by
  subst ho; exact fun K h1 h2 _ => h K h1 h2
theorem act_w {T : World → Act → World → Prop} (one : List Oper) (ho : pick l [k] = one)
    (h : ∀ K : Exit → Act → World → Prop, (∀ a w, T w a w → K .normal a w) → wpList P l.toArray K one a w) : wpW P l Q k T a w := by
  subst ho; exact fun K h1 _ => h K h1
theorem tr_one (one : List Oper) (ho : pick l [k] = one)
    (h : ∀ K : Exit → Act → World → Prop, (∀ a w, Below w0.heap.size w0 w → wpTr P l Q t w0 a w → K .normal a w) → (∀ a w, Below w0.heap.size w0 w → wpTr P l Q t w a w → K .normal a w) → wpList P l.toArray K one a w) : wpTr P l Q (.one k false t) w0 a w :=
  act_s one ho h
theorem tr_write (one : List Oper) (ho : pick l [k] = one)
    (h : ∀ K : Exit → Act → World → Prop, (∀ a w, wpTr P l Q t w a w → K .normal a w) → wpList P l.toArray K one a w) : wpTr P l Q (.one k true t) w0 a w :=
  act_w one ho h
theorem tr_two {b c : Bool} {u : Tr} {m : Nat} (h1 : if b then wpW P l Q k (wpTr P l Q t) a w else wpS P l Q k (wpTr P l Q t) w0 a w) (h2 : if c then wpW P l Q m (wpTr P l Q u) a w else wpS P l Q m (wpTr P l Q u) w0 a w) : wpTr P l Q (.two k b t m c u) w0 a w := ⟨h1, h2⟩
theorem tr_stop (h : Q .normal a w) : wpTr P l Q .stop w0 a w := h
/-- a call of a function by number -/
theorem tr_same {dst : Option Tmp} {f : FuncId} {args : Array Operand} {ats : Array TypeId} {ty : TypeId} {pos : String} {aft : Array Edge} (v : Value)
    (ho : at_ l k = some { dst := dst, op := .call { callee := .value (.func f), args := args, argTypes := ats }, type := ty, pos := pos, after := aft, guard := none }) (he : ∀ vs w, (callFunc f vs).run P w = .ok (.enter f vs) w) (vs : Array Value) (hv : args.map a.eval = vs)
    (hc : ∀ x : Wb w0, Calls P f vs x.w fun e w' => e = .returned v ∧ x.w = w') (h : wpTr P l Q t w0 (a.put dst v) w) : wpTr P l Q (.same k t) w0 a w := by
  subst hv
  refine ⟨_, v, ho, .inl ⟨rfl, f, args.map a.eval, fun w => ?_, fun w hw => (hc ⟨w, hw⟩).mono fun e w' ⟨h1, h2⟩ => ⟨h1, h2.symm⟩⟩, h⟩
  simp [execOp, resolve, invoke, Act.eval, Deferred.ofValue, Result.andThen]
  exact he _ _
end
end Go.Proofs.Ytheanpcbjjogfaa.ord
