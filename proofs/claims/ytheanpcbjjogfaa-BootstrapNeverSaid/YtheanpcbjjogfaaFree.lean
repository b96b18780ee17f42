/-
  A region that draws its order, in which blocks of F may be written all along: what is read lies in other blocks.
-/
import Derived.Test.YtheanpcbjjogfaaCallQ
import Derived.Test.YtheanpcbjjogfaaMem
namespace Go.Proofs.Ytheanpcbjjogfaa.ord
open Go Go.RowKit words mem

/-- a world in which all that lay in w0, but for the blocks of F, lies as it did -/
structure Wf (F : Nat → Prop) (w0 : World) where
  w : World
  h : Chg F w0 w
instance (F : Nat → Prop) (w0 : World) : Nonempty (Wf F w0) := ⟨⟨w0, Chg.refl _ _⟩⟩
theorem Wf.at_ {F : Nat → Prop} {w0 : World} {a : Addr} {v : Value} (h : w0.cell? a = some v) (hn : ¬ F a.block) : ∀ u : Wf F w0, u.w.cell? a = some v := fun u => by
  have hlt : a.block < w0.heap.size := World.block_lt_of_cell? w0 _ h
  rw [← h]
  simp only [World.cell?, u.h.block a.block hlt hn]
theorem chg_trans {F : Nat → Prop} {a b c : World} (h : Chg F a b) (k : Chg F b c) : Chg F a c := h.trans k (fun _ _ e => e)
namespace fr
section
variable {P : Program} {ops : Array Oper} {Q : Exit → Act → World → Prop} {md : Region.Mode} {F : Nat → Prop}
theorem read_step (hs : Region.noSelect ops = true) (hQ : ∀ c a a' w, Q (.panic c) a w → Q (.panic c) a' w) {k fuel : Nat} {listed : Array Bool} {w0 : World} {a : Act} {w : World} {ex : Nat → Bool} {o : Oper}
    (hcl : Closed md ops listed) (hw : Chg F w0 w) (hk : k ∈ Region.ready md ops listed) (hf : Region.free md ops listed k = true) (ho : ops[k]? = some o) (hp' : plainOp o.op = true)
    (hx : isMove o.op = true ∨ ∀ i, ex i = true → ∃ f, waits md ops k f i = true)
    (h : if Region.wanted o (yielded ops a.tmps) then o.quiet P a (fun w' => ∃ u : Wf F w0, w' = u.w) (fun a' => wpAnyE P md ops Q (fun w' => Chg F w0 w') ex fuel (listed.setIfInBounds k true) a' w) else wpAnyE P md ops Q (fun w' => Chg F w0 w') ex fuel (listed.setIfInBounds k true) (a.put o.dst undef) w) :
    wpAnyE P md ops Q (fun w' => Chg F w0 w') ex (fuel + 1) listed a w := by
  have key : ∃ v, YieldsIf P ops (fun w' => Chg F w0 w') o v a ∧ wpAnyE P md ops Q (fun w' => Chg F w0 w') ex fuel (listed.setIfInBounds k true) (a.put o.dst v) w := by
    by_cases hw' : Region.wanted o (yielded ops a.tmps) = true
    · rw [if_pos hw'] at h
      obtain ⟨v, hv, hn⟩ := h
      refine ⟨v, .inl ⟨hw', fun w1 h1 => ?_⟩, hn⟩
      have h2 := hv w1 ⟨⟨w1, h1⟩, rfl⟩
      unfold Oper.quietAt at h2
      generalize hrun : (execOp a.eval o).run P w1 = res at h2
      cases res with
      | halt x w2 => exact h2.elim
      | ok n w2 =>
        obtain ⟨u, rfl⟩ := plain_value o hp' _ _ _ _ hrun
        obtain ⟨e1, e2⟩ := h2
        rw [e1, e2]
    · rw [if_neg hw'] at h
      exact ⟨undef, .inr ⟨by simpa using hw', rfl⟩, h⟩
  obtain ⟨v, hy, hn⟩ := key
  rcases hx with hmv | hx
  · exact wpAnyE_move ho (Region.noSelect_spec hs) (fun c a w => hQ c _ a w) fuel listed a w (Region.free_spec ho hf) hk (move_yields hmv w hw hy) hw hn
  · exact wpAnyE_first ho (Region.noSelect_spec hs) (fun c a w => hQ c _ a w) fuel listed a w hcl (fun i hi _ => hx i hi) (Region.free_spec ho hf) hk hy hw hn

end
section
variable {P : Program} {l : List Oper} {Q : Exit → Act → World → Prop} {F : Nat → Prop}
theorem reads_any (hs : Region.noSelect l.toArray = true) (hQ : ∀ c a a' w, Q (.panic c) a w → Q (.panic c) a' w) {md : Region.Mode} {w0 w : World} {ex : Nat → Bool} {E : List Nat} (hE : ∀ i, ex i = true → i ∈ E) (hw : Chg F w0 w) {fuel : Nat} :
    ∀ (rs : List Nat) (listed : Array Bool) (a : Act), Closed md l.toArray listed → preB md l.toArray E rs listed = true →
      (Closed md l.toArray (lst rs listed) → wpQuiet P l.toArray (fun w' => ∃ u : Wf F w0, w' = u.w) (fun a' => wpAnyE P md l.toArray Q (fun w' => Chg F w0 w') ex fuel (lst rs listed) a' w) (pick l rs) a) →
      wpAnyE P md l.toArray Q (fun w' => Chg F w0 w') ex (fuel + rs.length) listed a w
  | [], listed, a, hcl, _, h => by simpa [pick, wpQuiet, lst] using h hcl
  | k :: rs, listed, a, hcl, hB, h => by
    simp only [preB, Bool.and_eq_true] at hB
    obtain ⟨⟨⟨⟨hr, hf⟩, hp⟩, hx⟩, hB'⟩ := hB
    have hk : k ∈ Region.ready md l.toArray listed := by simpa using hr
    cases ho : at_ l k with
    | none => rw [at_eq, ho] at hp; simp at hp
    | some o =>
      have ho' : l.toArray[k]? = some o := by rw [at_eq, ho]
      rw [ho'] at hp hx
      simp only [Option.map_some, Option.getD_some, Bool.or_eq_true] at hp hx
      have hcl2 := hcl.add hk
      have rest : ∀ a', wpQuiet P l.toArray (fun w' => ∃ u : Wf F w0, w' = u.w) (fun a' => wpAnyE P md l.toArray Q (fun w' => Chg F w0 w') ex fuel (lst rs (listed.setIfInBounds k true)) a' w) (pick l rs) a' → wpAnyE P md l.toArray Q (fun w' => Chg F w0 w') ex (fuel + rs.length) (listed.setIfInBounds k true) a' w :=
        fun a' h' => reads_any hs hQ hE hw rs _ a' hcl2 hB' (fun _ => h')
      have hcl3 : Closed md l.toArray (lst (k :: rs) listed) := by
        have : ∀ (rs : List Nat) (listed : Array Bool), Closed md l.toArray listed → preB md l.toArray E rs listed = true → Closed md l.toArray (lst rs listed) := by
          intro rs
          induction rs with
          | nil => intro listed h _; exact h
          | cons j rs ih =>
            intro listed h hb
            simp only [preB, Bool.and_eq_true] at hb
            exact ih _ (h.add (by simpa using hb.1.1.1.1)) hb.2
        exact this rs _ hcl2 hB'
      have h1 := h hcl3
      simp only [pick, ho, wpQuiet] at h1
      refine read_step hs hQ (fuel := fuel + rs.length) hcl hw hk hf ho' hp (hx.imp id fun hx i hi => ⟨l.toArray.size, by have := List.all_eq_true.1 hx i (hE i hi); exact this⟩) ?_
      split at h1
      · rename_i hw'
        rw [if_pos hw']
        exact Oper.quiet_mono (fun a' => rest a') h1
      · rename_i hw'
        rw [if_neg hw']
        exact rest _ h1

end
section
variable {P : Program} {l : List Oper} {Q : Exit → Act → World → Prop} {md : Region.Mode} {F : Nat → Prop}
/-- an act that leaves what lay -/
def wpS (F : Nat → Prop) (P : Program) (l : List Oper) (Q : Exit → Act → World → Prop) (k : Nat) (T : World → Act → World → Prop) (w0 : World) (a : Act) (w : World) : Prop :=
  ∀ K : Exit → Act → World → Prop, (∀ a w, Chg F w0 w → T w0 a w → K .normal a w) → (∀ a w, Chg F w0 w → T w a w → K .normal a w) → (∀ e a w, e ≠ .normal → Q e a w → K e a w) → wpList P l.toArray K (pick l [k]) a w
/-- an act that writes -/
def wpW (P : Program) (l : List Oper) (Q : Exit → Act → World → Prop) (k : Nat) (T : World → Act → World → Prop) (a : Act) (w : World) : Prop :=
  ∀ K : Exit → Act → World → Prop, (∀ a w, T w a w → K .normal a w) → (∀ e a w, e ≠ .normal → Q e a w → K e a w) → wpList P l.toArray K (pick l [k]) a w
/-- the walk: w0 is the world whose memory stands, w the world at hand -/
def wpTr (F : Nat → Prop) (P : Program) (l : List Oper) (Q : Exit → Act → World → Prop) : Tr → World → Act → World → Prop
  | .stop, _, a, w => Q .normal a w
  | .reads rs t, w0, a, w => wpQuiet P l.toArray (fun w' => ∃ u : Wf F w0, w' = u.w) (fun a' => wpTr F P l Q t w0 a' w) (pick l rs) a
  | .same k t, w0, a, w => ∃ o v, at_ l k = some o ∧ CallsIf P l.toArray (fun w' => Chg F w0 w') o v a ∧ wpTr F P l Q t w0 (a.put o.dst v) w
  | .one k b t, w0, a, w => if b then wpW P l Q k (wpTr F P l Q t) a w else wpS F P l Q k (wpTr F P l Q t) w0 a w
  | .two k b t j c u, w0, a, w => (if b then wpW P l Q k (wpTr F P l Q t) a w else wpS F P l Q k (wpTr F P l Q t) w0 a w) ∧ (if c then wpW P l Q j (wpTr F P l Q u) a w else wpS F P l Q j (wpTr F P l Q u) w0 a w)

theorem act_op {k : Nat} {o : Oper} (ho : at_ l k = some o) {T : World → Act → World → Prop} {w0 w : World} {a : Act} (h : wpS F P l Q k T w0 a w) :
    wpOp P l.toArray Q k (fun a' w' => Chg F w0 w' ∧ (T w0 a' w' ∨ T w' a' w')) a w := by
  have h1 := h (fun e a w' => match e with | .normal => Chg F w0 w' ∧ (T w0 a w' ∨ T w' a w') | e => Q e a w') (fun a w hb hs => ⟨hb, .inl hs⟩) (fun a w hb hs => ⟨hb, .inr hs⟩) (fun e a w he hq => by cases e <;> first | exact absurd rfl he | exact hq)
  simp only [pick, ho, wpList] at h1
  unfold wpOp
  simp only [at_eq, ho]
  split at h1
  · rename_i hw
    rw [if_pos hw]
    exact wp_post (fun a w' h => h) (fun e a w he hq => by cases e <;> first | exact absurd rfl he | exact hq) h1
  · rename_i hw
    rw [if_neg hw]
    exact h1
theorem act_ow {k : Nat} {o : Oper} (ho : at_ l k = some o) {T : World → Act → World → Prop} {w : World} {a : Act} (h : wpW P l Q k T a w) :
    wpOp P l.toArray Q k (fun a' w' => T w' a' w') a w := by
  have h1 := h (fun e a w' => match e with | .normal => T w' a w' | e => Q e a w') (fun a w hs => hs) (fun e a w he hq => by cases e <;> first | exact absurd rfl he | exact hq)
  simp only [pick, ho, wpList] at h1
  unfold wpOp
  simp only [at_eq, ho]
  split at h1
  · rename_i hw
    rw [if_pos hw]
    exact wp_post (fun a w' h => h) (fun e a w he hq => by cases e <;> first | exact absurd rfl he | exact hq) h1
  · rename_i hw
    rw [if_neg hw]
    exact h1
/-- one act of either kind, all told -/
theorem act_any (hs : Region.noSelect l.toArray = true) {k n : Nat} {o : Oper} (ho : at_ l k = some o) {b : Bool} {T : World → Act → World → Prop} {E E' : List Nat} {listed : Array Bool} {w0 w : World} {a : Act}
    (ih : ∀ w0 a w, Chg F w0 w → T w0 a w → wpAnyE P md l.toArray Q (fun w' => Chg F w0 w') (fun k => E.contains k) n (listed.setIfInBounds k true) a w)
    (hE : ∀ i, i ∈ E → i ∈ E') (hk : b = true → k ∈ E') (h : if b then wpW P l Q k T a w else wpS F P l Q k T w0 a w) :
    wpOp P l.toArray Q k (fun a' w' => (E'.contains k = true ∧ wpAny P md l.toArray Q n (listed.setIfInBounds k true) a' w') ∨ (Chg F w0 w' ∧ wpAnyE P md l.toArray Q (fun w' => Chg F w0 w') (fun k => E'.contains k) n (listed.setIfInBounds k true) a' w')) a w := by
  have hex : ∀ i, E.contains i = true → E'.contains i = true := fun i hi => by
    have := hE i (by simpa using hi)
    simpa using this
  cases b with
  | true =>
    rw [if_pos rfl] at h
    exact wpOp_mono (fun a' w' h' => .inl ⟨by simpa using hk rfl, wpAny_of_E _ _ _ _ (ih w' a' w' (Chg.refl _ _) h')⟩) (act_ow ho h)
  | false =>
    rw [if_neg (by simp)] at h
    refine wpOp_mono (fun a' w' ⟨hb, h'⟩ => .inr ⟨hb, ?_⟩) (act_op ho h)
    rcases h' with h' | h'
    · exact wpAnyE_mono (fun _ h => h) hex _ _ _ _ (ih w0 a' w' hb h')
    · exact wpAnyE_mono (fun _ h => chg_trans hb h) hex _ _ _ _ (ih w' a' w' (Chg.refl _ _) h')

theorem tr_any (hs : Region.noSelect l.toArray = true) (hQ : ∀ c a a' w, Q (.panic c) a w → Q (.panic c) a' w) : ∀ (t : Tr) (listed : Array Bool) (w0 : World) (a : Act) (w : World), Closed md l.toArray listed → Chg F w0 w → trB md l.toArray t listed = true →
    wpTr F P l Q t w0 a w → wpAnyE P md l.toArray Q (fun w' => Chg F w0 w') (fun k => t.exs.contains k) t.size listed a w
  | .stop, listed, w0, a, w, _, _, hB, h => ⟨by simpa [trB] using hB, h⟩
  | .reads rs t, listed, w0, a, w, hcl, hw, hB, h => by
    simp only [trB, Bool.and_eq_true] at hB
    simp only [wpTr] at h
    have := reads_any (P := P) (Q := Q) (md := md) (w0 := w0) (w := w) (ex := fun k => t.exs.contains k) (E := t.exs) (fuel := t.size) hs hQ (fun i hi => by simpa using hi) hw rs listed a hcl hB.1
      (fun hcl' => wpQuiet_mono' (fun a' h' => tr_any hs hQ t _ w0 a' w hcl' hw hB.2 h') _ _ h)
    rw [Nat.add_comm] at this
    exact this
  | .same k t, listed, w0, a, w, hcl, hw, hB, h => by
    simp only [trB, Bool.and_eq_true] at hB
    obtain ⟨⟨⟨⟨hr, hf⟩, _⟩, hx⟩, hB'⟩ := hB
    simp only [wpTr] at h
    obtain ⟨o, v, ho, hy, h⟩ := h
    have ho' : l.toArray[k]? = some o := by rw [at_eq, ho]
    have hk : k ∈ Region.ready md l.toArray listed := by simpa using hr
    exact wpAnyE_call ho' (Region.noSelect_spec hs) hQ t.size listed a w hcl (fun i hi _ => ⟨l.toArray.size, List.all_eq_true.1 hx i (by simpa [Tr.exs] using hi)⟩) (Region.free_spec ho' hf) hk hy hw (tr_any hs hQ t _ w0 _ w (hcl.add hk) hw hB' h)
  | .one k b t, listed, w0, a, w, hcl, hw, hB, h => by
    simp only [trB, Bool.and_eq_true] at hB
    obtain ⟨⟨hr, ho⟩, hB'⟩ := hB
    have hrk : Region.ready md l.toArray listed = [k] := by simpa using hr
    rw [at_eq] at ho
    obtain ⟨o, ho⟩ := Option.isSome_iff_exists.1 ho
    simp only [wpTr] at h
    refine ⟨fun h0 => (by rw [hrk] at h0; cases h0), fun j hj => ?_⟩
    have hj' := hj
    rw [hrk] at hj'
    obtain rfl : j = k := by simpa using hj'
    exact act_any (E := t.exs) hs ho (fun w0 a w hb h' => tr_any hs hQ t _ w0 a w (hcl.add hj) hb hB' h') (fun i hi => by cases b <;> simp [Tr.exs, hi]) (fun hb => by subst hb; simp [Tr.exs]) h
  | .two k b t m c u, listed, w0, a, w, hcl, hw, hB, h => by
    simp only [trB, Bool.and_eq_true] at hB
    obtain ⟨⟨⟨⟨⟨hr, ho⟩, ho2⟩, hsz⟩, hB1⟩, hB2⟩ := hB
    have hrk : Region.ready md l.toArray listed = [k, m] := by simpa using hr
    have hsz' : t.size = u.size := by simpa using hsz
    rw [at_eq] at ho ho2
    obtain ⟨o, ho⟩ := Option.isSome_iff_exists.1 ho
    obtain ⟨o2, ho2⟩ := Option.isSome_iff_exists.1 ho2
    simp only [wpTr] at h
    refine ⟨fun h0 => (by rw [hrk] at h0; cases h0), fun j hj => ?_⟩
    have hj' := hj
    rw [hrk] at hj'
    rcases List.mem_cons.1 hj' with rfl | hj'
    · exact act_any (E := t.exs) hs ho (fun w0 a w hb h' => tr_any hs hQ t _ w0 a w (hcl.add hj) hb hB1 h') (fun i hi => by simp only [Tr.exs, List.mem_append]; exact .inl (by cases b <;> simp [hi])) (fun hb => by subst hb; simp [Tr.exs]) h.1
    · obtain rfl : j = m := by simpa using hj'
      refine act_any (E := u.exs) hs ho2 (fun w0 a w hb h' => ?_) (fun i hi => by simp only [Tr.exs, List.mem_append]; exact .inr (by cases c <;> simp [hi])) (fun hb => by subst hb; simp [Tr.exs]) h.2
      rw [hsz']
      exact tr_any hs hQ u _ w0 a w (hcl.add hj) hb hB2 h'

theorem wp_region_tree {id : Nat} {a : Act} {w : World} (t : Tr) (hm : P.follows .mixedOrders = true) (hB : treeB l t = true) (h : wpTr F P l (NoPanic Q) t w a w.drew) : (Code.region id l.toArray true).wp P Q a w := by
  simp only [treeB, Bool.and_eq_true] at hB
  obtain ⟨⟨hs, hlen⟩, hord⟩ := hB
  have hlen' : t.size = l.length := by simpa using hlen
  refine wp_region_noPanic (wp_region_any hm ?_)
  have := tr_any (md := .any) (Q := NoPanic Q) hs (fun _ _ _ _ h => h) t (Array.replicate l.length false) w a w.drew (fun j oj hj => ?_) (Chg.refl _ _).drew hord h
  · have h2 := wpAny_of_E _ _ _ _ this
    rw [hlen'] at h2
    simpa using h2
  · exfalso
    rcases Nat.lt_or_ge j l.length with h | h
    · simp [h] at hj
    · simp [Array.getElem?_eq_none, h] at hj

variable {w0 w : World} {a : Act} {t u : Tr} {rs : List Nat} {k m : Nat}
theorem tr_reads (seg : List Oper) (hs : pick l rs = seg) (h : wpQuiet P l.toArray (fun w' => ∃ u : Wf F w0, w' = u.w) (fun a' => wpTr F P l Q t w0 a' w) seg a) : wpTr F P l Q (.reads rs t) w0 a w := by
  subst hs; exact h
theorem act_s {T : World → Act → World → Prop} (one : List Oper) (ho : pick l [k] = one)
    (h : ∀ K : Exit → Act → World → Prop, (∀ a w, Chg F w0 w → T w0 a w → K .normal a w) → (∀ a w, Chg F w0 w → T w a w → K .normal a w) → wpList P l.toArray K one a w) : wpS F P l Q k T w0 a w := by
  subst ho; exact fun K h1 h2 _ => h K h1 h2
theorem act_w {T : World → Act → World → Prop} (one : List Oper) (ho : pick l [k] = one)
    (h : ∀ K : Exit → Act → World → Prop, (∀ a w, T w a w → K .normal a w) → wpList P l.toArray K one a w) : wpW P l Q k T a w := by
  subst ho; exact fun K h1 _ => h K h1
theorem tr_one (one : List Oper) (ho : pick l [k] = one)
    (h : ∀ K : Exit → Act → World → Prop, (∀ a w, Chg F w0 w → wpTr F P l Q t w0 a w → K .normal a w) → (∀ a w, Chg F w0 w → wpTr F P l Q t w a w → K .normal a w) → wpList P l.toArray K one a w) : wpTr F P l Q (.one k false t) w0 a w :=
  act_s one ho h
theorem tr_write (one : List Oper) (ho : pick l [k] = one)
    (h : ∀ K : Exit → Act → World → Prop, (∀ a w, wpTr F P l Q t w a w → K .normal a w) → wpList P l.toArray K one a w) : wpTr F P l Q (.one k true t) w0 a w :=
  act_w one ho h
theorem tr_two {b c : Bool} {u : Tr} {m : Nat} (h1 : if b then wpW P l Q k (wpTr F P l Q t) a w else wpS F P l Q k (wpTr F P l Q t) w0 a w) (h2 : if c then wpW P l Q m (wpTr F P l Q u) a w else wpS F P l Q m (wpTr F P l Q u) w0 a w) : wpTr F P l Q (.two k b t m c u) w0 a w := ⟨h1, h2⟩
theorem tr_stop (h : Q .normal a w) : wpTr F P l Q .stop w0 a w := h
/-- a call of a function by number -/
theorem tr_same {dst : Option Tmp} {f : FuncId} {args : Array Operand} {ats : Array TypeId} {ty : TypeId} {pos : String} {aft : Array Edge} (v : Value)
    (ho : at_ l k = some { dst := dst, op := .call { callee := .value (.func f), args := args, argTypes := ats }, type := ty, pos := pos, after := aft, guard := none }) (he : ∀ vs w, (callFunc f vs).run P w = .ok (.enter f vs) w) (vs : Array Value) (hv : args.map a.eval = vs)
    (hc : ∀ x : Wf F w0, Calls P f vs x.w fun e w' => e = .returned v ∧ x.w = w') (h : wpTr F P l Q t w0 (a.put dst v) w) : wpTr F P l Q (.same k t) w0 a w := by
  subst hv
  refine ⟨_, v, ho, .inl ⟨rfl, f, args.map a.eval, fun w => ?_, fun w hw => (hc ⟨w, hw⟩).mono fun e w' ⟨h1, h2⟩ => ⟨h1, h2.symm⟩⟩, h⟩
  simp [execOp, resolve, invoke, Act.eval, Deferred.ofValue, Result.andThen]
  exact he _ _
end
end fr
end Go.Proofs.Ytheanpcbjjogfaa.ord
