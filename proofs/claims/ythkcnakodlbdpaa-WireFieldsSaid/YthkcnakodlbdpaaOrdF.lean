/-
  A region that draws its order, in which a call may panic and blocks of F may be written all along.
-/
import Derived.Test.YthkcnakodlbdpaaFree
namespace Go.Proofs.Ythkcnakodlbdpaa.ord
open Go Go.RowKit words mem

/-- at a panic, whatever the frame's numbers hold -/
def PanicAll (Q : Exit → Act → World → Prop) : Exit → Act → World → Prop
  | .panic c, a, w => ∀ a' : Act, a'.defers = a.defers → Q (.panic c) a' w
  | e, a, w => Q e a w
theorem PanicAll.normal {Q : Exit → Act → World → Prop} {a : Act} {w : World} (h : Q .normal a w) : PanicAll Q .normal a w := h
theorem PanicAll.imp {Q : Exit → Act → World → Prop} : ∀ (e : Exit) (a : Act) (w : World), PanicAll Q e a w → Q e a w := fun e a w h => by
  cases e <;> first | exact h | exact (h : ∀ a' : Act, a'.defers = a.defers → Q _ a' w) a rfl
theorem put_defers (a : Act) (d : Option Tmp) (v : Value) : (a.put d v).defers = a.defers := by cases d <;> rfl
theorem PanicAll.weak {Q : Exit → Act → World → Prop} : ∀ c (a : Act) d v w, PanicAll Q (.panic c) (a.put d v) w → PanicAll Q (.panic c) a w := fun c a d v w h a' ha => h a' (ha.trans (put_defers a d v).symm)
namespace frp
section
variable {P : Program} {ops : Array Oper} {Q : Exit → Act → World → Prop} {md : Region.Mode} {S : World → Prop}
/-- taken before or behind another one that is apart from it -/
theorem callsIf_swap {j : Nat} {oi oj : Oper} {v : Value} (hj : ops[j]? = some oj) (hap : oi.apart ops oj = true) (hsi : ∀ cs b, oi.op ≠ .select cs b) (hsj : ∀ cs b, oj.op ≠ .select cs b)
    (hQ : ∀ c (a : Act) d v w, Q (.panic c) (a.put d v) w → Q (.panic c) a w) {K : Act → World → Prop} {a : Act} {w : World} (hy : CallsIf P ops S oi v a) (h : wpOp P ops Q j K (a.put oi.dst v) w) :
    wpOp P ops Q j (fun a' w' => CallsIf P ops S oi v a' ∧ K (a'.put oi.dst v) w') a w := by
  obtain ⟨h1, h2, h3⟩ := Oper.apart_spec hap
  have put : ∀ (b : Act), CallsIf P ops S oi v b → ∀ u, CallsIf P ops S oi v (b.put oj.dst u) := fun b hb u => hb.same (execOp_put oi hsi b oj.dst u h3) (wanted_put oi b oj.dst u h3)
  have eE := execOp_put oj hsj a oi.dst v h1
  have eW := wanted_put oj a oi.dst v h1
  unfold wpOp at h ⊢
  simp only [hj] at h ⊢
  rw [eW] at h
  by_cases hw : Region.wanted oj (yielded ops a.tmps) = true
  · rw [if_pos hw] at h ⊢
    rcases h with h | ⟨ha, hl⟩
    · refine .inl ?_
      unfold Oper.wp at h ⊢
      rw [eE] at h
      generalize (execOp a.eval oj).run P w = r at h ⊢
      rcases r with ⟨n, w'⟩ | ⟨x, w'⟩
      · cases n <;> simp only [Oper.upon] at h ⊢
        case value u => exact ⟨put a hy u, by rw [← Act.put_comm a v u h2]; exact h⟩
        case skip => exact ⟨put a hy _, by rw [← Act.put_comm a v undef h2]; exact h⟩
        case defer d => exact ⟨put { a with defers := d :: a.defers } (hy.same rfl rfl) _, by rw [← Act.put_comm _ v undef h2, ← Act.put_defers]; exact h⟩
        case enter f args =>
          refine Calls.mono h fun e w'' he => ?_
          rcases e with u | c | _
          · exact ⟨put a hy u, by rw [← Act.put_comm a v u h2]; exact he⟩
          · exact hQ _ _ _ _ _ he
          · exact he
        case row row args => exact Rows.mono h fun u w'' he => ⟨put a hy u, by rw [← Act.put_comm a v u h2]; exact he⟩
      · cases x <;> simp only [Oper.upon] at h ⊢
        exact hQ _ _ _ _ _ h
    · exact .inr ⟨by unfold Oper.asks at ha ⊢; rw [eE] at ha; exact ha, hl⟩
  · rw [if_neg hw] at h ⊢
    exact ⟨put a hy _, by rw [← Act.put_comm a v undef h2]; exact h⟩

theorem wpAnyE_call {ex : Nat → Bool} {i : Nat} {oi : Oper} {v : Value} (hi : ops[i]? = some oi) (hsel : ∀ (j : Nat) (o : Oper) cs b, ops[j]? = some o → o.op ≠ .select cs b) (hQ : ∀ c (a : Act) d v w, Q (.panic c) (a.put d v) w → Q (.panic c) a w) :
    ∀ (fuel : Nat) (listed : Array Bool) (a : Act) (w : World), Closed md ops listed → (∀ k, ex k = true → listed.getD k false = false → ∃ f, waits md ops i f k = true) →
      (∀ j oj, ops[j]? = some oj → j ≠ i → listed.getD j true = false → (∀ e ∈ oj.after, Region.binds md e = true → e.on ≠ i) → oi.apart ops oj = true) →
      i ∈ Region.ready md ops listed → CallsIf P ops S oi v a → S w →
      wpAnyE P md ops Q S ex fuel (listed.setIfInBounds i true) (a.put oi.dst v) w → wpAnyE P md ops Q S ex (fuel + 1) listed a w := by
  have getf : ∀ (l : Array Bool) k, l.getD k true = false → l.getD k false = false := fun l k h => by
    rcases Nat.lt_or_ge k l.size with h' | h'
    · simp [h'] at h ⊢; exact h
    · simp [Array.getElem?_eq_none h'] at h
  intro fuel
  induction fuel with
  | zero =>
    intro listed a w _ _ _ hr hy hS H
    refine ⟨fun h => (by rw [h] at hr; cases hr), fun j hj => ?_⟩
    by_cases hji : j = i
    · subst hji; exact hy.run hi hS (.inr ⟨hS, H⟩)
    · have := ready_mono hj hji
      rw [H.1] at this
      cases this
  | succ fuel ih =>
    intro listed a w hcl hexw hfree hr hy hS H
    refine ⟨fun h => (by rw [h] at hr; cases hr), fun j hj => ?_⟩
    by_cases hji : j = i
    · subst hji; exact hy.run hi hS (.inr ⟨hS, H⟩)
    obtain ⟨hjun, oj, hoj, hall⟩ := mem_ready.1 hj
    have hiun := (mem_ready.1 hr).1
    have hnot : ∀ e ∈ oj.after, Region.binds md e = true → e.on ≠ i := fun e he hb heq => by
      have h1 := hall e he hb
      rw [heq, getf _ _ hiun] at h1
      cases h1
    have hnex : ¬ ex j = true := fun hx => by
      obtain ⟨f, hf⟩ := hexw j hx (getf _ _ hjun)
      exact absurd hj (waits_not hcl (getf _ _ hiun) f j hf).2
    refine wpOp_mono (fun a' w' ⟨hy', h3⟩ => ?_) (callsIf_swap hoj (hfree j oj hoj hji hjun hnot) (fun cs b => hsel i oi cs b hi) (fun cs b => hsel j oj cs b hoj) hQ hy (H.2 j (ready_mono hj hji)))
    rcases h3 with ⟨hx, _⟩ | ⟨hS', h3⟩
    · exact absurd hx hnex
    refine .inr ⟨hS', ih (listed.setIfInBounds j true) a' w' (hcl.add hj) (fun k hk hun => hexw k hk ?_) (fun k ok hk hki hun hno => hfree k ok hk hki ?_ hno) (ready_mono hr (Ne.symm hji)) hy' hS' ?_⟩
    · by_cases hjk : j = k
      · subst hjk; exact getf _ _ hjun
      · rw [getD_set_ne false hjk] at hun; exact hun
    · by_cases hjk : j = k
      · subst hjk; exact hjun
      · rw [getD_set_ne true hjk] at hun; exact hun
    · rw [Array.setIfInBounds_comm _ _ hji]
      exact h3
end
section
variable {P : Program} {ops : Array Oper} {Q : Exit → Act → World → Prop} {md : Region.Mode} {F : Nat → Prop}
theorem read_step (hs : Region.noSelect ops = true) (hQ : ∀ c (a : Act) d v w, Q (.panic c) (a.put d v) w → Q (.panic c) a w) {k fuel : Nat} {listed : Array Bool} {w0 : World} {a : Act} {w : World} {ex : Nat → Bool} {o : Oper}
    (hcl : Closed md ops listed) (hw : Chg F w0 w) (hk : k ∈ Region.ready md ops listed) (hf : Region.free md ops listed k = true) (ho : ops[k]? = some o) (hp' : plainOp o.op = true)
    (hx : isMove o.op = true ∨ ∀ i, ex i = true → ∃ f, waits md ops k f i = true)
    (h : if Region.wanted o (yielded ops a.tmps) then o.quiet P a (fun w' => ∃ u : Wf F w0, w' = u.w) (fun a' => wpAnyE P md ops Q (fun w' => Chg F w0 w') ex fuel (listed.setIfInBounds k true) a' w) else wpAnyE P md ops Q (fun w' => Chg F w0 w') ex fuel (listed.setIfInBounds k true) (a.put o.dst undef) w) :
    wpAnyE P md ops Q (fun w' => Chg F w0 w') ex (fuel + 1) listed a w := by
  have key : ∃ v, YieldsIf P ops (fun w' => Chg F w0 w') o v a ∧ wpAnyE P md ops Q (fun w' => Chg F w0 w') ex fuel (listed.setIfInBounds k true) (a.put o.dst v) w := by
    by_cases hw' : Region.wanted o (yielded ops a.tmps) = true
    · rw [if_pos hw'] at h
      obtain ⟨v, hv, hn⟩ := h
      refine ⟨v, .inl ⟨hw', fun w1 h1 => ?_⟩, hn⟩
      have h2 := hv w1 ⟨⟨w1, h1⟩, rfl⟩
      unfold Oper.quietAt at h2
      generalize hrun : (execOp a.eval o).run P w1 = res at h2
      cases res with
      | halt x w2 => exact h2.elim
      | ok n w2 =>
        obtain ⟨u, rfl⟩ := plain_value o hp' _ _ _ _ hrun
        obtain ⟨e1, e2⟩ := h2
        rw [e1, e2]
    · rw [if_neg hw'] at h
      exact ⟨undef, .inr ⟨by simpa using hw', rfl⟩, h⟩
  obtain ⟨v, hy, hn⟩ := key
  rcases hx with hmv | hx
  · exact wpAnyE_move ho (Region.noSelect_spec hs) (fun c a w => hQ c a _ _ w) fuel listed a w (Region.free_spec ho hf) hk (move_yields hmv w hw hy) hw hn
  · exact wpAnyE_first ho (Region.noSelect_spec hs) (fun c a w => hQ c a _ _ w) fuel listed a w hcl (fun i hi _ => hx i hi) (Region.free_spec ho hf) hk hy hw hn

end
section
variable {P : Program} {l : List Oper} {Q : Exit → Act → World → Prop} {F : Nat → Prop}
theorem reads_any (hs : Region.noSelect l.toArray = true) (hQ : ∀ c (a : Act) d v w, Q (.panic c) (a.put d v) w → Q (.panic c) a w) {md : Region.Mode} {w0 w : World} {ex : Nat → Bool} {E : List Nat} (hE : ∀ i, ex i = true → i ∈ E) (hw : Chg F w0 w) {fuel : Nat} :
    ∀ (rs : List Nat) (listed : Array Bool) (a : Act), Closed md l.toArray listed → preB md l.toArray E rs listed = true →
      (Closed md l.toArray (lst rs listed) → wpQuiet P l.toArray (fun w' => ∃ u : Wf F w0, w' = u.w) (fun a' => wpAnyE P md l.toArray Q (fun w' => Chg F w0 w') ex fuel (lst rs listed) a' w) (pick l rs) a) →
      wpAnyE P md l.toArray Q (fun w' => Chg F w0 w') ex (fuel + rs.length) listed a w
  | [], listed, a, hcl, _, h => by simpa [pick, wpQuiet, lst] using h hcl
  | k :: rs, listed, a, hcl, hB, h => by
    simp only [preB, Bool.and_eq_true] at hB
    obtain ⟨⟨⟨⟨hr, hf⟩, hp⟩, hx⟩, hB'⟩ := hB
    have hk : k ∈ Region.ready md l.toArray listed := by simpa using hr
    cases ho : at_ l k with
    | none => rw [at_eq, ho] at hp; simp at hp
    | some o =>
      have ho' : l.toArray[k]? = some o := by rw [at_eq, ho]
      rw [ho'] at hp hx
      simp only [Option.map_some, Option.getD_some, Bool.or_eq_true] at hp hx
      have hcl2 := hcl.add hk
      have rest : ∀ a', wpQuiet P l.toArray (fun w' => ∃ u : Wf F w0, w' = u.w) (fun a' => wpAnyE P md l.toArray Q (fun w' => Chg F w0 w') ex fuel (lst rs (listed.setIfInBounds k true)) a' w) (pick l rs) a' → wpAnyE P md l.toArray Q (fun w' => Chg F w0 w') ex (fuel + rs.length) (listed.setIfInBounds k true) a' w :=
        fun a' h' => reads_any hs hQ hE hw rs _ a' hcl2 hB' (fun _ => h')
      have hcl3 : Closed md l.toArray (lst (k :: rs) listed) := by
        have : ∀ (rs : List Nat) (listed : Array Bool), Closed md l.toArray listed → preB md l.toArray E rs listed = true → Closed md l.toArray (lst rs listed) := by
          intro rs
          induction rs with
          | nil => intro listed h _; exact h
          | cons j rs ih =>
            intro listed h hb
            simp only [preB, Bool.and_eq_true] at hb
            exact ih _ (h.add (by simpa using hb.1.1.1.1)) hb.2
        exact this rs _ hcl2 hB'
      have h1 := h hcl3
      simp only [pick, ho, wpQuiet] at h1
      refine read_step hs hQ (fuel := fuel + rs.length) hcl hw hk hf ho' hp (hx.imp id fun hx i hi => ⟨l.toArray.size, by have := List.all_eq_true.1 hx i (hE i hi); exact this⟩) ?_
      split at h1
      · rename_i hw'
        rw [if_pos hw']
        exact Oper.quiet_mono (fun a' => rest a') h1
      · rename_i hw'
        rw [if_neg hw']
        exact rest _ h1

end
section
variable {P : Program} {l : List Oper} {Q : Exit → Act → World → Prop} {md : Region.Mode} {F : Nat → Prop}
theorem tr_any (hs : Region.noSelect l.toArray = true) (hQ : ∀ c (a : Act) d v w, Q (.panic c) (a.put d v) w → Q (.panic c) a w) : ∀ (t : Tr) (listed : Array Bool) (w0 : World) (a : Act) (w : World), Closed md l.toArray listed → Chg F w0 w → trB md l.toArray t listed = true →
    fr.wpTr F P l Q t w0 a w → wpAnyE P md l.toArray Q (fun w' => Chg F w0 w') (fun k => t.exs.contains k) t.size listed a w
  | .stop, listed, w0, a, w, _, _, hB, h => ⟨by simpa [trB] using hB, h⟩
  | .reads rs t, listed, w0, a, w, hcl, hw, hB, h => by
    simp only [trB, Bool.and_eq_true] at hB
    simp only [fr.wpTr] at h
    have := reads_any (P := P) (Q := Q) (md := md) (w0 := w0) (w := w) (ex := fun k => t.exs.contains k) (E := t.exs) (fuel := t.size) hs hQ (fun i hi => by simpa using hi) hw rs listed a hcl hB.1
      (fun hcl' => wpQuiet_mono' (fun a' h' => tr_any hs hQ t _ w0 a' w hcl' hw hB.2 h') _ _ h)
    rw [Nat.add_comm] at this
    exact this
  | .same k t, listed, w0, a, w, hcl, hw, hB, h => by
    simp only [trB, Bool.and_eq_true] at hB
    obtain ⟨⟨⟨⟨hr, hf⟩, _⟩, hx⟩, hB'⟩ := hB
    simp only [fr.wpTr] at h
    obtain ⟨o, v, ho, hy, h⟩ := h
    have ho' : l.toArray[k]? = some o := by rw [at_eq, ho]
    have hk : k ∈ Region.ready md l.toArray listed := by simpa using hr
    exact wpAnyE_call ho' (Region.noSelect_spec hs) hQ t.size listed a w hcl (fun i hi _ => ⟨l.toArray.size, List.all_eq_true.1 hx i (by simpa [Tr.exs] using hi)⟩) (Region.free_spec ho' hf) hk hy hw (tr_any hs hQ t _ w0 _ w (hcl.add hk) hw hB' h)
  | .one k b t, listed, w0, a, w, hcl, hw, hB, h => by
    simp only [trB, Bool.and_eq_true] at hB
    obtain ⟨⟨hr, ho⟩, hB'⟩ := hB
    have hrk : Region.ready md l.toArray listed = [k] := by simpa using hr
    rw [at_eq] at ho
    obtain ⟨o, ho⟩ := Option.isSome_iff_exists.1 ho
    simp only [fr.wpTr] at h
    refine ⟨fun h0 => (by rw [hrk] at h0; cases h0), fun j hj => ?_⟩
    have hj' := hj
    rw [hrk] at hj'
    obtain rfl : j = k := by simpa using hj'
    exact fr.act_any (E := t.exs) hs ho (fun w0 a w hb h' => tr_any hs hQ t _ w0 a w (hcl.add hj) hb hB' h') (fun i hi => by cases b <;> simp [Tr.exs, hi]) (fun hb => by subst hb; simp [Tr.exs]) h
  | .two k b t m c u, listed, w0, a, w, hcl, hw, hB, h => by
    simp only [trB, Bool.and_eq_true] at hB
    obtain ⟨⟨⟨⟨⟨hr, ho⟩, ho2⟩, hsz⟩, hB1⟩, hB2⟩ := hB
    have hrk : Region.ready md l.toArray listed = [k, m] := by simpa using hr
    have hsz' : t.size = u.size := by simpa using hsz
    rw [at_eq] at ho ho2
    obtain ⟨o, ho⟩ := Option.isSome_iff_exists.1 ho
    obtain ⟨o2, ho2⟩ := Option.isSome_iff_exists.1 ho2
    simp only [fr.wpTr] at h
    refine ⟨fun h0 => (by rw [hrk] at h0; cases h0), fun j hj => ?_⟩
    have hj' := hj
    rw [hrk] at hj'
    rcases List.mem_cons.1 hj' with rfl | hj'
    · exact fr.act_any (E := t.exs) hs ho (fun w0 a w hb h' => tr_any hs hQ t _ w0 a w (hcl.add hj) hb hB1 h') (fun i hi => by simp only [Tr.exs, List.mem_append]; exact .inl (by cases b <;> simp [hi])) (fun hb => by subst hb; simp [Tr.exs]) h.1
    · obtain rfl : j = m := by simpa using hj'
      refine fr.act_any (E := u.exs) hs ho2 (fun w0 a w hb h' => ?_) (fun i hi => by simp only [Tr.exs, List.mem_append]; exact .inr (by cases c <;> simp [hi])) (fun hb => by subst hb; simp [Tr.exs]) h.2
      rw [hsz']
      exact tr_any hs hQ u _ w0 a w (hcl.add hj) hb hB2 h'


theorem wp_region_ptree {id : Nat} {a : Act} {w : World} (t : Tr) (hm : P.follows .mixedOrders = true) (hB : treeB l t = true) (h : fr.wpTr F P l (PanicAll Q) t w a w.drew) : (Code.region id l.toArray true).wp P Q a w := by
  simp only [treeB, Bool.and_eq_true] at hB
  obtain ⟨⟨hs, hlen⟩, hord⟩ := hB
  have hlen' : t.size = l.length := by simpa using hlen
  refine Code.wp_mono PanicAll.imp (wp_region_any hm ?_)
  have := tr_any (md := .any) (Q := PanicAll Q) hs PanicAll.weak t (Array.replicate l.length false) w a w.drew (fun j oj hj => ?_) (Chg.refl _ _).drew hord h
  · have h2 := wpAny_of_E _ _ _ _ this
    rw [hlen'] at h2
    simpa using h2
  · exfalso
    rcases Nat.lt_or_ge j l.length with h | h
    · simp [h] at hj
    · simp [Array.getElem?_eq_none, h] at hj
variable {w0 w : World} {a : Act} {t : Tr} {k : Nat}
theorem tr_onep (one : List Oper) (ho : pick l [k] = one)
    (h : ∀ K : Exit → Act → World → Prop, (∀ a w, Chg F w0 w → fr.wpTr F P l (PanicAll Q) t w0 a w → K .normal a w) → (∀ a w, Chg F w0 w → fr.wpTr F P l (PanicAll Q) t w a w → K .normal a w) → (∀ c a w, (∀ a' : Act, a'.defers = a.defers → Q (.panic c) a' w) → K (.panic c) a w) → wpList P l.toArray K one a w) : fr.wpTr F P l (PanicAll Q) (.one k false t) w0 a w := by
  subst ho
  exact fun K h1 h2 h3 => h K h1 h2 fun c a w hq => h3 _ a w (by simp) hq
end
end frp
end Go.Proofs.Ythkcnakodlbdpaa.ord
