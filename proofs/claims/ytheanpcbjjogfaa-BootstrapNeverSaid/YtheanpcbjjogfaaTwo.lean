/-
  A region that draws its order, in which two operations that act are ready at once: both ways.
-/
import Derived.Test.YtheanpcbjjogfaaOrd
namespace Go.Proofs.Ytheanpcbjjogfaa.ord
open Go Go.RowKit words

section
variable {P : Program} {ops : Array Oper} {Q : Exit → Act → World → Prop} {md : Region.Mode}

theorem act_step (hs : Region.noSelect ops = true) (hQ : ∀ c a a' w, Q (.panic c) a w → Q (.panic c) a' w) {k : Nat} {r : List (Nat × Nat)} {listed : Array Bool} {w0 : World} {a : Act} {w : World} {ex : Nat → Bool}
    (hcl : Closed md ops listed) (hw : Below w0.heap.size w0 w) (hk : k ∈ Region.ready md ops listed) (hB' : ordB md ops r (listed.setIfInBounds k true) = true) (hexm : ∀ i, exs r i = true → ex i = true) (h : wpOrd P ops Q ((k, 1) :: r) w0 a w) :
    wpOp P ops Q k (fun a' w' => (ex k = true ∧ wpAny P md ops Q r.length (listed.setIfInBounds k true) a' w') ∨ (Below w0.heap.size w0 w' ∧ wpAnyE P md ops Q (fun w' => Below w0.heap.size w0 w') ex r.length (listed.setIfInBounds k true) a' w')) a w := by
  simp only [wpOrd] at h
  cases ho : ops[k]? with
  | none => rw [ho] at h; exact h.elim
  | some o =>
    rw [ho] at h
    simp only [show ((1 : Nat) == 0) = false from rfl, Bool.false_eq_true, if_false, beq_self_eq_true, if_true] at h
    unfold wpOp
    simp only [ho]
    have stay : ∀ a' w', Below w0.heap.size w0 w' → wpOrd P ops Q r w0 a' w' → wpAnyE P md ops Q (fun w' => Below w0.heap.size w0 w') ex r.length (listed.setIfInBounds k true) a' w' := fun a' w' hb h' =>
      wpAnyE_mono (fun _ h => h) hexm _ _ _ _ (ord_any hs hQ r _ w0 a' w' (hcl.add hk) hb hB' h')
    have move : ∀ a' w', Below w0.heap.size w0 w' → wpOrd P ops Q r w' a' w' → wpAnyE P md ops Q (fun w' => Below w0.heap.size w0 w') ex r.length (listed.setIfInBounds k true) a' w' := fun a' w' hb h' =>
      wpAnyE_mono (fun _ h => hb.trans (h.mono hb.size)) hexm _ _ _ _ (ord_any hs hQ r _ w' a' w' (hcl.add hk) (Below.refl _ _) hB' h')
    by_cases hw' : Region.wanted o (yielded ops a.tmps) = true
    · rw [if_pos hw'] at h ⊢
      refine h.imp (Oper.wp_mono fun a' w' h' => ?_) id
      obtain ⟨hb, h'⟩ := h'
      exact .inr ⟨hb, h'.elim (stay a' w' hb) (move a' w' hb)⟩
    · rw [if_neg hw'] at h ⊢
      exact .inr ⟨hw, h.elim (stay _ w hw) (move _ w hw)⟩

theorem read_step (hs : Region.noSelect ops = true) (hQ : ∀ c a a' w, Q (.panic c) a w → Q (.panic c) a' w) {k fuel : Nat} {listed : Array Bool} {w0 : World} {a : Act} {w : World} {ex : Nat → Bool} {o : Oper}
    (hcl : Closed md ops listed) (hw : Below w0.heap.size w0 w) (hk : k ∈ Region.ready md ops listed) (hf : Region.free md ops listed k = true) (ho : ops[k]? = some o) (hp' : plainOp o.op = true)
    (hx : isMove o.op = true ∨ ∀ i, ex i = true → ∃ f, waits md ops k f i = true)
    (h : if Region.wanted o (yielded ops a.tmps) then o.quiet P a (fun w' => ∃ u : Wb w0, w' = u.w) (fun a' => wpAnyE P md ops Q (fun w' => Below w0.heap.size w0 w') ex fuel (listed.setIfInBounds k true) a' w) else wpAnyE P md ops Q (fun w' => Below w0.heap.size w0 w') ex fuel (listed.setIfInBounds k true) (a.put o.dst undef) w) :
    wpAnyE P md ops Q (fun w' => Below w0.heap.size w0 w') ex (fuel + 1) listed a w := by
  have key : ∃ v, YieldsIf P ops (fun w' => Below w0.heap.size w0 w') o v a ∧ wpAnyE P md ops Q (fun w' => Below w0.heap.size w0 w') ex fuel (listed.setIfInBounds k true) (a.put o.dst v) w := by
    by_cases hw' : Region.wanted o (yielded ops a.tmps) = true
    · rw [if_pos hw'] at h
      obtain ⟨v, hv, hn⟩ := h
      refine ⟨v, .inl ⟨hw', fun w1 h1 => ?_⟩, hn⟩
      have h2 := hv w1 ⟨⟨w1, h1⟩, rfl⟩
      unfold Oper.quietAt at h2
      generalize hrun : (execOp a.eval o).run P w1 = res at h2
      cases res with
      | halt x w2 => exact h2.elim
      | ok n w2 =>
        obtain ⟨u, rfl⟩ := plain_value o hp' _ _ _ _ hrun
        obtain ⟨e1, e2⟩ := h2
        rw [e1, e2]
    · rw [if_neg hw'] at h
      exact ⟨undef, .inr ⟨by simpa using hw', rfl⟩, h⟩
  obtain ⟨v, hy, hn⟩ := key
  rcases hx with hmv | hx
  · exact wpAnyE_move ho (Region.noSelect_spec hs) (fun c a w => hQ c _ a w) fuel listed a w (Region.free_spec ho hf) hk (move_yields hmv w hw hy) hw hn
  · exact wpAnyE_first ho (Region.noSelect_spec hs) (fun c a w => hQ c _ a w) fuel listed a w hcl (fun i hi _ => hx i hi) (Region.free_spec ho hf) hk hy hw hn

def preB (md : Region.Mode) (ops : Array Oper) (E : List Nat) : List Nat → Array Bool → Bool
  | [], _ => true
  | k :: rs, listed => (Region.ready md ops listed).contains k && Region.free md ops listed k && ((ops[k]?).map fun o => plainOp o.op).getD false && (((ops[k]?).map fun o => isMove o.op).getD false || E.all fun i => waits md ops k ops.size i) && preB md ops E rs (listed.setIfInBounds k true)
def lst : List Nat → Array Bool → Array Bool
  | [], listed => listed
  | k :: rs, listed => lst rs (listed.setIfInBounds k true)
end

section
variable {P : Program} {l : List Oper} {Q : Exit → Act → World → Prop}
theorem reads_any (hs : Region.noSelect l.toArray = true) (hQ : ∀ c a a' w, Q (.panic c) a w → Q (.panic c) a' w) {md : Region.Mode} {w0 w : World} {ex : Nat → Bool} {E : List Nat} (hE : ∀ i, ex i = true → i ∈ E) (hw : Below w0.heap.size w0 w) {fuel : Nat} :
    ∀ (rs : List Nat) (listed : Array Bool) (a : Act), Closed md l.toArray listed → preB md l.toArray E rs listed = true →
      (Closed md l.toArray (lst rs listed) → wpQuiet P l.toArray (fun w' => ∃ u : Wb w0, w' = u.w) (fun a' => wpAnyE P md l.toArray Q (fun w' => Below w0.heap.size w0 w') ex fuel (lst rs listed) a' w) (pick l rs) a) →
      wpAnyE P md l.toArray Q (fun w' => Below w0.heap.size w0 w') ex (fuel + rs.length) listed a w
  | [], listed, a, hcl, _, h => by simpa [pick, wpQuiet, lst] using h hcl
  | k :: rs, listed, a, hcl, hB, h => by
    simp only [preB, Bool.and_eq_true] at hB
    obtain ⟨⟨⟨⟨hr, hf⟩, hp⟩, hx⟩, hB'⟩ := hB
    have hk : k ∈ Region.ready md l.toArray listed := by simpa using hr
    cases ho : at_ l k with
    | none => rw [at_eq, ho] at hp; simp at hp
    | some o =>
      have ho' : l.toArray[k]? = some o := by rw [at_eq, ho]
      rw [ho'] at hp hx
      simp only [Option.map_some, Option.getD_some, Bool.or_eq_true] at hp hx
      have hcl2 := hcl.add hk
      have rest : ∀ a', wpQuiet P l.toArray (fun w' => ∃ u : Wb w0, w' = u.w) (fun a' => wpAnyE P md l.toArray Q (fun w' => Below w0.heap.size w0 w') ex fuel (lst rs (listed.setIfInBounds k true)) a' w) (pick l rs) a' → wpAnyE P md l.toArray Q (fun w' => Below w0.heap.size w0 w') ex (fuel + rs.length) (listed.setIfInBounds k true) a' w :=
        fun a' h' => reads_any hs hQ hE hw rs _ a' hcl2 hB' (fun _ => h')
      have hcl3 : Closed md l.toArray (lst (k :: rs) listed) := by
        have : ∀ (rs : List Nat) (listed : Array Bool), Closed md l.toArray listed → preB md l.toArray E rs listed = true → Closed md l.toArray (lst rs listed) := by
          intro rs
          induction rs with
          | nil => intro listed h _; exact h
          | cons j rs ih =>
            intro listed h hb
            simp only [preB, Bool.and_eq_true] at hb
            exact ih _ (h.add (by simpa using hb.1.1.1.1)) hb.2
        exact this rs _ hcl2 hB'
      have h1 := h hcl3
      simp only [pick, ho, wpQuiet] at h1
      refine read_step hs hQ (fuel := fuel + rs.length) hcl hw hk hf ho' hp (hx.imp id fun hx i hi => ⟨l.toArray.size, by have := List.all_eq_true.1 hx i (hE i hi); exact this⟩) ?_
      split at h1
      · rename_i hw'
        rw [if_pos hw']
        exact Oper.quiet_mono (fun a' => rest a') h1
      · rename_i hw'
        rw [if_neg hw']
        exact rest _ h1

/-- the two plans fit the region -/
def twoB (l : List Oper) (rs : List Nat) (k1 k2 : Nat) (p1 p2 : Plan) : Bool :=
  Region.noSelect l.toArray && inB l.length p1 && inB l.length p2 && decide (k1 < l.length) && decide (k2 < l.length) && (rs.length + 1 + (flat p1).length == l.length) && ((flat p2).length == (flat p1).length) &&
    preB .any l.toArray (((flat p1).filter fun q => q.2 == 2).map fun q => q.1) rs (Array.replicate l.length false) && (Region.ready .any l.toArray (lst rs (Array.replicate l.length false)) == [k1, k2]) &&
    ordB .any l.toArray (flat p1) ((lst rs (Array.replicate l.length false)).setIfInBounds k1 true) && ordB .any l.toArray (flat p2) ((lst rs (Array.replicate l.length false)).setIfInBounds k2 true) && (flat p2).all (fun q => q.2 != 2 || exs (flat p1) q.1)

theorem wp_region_two {id : Nat} {a : Act} {w : World} (rs : List Nat) (k1 k2 : Nat) (p1 p2 : Plan) (hm : P.follows .mixedOrders = true) (hB : twoB l rs k1 k2 p1 p2 = true)
    (h : wpQuiet P l.toArray (fun w' => ∃ u : Wb w, w' = u.w) (fun a' => wpSeg P l (NoPanic Q) (([], some (k1, false)) :: p1) w a' w.drew ∧ wpSeg P l (NoPanic Q) (([], some (k2, false)) :: p2) w a' w.drew) (pick l rs) a) : (Code.region id l.toArray true).wp P Q a w := by
  simp only [twoB, Bool.and_eq_true, decide_eq_true_eq, beq_iff_eq] at hB
  obtain ⟨⟨⟨⟨⟨⟨⟨⟨⟨⟨⟨hs, hin1⟩, hin2⟩, hk1⟩, hk2⟩, hlen⟩, hlen2⟩, hpre⟩, hready⟩, ho1⟩, ho2⟩, hex2⟩ := hB
  refine wp_region_noPanic (wp_region_any hm ?_)
  have hQ : ∀ c a a' w, NoPanic Q (.panic c) a w → NoPanic Q (.panic c) a' w := fun _ _ _ _ h => h
  have hE : ∀ i, exs (flat p1) i = true → i ∈ (((flat p1).filter fun q => q.2 == 2).map fun q => q.1) := fun i hi => by
    simp only [exs, List.any_eq_true, Bool.and_eq_true, beq_iff_eq] at hi
    obtain ⟨q, hq, e1, e2⟩ := hi
    exact List.mem_map.2 ⟨q, List.mem_filter.2 ⟨hq, by simp [e2]⟩, e1⟩
  have hex : ∀ i, exs (flat p2) i = true → exs (flat p1) i = true := fun i hi => by
    simp only [exs, List.any_eq_true, Bool.and_eq_true, beq_iff_eq] at hi
    obtain ⟨q, hq, e1, e2⟩ := hi
    have := List.all_eq_true.1 hex2 q hq
    simp only [e2, Bool.or_eq_true] at this
    rcases this with h0 | h0
    · simp at h0
    · rwa [e1] at h0
  have hb0 : Below w.heap.size w w.drew := (Below.refl _ _).drew
  have in1 : inB l.length (([], some (k1, false)) :: p1) = true := by
    simp only [inB, flat, List.map_nil, List.nil_append, List.all_cons, Bool.and_eq_true] at hin1 ⊢
    exact ⟨by simpa using hk1, hin1⟩
  have in2 : inB l.length (([], some (k2, false)) :: p2) = true := by
    simp only [inB, flat, List.map_nil, List.nil_append, List.all_cons, Bool.and_eq_true] at hin2 ⊢
    exact ⟨by simpa using hk2, hin2⟩
  have main := reads_any (P := P) (Q := NoPanic Q) (md := .any) (w0 := w) (w := w.drew) (ex := exs (flat p1)) hs hQ hE hb0 (fuel := (flat p1).length + 1) rs (Array.replicate l.length false) a (fun j oj hj => by
    exfalso
    rcases Nat.lt_or_ge j l.length with h | h
    · simp [h] at hj
    · simp [Array.getElem?_eq_none, h] at hj) hpre (fun hcl => wpQuiet_mono' (fun a' h' => by
      obtain ⟨h1, h2⟩ := h'
      have g1 := seg_ord _ _ _ _ in1 h1
      have g2 := seg_ord _ _ _ _ in2 h2
      simp only [flat, List.map_nil, List.nil_append, Bool.false_eq_true, if_false] at g1 g2
      refine ⟨fun h0 => (by rw [hready] at h0; cases h0), fun j hj => ?_⟩
      have hj' := hj
      rw [hready] at hj'
      rcases List.mem_cons.1 hj' with rfl | hj'
      · exact act_step hs hQ hcl hb0 hj ho1 (fun _ h => h) g1
      · obtain rfl : j = k2 := by simpa using hj'
        have := act_step (ex := exs (flat p1)) hs hQ hcl hb0 hj ho2 hex g2
        rw [hlen2] at this
        exact this) _ _ h)
  have h2 := wpAny_of_E _ _ _ _ main
  rw [show (flat p1).length + 1 + rs.length = l.length from by omega] at h2
  simpa using h2
end
end Go.Proofs.Ytheanpcbjjogfaa.ord
