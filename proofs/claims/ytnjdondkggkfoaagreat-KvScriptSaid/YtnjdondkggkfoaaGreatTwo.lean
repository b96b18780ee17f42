/-
  A region that draws its order, in which two operations that act are ready at once: both ways.
-/
import Derived.Test.YtnjdondkggkfoaaGreatOrd
namespace Go.Proofs.YtnjdondkggkfoaaGreat.ord
open Go Go.RowKit words

section
variable {P : Program} {ops : Array Oper} {Q : Exit → Act → World → Prop} {md : Region.Mode}

theorem read_step (hs : Region.noSelect ops = true) (hQ : ∀ c a a' w, Q (.panic c) a w → Q (.panic c) a' w) {k fuel : Nat} {listed : Array Bool} {w0 : World} {a : Act} {w : World} {ex : Nat → Bool} {o : Oper}
    (hcl : Closed md ops listed) (hw : Below w0.heap.size w0 w) (hk : k ∈ Region.ready md ops listed) (hf : Region.free md ops listed k = true) (ho : ops[k]? = some o) (hp' : plainOp o.op = true)
    (hx : isMove o.op = true ∨ ∀ i, ex i = true → ∃ f, waits md ops k f i = true)
    (h : if Region.wanted o (yielded ops a.tmps) then o.quiet P a (fun w' => ∃ u : Wb w0, w' = u.w) (fun a' => wpAnyE P md ops Q (fun w' => Below w0.heap.size w0 w') ex fuel (listed.setIfInBounds k true) a' w) else wpAnyE P md ops Q (fun w' => Below w0.heap.size w0 w') ex fuel (listed.setIfInBounds k true) (a.put o.dst undef) w) :
    wpAnyE P md ops Q (fun w' => Below w0.heap.size w0 w') ex (fuel + 1) listed a w := by
  have key : ∃ v, YieldsIf P ops (fun w' => Below w0.heap.size w0 w') o v a ∧ wpAnyE P md ops Q (fun w' => Below w0.heap.size w0 w') ex fuel (listed.setIfInBounds k true) (a.put o.dst v) w := by
    by_cases hw' : Region.wanted o (yielded ops a.tmps) = true
    · rw [if_pos hw'] at h
      obtain ⟨v, hv, hn⟩ := h
      refine ⟨v, .inl ⟨hw', fun w1 h1 => ?_⟩, hn⟩
      have h2 := hv w1 ⟨⟨w1, h1⟩, rfl⟩
      unfold Oper.quietAt at h2
      generalize hrun : (execOp a.eval o).run P w1 = res at h2
      cases res with
      | halt x w2 => exact h2.elim
      | ok n w2 =>
        obtain ⟨u, rfl⟩ := plain_value o hp' _ _ _ _ hrun
        obtain ⟨e1, e2⟩ := h2
        rw [e1, e2]
    · rw [if_neg hw'] at h
      exact ⟨undef, .inr ⟨by simpa using hw', rfl⟩, h⟩
  obtain ⟨v, hy, hn⟩ := key
  rcases hx with hmv | hx
  · exact wpAnyE_move ho (Region.noSelect_spec hs) (fun c a w => hQ c _ a w) fuel listed a w (Region.free_spec ho hf) hk (move_yields hmv w hw hy) hw hn
  · exact wpAnyE_first ho (Region.noSelect_spec hs) (fun c a w => hQ c _ a w) fuel listed a w hcl (fun i hi _ => hx i hi) (Region.free_spec ho hf) hk hy hw hn

def preB (md : Region.Mode) (ops : Array Oper) (E : List Nat) : List Nat → Array Bool → Bool
  | [], _ => true
  | k :: rs, listed => (Region.ready md ops listed).contains k && Region.free md ops listed k && ((ops[k]?).map fun o => plainOp o.op).getD false && (((ops[k]?).map fun o => isMove o.op).getD false || E.all fun i => waits md ops k ops.size i) && preB md ops E rs (listed.setIfInBounds k true)
def lst : List Nat → Array Bool → Array Bool
  | [], listed => listed
  | k :: rs, listed => lst rs (listed.setIfInBounds k true)
end

section
variable {P : Program} {l : List Oper} {Q : Exit → Act → World → Prop}
theorem reads_any (hs : Region.noSelect l.toArray = true) (hQ : ∀ c a a' w, Q (.panic c) a w → Q (.panic c) a' w) {md : Region.Mode} {w0 w : World} {ex : Nat → Bool} {E : List Nat} (hE : ∀ i, ex i = true → i ∈ E) (hw : Below w0.heap.size w0 w) {fuel : Nat} :
    ∀ (rs : List Nat) (listed : Array Bool) (a : Act), Closed md l.toArray listed → preB md l.toArray E rs listed = true →
      (Closed md l.toArray (lst rs listed) → wpQuiet P l.toArray (fun w' => ∃ u : Wb w0, w' = u.w) (fun a' => wpAnyE P md l.toArray Q (fun w' => Below w0.heap.size w0 w') ex fuel (lst rs listed) a' w) (pick l rs) a) →
      wpAnyE P md l.toArray Q (fun w' => Below w0.heap.size w0 w') ex (fuel + rs.length) listed a w
  | [], listed, a, hcl, _, h => by simpa [pick, wpQuiet, lst] using h hcl
  | k :: rs, listed, a, hcl, hB, h => by
    simp only [preB, Bool.and_eq_true] at hB
    obtain ⟨⟨⟨⟨hr, hf⟩, hp⟩, hx⟩, hB'⟩ := hB
    have hk : k ∈ Region.ready md l.toArray listed := by simpa using hr
    cases ho : at_ l k with
    | none => rw [at_eq, ho] at hp; simp at hp
    | some o =>
      have ho' : l.toArray[k]? = some o := by rw [at_eq, ho]
      rw [ho'] at hp hx
      simp only [Option.map_some, Option.getD_some, Bool.or_eq_true] at hp hx
      have hcl2 := hcl.add hk
      have rest : ∀ a', wpQuiet P l.toArray (fun w' => ∃ u : Wb w0, w' = u.w) (fun a' => wpAnyE P md l.toArray Q (fun w' => Below w0.heap.size w0 w') ex fuel (lst rs (listed.setIfInBounds k true)) a' w) (pick l rs) a' → wpAnyE P md l.toArray Q (fun w' => Below w0.heap.size w0 w') ex (fuel + rs.length) (listed.setIfInBounds k true) a' w :=
        fun a' h' => reads_any hs hQ hE hw rs _ a' hcl2 hB' (fun _ => h')
      have hcl3 : Closed md l.toArray (lst (k :: rs) listed) := by
        have : ∀ (rs : List Nat) (listed : Array Bool), Closed md l.toArray listed → preB md l.toArray E rs listed = true → Closed md l.toArray (lst rs listed) := by
          intro rs
          induction rs with
          | nil => intro listed h _; exact h
          | cons j rs ih =>
            intro listed h hb
            simp only [preB, Bool.and_eq_true] at hb
            exact ih _ (h.add (by simpa using hb.1.1.1.1)) hb.2
        exact this rs _ hcl2 hB'
      have h1 := h hcl3
      simp only [pick, ho, wpQuiet] at h1
      refine read_step hs hQ (fuel := fuel + rs.length) hcl hw hk hf ho' hp (hx.imp id fun hx i hi => ⟨l.toArray.size, by have := List.all_eq_true.1 hx i (hE i hi); exact this⟩) ?_
      split at h1
      · rename_i hw'
        rw [if_pos hw']
        exact Oper.quiet_mono (fun a' => rest a') h1
      · rename_i hw'
        rw [if_neg hw']
        exact rest _ h1

/-- the two plans fit the region -/
def twoB (l : List Oper) (rs : List Nat) (k1 k2 : Nat) (p1 p2 : Plan) : Bool :=
  Region.noSelect l.toArray && inB l.length p1 && inB l.length p2 && decide (k1 < l.length) && decide (k2 < l.length) && (rs.length + 1 + (flat p1).length == l.length) && ((flat p2).length == (flat p1).length) &&
    preB .any l.toArray (((flat p1).filter fun q => q.2 == 2).map fun q => q.1) rs (Array.replicate l.length false) && (Region.ready .any l.toArray (lst rs (Array.replicate l.length false)) == [k1, k2]) &&
    ordB .any l.toArray (flat p1) ((lst rs (Array.replicate l.length false)).setIfInBounds k1 true) && ordB .any l.toArray (flat p2) ((lst rs (Array.replicate l.length false)).setIfInBounds k2 true) && (flat p2).all (fun q => q.2 != 2 || exs (flat p1) q.1)

end
end Go.Proofs.YtnjdondkggkfoaaGreat.ord
