/-
  A region that draws its order, of which up to three operations may be ready at once.
-/
import Derived.Test.YtnpkhkhchimcnaaFree
namespace Go.Proofs.Ytnpkhkhchimcnaa.ord
open Go Go.RowKit words mem
inductive Tr3
  | stop : Tr3
  | reads : List Nat → Tr3 → Tr3
  | one : Nat → Bool → Tr3 → Tr3
  | two : Nat → Bool → Tr3 → Nat → Bool → Tr3 → Tr3
  | three : Nat → Bool → Tr3 → Nat → Bool → Tr3 → Nat → Bool → Tr3 → Tr3
def Tr3.exs : Tr3 → List Nat
  | .stop => []
  | .reads _ t => t.exs
  | .one k b t => if b then k :: t.exs else t.exs
  | .two k b t m c u => (if b then k :: t.exs else t.exs) ++ (if c then m :: u.exs else u.exs)
  | .three k b t m c u n d v => (if b then k :: t.exs else t.exs) ++ ((if c then m :: u.exs else u.exs) ++ (if d then n :: v.exs else v.exs))
def Tr3.size : Tr3 → Nat
  | .stop => 0
  | .reads rs t => rs.length + t.size
  | .one _ _ t => t.size + 1
  | .two _ _ t _ _ _ => t.size + 1
  | .three _ _ t _ _ _ _ _ _ => t.size + 1
namespace fr3

section
variable {P : Program} {l : List Oper} {Q : Exit → Act → World → Prop} {md : Region.Mode} {F : Nat → Prop}
def trB (md : Region.Mode) (ops : Array Oper) : Tr3 → Array Bool → Bool
  | .stop, listed => (Region.ready md ops listed).isEmpty
  | .reads rs t, listed => preB md ops t.exs rs listed && trB md ops t (lst rs listed)
  | .one k _ t, listed => Region.ready md ops listed == [k] && (ops[k]?).isSome && trB md ops t (listed.setIfInBounds k true)
  | .two k _ t j _ u, listed => Region.ready md ops listed == [k, j] && (ops[k]?).isSome && (ops[j]?).isSome && t.size == u.size && trB md ops t (listed.setIfInBounds k true) && trB md ops u (listed.setIfInBounds j true)
  | .three k _ t j _ u i _ v, listed => Region.ready md ops listed == [k, j, i] && (ops[k]?).isSome && (ops[j]?).isSome && (ops[i]?).isSome && t.size == u.size && t.size == v.size && trB md ops t (listed.setIfInBounds k true) && trB md ops u (listed.setIfInBounds j true) && trB md ops v (listed.setIfInBounds i true)
def wpTr (F : Nat → Prop) (P : Program) (l : List Oper) (Q : Exit → Act → World → Prop) : Tr3 → World → Act → World → Prop
  | .stop, _, a, w => Q .normal a w
  | .reads rs t, w0, a, w => wpQuiet P l.toArray (fun w' => ∃ u : Wf F w0, w' = u.w) (fun a' => wpTr F P l Q t w0 a' w) (pick l rs) a
  | .one k b t, w0, a, w => if b then fr.wpW P l Q k (wpTr F P l Q t) a w else fr.wpS F P l Q k (wpTr F P l Q t) w0 a w
  | .two k b t j c u, w0, a, w => (if b then fr.wpW P l Q k (wpTr F P l Q t) a w else fr.wpS F P l Q k (wpTr F P l Q t) w0 a w) ∧ (if c then fr.wpW P l Q j (wpTr F P l Q u) a w else fr.wpS F P l Q j (wpTr F P l Q u) w0 a w)
  | .three k b t j c u i d v, w0, a, w => (if b then fr.wpW P l Q k (wpTr F P l Q t) a w else fr.wpS F P l Q k (wpTr F P l Q t) w0 a w) ∧ (if c then fr.wpW P l Q j (wpTr F P l Q u) a w else fr.wpS F P l Q j (wpTr F P l Q u) w0 a w) ∧ (if d then fr.wpW P l Q i (wpTr F P l Q v) a w else fr.wpS F P l Q i (wpTr F P l Q v) w0 a w)
theorem tr_any (hs : Region.noSelect l.toArray = true) (hQ : ∀ c a a' w, Q (.panic c) a w → Q (.panic c) a' w) : ∀ (t : Tr3) (listed : Array Bool) (w0 : World) (a : Act) (w : World), Closed md l.toArray listed → Chg F w0 w → trB md l.toArray t listed = true →
    wpTr F P l Q t w0 a w → wpAnyE P md l.toArray Q (fun w' => Chg F w0 w') (fun k => t.exs.contains k) t.size listed a w
  | .stop, listed, w0, a, w, _, _, hB, h => ⟨by simpa [trB] using hB, h⟩
  | .reads rs t, listed, w0, a, w, hcl, hw, hB, h => by
    simp only [trB, Bool.and_eq_true] at hB
    simp only [wpTr] at h
    have := fr.reads_any (P := P) (Q := Q) (md := md) (w0 := w0) (w := w) (ex := fun k => t.exs.contains k) (E := t.exs) (fuel := t.size) hs hQ (fun i hi => by simpa using hi) hw rs listed a hcl hB.1
      (fun hcl' => wpQuiet_mono' (fun a' h' => tr_any hs hQ t _ w0 a' w hcl' hw hB.2 h') _ _ h)
    rw [Nat.add_comm] at this
    exact this
  | .one k b t, listed, w0, a, w, hcl, hw, hB, h => by
    simp only [trB, Bool.and_eq_true] at hB
    obtain ⟨⟨hr, ho⟩, hB'⟩ := hB
    have hrk : Region.ready md l.toArray listed = [k] := by simpa using hr
    rw [at_eq] at ho
    obtain ⟨o, ho⟩ := Option.isSome_iff_exists.1 ho
    simp only [wpTr] at h
    refine ⟨fun h0 => (by rw [hrk] at h0; cases h0), fun j hj => ?_⟩
    have hj' := hj
    rw [hrk] at hj'
    obtain rfl : j = k := by simpa using hj'
    exact fr.act_any (E := t.exs) hs ho (fun w0 a w hb h' => tr_any hs hQ t _ w0 a w (hcl.add hj) hb hB' h') (fun i hi => by cases b <;> simp [Tr3.exs, hi]) (fun hb => by subst hb; simp [Tr3.exs]) h
  | .two k b t m c u, listed, w0, a, w, hcl, hw, hB, h => by
    simp only [trB, Bool.and_eq_true] at hB
    obtain ⟨⟨⟨⟨⟨hr, ho⟩, ho2⟩, hsz⟩, hB1⟩, hB2⟩ := hB
    have hrk : Region.ready md l.toArray listed = [k, m] := by simpa using hr
    have hsz' : t.size = u.size := by simpa using hsz
    rw [at_eq] at ho ho2
    obtain ⟨o, ho⟩ := Option.isSome_iff_exists.1 ho
    obtain ⟨o2, ho2⟩ := Option.isSome_iff_exists.1 ho2
    simp only [wpTr] at h
    refine ⟨fun h0 => (by rw [hrk] at h0; cases h0), fun j hj => ?_⟩
    have hj' := hj
    rw [hrk] at hj'
    rcases List.mem_cons.1 hj' with rfl | hj'
    · exact fr.act_any (E := t.exs) hs ho (fun w0 a w hb h' => tr_any hs hQ t _ w0 a w (hcl.add hj) hb hB1 h') (fun i hi => by simp only [Tr3.exs, List.mem_append]; exact .inl (by cases b <;> simp [hi])) (fun hb => by subst hb; simp [Tr3.exs]) h.1
    · obtain rfl : j = m := by simpa using hj'
      refine fr.act_any (E := u.exs) hs ho2 (fun w0 a w hb h' => ?_) (fun i hi => by simp only [Tr3.exs, List.mem_append]; exact .inr (by cases c <;> simp [hi])) (fun hb => by subst hb; simp [Tr3.exs]) h.2
      rw [hsz']
      exact tr_any hs hQ u _ w0 a w (hcl.add hj) hb hB2 h'
  | .three k b t m c u n d v, listed, w0, a, w, hcl, hw, hB, h => by
    simp only [trB, Bool.and_eq_true] at hB
    obtain ⟨⟨⟨⟨⟨⟨⟨⟨hr, ho⟩, ho2⟩, ho3⟩, hsz⟩, hsz2⟩, hB1⟩, hB2⟩, hB3⟩ := hB
    have hrk : Region.ready md l.toArray listed = [k, m, n] := by simpa using hr
    have hsz' : t.size = u.size := by simpa using hsz
    have hsz2' : t.size = v.size := by simpa using hsz2
    rw [at_eq] at ho ho2 ho3
    obtain ⟨o, ho⟩ := Option.isSome_iff_exists.1 ho
    obtain ⟨o2, ho2⟩ := Option.isSome_iff_exists.1 ho2
    obtain ⟨o3, ho3⟩ := Option.isSome_iff_exists.1 ho3
    simp only [wpTr] at h
    refine ⟨fun h0 => (by rw [hrk] at h0; cases h0), fun j hj => ?_⟩
    have hj' := hj
    rw [hrk] at hj'
    rcases List.mem_cons.1 hj' with rfl | hj'
    · exact fr.act_any (E := t.exs) hs ho (fun w0 a w hb h' => tr_any hs hQ t _ w0 a w (hcl.add hj) hb hB1 h') (fun i hi => by simp only [Tr3.exs, List.mem_append]; exact .inl (by cases b <;> simp [hi])) (fun hb => by subst hb; simp [Tr3.exs]) h.1
    · rcases List.mem_cons.1 hj' with rfl | hj'
      · refine fr.act_any (E := u.exs) hs ho2 (fun w0 a w hb h' => ?_) (fun i hi => by simp only [Tr3.exs, List.mem_append]; exact .inr (.inl (by cases c <;> simp [hi]))) (fun hb => by subst hb; simp [Tr3.exs]) h.2.1
        rw [hsz']
        exact tr_any hs hQ u _ w0 a w (hcl.add hj) hb hB2 h'
      · obtain rfl : j = n := by simpa using hj'
        refine fr.act_any (E := v.exs) hs ho3 (fun w0 a w hb h' => ?_) (fun i hi => by simp only [Tr3.exs, List.mem_append]; exact .inr (.inr (by cases d <;> simp [hi]))) (fun hb => by subst hb; simp [Tr3.exs]) h.2.2
        rw [hsz2']
        exact tr_any hs hQ v _ w0 a w (hcl.add hj) hb hB3 h'
def treeB (l : List Oper) (t : Tr3) : Bool := Region.noSelect l.toArray && t.size == l.length && trB .any l.toArray t (Array.replicate l.length false)
theorem wp_region_tree {id : Nat} {a : Act} {w : World} (t : Tr3) (hm : P.follows .mixedOrders = true) (hB : treeB l t = true) (h : wpTr F P l (NoPanic Q) t w a w.drew) : (Code.region id l.toArray true).wp P Q a w := by
  simp only [treeB, Bool.and_eq_true] at hB
  obtain ⟨⟨hs, hlen⟩, hord⟩ := hB
  have hlen' : t.size = l.length := by simpa using hlen
  refine wp_region_noPanic (wp_region_any hm ?_)
  have := tr_any (md := .any) (Q := NoPanic Q) hs (fun _ _ _ _ h => h) t (Array.replicate l.length false) w a w.drew (fun j oj hj => ?_) (Chg.refl _ _).drew hord h
  · have h2 := wpAny_of_E _ _ _ _ this
    rw [hlen'] at h2
    simpa using h2
  · exfalso
    rcases Nat.lt_or_ge j l.length with h | h
    · simp [h] at hj
    · simp [Array.getElem?_eq_none, h] at hj
variable {w0 w : World} {a : Act} {t u v : Tr3} {rs : List Nat} {k m n : Nat}
theorem tr_reads (seg : List Oper) (hs : pick l rs = seg) (h : wpQuiet P l.toArray (fun w' => ∃ u : Wf F w0, w' = u.w) (fun a' => wpTr F P l Q t w0 a' w) seg a) : wpTr F P l Q (.reads rs t) w0 a w := by
  subst hs; exact h
theorem tr_one (one : List Oper) (ho : pick l [k] = one)
    (h : ∀ K : Exit → Act → World → Prop, (∀ a w, Chg F w0 w → wpTr F P l Q t w0 a w → K .normal a w) → (∀ a w, Chg F w0 w → wpTr F P l Q t w a w → K .normal a w) → wpList P l.toArray K one a w) : wpTr F P l Q (.one k false t) w0 a w :=
  fr.act_s one ho h
theorem tr_write (one : List Oper) (ho : pick l [k] = one)
    (h : ∀ K : Exit → Act → World → Prop, (∀ a w, wpTr F P l Q t w a w → K .normal a w) → wpList P l.toArray K one a w) : wpTr F P l Q (.one k true t) w0 a w :=
  fr.act_w one ho h
theorem tr_two {b c : Bool} (h1 : if b then fr.wpW P l Q k (wpTr F P l Q t) a w else fr.wpS F P l Q k (wpTr F P l Q t) w0 a w) (h2 : if c then fr.wpW P l Q m (wpTr F P l Q u) a w else fr.wpS F P l Q m (wpTr F P l Q u) w0 a w) : wpTr F P l Q (.two k b t m c u) w0 a w := ⟨h1, h2⟩
theorem tr_three {b c d : Bool} (h1 : if b then fr.wpW P l Q k (wpTr F P l Q t) a w else fr.wpS F P l Q k (wpTr F P l Q t) w0 a w) (h2 : if c then fr.wpW P l Q m (wpTr F P l Q u) a w else fr.wpS F P l Q m (wpTr F P l Q u) w0 a w) (h3 : if d then fr.wpW P l Q n (wpTr F P l Q v) a w else fr.wpS F P l Q n (wpTr F P l Q v) w0 a w) : wpTr F P l Q (.three k b t m c u n d v) w0 a w := ⟨h1, h2, h3⟩
theorem tr_stop (h : Q .normal a w) : wpTr F P l Q .stop w0 a w := h
end
end fr3
end Go.Proofs.Ytnpkhkhchimcnaa.ord
