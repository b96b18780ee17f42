/-
  Placements: removing and replacing a node is right.
-/
import Derived.Test.YtnjdondkggkfoaaGreatPmG
import Derived.Test.YtnjdondkggkfoaaGreatPmRm
namespace Go.Proofs.YtnjdondkggkfoaaGreat.pm

theorem has_without (l : List Int) (n x : Int) : has (without l n) x = (has l x && x != n) := by
  rw [Bool.eq_iff_iff, has_iff', Bool.and_eq_true, has_iff']
  unfold without
  rw [List.mem_filter]
theorem without_len {l : List Int} (h : l.Nodup) {n : Int} (hn : has l n = true) : (without l n).length + 1 = l.length := by
  have hm := (has_iff' l n).1 hn
  have e : without l n = l.erase n := (h.erase_eq_filter n).symm
  rw [e, List.length_erase_of_mem hm]
  have := List.length_pos_of_mem hm
  omega
theorem without_rise {l : List Int} (h : Rise id l) (n : Int) : Rise id (without l n) := List.Pairwise.sublist List.filter_sublist h
structure MayRem (p : Pl) (n : Int) : Prop where
  ok : PlOk p
  there : has p.nodes n = true
  many : 3 < p.nodes.length
  calm : ∀ l ∈ p.ss, Calm l
theorem MayRem.nodes {p : Pl} {n : Int} (h : MayRem p n) : NodesOk (without p.nodes n) := by
  have := without_len (nodes_nodup h.ok.nodes.rise) h.there
  exact ⟨without_rise h.ok.nodes.rise n, fun x hx => h.ok.nodes.each x (List.mem_filter.1 hx).1, by have := h.many; omega⟩
theorem MayRem.own_in {p : Pl} {n : Int} (h : MayRem p n) {l : List O} (hl : l ∈ p.ss) : ∀ o ∈ l, o.1 ≠ n → has (without p.nodes n) o.1 = true := fun o ho hne => by
  have hc := h.calm l hl
  have hok := (h.ok.each l hl).each o ho
  rw [has_without, hok.2.2 (by rw [(hc.each o ho).2]; simp)]
  simpa using hne
/-- one who can take a shard over from a node that goes -/
theorem MayRem.least {p : Pl} {n : Int} (h : MayRem p n) {l : List O} (hl : l ∈ p.ss) (hh : holds l n = true) (X : List (List O)) : least (without p.nodes n) X l ∈ without p.nodes n ∧ holds l (least (without p.nodes n) X l) = false := by
  have hn := h.nodes
  have hc := h.calm l hl
  have hi := least_inv (X := X) (q := l) (without p.nodes n) [] (-1) ⟨fun _ n hn => by simp at hn, fun h => by omega⟩ (fun n hm => (hn.each n hm).1)
  rw [List.nil_append] at hi
  have hfree : ∃ x ∈ without p.nodes n, holds l x = false := by
    refine Classical.byContradiction fun hno => ?_
    have hmem : n ∈ l.map (·.1) := by
      obtain ⟨o, ho, e⟩ := (hc.holds_iff n).1 hh
      exact List.mem_map.2 ⟨o, ho, e⟩
    have := nodup_le (m := (l.map (·.1)).erase n) (nodes_nodup hn.rise) fun x hx => by
      have hxn : x ≠ n := by
        have := (List.mem_filter.1 hx).2
        simpa using this
      have hx2 : holds l x = true := by
        cases hq : holds l x with
        | true => rfl
        | false => exact absurd ⟨x, hx, hq⟩ hno
      obtain ⟨o, h1, h2⟩ := (hc.holds_iff x).1 hx2
      exact (List.mem_erase_of_ne hxn).2 (List.mem_map.2 ⟨o, h1, h2⟩)
    rw [List.length_erase_of_mem hmem, List.length_map, hc.three] at this
    have := hn.many
    omega
  have h0 : 0 ≤ pm.least (without p.nodes n) X l := by
    refine Classical.byContradiction fun hneg => ?_
    obtain ⟨x, h1, h2⟩ := hfree
    rw [hi.all (by unfold pm.least at hneg; omega) x h1] at h2; cases h2
  have := hi.mem h0
  exact ⟨this.1, this.2.1⟩
theorem remAt_len (nodes : List Int) (n : Int) (ss : List (List O)) (i : Nat) : (remAt nodes n ss i).length = ss.length := by
  induction i with
  | zero => rfl
  | succ i ih =>
    unfold remAt remStep
    split
    · rw [List.length_set, ih]
    · exact ih
/-- half way through -/
structure Half (nodes : List Int) (U : List O → Prop) (P : Int → Int → Prop) (ss X : List (List O)) (i : Nat) : Prop where
  len : X.length = ss.length
  low : ∀ (j : Nat) (l l' : List O), j < i → ss[j]? = some l → X[j]? = some l' → Moved nodes U P l l'
  high : ∀ j : Nat, i ≤ j → X[j]? = ss[j]?
theorem Half.zero (nodes : List Int) (U : List O → Prop) (P : Int → Int → Prop) (ss : List (List O)) : Half nodes U P ss ss 0 := ⟨rfl, fun j _ _ hj => by omega, fun _ _ => rfl⟩
theorem Half.skip {nodes : List Int} {U : List O → Prop} {P : Int → Int → Prop} {ss X : List (List O)} {i : Nat} (h : Half nodes U P ss X i) (hm : ∀ l, ss[i]? = some l → Moved nodes U P l l) : Half nodes U P ss X (i + 1) :=
  ⟨h.len, fun j l l' hj hl hl' => by
    rcases Nat.lt_or_ge j i with h1 | h1
    · exact h.low j l l' h1 hl hl'
    · obtain rfl : j = i := by omega
      rw [h.high j (Nat.le_refl _), hl] at hl'
      cases hl'
      exact hm l hl, fun j hj => h.high j (by omega)⟩
theorem Half.set {nodes : List Int} {U : List O → Prop} {P : Int → Int → Prop} {ss X : List (List O)} {i : Nat} (h : Half nodes U P ss X i) (l2 : List O) (hm : ∀ l, ss[i]? = some l → Moved nodes U P l l2) : Half nodes U P ss (X.set i l2) (i + 1) :=
  ⟨by rw [List.length_set]; exact h.len, fun j l l' hj hl hl' => by
    rcases Nat.lt_or_ge j i with h1 | h1
    · rw [List.getElem?_set_ne (by omega)] at hl'
      exact h.low j l l' h1 hl hl'
    · obtain rfl : j = i := by omega
      have hk : j < X.length := by rw [h.len]; exact (List.getElem?_eq_some_iff.1 hl).1
      rw [List.getElem?_set_self hk] at hl'
      cases hl'
      exact hm l hl, fun j hj => by rw [List.getElem?_set_ne (by omega)]; exact h.high j (by omega)⟩
theorem Half.all {nodes : List Int} {U : List O → Prop} {P : Int → Int → Prop} {ss X : List (List O)} {i : Nat} (h : Half nodes U P ss X i) (hi : ss.length ≤ i) : AllMoved nodes U P ss X :=
  ⟨h.len, fun j l l' hl hl' => h.low j l l' (by have := (List.getElem?_eq_some_iff.1 hl).1; omega) hl hl'⟩
theorem moved_rise {nodes : List Int} {U : List O → Prop} {P : Int → Int → Prop} {l l' : List O} (hc : Calm l) (h : Moved nodes U P l l') : RiseO l' := (h.ok hc).rise
theorem Half.rises {nodes : List Int} {U : List O → Prop} {P : Int → Int → Prop} {ss X : List (List O)} {i : Nat} (h : Half nodes U P ss X i) (hc : ∀ l ∈ ss, Calm l) : Rises X := fun l hl => by
  obtain ⟨j, hj, rfl⟩ := List.getElem_of_mem hl
  have hj2 : j < ss.length := by rw [← h.len]; exact hj
  have e1 : ss[j]? = some ss[j] := List.getElem?_eq_getElem hj2
  have e2 : X[j]? = some X[j] := List.getElem?_eq_getElem hj
  rcases Nat.lt_or_ge j i with h1 | h1
  · exact moved_rise (hc _ (List.mem_of_getElem? e1)) (h.low j _ _ h1 e1 e2)
  · rw [h.high j h1, e1] at e2
    rw [← Option.some.inj e2]
    exact (hc _ (List.mem_of_getElem? e1)).rise
abbrev RemP (nodes : List Int) (n : Int) : Int → Int → Prop := fun f t => f = n ∧ t ∈ nodes
theorem MayRem.half {p : Pl} {n : Int} (h : MayRem p n) (i : Nat) : Half (without p.nodes n) (fun l => holds l n = false) (RemP (without p.nodes n) n) p.ss (remAt (without p.nodes n) n p.ss i) i := by
  induction i with
  | zero => exact Half.zero _ _ _ _
  | succ i ih =>
    unfold remAt remStep
    cases hx : p.ss[i]? with
    | none =>
      have hat : at_ (remAt (without p.nodes n) n p.ss i) i = [] := by unfold at_; rw [ih.high i (Nat.le_refl _), hx]; rfl
      rw [hat, if_neg (by simp [holds])]
      exact ih.skip fun l hl => by rw [hx] at hl; cases hl
    | some l =>
      have hat : at_ (remAt (without p.nodes n) n p.ss i) i = l := by unfold at_; rw [ih.high i (Nat.le_refl _), hx]; rfl
      have hl := List.mem_of_getElem? hx
      rw [hat]
      cases hh : holds l n with
      | false =>
        rw [if_neg (by simp)]
        refine ih.skip fun l' hl' => ?_
        rw [hx] at hl'; cases hl'
        exact .inl ⟨rfl, hh, fun o ho => h.own_in hl o ho ((h.calm l hl).not hh o ho)⟩
      | true =>
        rw [if_pos rfl]
        obtain ⟨h1, h2⟩ := h.least hl hh (remAt (without p.nodes n) n p.ss i)
        refine ih.set _ fun l' hl' => ?_
        rw [hx] at hl'; cases hl'
        exact .inr ⟨n, _, ⟨rfl, h1⟩, hh, h2, h.nodes.each _ h1, (has_iff' _ _).2 h1, h.own_in hl, rfl⟩
structure MayRep (p : Pl) (old n : Int) : Prop where
  ok : PlOk p
  there : has p.nodes old = true
  node : isNode n
  new : has p.nodes n = false
  calm : ∀ l ∈ p.ss, Calm l
def repNodes (p : Pl) (old n : Int) : List Int := srt (without p.nodes old ++ [n])
theorem MayRep.nodes {p : Pl} {old n : Int} (h : MayRep p old n) : NodesOk (repNodes p old n) ∧ ∀ x, has (repNodes p old n) x = ((has p.nodes x && x != old) || n == x) := by
  have hwl := without_len (nodes_nodup h.ok.nodes.rise) h.there
  refine ⟨nodes_srt (fun x hx => ?_) ?_ (by have := h.ok.nodes.many; simp; omega), fun x => by unfold repNodes; rw [has_srt, has_append, has_without]⟩
  · rcases List.mem_append.1 hx with hx | hx
    · exact h.ok.nodes.each x (List.mem_filter.1 hx).1
    · simp at hx; subst hx; exact h.node
  · rw [List.nodup_append]
    refine ⟨nodes_nodup (without_rise h.ok.nodes.rise old), by simp, fun a ha b hb => ?_⟩
    simp at hb; subst hb
    rintro rfl
    have := (has_iff' p.nodes a).2 (List.mem_filter.1 ha).1
    rw [h.new] at this; cases this
theorem MayRep.own_in {p : Pl} {old n : Int} (h : MayRep p old n) {l : List O} (hl : l ∈ p.ss) : ∀ o ∈ l, o.1 ≠ old → has (repNodes p old n) o.1 = true := fun o ho hne => by
  have hc := h.calm l hl
  have hok := (h.ok.each l hl).each o ho
  rw [h.nodes.2, hok.2.2 (by rw [(hc.each o ho).2]; simp)]
  simp [hne]
theorem MayRep.holds_new {p : Pl} {old n : Int} (h : MayRep p old n) {l : List O} (hl : l ∈ p.ss) : holds l n = false := by
  cases hh : holds l n with
  | false => rfl
  | true =>
    have hc := h.calm l hl
    obtain ⟨o, ho, e⟩ := (hc.holds_iff n).1 hh
    have := ((h.ok.each l hl).each o ho).2.2 (by rw [(hc.each o ho).2]; simp)
    rw [e, h.new] at this; cases this
theorem MayAdd.holds_new {p : Pl} {n : Int} (h : MayAdd p n) {l : List O} (hl : l ∈ p.ss) : holds l n = false := by
  cases hh : holds l n with
  | false => rfl
  | true =>
    have hc := h.calm l hl
    obtain ⟨o, ho, e⟩ := (hc.holds_iff n).1 hh
    have := ((h.ok.each l hl).each o ho).2.2 (by rw [(hc.each o ho).2]; simp)
    rw [e, h.new] at this; cases this
abbrev RepP (old n : Int) : Int → Int → Prop := fun f t => f = old ∧ t = n
theorem MayRep.half {p : Pl} {old n : Int} (h : MayRep p old n) (i : Nat) : Half (repNodes p old n) (fun l => holds l old = false) (RepP old n) p.ss (repAt old n p.ss i) i := by
  induction i with
  | zero => exact Half.zero _ _ _ _
  | succ i ih =>
    unfold repAt repStep
    cases hx : p.ss[i]? with
    | none =>
      have hat : at_ (repAt old n p.ss i) i = [] := by unfold at_; rw [ih.high i (Nat.le_refl _), hx]; rfl
      rw [hat, if_neg (by simp [holds])]
      exact ih.skip fun l hl => by rw [hx] at hl; cases hl
    | some l =>
      have hat : at_ (repAt old n p.ss i) i = l := by unfold at_; rw [ih.high i (Nat.le_refl _), hx]; rfl
      have hl := List.mem_of_getElem? hx
      rw [hat]
      cases hh : holds l old with
      | false =>
        rw [if_neg (by simp)]
        refine ih.skip fun l' hl' => ?_
        rw [hx] at hl'; cases hl'
        exact .inl ⟨rfl, hh, fun o ho => h.own_in hl o ho ((h.calm l hl).not hh o ho)⟩
      | true =>
        rw [if_pos rfl]
        refine ih.set _ fun l' hl' => ?_
        rw [hx] at hl'; cases hl'
        exact .inr ⟨old, n, ⟨rfl, rfl⟩, hh, h.holds_new hl, h.node, by rw [h.nodes.2]; simp, h.own_in hl, rfl⟩
theorem AddInv.rises {ss X : List (List O)} {n : Int} (h : AddInv ss n X) (hc : ∀ l ∈ ss, Calm l) : Rises X := fun l hl => by
  obtain ⟨j, hj, rfl⟩ := List.getElem_of_mem hl
  have hj2 : j < ss.length := by rw [← h.len]; exact hj
  have e1 : ss[j]? = some ss[j] := List.getElem?_eq_getElem hj2
  have e2 : X[j]? = some X[j] := List.getElem?_eq_getElem hj
  have hcl := hc _ (List.mem_of_getElem? e1)
  rcases h.at_ j _ _ e1 e2 with e | ⟨f, h1, h2, e⟩
  · rw [e]; exact hcl.rise
  · rw [e]; exact give_rise hcl.rise (hcl.not h2) fun e => by rw [e, h2] at h1; cases h1
/-- the nodes, the document's way -/
theorem with_srt {l : List Int} (h1 : ∀ x ∈ l, isNode x) (h2 : l.Nodup) (h3 : 2 ≤ l.length) {n : Int} (hn : isNode n) (hnew : has l n = false) : with_ l n 8 = srt (l ++ [n]) := by
  have hr : RNodes (l ++ [n]) := by
    refine ⟨by simp; omega, fun x hx => ?_, ?_⟩
    · rcases List.mem_append.1 hx with hx | hx
      · exact h1 x hx
      · simp at hx; subst hx; exact hn
    · rw [List.nodup_append]
      refine ⟨h2, by simp, fun a ha b hb => ?_⟩
      simp at hb; subst hb
      rintro rfl
      rw [(has_iff' l a).2 ha] at hnew; cases hnew
  rw [srt_setOf hr]
  unfold with_ setOf
  refine List.filter_congr fun y _ => ?_
  rw [has_append, BEq.comm (a := y), Bool.or_comm]
end Go.Proofs.YtnjdondkggkfoaaGreat.pm
