/-
  Placements: taking over, and what every step keeps.
-/
import Derived.Test.YtnpkhkhchimcnaaPmRemM
import Derived.Test.YtnpkhkhchimcnaaPmInitM
import Derived.Test.YtnpkhkhchimcnaaPmStep
namespace Go.Proofs.Ytnpkhkhchimcnaa.pm
open Go.ChangeShapes Go.WideShapes Go.ChangeAt Go.RowKit Go.Shelf plain words ord mem

theorem OP.other {w w' : World} {B g : Nat} {v : PV} {cur : Array Value} (h : OP w B v) (hc : Chg (fun k => k = g) w w') (hg : w.heap[g]? = some (.cells cur 25 (0, 0))) : OP w' B v :=
  ⟨ow_other h.n hc hg (by decide), ow_other h.s hc hg (by decide), fun r hr => ow_other (h.each r hr) hc hg (by decide)⟩

def cms (l : List O) : Nat := l.countP fun o => o.2.1 == 1
/-- who comes, counted -/
def cnt (ss : List (List O)) : Nat := (ss.map cms).sum
theorem cnt_set {ss : List (List O)} {i : Nat} {l : List O} (h : ss[i]? = some l) (l' : List O) : cnt (ss.set i l') + cms l = cnt ss + cms l' := by
  unfold cnt
  induction ss generalizing i with
  | nil => simp at h
  | cons a ss ih =>
    cases i with
    | zero => simp at h; subst h; simp; omega
    | succ i =>
      have := ih (i := i) (by simpa using h)
      simp at this ⊢
      omega
theorem mem_sum : ∀ {l : List Nat} {x : Nat}, x ∈ l → x ≤ l.sum
  | a :: l, x, h => by
    rw [List.sum_cons]
    rcases List.mem_cons.1 h with rfl | h
    · omega
    · have := mem_sum h; omega
theorem cnt_zero {ss : List (List O)} (h : cnt ss = 0) : busy ss = false := by
  refine List.any_eq_false.2 fun l hl hc => ?_
  have h1 : cms l ≤ cnt ss := by
    unfold cnt
    exact mem_sum (List.mem_map_of_mem hl)
  obtain ⟨o, ho, e⟩ := List.any_eq_true.1 hc
  have : 0 < cms l := List.countP_pos_iff.2 ⟨o, ho, e⟩
  omega
theorem cms_le {nodes : List Int} {l : List O} (h : ShardOk nodes l) : cms l ≤ 3 := by
  have := h.three
  unfold stay at this
  unfold cms
  have h2 := List.countP_mono_left (l := l) (p := fun o : O => o.2.1 == 1) (q := fun o : O => o.2.1 != 3) fun o _ e => by simp at e; simp [e]
  omega
theorem cnt_le {nodes : List Int} : ∀ {ss : List (List O)}, (∀ l ∈ ss, ShardOk nodes l) → cnt ss ≤ 3 * ss.length
  | [], _ => by simp [cnt]
  | l :: ss, h => by
    have h1 := cms_le (h l (by simp))
    have h2 := cnt_le (ss := ss) fun l hl => h l (by simp [hl])
    unfold cnt at h2 ⊢
    simp at h2 ⊢
    omega
theorem done_find {nodes : List Int} {l : List O} {n f : Int} (h : ShardOk nodes l) (hm : (n, 1, f) ∈ l) : fnd (byNode n) l = (n, 1, f) := by
  have h1 : find l n = some (n, 1, f) := (find_iff h.rise n _).2 ⟨hm, rfl⟩
  unfold find at h1
  unfold fnd byNode
  rw [h1]; rfl
theorem done_set {p : Pl} (hok : PlOk p) {i : Nat} {l : List O} {n f : Int} (hl : p.ss[i]? = some l) (hm : (n, 1, f) ∈ l) (hv : p.ver < 1099511627776) :
    doneErr p i n = 0 ∧ donePl p i n = ⟨p.ver + 1, p.nodes, p.ss.set i (own (disown (disown l f) n) (n, 2, -1))⟩ := by
  have hi := (List.getElem?_eq_some_iff.1 hl).1
  have hs := hok.each l (List.mem_of_getElem? hl)
  have hf := done_find hs hm
  have e : doneErr p i n = 0 := by
    unfold doneErr
    rw [if_pos (chk_ok hok), if_neg (by omega), shardAt_in hl, hf, if_pos rfl]
    exact if_neg (by omega)
  refine ⟨e, ?_⟩
  unfold donePl
  rw [if_pos e, shardAt_in hl, hf]
  rfl
theorem set_okpl {p : Pl} (hok : PlOk p) {i : Nat} {l : List O} {n f : Int} (hl : p.ss[i]? = some l) (hm : (n, 1, f) ∈ l) (hv : p.ver < 1099511627776) :
    PlOk ⟨p.ver + 1, p.nodes, p.ss.set i (own (disown (disown l f) n) (n, 2, -1))⟩ := by
  have h1 := hok.lo
  refine ⟨by show 1 ≤ p.ver + 1; omega, by show p.ver + 1 ≤ 1099511627776; omega, hok.nodes, by simpa using hok.some_, by simpa using hok.few, fun q hq => ?_⟩
  rcases List.mem_or_eq_of_mem_set hq with hq | rfl
  · exact hok.each q hq
  · exact done_ok (hok.each l (List.mem_of_getElem? hl)) hm
theorem doneErr_zero {p : Pl} {s n : Int} (h : doneErr p s n = 0) : PlOk p ∧ p.ver < 1099511627776 ∧ ∃ (i : Nat) (l : List O) (f : Int), s = i ∧ p.ss[i]? = some l ∧ (n, 1, f) ∈ l := by
  unfold doneErr at h
  split at h
  · rename_i hc
    have hok := chk_iff.1 hc
    split at h
    · omega
    · rename_i h1
      split at h
      · rename_i h2
        refine ⟨hok, bumpErr_zero h hok, s.toNat, ?_⟩
        obtain ⟨l, hl⟩ : ∃ l, p.ss[s.toNat]? = some l := ⟨_, List.getElem?_eq_getElem (by omega)⟩
        have hs : s = (s.toNat : Int) := by omega
        have hsh : shardAt p.ss s = l := by rw [hs]; exact shardAt_in hl
        rw [hsh] at h2
        obtain ⟨h3, h4⟩ := fnd_mem h2
        obtain ⟨o, ho⟩ : ∃ o, fnd (byNode n) l = o := ⟨_, rfl⟩
        rw [ho] at h2 h3 h4
        obtain ⟨o1, o2, o3⟩ := o
        simp only at h2
        subst h2
        have : o1 = n := by simpa [byNode] using h4
        subst this
        exact ⟨l, o3, hs, hl, h3⟩
      · omega
  · omega
theorem done_okpl {p : Pl} {s n : Int} (h : doneErr p s n = 0) : PlOk (donePl p s n) ∧ (donePl p s n).ver = p.ver + 1 ∧ (donePl p s n).ss.length = p.ss.length := by
  obtain ⟨hok, hv, i, l, f, rfl, hl, hm⟩ := doneErr_zero h
  rw [(done_set hok hl hm hv).2]
  exact ⟨set_okpl hok hl hm hv, rfl, by simp⟩
theorem step_ok {p : Pl} {k a b : Int} (h : stepErr p k a b = 0) : PlOk (stepPl p k a b) ∧ (stepPl p k a b).ver = p.ver + 1 ∧ (stepPl p k a b).ss.length = p.ss.length := by
  unfold stepErr at h
  unfold stepPl
  split at h
  · rename_i h0
    rw [if_pos h0]
    have := add_ok h
    exact ⟨this.1, this.2.1, this.2.2.2.len⟩
  · rename_i h0
    rw [if_neg h0]
    split at h
    · rename_i h1
      rw [if_pos h1]
      have := remove_ok h
      exact ⟨this.1, this.2.1, this.2.2.2.len⟩
    · rename_i h1
      rw [if_neg h1]
      split at h
      · rename_i h2
        rw [if_pos h2]
        have := replace_ok h
        exact ⟨this.1, this.2.1, this.2.2.2.len⟩
      · rename_i h2
        rw [if_neg h2]
        exact done_okpl h
/-- nobody holds anything by this node -/
def Gone (ss : List (List O)) (n : Int) : Prop := ∀ l ∈ ss, holds l n = false
theorem gone_give {l : List O} {f t : Int} (h : Calm l) (hf : holds l f = true) (ht : holds l t = false) : holds (give l f t) f = false := by
  cases hh : holds (give l f t) f with
  | false => rfl
  | true =>
    obtain ⟨o, ho, e1, e2⟩ := (holds_iff _ _).1 hh
    rcases mem_give.1 ho with rfl | rfl | ⟨_, hne⟩
    · simp only at e1
      subst e1
      rw [ht] at hf; cases hf
    · exact absurd rfl e2
    · exact absurd e1 hne
theorem all_gone {nodes : List Int} {P : Int → Int → Prop} {ss X : List (List O)} {n : Int} (h : AllMoved nodes (fun l => holds l n = false) P ss X) (hP : ∀ f t, P f t → f = n) (hc : ∀ l ∈ ss, Calm l) : Gone X n := fun l hl => by
  obtain ⟨i, hi, rfl⟩ := List.getElem_of_mem hl
  have hi2 : i < ss.length := by rw [← h.len]; exact hi
  have e1 : ss[i]? = some ss[i] := List.getElem?_eq_getElem hi2
  rcases h.at_ i _ _ e1 (List.getElem?_eq_getElem hi) with ⟨e, hu, _⟩ | ⟨f, t, hp, h1, h2, _, _, _, e⟩
  · rw [e]; exact hu
  · have := hP f t hp
    subst this
    rw [e]
    exact gone_give (hc _ (List.mem_of_getElem? e1)) h1 h2
theorem step_gone {p : Pl} {k a b : Int} (h : stepErr p k a b = 0) (hk : k = 1 ∨ k = 2) : Gone (stepPl p k a b).ss a := by
  rcases hk with rfl | rfl
  · have h' : removeErr p a = 0 := h
    have := (remove_ok h').2.2.2
    exact all_gone this (fun f t hp => hp.1) (removeErr_zero h').1.calm
  · have h' : replaceErr p a b = 0 := h
    have := (replace_ok h').2.2.2
    exact all_gone this (fun f t hp => hp.1) (replaceErr_zero h').1.calm
theorem gone_done {p : Pl} (hok : PlOk p) {i : Nat} {l : List O} {n f a : Int} (hl : p.ss[i]? = some l) (hm : (n, 1, f) ∈ l) (h : Gone p.ss a) : Gone (p.ss.set i (own (disown (disown l f) n) (n, 2, -1))) a := fun q hq => by
  rcases List.mem_or_eq_of_mem_set hq with hq | rfl
  · exact h q hq
  · cases hh : holds (own (disown (disown l f) n) (n, 2, -1)) a with
    | false => rfl
    | true =>
      have hl2 := h l (List.mem_of_getElem? hl)
      obtain ⟨o, ho, e1, e2⟩ := (holds_iff _ _).1 hh
      rcases (own_mem _ _ _).1 ho with rfl | ho
      · rw [(holds_iff l a).2 ⟨(n, 1, f), hm, e1, by simp⟩] at hl2; cases hl2
      · have := (mem_disown.1 (mem_disown.1 ho).1).1
        rw [(holds_iff l a).2 ⟨o, this, e1, e2⟩] at hl2; cases hl2
theorem cnt_done {p : Pl} (hok : PlOk p) {i : Nat} {l : List O} {n f : Int} (hl : p.ss[i]? = some l) (hm : (n, 1, f) ∈ l) : cnt (p.ss.set i (own (disown (disown l f) n) (n, 2, -1))) + 1 = cnt p.ss := by
  have hs := hok.each l (List.mem_of_getElem? hl)
  obtain ⟨hfn, x, hx, hxf⟩ := hs.source hm rfl
  simp only at hfn hxf
  have hx3 : x.2.1 = 3 := by
    rcases (hs.each _ hm).2.1 with ⟨e, _⟩ | ⟨_, y, hy, e⟩ | ⟨e, _⟩
    · simp at e
    · obtain ⟨a, b⟩ := (find_iff hs.rise _ y).1 hy
      rw [← rise_inj hs.rise a hx (by show y.1 = x.1; rw [b, hxf])]
      exact e
    · simp at e
  have h1 := countP_disown hs.rise hx fun o => o.2.1 == 1
  rw [hxf] at h1
  have h2 := countP_disown (disown_rise hs.rise f) (mem_disown.2 ⟨hm, fun e => hfn e.symm⟩ : (n, 1, f) ∈ disown l f) fun o => o.2.1 == 1
  simp [hx3] at h1 h2
  have h3 := cnt_set hl (own (disown (disown l f) n) (n, 2, -1))
  have h4 : cms (own (disown (disown l f) n) (n, 2, -1)) = (disown (disown l f) n).countP (fun o => o.2.1 == 1) := by
    unfold cms
    rw [countP_own]; simp
  unfold cms at h3 h4
  rw [h4] at h3
  have : cms l = l.countP (fun o => o.2.1 == 1) := rfl
  omega
/-- the loads of all nodes are three times the shards -/
def ld8 (ss : List (List O)) (k : Nat) : Nat := ((List.range k).map fun j : Nat => pm.load ss (j : Int)).sum
theorem ld8_succ (ss : List (List O)) (k : Nat) : ld8 ss (k + 1) = ld8 ss k + pm.load ss (k : Int) := by
  unfold ld8
  rw [List.range_succ]
  simp
theorem ld8_cons (l : List O) (ss : List (List O)) (k : Nat) : ld8 (l :: ss) k = ld8 ss k + ((List.range k).map fun j : Nat => if holds l (j : Int) then 1 else 0).sum := by
  induction k with
  | zero => rfl
  | succ k ih =>
    rw [ld8_succ, ld8_succ, ih, List.range_succ]
    have : pm.load (l :: ss) (k : Int) = pm.load ss (k : Int) + if holds l (k : Int) then 1 else 0 := by unfold pm.load; rw [List.countP_cons]
    rw [this]
    simp
    omega
theorem hold8 : ∀ {l : List O}, RiseO l → (∀ o ∈ l, isNode o.1) → ((List.range 8).map fun j : Nat => if holds l (j : Int) then 1 else 0).sum = stay l
  | [], _, _ => by simp [holds, stay]; rfl
  | o :: l, hr, hn => by
    have h' : (∀ b ∈ l, o.1 < b.1) ∧ RiseO l := List.pairwise_cons.1 hr
    have ih := hold8 h'.2 fun x hx => hn x (by simp [hx])
    have hno : holds l o.1 = false := by
      cases hh : holds l o.1 with
      | false => rfl
      | true =>
        obtain ⟨x, hx, e, _⟩ := (holds_iff _ _).1 hh
        have := h'.1 x hx
        omega
    have hc : ∀ j : Int, holds (o :: l) j = ((o.1 == j && o.2.1 != 3) || holds l j) := fun j => by unfold holds; rw [List.any_cons]
    have hs : stay (o :: l) = stay l + if o.2.1 != 3 then 1 else 0 := by unfold stay; rw [List.countP_cons]
    obtain ⟨n0, n1⟩ := hn o (by simp)
    have h8 : o.1 = 0 ∨ o.1 = 1 ∨ o.1 = 2 ∨ o.1 = 3 ∨ o.1 = 4 ∨ o.1 = 5 ∨ o.1 = 6 ∨ o.1 = 7 := by omega
    have hr8 : List.range 8 = [0, 1, 2, 3, 4, 5, 6, 7] := rfl
    rw [hs, ← ih, hr8]
    simp only [List.map_cons, List.map_nil, List.sum_cons, List.sum_nil, hc]
    rcases h8 with e | e | e | e | e | e | e | e <;> (rw [e] at hno; simp [e] at hno ⊢; simp [hno]; omega)
theorem ld8_all {nodes : List Int} : ∀ {ss : List (List O)}, (∀ l ∈ ss, ShardOk nodes l) → ld8 ss 8 = 3 * ss.length
  | [], _ => by simp [ld8, pm.load]; rfl
  | l :: ss, h => by
    have hl := h l (by simp)
    rw [ld8_cons, hold8 hl.rise (fun o ho => (hl.each o ho).1), hl.three, ld8_all fun q hq => h q (by simp [hq])]
    simp
    omega
end Go.Proofs.Ytnpkhkhchimcnaa.pm
