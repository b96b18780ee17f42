/-
  One disk within what is new; a disk whose power is on and to which nothing is ordered.
-/
import Derived.Test.YtmnliieiiaedeaaDkRen
import Derived.Test.YtmnliieiiaedeaaDkTwo
namespace Go.Proofs.Ytmnliieiiaedeaa.dk
open Go.ChangeShapes Go.WideShapes Go.ChangeAt Go.RowKit Go.Maps Go.Sort Go.Shelf plain words ord mem al

/-- the disk within what is new -/
def Dn (w0 w : World) (p : Nat) (st : St) : Prop := Dk w p (fun k => w0.heap.size ≤ k ∧ k < w.heap.size) st ∧ Below w0.heap.size w0 w
theorem Dn.next {w0 w w' : World} {p : Nat} {st st' : St} {r : Value} {e : Ending} (h : Dn w0 w p st) (hr : RetDk w p (fun k => w0.heap.size ≤ k ∧ k < w.heap.size) st' r e w') : e = .returned r ∧ Dn w0 w' p st' := by
  obtain ⟨h1, h2, h3⟩ := hr
  have hs := h.2.size
  have hs2 := h3.size
  refine ⟨h1, h2.mono (fun k hk => ?_) (fun k hk => hk.2), h.2.trans (h3.below hs (fun k hk => hk.1))⟩
  rcases hk with e | e
  · exact ⟨e.1, by omega⟩
  · exact ⟨by omega, e.2⟩
theorem Dn.quiet {w0 w w' : World} {p : Nat} {st : St} (h : Dn w0 w p st) (hb : Below w.heap.size w w') : Dn w0 w' p st := by
  have hs := h.2.size
  exact ⟨(h.1.chg (Chg.of_below hb) (fun _ _ e => e)).mono (fun k hk => ⟨hk.1, Nat.lt_of_lt_of_le hk.2 hb.size⟩) (fun k hk => hk.2), h.2.trans (hb.mono hs)⟩
/-- power on, nothing ordered -/
structure Live (st : St) : Prop where
  due : st.due = none
  dead : st.dead = false
def more (st : St) (c : Chn) : St := { st with pend := st.pend ++ [c], ops := st.ops + 1 }
theorem Live.more {st : St} (h : Live st) (c : Chn) : Live (more st c) := ⟨h.due, h.dead⟩
theorem Live.pw {st : St} (h : Live st) : pw st = st := by
  unfold dk.pw
  rw [h.due]
theorem Live.doSt {st : St} (h : Live st) (c : Chn) : doSt st c = dk.more st c := by
  unfold dk.doSt
  rw [h.pw, if_neg (by rw [h.dead]; simp)]
  unfold cnt dk.more
  rw [h.due]
  rfl
theorem Live.doE {st : St} (h : Live st) : doE st = 0 := by
  unfold dk.doE
  rw [h.pw, if_neg (by rw [h.dead]; simp)]
theorem more_shown (st : St) (c : Chn) : (more st c).shown = done st.shown c := fold_snoc _ _ _
theorem app_name {st : St} {a b : Nm} (ha : okn a = false) : appSt st a b = (st, 10) := by unfold appSt; rw [if_pos ha]
theorem app_full {st : St} {a b : Nm} (ha : okn a = true) (hf : st.room < (fsum st.shown : Int) + (b.length : Int)) : appSt st a b = (st, 12) := by
  unfold appSt; rw [if_neg (by rw [ha]; simp), if_pos hf]
theorem app_do {st : St} (h : Live st) {a b : Nm} (ha : okn a = true) (hf : ¬ st.room < (fsum st.shown : Int) + (b.length : Int)) : appSt st a b = (more st (.app a b), 0) := by
  unfold appSt; rw [if_neg (by rw [ha]; simp), if_neg hf, h.doSt, h.doE]
theorem ren_do {st : St} (h : Live st) {a b : Nm} (ha : okn a = true) (hb : okn b = true) (hf : al.get st.shown a ≠ none) : renSt st a b = (more st (.ren a b), 0) := by
  unfold renSt; rw [if_neg (by rw [ha, hb]; simp), if_neg hf, h.doSt, h.doE]
theorem ren_name {st : St} {a b : Nm} (h : okn a = false ∨ okn b = false) : renSt st a b = (st, 10) := by unfold renSt; rw [if_pos h]
theorem ren_none {st : St} {a b : Nm} (ha : okn a = true) (hb : okn b = true) (hf : al.get st.shown a = none) : renSt st a b = (st, 11) := by
  unfold renSt; rw [if_neg (by rw [ha, hb]; simp), if_pos hf]
theorem rem_name {st : St} {a : Nm} (ha : okn a = false) : remSt st a = (st, 10) := by unfold remSt; rw [if_pos ha]
theorem rem_none {st : St} {a : Nm} (ha : okn a = true) (hf : al.get st.shown a = none) : remSt st a = (st, 11) := by
  unfold remSt; rw [if_neg (by rw [ha]; simp), if_pos hf]
theorem rem_do {st : St} (h : Live st) {a : Nm} (ha : okn a = true) (hf : al.get st.shown a ≠ none) : remSt st a = (more st (.rem a), 0) := by
  unfold remSt; rw [if_neg (by rw [ha]; simp), if_neg hf, h.doSt, h.doE]
/-- what an append adds is what it writes -/
theorem app_sum {fs : AL Nm} (h : Srt fs) (a b : Nm) : fsum (done fs (.app a b)) = fsum fs + b.length := by
  unfold fsum
  show al.sum List.length (al.put fs a ((al.get fs a).getD [] ++ b)) = _
  cases hg : al.get fs a with
  | none => rw [sum_put_new hg]; simp
  | some y =>
    have := sum_put_old (f := List.length) (x := (some y).getD [] ++ b) h hg
    simp at this ⊢
    omega
theorem app_get (fs : AL Nm) (a b : Nm) : al.get (done fs (.app a b)) a = some ((al.get fs a).getD [] ++ b) := get_put_same _ _ _
theorem rem_sum {fs : AL Nm} (h : Srt fs) (a : Nm) : fsum (done fs (.rem a)) ≤ fsum fs := by
  show al.sum List.length (al.del fs a) ≤ al.sum List.length fs
  cases hg : al.get fs a with
  | none => rw [del_absent hg]; exact Nat.le_refl _
  | some y => have := sum_del (f := List.length) h hg; omega
theorem own_sl {w : World} {base e size n : Nat} {v : Value} {xs : List Value} (h : w.ownsRow base e size v n xs) : ∃ A c, v = .slice A n c := by
  obtain ⟨h1, h2⟩ := h
  rcases h2 with ⟨e1, e2⟩ | ⟨g, cap, cur, e1, _⟩
  · exact ⟨none, 0, by rw [e1]; simp [e2]⟩
  · exact ⟨_, _, e1⟩
end Go.Proofs.Ytmnliieiiaedeaa.dk
