/-
  Sets of times as lists of ranges: the document's own answer.
-/
import Derived.Test.YtheanpcbjjogfaaRgCode
import Derived.Test.YtheanpcbjjogfaaRow
import Derived.Laws.AppendOwnNone
namespace Go.Proofs.Ytheanpcbjjogfaa.rg
open Go.ChangeShapes Go.WideShapes Go.ChangeAt Go.RowKit plain words ord mem

theorem rd_new {w : World} (t : TypeId) (l : List Value) {m : Nat} (hm : l.length = m) : Rd (w.alloc (.cells l.toArray t)) (w.heap.size + 1) (some ⟨w.heap.size, 0, none⟩) m l :=
  ⟨hm, fun j hj => ⟨w.heap.size, 0, l[j]'(by omega), rfl, by omega, List.getElem?_eq_getElem _, by rw [Nat.zero_add, World.cell?_alloc_new w l.toArray t j]; simp⟩⟩
theorem rgs_new {w : World} (t : TypeId) (r : R) : Rgs (w.alloc (.cells #[.int .i64 r.1, .int .i64 r.2] t)) (w.heap.size + 1) (some ⟨w.heap.size, 0, none⟩) 1 [r] :=
  ⟨rfl, by rw [cs_one]; exact rd_new t [.int .i64 r.1, .int .i64 r.2] rfl⟩
theorem Own.form {w : World} {B n : Nat} {v : Value} {l : List R} (h : Own w B v n l) : ∃ A c, v = .slice A n c ∧ (A = none → c = 0) ∧ n ≤ c ∧ c ≤ 9223372036854775807 := by
  rcases own_form h.2 with ⟨rfl, rfl⟩ | ⟨g, cap, rfl, _, _, h1, h2⟩
  · exact ⟨none, 0, rfl, fun _ => rfl, Nat.le_refl _, by omega⟩
  · unfold maxLen at h2; exact ⟨_, cap, rfl, fun e => (by cases e), h1, h2⟩
theorem Own.nil (w : World) (B : Nat) : Own w B (.slice none 0 0) 0 [] := ⟨rfl, rfl, .inl ⟨rfl, rfl⟩⟩
theorem Own.lit (w : World) : Own (w.alloc (.cells #[] 27)) w.heap.size (.slice (some ⟨w.heap.size, 0, none⟩) 0 0) 0 [] :=
  ⟨rfl, World.ownsRow_lit (w := w) (base := w.heap.size) (e := 27) (size := 2) #[] 0 (Nat.le_refl _) (by simp) rfl⟩
theorem Own.chg {w w' : World} {B n : Nat} {v : Value} {l : List R} {S : Nat → Prop} (h : Own w B v n l) (hc : Chg S w w') (hS : ∀ g, S g → g < B) : Own w' B v n l :=
  ⟨h.1, own_chg h.2 hc fun g hg e => by have := (h.2.lt g hg).1; have := hS g e; omega⟩
/-- 'append(v, x...)' of ranges in a walk *-/
theorem wpList_append_rg {w : World} {ops : Array Oper} {rest : List Oper} {o : Oper} {a : Act} {Q : Exit → Act → World → Prop} (hgd : o.guard = none) (s x : Operand)
    (ho : o.op = .call { callee := .builtin .append, args := #[s, x], argTypes := #[55, 55] })
    (base : Nat) (v : Value) (n : Nat) (l : List R) (hs : a.eval s = v) (hown : Own w base v n l)
    (B : Nat) (A : Option Addr) (m c : Nat) (hA : A = none → c = 0) (news : List R) (hx : a.eval x = .slice A m c) (hr : Rgs w B A m news)
    (hn : n + m ≤ 1099511627776) (hbase : base ≤ w.heap.size) (w0 : World) (hb : Below base w0 w)
    (h : ∀ A' c' w', Own w' base (.slice A' (n + m) c') (n + m) (l ++ news) → Below base w0 w' → (A' = none → c' = 0) → n + m ≤ c' → c' ≤ 9223372036854775807 → w.heap.size ≤ w'.heap.size → wpList Try.prog ops Q rest (a.put o.dst (.slice A' (n + m) c')) w') : wpList Try.prog ops Q (o :: rest) a w := by
  obtain ⟨i0, hi, hz0, hz1, hz2⟩ := info_parts infoR
  refine wpList_append_rd hgd s x 55 ho base 27 i0 _ 2 16 Try.underlying55 hi hz0 hz1 hz2 rfl (by decide) v n (cs rgE l) hs hown.2 B A m c hA (cs rgE news) hx hr.2 (cs_oneCell rgE_one _) (by unfold maxLen; omega) (by omega) hbase ?_
  intro v' w' hown' hg hnn
  have ho' : Own w' base v' (n + m) (l ++ news) := ⟨by rw [List.length_append, hown.1, hr.1], by rw [cs_append]; exact hown'⟩
  obtain ⟨A', c', rfl, h1, h2, h3⟩ := ho'.form
  exact h A' c' w' ho' (own_below hb hown.2 hbase hg) h1 h2 h3 hg.size

theorem Rgs.rest {w : World} {B b off n : Nat} {l : List R} (h : Rgs w B (some ⟨b, off, none⟩) n l) (k : Nat) (hk : k ≤ n) (c : Nat) (hc : n ≤ c) :
    Rgs w B (if c = k then some ⟨b, off, none⟩ else some ⟨b, off + k * 2, none⟩) (n - k) (l.drop k) := by
  refine ⟨by rw [List.length_drop, h.1], ?_⟩
  by_cases e : c = k
  · rw [if_pos e]
    have hn : n - k = 0 := by omega
    rw [hn, List.drop_of_length_le (by have := h.1; omega)]
    exact Rd.nil _ _ _
  · rw [if_neg e, ← cs_drop rgE_len, Nat.sub_mul]
    exact rd_dropped h.2 (Nat.mul_le_mul_right _ hk)
theorem Rgs.none0 (w : World) (B : Nat) : Rgs w B none 0 [] := ⟨rfl, Rd.nil _ _ _⟩
theorem getRg {l : List R} {i : Nat} (hi : i < l.length) : l.drop i = l[i] :: l.drop (i + 1) := (List.drop_eq_getElem_cons hi)
theorem addF_step {l : List R} {r x : R} {i : Nat} (hi : i < l.length) (hx : l[i] = x) (h : x.2 < r.1) : l.take (i + 1) ++ addF (l.drop (i + 1)) r = l.take i ++ addF (l.drop i) r := by
  subst hx
  rw [getRg hi, addF, if_pos h, List.take_succ_eq_append_getElem hi, List.append_assoc]; rfl
theorem addF_stop {l : List R} {r x : R} {i : Nat} (hi : i < l.length) (hx : l[i] = x) (h : ¬ x.2 < r.1) : addF (l.drop i) r = eat (l.drop i) r := by
  subst hx
  rw [getRg hi, addF, if_neg h]
theorem addF_end {l : List R} {r : R} {i : Nat} (hi : l.length ≤ i) : addF (l.drop i) r = eat (l.drop i) r := by
  rw [List.drop_of_length_le hi]; rfl
theorem eat_step {l : List R} {r x : R} {i : Nat} (hi : i < l.length) (hx : l[i] = x) (h : x.1 ≤ r.2) : eat (l.drop i) r = eat (l.drop (i + 1)) (min r.1 x.1, max r.2 x.2) := by
  subst hx
  rw [getRg hi, eat, if_pos h]
theorem eat_stop {l : List R} {r x : R} {i : Nat} (hi : i < l.length) (hx : l[i] = x) (h : ¬ x.1 ≤ r.2) : eat (l.drop i) r = r :: l.drop i := by
  subst hx
  rw [getRg hi, eat, if_neg h]
theorem eat_end {l : List R} {r : R} {i : Nat} (hi : l.length ≤ i) : eat (l.drop i) r = r :: l.drop i := by
  rw [List.drop_of_length_le hi]; rfl
theorem below_da (w : World) (o : Obj) : Below w.heap.size w (w.drew.alloc o) := ((Below.refl _ _).drew).alloc (Nat.le_refl _) o
theorem below_a (w : World) (o : Obj) : Below w.heap.size w (w.alloc o) := (Below.refl _ _).alloc (Nat.le_refl _) o
end Go.Proofs.Ytheanpcbjjogfaa.rg
