/-
  Lists of structs, whatever the struct: read, and in a row of the call's own; nothing of the program but its infos.
-/
import Derived.Test.YtheanpcbjjogfaaCells
import Derived.Test.YtheanpcbjjogfaaMem
import Derived.Laws.AppendOwnNone
import Derived.Deep.LoopGhost
import Derived.Lib.Hide
namespace Go.Proofs.Ytheanpcbjjogfaa.mem
open Go.ChangeShapes Go.WideShapes Go.ChangeAt Go.RowKit plain words ord

/-- how elements lie: their cells, how many, their type -/
structure El (α : Type) where
  enc : α → List Value
  k : Nat
  e : TypeId
  len : ∀ x, (enc x).length = k
  one : ∀ x, ∀ v ∈ enc x, v.oneCell' = true
  pos : 0 < k
section
variable {α : Type} {E : El α} {w w' : World} {B C n c i : Nat} {A : Option Addr} {v : Value} {l : List α}
/-- a list that is read -/
def Ls (E : El α) (w : World) (B : Nat) (A : Option Addr) (n : Nat) (l : List α) : Prop := l.length = n ∧ Rd w B A (n * E.k) (cs E.enc l)
/-- a list in a row of its own -/
def Ow (E : El α) (w : World) (B : Nat) (v : Value) (n : Nat) (l : List α) : Prop := l.length = n ∧ w.ownsRow B E.e E.k v n (cs E.enc l)
theorem Ls.nil (w : World) (B : Nat) (A : Option Addr) : Ls E w B A 0 [] := ⟨rfl, by rw [Nat.zero_mul]; exact Rd.nil _ _ _⟩
theorem Ls.below (h : Ls E w B A n l) (hb : Below C w w') (hB : B ≤ C) : Ls E w' B A n l := ⟨h.1, h.2.below hb hB⟩
theorem Ls.drew (h : Ls E w B A n l) : Ls E w.drew B A n l := ⟨h.1, h.2.drew⟩
theorem Ls.more (h : Ls E w B A n l) (hB : B ≤ C) : Ls E w C A n l := ⟨h.1, h.2.more hB⟩
theorem Ow.ls (h : Ow E w B (.slice A n c) n l) : Ls E w w.heap.size A n l := ⟨h.1, own_rd h.2⟩
theorem Ow.below (h : Ow E w B v n l) (hb : Below C w w') (hC : w.heap.size ≤ C) : Ow E w' B v n l := ⟨h.1, own_keep h.2 hb hC⟩
theorem Ow.base (h : Ow E w B v n l) (hC : C ≤ B) : Ow E w C v n l := ⟨h.1, own_base h.2 hC⟩
theorem Ow.chg {S : Nat → Prop} (h : Ow E w B v n l) (hc : Chg S w w') (hS : ∀ g, v.ownBlock = some g → ¬ S g) : Ow E w' B v n l := ⟨h.1, own_chg h.2 hc hS⟩
theorem Ow.lt (h : Ow E w B v n l) : ∀ g, v.ownBlock = some g → B ≤ g ∧ g < w.heap.size := fun g hg => h.2.lt g hg
theorem Ow.type (h : Ow E w B v n l) {g : Nat} (hg : v.ownBlock = some g) : ∃ cur, w.heap[g]? = some (.cells cur E.e (0, 0)) := own_type h.2 hg
theorem Ow.form (h : Ow E w B v n l) : ∃ A c, v = .slice A n c ∧ (A = none → c = 0) ∧ n ≤ c ∧ c ≤ 9223372036854775807 := by
  rcases own_form h.2 with ⟨rfl, rfl⟩ | ⟨g, cap, rfl, _, _, h1, h2⟩
  · exact ⟨none, 0, rfl, fun _ => rfl, Nat.le_refl _, by omega⟩
  · unfold maxLen at h2; exact ⟨_, cap, rfl, fun e => (by cases e), h1, h2⟩
theorem Ow.some_ (h : Ow E w B v n l) (hn : 0 < n) : ∃ g c, v = .slice (some ⟨g, 0, none⟩) n c ∧ B ≤ g ∧ g < w.heap.size ∧ n ≤ c ∧ c ≤ maxLen :=
  (own_form h.2).resolve_left (fun e => by have := e.2; omega)
theorem Ow.nil (w : World) (B : Nat) : Ow E w B (.slice none 0 0) 0 [] := ⟨rfl, by simp [cs], .inl ⟨rfl, rfl⟩⟩
theorem Ow.lit (w : World) : Ow E (w.alloc (.cells #[] E.e)) w.heap.size (.slice (some ⟨w.heap.size, 0, none⟩) 0 0) 0 [] :=
  ⟨rfl, World.ownsRow_lit (w := w) (base := w.heap.size) (e := E.e) (size := E.k) #[] 0 (Nat.le_refl _) (by simp) (by simp)⟩
theorem Ow.below_grown {w0 : World} (h : Ow E w B v n l) (hb : Below B w0 w) (hg : w.grownBy w' v.ownBlock) (hB : B ≤ w.heap.size) : Below B w0 w' := own_below hb h.2 hB hg
/-- an element's cells -/
theorem Ls.at_ (h : Ls E w B A n l) {x : α} (hx : l[i]? = some x) : ∃ b off, A = some ⟨b, off, none⟩ ∧ b < B ∧ ∀ j, j < E.k → w.cell? ⟨b, off + (i * E.k + j), none⟩ = (E.enc x)[j]? := by
  have hi : i < n := by
    rw [← h.1]
    rcases Nat.lt_or_ge i l.length with h | h
    · exact h
    · rw [List.getElem?_eq_none h] at hx; cases hx
  have hp := E.pos
  obtain ⟨b, off, rfl, hb⟩ := Rd.some_of h.2 (show 0 < n * E.k from Nat.mul_pos (by omega) hp)
  exact ⟨b, off, rfl, hb, fun j hj => (Rd.cellsAt (k := E.k) E.len h.2 hx hi hj).1⟩
theorem Ls.get (h : Ls E w B A n l) (hi : i < n) : ∃ x, l[i]? = some x := ⟨l[i]'(by rw [h.1]; exact hi), List.getElem?_eq_getElem _⟩
theorem rd_lit {w : World} (t : TypeId) (l : List Value) {m : Nat} (hm : l.length = m) : Rd (w.alloc (.cells l.toArray t)) (w.heap.size + 1) (some ⟨w.heap.size, 0, none⟩) m l :=
  ⟨hm, fun j hj => ⟨w.heap.size, 0, l[j]'(by omega), rfl, by omega, List.getElem?_eq_getElem _, by rw [Nat.zero_add, World.cell?_alloc_new w l.toArray t j]; simp⟩⟩
theorem ls_new {w : World} (t : TypeId) (x : α) : Ls E (w.alloc (.cells (E.enc x).toArray t)) (w.heap.size + 1) (some ⟨w.heap.size, 0, none⟩) 1 [x] :=
  ⟨rfl, by rw [cs_one]; exact rd_lit t (E.enc x) (by rw [E.len, Nat.one_mul])⟩
/-- a part of a list that is read -/
theorem Ls.take (h : Ls E w B A n l) (hi : i ≤ n) : Ls E w B A i (l.take i) := by
  refine ⟨by rw [List.length_take, h.1]; omega, ?_⟩
  have := h.2.less (show i * E.k ≤ n * E.k from Nat.mul_le_mul_right _ hi)
  rwa [cs_take E.len] at this
theorem Ls.drop {b off : Nat} (h : Ls E w B (some ⟨b, off, none⟩) n l) (hi : i ≤ n) : Ls E w B (some ⟨b, off + i * E.k, none⟩) (n - i) (l.drop i) := by
  refine ⟨by rw [List.length_drop, h.1], ?_, fun j hj => ?_⟩
  · rw [cs_len E.len, List.length_drop, h.1]
  · have hlt : i * E.k + j < n * E.k := by
      rw [Nat.sub_mul] at hj
      have := Nat.mul_le_mul_right E.k hi
      omega
    obtain ⟨b', off', v, e, hb, hv, hc⟩ := h.2.at_ _ hlt
    cases e
    refine ⟨b, _, v, rfl, hb, ?_, by rw [show off + i * E.k + j = off + (i * E.k + j) by omega]; exact hc⟩
    rw [← cs_drop E.len, List.getElem?_drop]
    exact hv
end
/-- 'append(v, x...)' in a walk -/
theorem wpList_append_ow {α : Type} (E : El α) {P : Program} {t : TypeId} {i0 : TypeInfo} {z : Value} {bytes : Nat} (ht : P.underlying t = some (.slice E.e)) (hi : P.info? E.e = some i0) (hz : i0.zero = some z) (hsz : i0.size = E.k) (hby : i0.bytes = bytes) (hzc : z.cells.size = E.k) (hbb : bytes ≤ 64)
    {w : World} {ops : Array Oper} {rest : List Oper} {o : Oper} {a : Act} {Q : Exit → Act → World → Prop} (hgd : o.guard = none) (s x : Operand)
    (ho : o.op = .call { callee := .builtin .append, args := #[s, x], argTypes := #[t, t] })
    (base : Nat) (v : Value) (n : Nat) (l : List α) (hs : a.eval s = v) (hown : Ow E w base v n l)
    (B : Nat) (A : Option Addr) (m c : Nat) (hA : A = none → c = 0) (news : List α) (hx : a.eval x = .slice A m c) (hr : Ls E w B A m news)
    (hn : n + m ≤ 1099511627776) (hbase : base ≤ w.heap.size)
    (h : ∀ A' c' w', Ow E w' base (.slice A' (n + m) c') (n + m) (l ++ news) → w.grownBy w' v.ownBlock → (A' = none → c' = 0) → n + m ≤ c' → c' ≤ 9223372036854775807 → w.heap.size ≤ w'.heap.size → wpList P ops Q rest (a.put o.dst (.slice A' (n + m) c')) w') : wpList P ops Q (o :: rest) a w := by
  refine wpList_append_rd hgd s x t ho base E.e i0 z E.k bytes ht hi hz hsz hby hzc E.pos v n (cs E.enc l) hs hown.2 B A m c hA (cs E.enc news) hx hr.2 (cs_oneCell E.one _) (by unfold maxLen; omega) ?_ hbase ?_
  · calc (n + m) * bytes ≤ (n + m) * 64 := Nat.mul_le_mul_left _ hbb
      _ ≤ 140737488355328 := by omega
  · intro v' w' hown' hg hnn
    have ho' : Ow E w' base v' (n + m) (l ++ news) := ⟨by rw [List.length_append, hown.1, hr.1], by rw [cs_append]; exact hown'⟩
    obtain ⟨A', c', rfl, h1, h2, h3⟩ := ho'.form
    exact h A' c' w' ho' hg h1 h2 h3 hg.size
end Go.Proofs.Ytheanpcbjjogfaa.mem
