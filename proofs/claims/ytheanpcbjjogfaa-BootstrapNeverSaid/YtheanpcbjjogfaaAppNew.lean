/-
  'append' that has to make a new row: where it lies, and that all that lay stays.
-/
import Derived.Test.YtheanpcbjjogfaaLst
namespace Go.Proofs.Ytheanpcbjjogfaa.mem
open Go.ChangeShapes Go.WideShapes Go.ChangeAt Go.RowKit plain words ord

theorem own_new {w : World} {e : TypeId} {size n m cap : Nat} {z : Value} {xs news : List Value} (hx : xs.length = n * size) (hl : news.length = m * size) (hz : z.cells.size = size) (hge : n + m ≤ cap) (hcm : cap ≤ maxLen) :
    (w.drew.alloc (.cells (xs.toArray ++ news.toArray ++ Builtin.zeroCells z.cells (cap - (n + m))) e)).ownsRow w.heap.size e size (.slice (some ⟨w.heap.size, 0, none⟩) (n + m) cap) (n + m) (xs ++ news) := by
  have hlen : (xs ++ news).length = (n + m) * size := by rw [List.length_append, hx, hl, Nat.add_mul]
  refine ⟨hlen, .inr ⟨w.heap.size, cap, _, rfl, Nat.le_refl _, heap_alloc_new w.drew _, hge, hcm, ?_, ?_⟩⟩
  · simp only [Array.size_append, List.size_toArray, size_zeroCells, hz, hx, hl, ← Nat.add_mul]
    congr 1; omega
  · simp only [Array.toList_append, List.append_assoc]
    rw [← List.append_assoc, ← hlen]
    exact List.take_left
theorem own_setc {w : World} {B k g n cap j : Nat} {e : TypeId} {xs : List Value} (h : w.ownsRow B e k (.slice (some ⟨g, 0, none⟩) n cap) n xs) (v : Value) : (w.setCell ⟨g, j, none⟩ v).ownsRow B e k (.slice (some ⟨g, 0, none⟩) n cap) n (xs.set j v) := by
  obtain ⟨hl, hr⟩ := h
  refine ⟨by rw [List.length_set]; exact hl, ?_⟩
  rcases hr with ⟨h0, _⟩ | ⟨g', cap', cur, h0, hb, hg, h1, h2, h3, h4⟩
  · cases h0
  · cases h0
    refine .inr ⟨g, cap, _, rfl, hb, heap_setCell_same w g j cur e v hg, h1, h2, by simpa using h3, ?_⟩
    rw [Array.toList_setIfInBounds, List.take_set, h4]
theorem wpList_append_new {α : Type} (E : El α) {P : Program} {t : TypeId} {i0 : TypeInfo} {z : Value} {bytes : Nat} (ht : P.underlying t = some (.slice E.e)) (hi : P.info? E.e = some i0) (hz : i0.zero = some z) (hsz : i0.size = E.k) (hby : i0.bytes = bytes) (hzc : z.cells.size = E.k) (hbb : bytes ≤ 64)
    {w : World} {ops : Array Oper} {rest : List Oper} {o : Oper} {a : Act} {Q : Exit → Act → World → Prop} (hgd : o.guard = none) (s x : Operand)
    (ho : o.op = .call { callee := .builtin .append, args := #[s, x], argTypes := #[t, t] })
    (B0 : Nat) (A0 : Option Addr) (n c0 : Nat) (hA0 : A0 = none → c0 = 0) (l : List α) (hs : a.eval s = .slice A0 n c0) (hr0 : Ls E w B0 A0 n l)
    (B : Nat) (A : Option Addr) (m c : Nat) (news : List α) (hx : a.eval x = .slice A m c) (hr : Ls E w B A m news) (hm : 0 < m) (hcap : c0 < n + m)
    (hn : n + m ≤ 1099511627776)
    (h : ∀ c' w', Ow E w' w.heap.size (.slice (some ⟨w.heap.size, 0, none⟩) (n + m) c') (n + m) (l ++ news) → Below w.heap.size w w' → w.heap.size < w'.heap.size → wpList P ops Q rest (a.put o.dst (.slice (some ⟨w.heap.size, 0, none⟩) (n + m) c')) w') : wpList P ops Q (o :: rest) a w := by
  refine wpList_plain hgd fun K hK => ?_
  obtain ⟨bA, offA, rfl, _⟩ := Rd.some_of hr.2 (show 0 < m * E.k from Nat.mul_pos hm E.pos)
  have hbytes : (n + m) * i0.bytes ≤ 140737488355328 := by
    rw [hby]
    calc (n + m) * bytes ≤ (n + m) * 64 := Nat.mul_le_mul_left _ hbb
      _ ≤ 140737488355328 := by omega
  have h63 : n + m ≤ maxLen := by unfold maxLen; omega
  have hne : (cs E.enc news).length = m * i0.size := by rw [hsz]; exact hr.2.len
  have fin : ∀ c' : Nat, n + m ≤ c' → c' ≤ maxLen →
      Ow E (w.drew.alloc (.cells ((cs E.enc l).toArray ++ (cs E.enc news).toArray ++ Builtin.zeroCells z.cells (c' - (n + m))) E.e)) w.heap.size (.slice (some ⟨w.heap.size, 0, none⟩) (n + m) c') (n + m) (l ++ news) := fun c' h1 h2 =>
    ⟨by rw [List.length_append, hr0.1, hr.1], by rw [cs_append]; exact own_new (by rw [hr0.2.len]) hr.2.len hzc h1 h2⟩
  have hbel : ∀ ob, Below w.heap.size w (w.drew.alloc ob) := fun ob => (Below.refl _ w).drew.alloc (Nat.le_refl _) ob
  have step : ∀ c' : Nat, n + m ≤ c' → c' ≤ maxLen → (Builtin.append_ #[t, t] o.type #[.slice A0 n c0, .slice (some ⟨bA, offA, none⟩) m c]).run P w = .ok (.slice (some ⟨w.heap.size, 0, none⟩) (n + m) c') (w.drew.alloc (.cells ((cs E.enc l).toArray ++ (cs E.enc news).toArray ++ Builtin.zeroCells z.cells (c' - (n + m))) E.e)) → Oper.wp P o a w K Q := fun c' h1 h2 hrun => by
    unfold Oper.wp execOp
    simp only [ho, resolve, invoke, builtin, Sem.run_bind, Sem.run_pure, Result.andThen_ok, List.map_toArray, List.map_cons, List.map_nil, hs, hx, hrun]
    exact hK _ _ (h c' _ (fin c' h1 h2) (hbel _) (by simp))
  cases A0 with
  | none =>
    obtain rfl := hA0 rfl
    have hn0 : n = 0 := by
      rcases Nat.eq_zero_or_pos n with h0 | h0
      · exact h0
      · obtain ⟨_, _, _, e, _⟩ := hr0.2.at_ 0 (Nat.mul_pos h0 E.pos)
        cases e
    subst hn0
    obtain rfl := List.eq_nil_of_length_eq_zero hr0.1
    have hr1 := run_append_nil (P := P) w t o.type E.e i0 z ht hi hz ⟨bA, offA, none⟩ m c (cs E.enc news) hne (rd_cells hr.2) hm (by omega) (by have hb := hbytes; simp only [Nat.zero_add] at hb; omega)
    refine step (grownCap w m 0 E.e) (by rw [Nat.zero_add]; exact grownCap_ge w m 0 E.e) (grownCap_le_maxLen w m 0 E.e (by omega)) ?_
    simp only [cs_nil, Nat.zero_add]
    rw [hr1]
    simp
  | some ad =>
    have holds : ∀ j u, (cs E.enc l)[j]? = some u → w.cell? (ad.add j) = some u := rd_cells hr0.2
    have hr1 := run_append_grow (P := P) w t o.type E.e i0 z ht hi hz ad n c0 (cs E.enc l) (by rw [hsz]; exact hr0.2.len) holds ⟨bA, offA, none⟩ m c (cs E.enc news) hne (rd_cells hr.2) hcap (by omega) (growslice_fits (by omega) hbytes)
    exact step (grownCap w (n + m) c0 E.e) (grownCap_ge w (n + m) c0 E.e) (grownCap_le_maxLen w (n + m) c0 E.e h63) hr1
end Go.Proofs.Ytheanpcbjjogfaa.mem
