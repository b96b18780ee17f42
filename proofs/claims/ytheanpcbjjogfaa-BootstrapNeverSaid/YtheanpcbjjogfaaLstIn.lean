/-
  'append' of lists in a round of a loop over a function.
-/
import Derived.Test.YtheanpcbjjogfaaLst
import Derived.OwnWalkIn
namespace Go.Proofs.Ytheanpcbjjogfaa.mem
open Go.ChangeShapes Go.WideShapes Go.ChangeAt Go.RowKit plain words ord

theorem wpListIn_append_none {F : Fence} {N : Nat} {P : Program} {w : World} {ops : Array Oper} {rest : List Oper} {o : Oper} {a : Act} {Q : Exit → Act → World → Prop} (hgd : o.guard = none) (s x : Operand) (t : TypeId)
    (ho : o.op = .call { callee := .builtin .append, args := #[s, x], argTypes := #[t, t] })
    (base : Nat) (e : TypeId) (i : TypeInfo) (size : Nat) (ht : P.underlying t = some (.slice e)) (hi : P.info? e = some i)
    (v : Value) (n : Nat) (xs : List Value) (hs : a.eval s = v) (hown : w.ownsRow base e size v n xs) (hx : a.eval x = .slice none 0 0)
    (h : wpListIn F N P ops Q rest (a.put o.dst v) w) : wpListIn F N P ops Q (o :: rest) a w := by
  refine wpListIn_plain hgd fun K hK' => ?_
  have hrun := run_append_owned_none (P := P) (w := w) base t o.type e i size ht hi v n xs hown
  unfold Oper.wpIn
  refine ⟨?_, ?_⟩
  · simp [Oper.about, ho, resolve, Target.leads, Sem.run_pure]
  · rw [Oper.semAt_plain F _ _ (by rw [ho]; intro c hc'; cases hc')]
    simp [execOp, ho, resolve, invoke, builtin, hs, hx, hrun, Result.andThen]
    exact hK' _ _ h
theorem wpListIn_append_ow {α : Type} (E : El α) {Fc : Fence} {N : Nat} {P : Program} {t : TypeId} {i0 : TypeInfo} {z : Value} {bytes : Nat} (ht : P.underlying t = some (.slice E.e)) (hi : P.info? E.e = some i0) (hz : i0.zero = some z) (hsz : i0.size = E.k) (hby : i0.bytes = bytes) (hzc : z.cells.size = E.k) (hbb : bytes ≤ 64)
    {w : World} {ops : Array Oper} {rest : List Oper} {o : Oper} {a : Act} {Q : Exit → Act → World → Prop} (hgd : o.guard = none) (s x : Operand)
    (ho : o.op = .call { callee := .builtin .append, args := #[s, x], argTypes := #[t, t] })
    (base : Nat) (v : Value) (n : Nat) (l : List α) (hs : a.eval s = v) (hown : Ow E w base v n l)
    (B : Nat) (A : Option Addr) (m c : Nat) (hA : A = none → c = 0) (news : List α) (hx : a.eval x = .slice A m c) (hr : Ls E w B A m news)
    (hn : n + m ≤ 1099511627776) (hbase : base ≤ w.heap.size)
    (h : ∀ A' c' w', Ow E w' base (.slice A' (n + m) c') (n + m) (l ++ news) → w.grownBy w' v.ownBlock → (A' = none → c' = 0) → n + m ≤ c' → c' ≤ 9223372036854775807 → w.heap.size ≤ w'.heap.size → wpListIn Fc N P ops Q rest (a.put o.dst (.slice A' (n + m) c')) w') : wpListIn Fc N P ops Q (o :: rest) a w := by
  have key : ∀ v' w', w'.ownsRow base E.e E.k v' (n + m) (cs E.enc l ++ cs E.enc news) → w.grownBy w' v.ownBlock → wpListIn Fc N P ops Q rest (a.put o.dst v') w' := by
    intro v' w' hown' hg
    have ho' : Ow E w' base v' (n + m) (l ++ news) := ⟨by rw [List.length_append, hown.1, hr.1], by rw [cs_append]; exact hown'⟩
    obtain ⟨A', c', rfl, h1, h2, h3⟩ := ho'.form
    exact h A' c' w' ho' hg h1 h2 h3 hg.size
  cases A with
  | some ad =>
    refine wpListIn_append_own w hgd s x t ho base E.e i0 z E.k bytes ht hi hz hsz hby hzc E.pos v n (cs E.enc l) hs hown.2 ad m c (cs E.enc news) hx hr.2.len (rd_cells hr.2) (cs_oneCell E.one _) (by unfold maxLen; omega) ?_ hbase fun v' w' h1 h2 _ => key v' w' h1 h2
    calc (n + m) * bytes ≤ (n + m) * 64 := Nat.mul_le_mul_left _ hbb
      _ ≤ 140737488355328 := by omega
  | none =>
    have hm : m = 0 := by
      rcases Nat.eq_zero_or_pos m with h0 | h0
      · exact h0
      · obtain ⟨_, _, _, e, _⟩ := hr.2.at_ 0 (Nat.mul_pos h0 E.pos)
        cases e
    subst hm
    obtain rfl := List.eq_nil_of_length_eq_zero hr.1
    obtain rfl := hA rfl
    exact wpListIn_append_none hgd s x t ho base E.e i0 E.k ht hi v n (cs E.enc l) hs hown.2 hx (key v w (by simpa [cs] using hown.2) (World.grownBy.refl w _))
end Go.Proofs.Ytheanpcbjjogfaa.mem
