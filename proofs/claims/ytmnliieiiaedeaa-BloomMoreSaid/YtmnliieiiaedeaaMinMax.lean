/-
  min and max in a walk: the value under a name, no split.
-/
import Derived.Test.YtmnliieiiaedeaaPlain
import Derived.Test.YtmnliieiiaedeaaChecked
import Derived.ProofKit
import Derived.Outline
import Derived.Handy
import Derived.BigQuiet
import Derived.Deep.QuietTactic
namespace Go.Proofs.Ytmnliieiiaedeaa.plain
open Go Go.RowKit
theorem run_max_int (P : Program) (ts : Array TypeId) (ty : TypeId) (k : IntKind) (a b N : Int) (h : max a b = N) (w : World) : (Builtin.max_ ts ty #[.int k a, .int k b]).run P w = .ok (.int k N) w := by
  subst h
  by_cases hab : a < b
  · have e : max a b = b := by omega
    simp [Builtin.max_, Builtin.max2, e, hab, go_sem]
  · have e : max a b = a := by omega
    simp [Builtin.max_, Builtin.max2, e, hab, go_sem]
theorem run_min_int (P : Program) (ts : Array TypeId) (ty : TypeId) (k : IntKind) (a b N : Int) (h : min a b = N) (w : World) : (Builtin.min_ ts ty #[.int k a, .int k b]).run P w = .ok (.int k N) w := by
  subst h
  by_cases hab : a < b
  · have e : min a b = a := by omega
    have h1 : ¬ b < a := by omega
    simp [Builtin.min_, Builtin.min2, e, hab, h1, go_sem]
  · have e : min a b = b := by omega
    by_cases h1 : b < a
    · simp [Builtin.min_, Builtin.min2, e, hab, h1, go_sem]
    · have : a = b := by omega
      subst this
      simp [Builtin.min_, Builtin.min2, go_sem]
section
variable {P : Program} {w : World} {ops : Array Oper} {rest : List Oper} {o : Oper} {a : Act} {Q : Exit → Act → World → Prop}
theorem wpList_max (hgd : o.guard = none) (x y : Operand) (ts : Array TypeId) (ho : o.op = .call { callee := .builtin .max, args := #[x, y], argTypes := ts }) {k : IntKind} {A B N : Int} (hx : a.eval x = .int k A) (hy : a.eval y = .int k B) (hN : max A B = N)
    (h : wpList P ops Q rest (a.put o.dst (.int k N)) w) : wpList P ops Q (o :: rest) a w := by
  refine wpList_plain hgd fun K hK => ?_
  unfold Oper.wp execOp
  simp only [ho, resolve, invoke, builtin, Sem.run_bind, Sem.run_pure, Result.andThen_ok, List.map_toArray, List.map_cons, List.map_nil, hx, hy, run_max_int P _ _ k A B N hN]
  exact hK _ _ h
theorem wpList_min (hgd : o.guard = none) (x y : Operand) (ts : Array TypeId) (ho : o.op = .call { callee := .builtin .min, args := #[x, y], argTypes := ts }) {k : IntKind} {A B N : Int} (hx : a.eval x = .int k A) (hy : a.eval y = .int k B) (hN : min A B = N)
    (h : wpList P ops Q rest (a.put o.dst (.int k N)) w) : wpList P ops Q (o :: rest) a w := by
  refine wpList_plain hgd fun K hK => ?_
  unfold Oper.wp execOp
  simp only [ho, resolve, invoke, builtin, Sem.run_bind, Sem.run_pure, Result.andThen_ok, List.map_toArray, List.map_cons, List.map_nil, hx, hy, run_min_int P _ _ k A B N hN]
  exact hK _ _ h
end
end Go.Proofs.Ytmnliieiiaedeaa.plain
