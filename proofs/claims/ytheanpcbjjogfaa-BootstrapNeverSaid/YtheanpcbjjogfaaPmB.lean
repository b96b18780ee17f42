/-
  A placement in a variable, all of it the call's own.
-/
import Derived.Test.YtheanpcbjjogfaaPmA
import Derived.Test.YtheanpcbjjogfaaAppNew
import Derived.Laws.IdiomCopy
namespace Go.Proofs.Ytheanpcbjjogfaa.pm
open Go.ChangeShapes Go.WideShapes Go.ChangeAt Go.RowKit Go.Shelf plain words ord mem

theorem app_new_o {w : World} {ops : Array Oper} {rest : List Oper} {o : Oper} {a : Act} {Q : Exit → Act → World → Prop} (hgd : o.guard = none) (s x : Operand) (ho : o.op = .call { callee := .builtin .append, args := #[s, x], argTypes := #[50, 50] })
    (B0 : Nat) (A0 : Option Addr) (n c0 : Nat) (hA0 : A0 = none → c0 = 0) (l : List O) (hs : a.eval s = .slice A0 n c0) (hr0 : Ls OE w B0 A0 n l)
    (B : Nat) (A : Option Addr) (m c : Nat) (news : List O) (hx : a.eval x = .slice A m c) (hr : Ls OE w B A m news) (hm : 0 < m) (hcap : c0 < n + m)
    (hn : n + m ≤ 1099511627776)
    (h : ∀ c' w', Ow OE w' w.heap.size (.slice (some ⟨w.heap.size, 0, none⟩) (n + m) c') (n + m) (l ++ news) → Below w.heap.size w w' → w.heap.size < w'.heap.size → wpList Try.prog ops Q rest (a.put o.dst (.slice (some ⟨w.heap.size, 0, none⟩) (n + m) c')) w') : wpList Try.prog ops Q (o :: rest) a w := by
  obtain ⟨i0, hi, hz0, hz1, hz2⟩ := info_of infoO
  exact wpList_append_new OE (P := Try.prog) Try.underlying50 hi hz0 hz1 hz2 rfl (by decide) hgd s x ho B0 A0 n c0 hA0 l hs hr0 B A m c news hx hr hm hcap hn h
/-- a row of owners of the call's own, read as one -/
theorem Ow.rwok {w : World} {B n : Nat} {v : Value} {r : Rw3} (h : Ow OE w B v n r.l) (hv : v = r.val) (hn : r.l.length = n) : RwOk w w.heap.size r := by
  subst hv hn
  obtain ⟨A, c, he, h1, h2, h3⟩ := h.form
  have h' : Ow OE w B (.slice r.A r.l.length r.c) r.l.length r.l := h
  cases he
  exact ⟨h'.ls, h2, h3, h1⟩
structure WP (w : World) (B pb : Nat) (v : PV) : Prop where
  le : B ≤ pb
  var : Boxed w pb v
  n : Ow NE w B (.slice v.nA v.nodes.length v.nc) v.nodes.length v.nodes
  s : Ow SE w B (.slice v.sA v.rs.length v.sc) v.rs.length v.rs
  each : ∀ r ∈ v.rs, Ow OE w B r.val r.l.length r.l
theorem WP.lt {w : World} {B pb : Nat} {v : PV} (h : WP w B pb v) : pb < w.heap.size := blk_lt h.var
theorem WP.ok {w : World} {B pb : Nat} {v : PV} (h : WP w B pb v) : PVok w w.heap.size v := by
  obtain ⟨_, _, he, h1, h2, h3⟩ := h.n.form
  cases he
  obtain ⟨_, _, he, k1, k2, k3⟩ := h.s.form
  cases he
  exact ⟨h.n.ls, h2, h3, h1, ⟨h.s.ls, fun r hr => Ow.rwok (h.each r hr) rfl rfl⟩, k2, k3, k1⟩
theorem WP.below {w w' : World} {B pb C : Nat} {v : PV} (h : WP w B pb v) (hb : Below C w w') (hC : w.heap.size ≤ C) : WP w' B pb v :=
  ⟨h.le, blk_below hb h.var (Nat.lt_of_lt_of_le h.lt hC), h.n.below hb hC, h.s.below hb hC, fun r hr => (h.each r hr).below hb hC⟩
theorem WP.drew {w : World} {B pb : Nat} {v : PV} (h : WP w B pb v) : WP w.drew B pb v := h.below (Below.refl _ w).drew (Nat.le_refl _)
theorem ow_other {α : Type} {E : El α} {w w' : World} {B n g : Nat} {v : Value} {l : List α} {cur : Array Value} {e : TypeId} (h : Ow E w B v n l) (hc : Chg (fun k => k = g) w w') (hg : w.heap[g]? = some (.cells cur e (0, 0))) (hne : E.e ≠ e) : Ow E w' B v n l :=
  h.chg hc fun k hk he => by
    obtain ⟨c, hcur⟩ := h.type hk
    exact blk_type hcur hg hne he
/-- the row of slices' block -/
theorem WP.srow {w : World} {B pb i : Nat} {v : PV} (h : WP w B pb v) (hi : i < v.rs.length) : ∃ sb cur, v.sA = some ⟨sb, 0, none⟩ ∧ B ≤ sb ∧ sb < w.heap.size ∧ w.heap[sb]? = some (.cells cur 50 (0, 0)) ∧ sb ≠ pb := by
  obtain ⟨sb, c, he, h1, h2, _⟩ := h.s.some_ (by omega)
  have hsA : v.sA = some ⟨sb, 0, none⟩ := (Value.slice.inj he).1
  have hs := h.s
  rw [hsA] at hs
  obtain ⟨cur, hcur⟩ := hs.type rfl
  refine ⟨sb, cur, hsA, h1, h2, hcur, fun e => ?_⟩
  have hv := h.var
  exact blk_type hcur hv (by decide) e
theorem ow_set1 {w : World} {B g n c i : Nat} {rs : List Rw3} (h : Ow SE w B (.slice (some ⟨g, 0, none⟩) n c) n rs) (r : Rw3) : Ow SE (w.setCell ⟨g, i, none⟩ r.val) B (.slice (some ⟨g, 0, none⟩) n c) n (rs.set i r) := by
  refine ⟨by rw [List.length_set]; exact h.1, ?_⟩
  have e : cs SE.enc (rs.set i r) = (cs SE.enc rs).set i r.val := by
    have : ∀ l : List Rw3, cs SE.enc l = l.map Rw3.val := fun l => by
      induction l with
      | nil => rfl
      | cons x l ih => rw [cs_cons, ih]; rfl
    rw [this, this, List.map_set]
  rw [e]
  exact own_setc h.2 r.val
/-- one row laid in its place -/
theorem WP.put {w : World} {B pb sb i : Nat} {v : PV} (h : WP w B pb v) (hsA : v.sA = some ⟨sb, 0, none⟩) (hi : i < v.rs.length) (r : Rw3) (hr : Ow OE w B r.val r.l.length r.l) :
    WP (w.setCell ⟨sb, i, none⟩ r.val) B pb { v with rs := v.rs.set i r } := by
  obtain ⟨sb', cur, hsA', hB, hlt, hcur, hne⟩ := h.srow hi
  obtain rfl : sb' = sb := by rw [hsA'] at hsA; cases hsA; rfl
  have hc : Chg (fun k => k = sb') w (w.setCell ⟨sb', i, none⟩ r.val) := (Chg.refl (fun k => k = sb') w).setCell (p := ⟨sb', i, none⟩) (fun _ => rfl) _
  have hs := h.s
  rw [hsA'] at hs
  refine ⟨h.le, ?_, ow_other h.n hc hcur (by decide), ?_, fun q hq => ?_⟩
  · have := hc.blk h.var (fun e => hne e.symm)
    simp only [Boxed, IsV3, List.length_set] at this ⊢
    exact this
  · simp only [List.length_set, hsA']
    exact ow_set1 hs r
  · rcases List.mem_or_eq_of_mem_set hq with hq | rfl
    · exact ow_other (h.each q hq) hc hcur (by decide)
    · exact ow_other hr hc hcur (by decide)
/-- what laying an owner leaves -/
def RetOwn (w : World) (B pb k : Nat) (v : PV) (sb : Nat) (l : List O) (e : Ending) (w' : World) : Prop :=
  e = .returned (.tuple #[]) ∧ ∃ r' : Rw3, r'.l = l ∧ WP w' B pb { v with rs := v.rs.set k r' } ∧ Chg (fun b => b = sb) w w'
/-- the row laid is a new one -/
def RetOwnF (w : World) (B pb k : Nat) (v : PV) (sb : Nat) (l : List O) (e : Ending) (w' : World) : Prop :=
  e = .returned (.tuple #[]) ∧ ∃ r' : Rw3, r'.l = l ∧ WP w' B pb { v with rs := v.rs.set k r' } ∧ Chg (fun b => b = sb) w w' ∧ ∃ b, r'.A = some ⟨b, 0, none⟩ ∧ w.heap.size ≤ b
theorem row_new {w : World} {C : Nat} {r : Rw3} (h : Ow OE w C r.val r.l.length r.l) (h0 : 0 < r.l.length) : ∃ b, r.A = some ⟨b, 0, none⟩ ∧ C ≤ b := by
  obtain ⟨b, c, e, h1, _⟩ := h.some_ h0
  exact ⟨b, (Value.slice.inj e).1, h1⟩
end Go.Proofs.Ytheanpcbjjogfaa.pm
/-
  slices.DeleteFunc on a row of owners of the call's own: those of one node go.
-/
namespace Go.Proofs.Ytheanpcbjjogfaa.pm
open Go.ChangeShapes Go.WideShapes Go.ChangeAt Go.RowKit Go.Shelf plain words ord mem

/-- where DeleteFunc stands: the first i of the row are what is kept of the first j *-/
structure Del {α : Type} (p : α → Bool) (l d : List α) (i j : Nat) : Prop where
  len : d.length = l.length
  lt : i < j
  le : j ≤ l.length
  low : d.take i = (l.take j).filter fun r => !p r
  high : d.drop j = l.drop j
theorem Del.start {α : Type} {p : α → Bool} {l : List α} {k : Nat} (hk : k < l.length) (h1 : p l[k] = true) (h : ∀ j (hj : j < k), p l[j] = false) : Del p l l k (k + 1) where
  len := rfl
  lt := by omega
  le := by omega
  low := by
    have e : (l.take k).filter (fun r => !p r) = l.take k := by
      refine List.filter_eq_self.2 fun r hr => ?_
      obtain ⟨j, hj, rfl⟩ := List.mem_iff_getElem.1 hr
      simp only [List.length_take] at hj
      rw [List.getElem_take, h j (by omega)]; rfl
    rw [List.take_succ_eq_append_getElem hk, List.filter_append, e]
    simp [h1]
  high := rfl
theorem Del.at_ {α : Type} {p : α → Bool} {l d : List α} {i j : Nat} (h : Del p l d i j) (hj : j < l.length) : d[j]'(by rw [h.len]; exact hj) = l[j] := by
  have := congrArg (fun x => x[0]?) h.high
  simp only [List.getElem?_drop, Nat.add_zero] at this
  rw [List.getElem?_eq_getElem hj, List.getElem?_eq_getElem (by rw [h.len]; exact hj)] at this
  injection this
theorem Del.keep {α : Type} {p : α → Bool} {l d : List α} {i j : Nat} (h : Del p l d i j) (hj : j < l.length) {x : α} (hx : l[j] = x) (hp : p x = false) : Del p l (d.set i x) (i + 1) (j + 1) where
  len := by rw [List.length_set]; exact h.len
  lt := by have := h.lt; omega
  le := by omega
  low := by
    have hi : i < d.length := by have := h.lt; rw [h.len]; omega
    have hi' : i < (d.set i x).length := by rw [List.length_set]; exact hi
    rw [List.take_succ_eq_append_getElem hi', List.take_set_of_le (Nat.le_refl _), h.low, List.take_succ_eq_append_getElem hj, List.filter_append, hx]
    simp [hp]
  high := by
    have := h.lt
    rw [List.drop_set_of_lt (by omega)]
    have e := congrArg (List.drop 1) h.high
    rw [List.drop_drop, List.drop_drop] at e
    exact e
theorem Del.skip {α : Type} {p : α → Bool} {l d : List α} {i j : Nat} (h : Del p l d i j) (hj : j < l.length) {x : α} (hx : l[j] = x) (hp : p x = true) : Del p l d i (j + 1) where
  len := h.len
  lt := by have := h.lt; omega
  le := by omega
  low := by
    rw [h.low, List.take_succ_eq_append_getElem hj, List.filter_append, hx]
    simp [hp]
  high := by
    have e := congrArg (List.drop 1) h.high
    rw [List.drop_drop, List.drop_drop] at e
    exact e
theorem Del.done {α : Type} {p : α → Bool} {l d : List α} {i : Nat} (h : Del p l d i l.length) : d.take i = l.filter fun r => !p r := by
  rw [h.low, List.take_of_length_le (Nat.le_refl _)]
theorem own_blk {w : World} {B k g n cap : Nat} {e : TypeId} {xs : List Value} (h : w.ownsRow B e k (.slice (some ⟨g, 0, none⟩) n cap) n xs) : ∃ cur, w.heap[g]? = some (.cells cur e (0, 0)) := by
  rcases h.2 with ⟨h0, _⟩ | ⟨g', cap', cur, h0, hb, hg, _⟩
  · cases h0
  · cases h0; exact ⟨cur, hg⟩
theorem cs_set3 (l : List O) (i : Nat) (x : O) : cs OE.enc (l.set i x) = (((cs OE.enc l).set (i * 3) (.int .i64 x.1)).set (i * 3 + 1) (.int .i64 x.2.1)).set (i * 3 + 2) (.int .i64 x.2.2) := by
  induction l generalizing i with
  | nil => simp [cs]
  | cons y l ih =>
    cases i with
    | zero => simp [cs, OE, oE]
    | succ i =>
      rw [List.set_cons_succ, cs_cons, cs_cons, ih, show (i + 1) * 3 = i * 3 + 3 from by omega]
      simp [OE, oE]
theorem own_seto {w : World} {B g n cap i : Nat} {l : List O} (h : Ow OE w B (.slice (some ⟨g, 0, none⟩) n cap) n l) (x : O) :
    Ow OE (((w.setCell ⟨g, i * 3, none⟩ (.int .i64 x.1)).setCell ⟨g, i * 3 + 1, none⟩ (.int .i64 x.2.1)).setCell ⟨g, i * 3 + 2, none⟩ (.int .i64 x.2.2)) B (.slice (some ⟨g, 0, none⟩) n cap) n (l.set i x) :=
  ⟨by rw [List.length_set]; exact h.1, by rw [cs_set3]; exact own_setc (own_setc (own_setc h.2 _) _) _⟩
theorem chg_set1 {w : World} {g j : Nat} (v : Value) : Chg (fun k => k = g) w (w.setCell ⟨g, j, none⟩ v) := (Chg.refl (fun k => k = g) w).setCell (p := ⟨g, j, none⟩) (fun _ => rfl) v
theorem own_cut {w : World} {B g n cap i : Nat} {l : List O} (h : Ow OE w B (.slice (some ⟨g, 0, none⟩) n cap) n l) (hi : i ≤ n) : Ow OE w B (.slice (some ⟨g, 0, none⟩) i cap) i (l.take i) := by
  refine ⟨by rw [List.length_take, h.1]; omega, ?_⟩
  rcases h.2.2 with ⟨h0, _⟩ | ⟨g', cap', cur, h0, hb, hg, h1, h2, h3, h4⟩
  · cases h0
  · cases h0
    refine ⟨by rw [cs_len OE.len, List.length_take, h.1]; show _ * 3 = _ * 3; omega, .inr ⟨g, cap, cur, rfl, hb, hg, by omega, h2, h3, ?_⟩⟩
    rw [← cs_take OE.len, ← h4, List.take_take, Nat.min_eq_left (Nat.mul_le_mul_right _ hi)]
theorem own_cells {B g cap i : Nat} {l : List O} (vs : List Value) (w : World) (o : Nat) (ho : i * 3 ≤ o) (h : Ow OE w B (.slice (some ⟨g, 0, none⟩) i cap) i l) :
    Ow OE (w.setCells g o vs) B (.slice (some ⟨g, 0, none⟩) i cap) i l ∧ Chg (fun k => k = g) w (w.setCells g o vs) := by
  induction vs generalizing w o with
  | nil => exact ⟨h, Chg.refl _ _⟩
  | cons v vs ih =>
    have h1 : Ow OE (w.setCell ⟨g, o, none⟩ v) B (.slice (some ⟨g, 0, none⟩) i cap) i l := by
      have := own_setc (j := o) h.2 v
      rw [List.set_eq_of_length_le (by rw [h.2.1]; exact ho)] at this
      exact ⟨h.1, this⟩
    have h2 : Chg (fun k => k = g) w (w.setCell ⟨g, o, none⟩ v) := chg_set1 v
    obtain ⟨h3, h4⟩ := ih (w.setCell ⟨g, o, none⟩ v) (o + 1) (by omega) h1
    exact ⟨h3, h2.trans h4 (fun _ _ e => e)⟩
theorem clear_x (w : World) (B g n i cap : Nat) (l : List O) (h : Ow OE w B (.slice (some ⟨g, 0, none⟩) n cap) n l) (hi : i < n) :
    ∃ zs : List Value, ∀ ty, (Builtin.clear_ #[50] ty #[.slice (some ⟨g, i * 3, none⟩) (n - i) (cap - i)]).run Try.prog w = .ok (.tuple #[]) (w.setCells g (i * 3) zs) := by
  obtain ⟨m, hm⟩ : ∃ m, n - i = m + 1 := ⟨n - i - 1, by omega⟩
  refine ⟨(Builtin.zeroCells (Value.agg #[.int .i64 0, .int .i64 0, .int .i64 0]).cells (m + 1)).toList, fun ty => ?_⟩
  obtain ⟨cur, hc⟩ := own_blk h.2
  have hsz : (Builtin.zeroCells (Value.agg #[.int .i64 0, .int .i64 0, .int .i64 0]).cells (m + 1)).toList.length = (n - i) * 3 := by
    simp [Builtin.zeroCells, hm, Value.cells]
  have hst := run_storeCells_cells (P := Try.prog) g (i * 3) (Builtin.zeroCells (Value.agg #[.int .i64 0, .int .i64 0, .int .i64 0]).cells (m + 1)).toList 0 w
    (fun j hj => by
      rw [hsz] at hj
      have hlt : i * 3 + 0 + j < n * 3 := by omega
      rw [h.2.cellAt _ hlt, List.getElem?_eq_getElem (by rw [h.2.1]; exact hlt)]; rfl)
    (fun j _ => frozen_of_row _ _ _ _ _ hc)
    (fun v hv => by
      simp only [Builtin.zeroCells, Array.toList_map, List.mem_map] at hv
      obtain ⟨q, _, rfl⟩ := hv
      have hq : q % 3 = 0 ∨ q % 3 = 1 ∨ q % 3 = 2 := by omega
      simp only [Value.cells, List.size_toArray, List.length_cons, List.length_nil, Nat.zero_add, Nat.reduceAdd]
      rcases hq with e | e | e <;> rw [e] <;> rfl)
  simp only [Nat.add_zero] at hst
  rw [hm]
  have hz := Try.zeroValue42
  simp [Builtin.clear_, run_underlying Try.underlying50, hz, hst]
/-- the first place at which a test of owners holds -/
def IxSpec (p : O → Bool) (l : List O) (z : Int) : Prop := (z = -1 ∧ ∀ (j : Nat) (x : O), l[j]? = some x → p x = false) ∨ ∃ k : Nat, z = k ∧ ∃ x, l[k]? = some x ∧ p x = true ∧ ∀ (j : Nat) (y : O), j < k → l[j]? = some y → p y = false
/-- the row cut to the owners of other nodes -/
def RetDel (w : World) (B g cap : Nat) (l : List O) (e : Ending) (w' : World) : Prop :=
  ∃ m, e = .returned (.slice (some ⟨g, 0, none⟩) m cap) ∧ Ow OE w' B (.slice (some ⟨g, 0, none⟩) m cap) m l ∧ Chg (fun k => k = g) w w'
theorem chg3 {w : World} {g : Nat} {j0 j1 j2 : Nat} (v0 v1 v2 : Value) : Chg (fun k => k = g) w (((w.setCell ⟨g, j0, none⟩ v0).setCell ⟨g, j1, none⟩ v1).setCell ⟨g, j2, none⟩ v2) :=
  (((chg_set1 (g := g) (j := j0) v0).trans (chg_set1 v1) (fun _ _ e => e)).trans (chg_set1 v2) (fun _ _ e => e))
theorem Chg.quiet {g : Nat} {a b c : World} (h : Chg (fun k => k = g) a b) (k : Below b.heap.size b c) : Chg (fun k => k = g) a c := h.then_below k
end Go.Proofs.Ytheanpcbjjogfaa.pm
