/-
  Placements as lists of numbers: what may be, who holds, what changes; nothing of the program.
-/
import Derived.Test.YtheanpcbjjogfaaLst
import Derived.Laws.StructEq
import Derived.Laws.ResultCell
import Derived.Shelf.Abstract
import Derived.Test.YtheanpcbjjogfaaOrd
import Derived.Deep.QuietTactic
namespace Go.Proofs.Ytheanpcbjjogfaa.pm

/-- an owner: its node, its state, whence it comes -/
abbrev O := Int × Int × Int
def has (l : List Int) (n : Int) : Bool := l.any fun x => x == n
def holds (l : List O) (n : Int) : Bool := l.any fun o => o.1 == n && o.2.1 != 3
def load (ss : List (List O)) (n : Int) : Nat := ss.countP fun l => holds l n
def find (l : List O) (n : Int) : Option O := l.find? fun o => o.1 == n
def coming (l : List O) : Bool := l.any fun o => o.2.1 == 1
def busy (ss : List (List O)) : Bool := ss.any coming
def heirs (l : List O) (n : Int) : Nat := l.countP fun x => x.2.1 == 1 && x.2.2 == n
def sources (l : List O) (f : Int) : Nat := l.countP fun x => x.2.1 == 3 && x.1 == f
def stay (l : List O) : Nat := l.countP fun o => o.2.1 != 3

/-- rising by f -/
def Rise {α : Type} (f : α → Int) (l : List α) : Prop := l.Pairwise fun a b => f a < f b
theorem Rise.nil {α : Type} (f : α → Int) : Rise f [] := List.Pairwise.nil
theorem rise_succ {α : Type} {f : α → Int} {l : List α} {i : Nat} {x y : α} (hi : l[i]? = some x) (hy : l[i + 1]? = some y) : Rise f (l.take (i + 2)) ↔ Rise f (l.take (i + 1)) ∧ f x < f y := by
  have e : l.take (i + 2) = l.take (i + 1) ++ [y] := by
    rw [List.take_add_one (i := i + 1), hy]; rfl
  have e1 : l.take (i + 1) = l.take i ++ [x] := by rw [List.take_add_one, hi]; rfl
  constructor
  · intro h
    rw [e] at h
    unfold Rise at h ⊢
    rw [List.pairwise_append] at h
    exact ⟨h.1, h.2.2 x (by rw [e1]; simp) y (by simp)⟩
  · rintro ⟨h, hxy⟩
    rw [e]
    unfold Rise at h ⊢
    rw [List.pairwise_append]
    refine ⟨h, by simp, fun a ha b hb => ?_⟩
    simp at hb; subst hb
    rw [e1] at h ha
    rw [List.pairwise_append] at h
    rcases List.mem_append.1 ha with ha | ha
    · have := h.2.2 a ha x (by simp); omega
    · simp at ha; subst ha; exact hxy
theorem rise_one {α : Type} {f : α → Int} {l : List α} : Rise f (l.take 1) := by
  cases l with
  | nil => exact Rise.nil f
  | cons a l => simp [Rise]
theorem rise_take {α : Type} {f : α → Int} {l : List α} (h : Rise f l) (i : Nat) : Rise f (l.take i) := List.Pairwise.sublist (List.take_sublist _ _) h
theorem rise_inj {α : Type} {f : α → Int} {l : List α} (h : Rise f l) {a b : α} (ha : a ∈ l) (hb : b ∈ l) (e : f a = f b) : a = b := by
  unfold Rise at h
  rw [List.pairwise_iff_getElem] at h
  obtain ⟨i, hi, rfl⟩ := List.getElem_of_mem ha
  obtain ⟨j, hj, rfl⟩ := List.getElem_of_mem hb
  rcases Nat.lt_trichotomy i j with k | k | k
  · have := h i j hi hj k; omega
  · subst k; rfl
  · have := h j i hj hi k; omega
/-- a step of a check along a list that has to rise -/
structure Upto {α : Type} (f : α → Int) (ok : α → Prop) (l : List α) (i : Nat) : Prop where
  rise : Rise f (l.take i)
  each : ∀ x ∈ l.take i, ok x
theorem Upto.zero {α : Type} (f : α → Int) (ok : α → Prop) (l : List α) : Upto f ok l 0 := ⟨by simp [Rise], by simp⟩
theorem Upto.succ {α : Type} {f : α → Int} {ok : α → Prop} {l : List α} {i : Nat} {x : α} (h : Upto f ok l i) (hx : l[i]? = some x) (ho : ok x) (hl : ∀ j y, i = j + 1 → l[j]? = some y → f y < f x) : Upto f ok l (i + 1) := by
  have hi : i < l.length := by
    rcases Nat.lt_or_ge i l.length with h | h
    · exact h
    · rw [List.getElem?_eq_none h] at hx; cases hx
  refine ⟨?_, fun y hy => ?_⟩
  · cases i with
    | zero => exact rise_one
    | succ j =>
      have hy : l[j]? = some l[j] := List.getElem?_eq_getElem (by omega)
      exact (rise_succ hy hx).2 ⟨h.rise, hl j _ rfl hy⟩
  · rw [List.take_add_one, hx] at hy
    rcases List.mem_append.1 hy with hy | hy
    · exact h.each y hy
    · simp at hy; subst hy; exact ho
theorem Upto.all {α : Type} {f : α → Int} {ok : α → Prop} {l : List α} {n : Nat} (h : Upto f ok l n) (hn : l.length = n) : Rise f l ∧ ∀ x ∈ l, ok x := by
  obtain ⟨h1, h2⟩ := h
  rw [List.take_of_length_le (by omega)] at h1 h2
  exact ⟨h1, h2⟩
theorem not_rise {α : Type} {f : α → Int} {l : List α} {i : Nat} {x y : α} (hx : l[i]? = some x) (hy : l[i + 1]? = some y) (h : f y ≤ f x) : ¬ Rise f l := fun hr => by
  have := (rise_succ hx hy).1 (rise_take hr _)
  omega

def isNode (n : Int) : Prop := 0 ≤ n ∧ n < 8
/-- the nodes of a placement -/
structure NodesOk (l : List Int) : Prop where
  rise : Rise id l
  each : ∀ n ∈ l, isNode n
  many : 3 ≤ l.length
/-- the program's check of an owner .. -/
def pval (l : List O) (o : O) : Prop :=
  (o.2.1 = 2 ∧ o.2.2 = -1) ∨ (o.2.1 = 1 ∧ ∃ x, find l o.2.2 = some x ∧ x.2.1 = 3) ∨ (o.2.1 = 3 ∧ o.2.2 = -1 ∧ heirs l o.1 = 1)
/-- .. and the document's -/
def rval (l : List O) (o : O) : Prop :=
  (1 ≤ o.2.1 ∧ o.2.1 ≤ 3) ∧ (o.2.1 = 1 → sources l o.2.2 = 1) ∧ (o.2.1 ≠ 1 → o.2.2 = -1) ∧ (o.2.1 = 3 → heirs l o.1 = 1)
theorem countP_uniq {α : Type} {f : α → Int} {l : List α} (h : Rise f l) (q : α → Bool) (n : Int) (hq : ∀ x, q x = true → f x = n) : l.countP q = 1 ↔ ∃ x ∈ l, q x = true := by
  induction l with
  | nil => simp
  | cons a l ih =>
    have h' : (∀ b ∈ l, f a < f b) ∧ l.Pairwise (fun a b => f a < f b) := List.pairwise_cons.1 h
    rw [List.countP_cons]
    by_cases ha : q a = true
    · have hz : l.countP q = 0 := by
        rw [List.countP_eq_zero]
        intro b hb hqb
        have := h'.1 b hb
        rw [hq a ha, hq b hqb] at this
        omega
      rw [hz, if_pos ha]
      exact ⟨fun _ => ⟨a, by simp, ha⟩, fun _ => rfl⟩
    · rw [if_neg ha, Nat.add_zero, ih h'.2]
      constructor
      · rintro ⟨x, hx, e⟩; exact ⟨x, by simp [hx], e⟩
      · rintro ⟨x, hx, e⟩
        rcases List.mem_cons.1 hx with rfl | hx
        · exact absurd e ha
        · exact ⟨x, hx, e⟩
theorem find_iff {l : List O} (h : Rise (fun o : O => o.1) l) (n : Int) (x : O) : find l n = some x ↔ x ∈ l ∧ x.1 = n := by
  constructor
  · intro e
    have h1 := List.find?_some e
    have h2 := List.mem_of_find?_eq_some e
    exact ⟨h2, by simpa using h1⟩
  · rintro ⟨hx, e⟩
    unfold find
    cases hf : l.find? (fun o => o.1 == n) with
    | none =>
      have := List.find?_eq_none.1 hf x hx
      simp [e] at this
    | some y =>
      have h1 := List.find?_some hf
      have h2 := List.mem_of_find?_eq_some hf
      simp at h1
      rw [rise_inj h h2 hx (by omega)]
theorem val_iff {l : List O} (h : Rise (fun o : O => o.1) l) (o : O) : pval l o ↔ rval l o := by
  have hs : sources l o.2.2 = 1 ↔ ∃ x, find l o.2.2 = some x ∧ x.2.1 = 3 := by
    unfold sources
    rw [countP_uniq h _ o.2.2 (fun x hx => by simp at hx; omega)]
    constructor
    · rintro ⟨x, hx, e⟩
      simp at e
      exact ⟨x, (find_iff h _ x).2 ⟨hx, e.2⟩, e.1⟩
    · rintro ⟨x, hx, e⟩
      obtain ⟨h1, h2⟩ := (find_iff h _ x).1 hx
      exact ⟨x, h1, by simp [e, h2]⟩
  unfold pval rval
  rw [hs]
  constructor
  · rintro (⟨a, b⟩ | ⟨a, b⟩ | ⟨a, b, c⟩)
    · exact ⟨by omega, fun h => by omega, fun _ => b, fun h => by omega⟩
    · exact ⟨by omega, fun _ => b, fun h => by omega, fun h => by omega⟩
    · exact ⟨by omega, fun h => by omega, fun _ => b, fun _ => c⟩
  · rintro ⟨a, b, c, d⟩
    have : o.2.1 = 1 ∨ o.2.1 = 2 ∨ o.2.1 = 3 := by omega
    rcases this with e | e | e
    · exact .inr (.inl ⟨e, b e⟩)
    · exact .inl ⟨e, c (by omega)⟩
    · exact .inr (.inr ⟨e, c (by omega), d e⟩)
/-- one shard's owners, by either check of one -/
structure ShardBy (val : List O → O → Prop) (nodes : List Int) (l : List O) : Prop where
  rise : Rise (fun o : O => o.1) l
  each : ∀ o ∈ l, isNode o.1 ∧ val l o ∧ (o.2.1 ≠ 3 → has nodes o.1 = true)
  three : stay l = 3
abbrev ShardOk := ShardBy pval
theorem shardBy_iff (nodes : List Int) (l : List O) : ShardBy pval nodes l ↔ ShardBy rval nodes l :=
  ⟨fun h => ⟨h.rise, fun o ho => ⟨(h.each o ho).1, (val_iff h.rise o).1 (h.each o ho).2.1, (h.each o ho).2.2⟩, h.three⟩,
   fun h => ⟨h.rise, fun o ho => ⟨(h.each o ho).1, (val_iff h.rise o).2 (h.each o ho).2.1, (h.each o ho).2.2⟩, h.three⟩⟩
/-- a placement: its version, its nodes, its shards' owners -/
structure Pl where
  ver : Int
  nodes : List Int
  ss : List (List O)
structure PlOk (p : Pl) : Prop where
  lo : 1 ≤ p.ver
  hi : p.ver ≤ 1099511627776
  nodes : NodesOk p.nodes
  some_ : 1 ≤ p.ss.length
  few : p.ss.length ≤ 8
  each : ∀ l ∈ p.ss, ShardOk p.nodes l
end Go.Proofs.Ytheanpcbjjogfaa.pm
/-
  Placements in memory, as they are read: nodes, owners, rows of owners.
-/
namespace Go.Proofs.Ytheanpcbjjogfaa.pm
open Go.ChangeShapes Go.WideShapes Go.ChangeAt Go.RowKit plain words ord mem

instance : Inhabited O := ⟨(0, 0, 0)⟩
def oE (o : O) : List Value := [.int .i64 o.1, .int .i64 o.2.1, .int .i64 o.2.2]
abbrev oV (o : O) : Value := .agg #[.int .i64 o.1, .int .i64 o.2.1, .int .i64 o.2.2]
theorem oE_len (o : O) : (oE o).length = 3 := rfl
theorem oE_one (o : O) : ∀ v ∈ oE o, v.oneCell' = true := by
  intro v hv
  simp [oE] at hv
  rcases hv with rfl | rfl | rfl <;> rfl
def OE : El O := ⟨oE, 3, 42, oE_len, oE_one, by decide⟩
theorem infoO : (Try.prog.info? 42).map (fun i => (i.zero, i.size, i.bytes)) = some (some (.agg #[.int .i64 0, .int .i64 0, .int .i64 0]), 3, 24) := by kernel_rfl
/-- a number in a row of numbers -/
def NE : El Int := ⟨fun n => [.int .i64 n], 1, 3, fun _ => rfl, fun n v hv => by simp at hv; subst hv; rfl, by decide⟩
/-- a slice of owners -/
structure Rw3 where
  A : Option Addr
  c : Nat
  l : List O
def Rw3.val (r : Rw3) : Value := .slice r.A r.l.length r.c
instance : Inhabited Rw3 := ⟨⟨none, 0, []⟩⟩
def SE : El Rw3 := ⟨fun r => [r.val], 1, 50, fun _ => rfl, fun r v hv => by simp at hv; subst hv; rfl, by decide⟩
theorem infoS : (Try.prog.info? 50).map (fun i => (i.zero, i.size, i.bytes)) = some (some (.slice none 0 0), 1, 24) := by kernel_rfl
structure RwOk (w : World) (B : Nat) (r : Rw3) : Prop where
  ls : Ls OE w B r.A r.l.length r.l
  cap : r.l.length ≤ r.c
  most : r.c ≤ 9223372036854775807
  nil : r.A = none → r.c = 0
theorem RwOk.below {w w' : World} {B C : Nat} {r : Rw3} (h : RwOk w B r) (hb : Below C w w') (hB : B ≤ C) : RwOk w' B r := ⟨h.ls.below hb hB, h.cap, h.most, h.nil⟩
theorem RwOk.drew {w : World} {B : Nat} {r : Rw3} (h : RwOk w B r) : RwOk w.drew B r := ⟨h.ls.drew, h.cap, h.most, h.nil⟩
theorem RwOk.more {w : World} {B C : Nat} {r : Rw3} (h : RwOk w B r) (hB : B ≤ C) : RwOk w C r := ⟨h.ls.more hB, h.cap, h.most, h.nil⟩
/-- a slice of slices of owners -/
structure Rws (w : World) (B : Nat) (A : Option Addr) (n : Nat) (rs : List Rw3) : Prop where
  ls : Ls SE w B A n rs
  each : ∀ r ∈ rs, RwOk w B r
theorem Rws.below {w w' : World} {B C n : Nat} {A : Option Addr} {rs : List Rw3} (h : Rws w B A n rs) (hb : Below C w w') (hB : B ≤ C) : Rws w' B A n rs := ⟨h.ls.below hb hB, fun r hr => (h.each r hr).below hb hB⟩
theorem Rws.drew {w : World} {B n : Nat} {A : Option Addr} {rs : List Rw3} (h : Rws w B A n rs) : Rws w.drew B A n rs := ⟨h.ls.drew, fun r hr => (h.each r hr).drew⟩
theorem Rws.more {w : World} {B C n : Nat} {A : Option Addr} {rs : List Rw3} (h : Rws w B A n rs) (hB : B ≤ C) : Rws w C A n rs := ⟨h.ls.more hB, fun r hr => (h.each r hr).more hB⟩
theorem Rws.len {w : World} {B n : Nat} {A : Option Addr} {rs : List Rw3} (h : Rws w B A n rs) : rs.length = n := h.ls.1
/-- the slice at a place -/
theorem Rws.at_ {w : World} {B n i : Nat} {A : Option Addr} {rs : List Rw3} (h : Rws w B A n rs) {r : Rw3} (hx : rs[i]? = some r) : ∃ b off, A = some ⟨b, off, none⟩ ∧ b < B ∧ w.cell? ⟨b, off + i, none⟩ = some r.val ∧ RwOk w B r := by
  obtain ⟨b, off, e, hb, hc⟩ := h.ls.at_ hx
  have := hc 0 (by decide)
  refine ⟨b, off, e, hb, ?_, h.each r (List.mem_of_getElem? hx)⟩
  simpa [SE] using this
/-- an owner's three cells -/
theorem own_at {w : World} {B n i : Nat} {A : Option Addr} {l : List O} (h : Ls OE w B A n l) {o : O} (hx : l[i]? = some o) :
    ∃ b off, A = some ⟨b, off, none⟩ ∧ b < B ∧ w.cell? ⟨b, off + i * 3, none⟩ = some (.int .i64 o.1) ∧ w.cell? ⟨b, off + i * 3 + 1, none⟩ = some (.int .i64 o.2.1) ∧ w.cell? ⟨b, off + i * 3 + 2, none⟩ = some (.int .i64 o.2.2) := by
  obtain ⟨b, off, e, hb, hc⟩ := h.at_ hx
  exact ⟨b, off, e, hb, hc 0 (by decide), hc 1 (by decide), hc 2 (by decide)⟩
theorem num_at {w : World} {B n i : Nat} {A : Option Addr} {l : List Int} (h : Ls NE w B A n l) {x : Int} (hx : l[i]? = some x) :
    ∃ b off, A = some ⟨b, off, none⟩ ∧ b < B ∧ w.cell? ⟨b, off + i, none⟩ = some (.int .i64 x) := by
  obtain ⟨b, off, e, hb, hc⟩ := h.at_ hx
  have := hc 0 (by decide)
  refine ⟨b, off, e, hb, ?_⟩
  simpa [NE] using this
/-- a placement as a value, and what it holds -/
structure PV where
  ver : Int
  nA : Option Addr
  nc : Nat
  nodes : List Int
  sA : Option Addr
  sc : Nat
  rs : List Rw3
def PV.pl (v : PV) : Pl := ⟨v.ver, v.nodes, v.rs.map (·.l)⟩
abbrev PV.val (v : PV) : Value := .agg #[.int .i64 v.ver, .slice v.nA v.nodes.length v.nc, .slice v.sA v.rs.length v.sc]
structure PVok (w : World) (B : Nat) (v : PV) : Prop where
  n : Ls NE w B v.nA v.nodes.length v.nodes
  nc : v.nodes.length ≤ v.nc
  nm : v.nc ≤ 9223372036854775807
  nn : v.nA = none → v.nc = 0
  s : Rws w B v.sA v.rs.length v.rs
  sc : v.rs.length ≤ v.sc
  sm : v.sc ≤ 9223372036854775807
  sn : v.sA = none → v.sc = 0
theorem PVok.below {w w' : World} {B C : Nat} {v : PV} (h : PVok w B v) (hb : Below C w w') (hB : B ≤ C) : PVok w' B v := ⟨h.n.below hb hB, h.nc, h.nm, h.nn, h.s.below hb hB, h.sc, h.sm, h.sn⟩
theorem PVok.drew {w : World} {B : Nat} {v : PV} (h : PVok w B v) : PVok w.drew B v := ⟨h.n.drew, h.nc, h.nm, h.nn, h.s.drew, h.sc, h.sm, h.sn⟩
theorem PVok.more {w : World} {B C : Nat} {v : PV} (h : PVok w B v) (hB : B ≤ C) : PVok w C v := ⟨h.n.more hB, h.nc, h.nm, h.nn, h.s.more hB, h.sc, h.sm, h.sn⟩
/-- two owners compared -/
theorem eq_owner (a b c a' b' c' : Int) (w : World) : (binOp .eql 42 (.agg #[.int .i64 a, .int .i64 b, .int .i64 c]) (.agg #[.int .i64 a', .int .i64 b', .int .i64 c'])).run Try.prog w = .ok (.bool (a == a' && b == b' && c == c')) w := by
  have hS : Try.prog.underlying 42 = some (.struct (Try.prog.fieldsOf 42)) := by kernel_rfl
  have hp : Try.prog.stoodInHeld 42 = false := by kernel_rfl
  have u3 := Try.underlying3
  have a3 := Try.isAgg3
  have z3 := Try.sizeOf3
  rw [run_eql_struct, show (10000 : Nat) = 9999 + 1 from rfl, run_equalIn_agg w 9999 42 _ _ hS hp]
  simp only [Program.fieldsOf, Try.underlying42]
  go_simp
  by_cases h1 : a = a' <;> by_cases h2 : b = b' <;> by_cases h3 : c = c' <;> simp [h1, h2, h3]
theorem guard_owner : Try.prog.eqGuardType Try.prog.depth 42 = false := by kernel_rfl
end Go.Proofs.Ytheanpcbjjogfaa.pm
/-
  Placements: the program's search, holds, Find.
-/
namespace Go.Proofs.Ytheanpcbjjogfaa.pm
open Go.ChangeShapes Go.WideShapes Go.ChangeAt Go.RowKit Go.Shelf plain words ord mem

/-- a variable of three cells -/
abbrev IsV3 (T : TypeId) (w : World) (g : Nat) (a b c : Value) : Prop := w.heap[g]? = some (.cells #[a, b, c] T (0, 0))
theorem set3 {T : TypeId} {w : World} {g : Nat} {a b c a' b' c' : Value} (h : IsV3 T w g a b c) : IsV3 T (((w.setCell ⟨g, 0, none⟩ a').setCell ⟨g, 1, none⟩ b').setCell ⟨g, 2, none⟩ c') g a' b' c' := by
  have h0 := heap_setCell_same w g 0 _ _ a' h
  have h1 := heap_setCell_same _ g 1 _ _ b' h0
  have h2 := heap_setCell_same _ g 2 _ _ c' h1
  simpa using h2
theorem below_set3 {B : Nat} {a w : World} (h : Below B a w) {g : Nat} (hg : B ≤ g) (v0 v1 v2 : Value) : Below B a (((w.setCell ⟨g, 0, none⟩ v0).setCell ⟨g, 1, none⟩ v1).setCell ⟨g, 2, none⟩ v2) :=
  ((h.setCell (p := ⟨g, 0, none⟩) hg v0).setCell (p := ⟨g, 1, none⟩) hg v1).setCell (p := ⟨g, 2, none⟩) hg v2
theorem isv3_cells {T : TypeId} {w : World} {g : Nat} {a b c : Value} (h : IsV3 T w g a b c) : (w.cell? ⟨g, 0, none⟩ = some a ∧ w.cell? ⟨g, 1, none⟩ = some b ∧ w.cell? ⟨g, 2, none⟩ = some c) ∧ w.frozen? ⟨g, 0, none⟩ = false ∧ w.frozen? ⟨g, 1, none⟩ = false ∧ w.frozen? ⟨g, 2, none⟩ = false :=
  ⟨⟨by rw [cell_of_row _ _ _ _ _ _ h]; rfl, by rw [cell_of_row _ _ _ _ _ _ h]; rfl, by rw [cell_of_row _ _ _ _ _ _ h]; rfl⟩, frozen_of_row _ _ 0 _ _ h, frozen_of_row _ _ 1 _ _ h, frozen_of_row _ _ 2 _ _ h⟩
theorem ret_cell {P : Program} {fn : Func} {p u : Tmp} {ty : TypeId} (h : fn.results = #[.cell p ty, .tmp u]) (tmps : Array Value) (w : World) (g : Nat) (t : TypeId) (cs : Array Value) (fr : Nat × Nat) (d : TypeDesc)
    (hp : tmps.getD p undef = .pointer (some ⟨g, 0, none⟩)) (hg : w.heap[g]? = some (.cells cs t fr))
    (hu : P.underlying ty = some d) (hd : (match d with | .struct _ | .array _ _ => true | _ => false) = true) (hi : (P.info? ty).map (·.size) = some cs.size) :
    (results fn tmps).run P w = .ok (.tuple #[.agg cs, tmps.getD u undef]) w := by
  have hp' : tmps[p]?.getD undef = .pointer (some ⟨g, 0, none⟩) := by simpa using hp
  rw [results_cell_tmp h]
  simp [hp', asAddr, Result.andThen, run_loadVar_row w g t ty cs fr d hg hu hd hi]
theorem below_al (w : World) (o : Obj) : Below w.heap.size w (w.alloc o) := (Below.refl _ w).alloc (Nat.le_refl _) o
theorem sizeO : (Try.prog.info? 42).map (·.size) = some 3 := by kernel_rfl

/-- what is asked of a test of owners -/
def Pred (g : Nat) (lb : Array Value) (p : O → Bool) (w : World) : Prop :=
  ∀ (W : World) (o : O), Below w.heap.size w W → Calls Try.prog g (#[oV o] ++ lb) W fun e w' => e = .returned (.bool (p o)) ∧ Below W.heap.size W w'
def fnd (p : O → Bool) (l : List O) : O := (l.find? p).getD (0, 0, 0)
def fis (p : O → Bool) (l : List O) : Bool := (l.find? p).isSome
theorem fnd_none {p : O → Bool} {l : List O} (h : ∀ (j : Nat) (hj : j < l.length), p l[j] = false) : fnd p l = (0, 0, 0) ∧ fis p l = false := by
  have : l.find? p = none := List.find?_eq_none.2 fun x hx => by
    obtain ⟨j, hj, rfl⟩ := List.mem_iff_getElem.1 hx
    simp [h j hj]
  unfold fnd fis
  rw [this]; exact ⟨rfl, rfl⟩
theorem fnd_some {p : O → Bool} {l : List O} {i : Nat} {x : O} (hx : l[i]? = some x) (hp : p x = true) (h : ∀ (j : Nat) (hj : j < l.length), j < i → p l[j] = false) : fnd p l = x ∧ fis p l = true := by
  obtain ⟨hi, rfl⟩ := List.getElem?_eq_some_iff.1 hx
  have e : l.find? p = some l[i] := by
    rw [List.find?_eq_some_iff_getElem]
    exact ⟨hp, i, hi, rfl, fun j hj => by simp [h j (by omega) hj]⟩
  unfold fnd fis
  rw [e]; exact ⟨rfl, rfl⟩
set_option maxHeartbeats 1000000 in
theorem search_x (w : World) (B n c : Nat) (A : Option Addr) (l : List O) (h : Ls OE w B A n l) (hB : B ≤ w.heap.size) (hn : n ≤ 9223372036854775807) (g : Nat) (lb : Array Value) (p : O → Bool)
    (eg : ∀ args w, (callFunc g args).run Try.prog w = .ok (.enter g args) w) (hp : Pred g lb p w) :
    Calls Try.prog 25 #[.slice A n c, .func (.func g) #[] lb] w fun e w' => e = .returned (.tuple #[oV (fnd p l), .bool (fis p l)]) ∧ Below w.heap.size w w' := by
  have hl := h.1
  obtain ⟨wa, hwa⟩ : ∃ wa, w.alloc (.cells #[.int .i64 0, .int .i64 0, .int .i64 0] 42) = wa := ⟨_, rfl⟩
  have hba : Below w.heap.size w wa := by rw [← hwa]; exact below_al _ _
  have gr : IsV3 42 wa w.heap.size (.int .i64 0) (.int .i64 0) (.int .i64 0) := by rw [← hwa]; exact alloc_new _ _
  have hsa : w.heap.size < wa.heap.size := blk_lt gr
  have HWA := Lib.hid hwa
  have HBA := Lib.hid hba
  have GR := Lib.hid gr
  have HH := Lib.hid h
  have HP := Lib.hid hp
  have HL := Lib.hid hl
  clear h hp hwa hba gr hl
  go_enter Try.func25, Try.ntmps25
  go_wp2_with (fail)
  rw [HWA.out]
  go_loopg [5, 7, 11] n (fun gg s5 s7 s11 wr => ∃ i : Nat, s11 = .int .i64 i ∧ i ≤ n ∧ n - i ≤ gg ∧ s5 = .bool false ∧ Aside (∀ (j : Nat) (hj : j < l.length), j < i → p l[j] = false) ∧ Aside (Below w.heap.size w wr) ∧ Aside (IsV3 42 wr w.heap.size (.int .i64 0) (.int .i64 0) (.int .i64 0)) ∧ w.heap.size < wr.heap.size)
  case atStart => exact ⟨0, rfl, by omega, by omega, rfl, fun j hj hj2 => by omega, HBA.out, GR.out, hsa⟩
  case round =>
    obtain ⟨i, rfl, hi, hg, rfl, HN, HB, HV, hsw⟩ := hrel
    clear HBA GR
    by_cases hlt : i < n
    · have hltz : (i : Int) < (n : Int) := by omega
      obtain ⟨x, hx⟩ := HH.out.get hlt
      obtain ⟨b, off, hAe, hb, l0, l1, l2⟩ := own_at (HH.out.below HB.out hB) hx
      subst hAe
      have hbw : b < wr.heap.size := by omega
      obtain ⟨x1, x2, x3⟩ := x
      have HX := Lib.hid hx
      obtain ⟨wb, hwb⟩ : ∃ wb, wr.alloc (.cells #[.int .i64 x1, .int .i64 x2, .int .i64 x3] 42) = wb := ⟨_, rfl⟩
      have hbb : Below wr.heap.size wr wb := by rw [← hwb]; exact below_al _ _
      have gx : IsV3 42 wb wr.heap.size (.int .i64 x1) (.int .i64 x2) (.int .i64 x3) := by rw [← hwb]; exact alloc_new _ _
      obtain ⟨⟨d0, d1, d2⟩, _⟩ := isv3_cells gx
      have hsb : wr.heap.size < wb.heap.size := blk_lt gx
      have HBB := Lib.hid hbb
      have GX := Lib.hid gx
      have HWB := Lib.hid hwb
      have HC := Lib.hid (HP.out wb (x1, x2, x3) (HB.out.trans (hbb.mono (by omega))))
      clear hx hbb gx hwb
      go_wp2_with (fail)
      rw [HWB.out]
      refine HC.out.mono ?_
      rintro e w2 ⟨rfl, hb2⟩
      have hs2 := hb2.size
      have HV2 := Lib.hid (blk_below hb2 (blk_below HBB.out HV.out hsw) (by omega))
      have HB2 := Lib.hid (HB.out.trans ((HBB.out.trans (hb2.mono (by omega))).mono (by omega)))
      have gx2 := blk_below hb2 GX.out hsb
      obtain ⟨⟨c0, c1, c2⟩, _⟩ := isv3_cells gx2
      obtain ⟨⟨r0, r1, r2⟩, f0, f1, f2⟩ := isv3_cells HV2.out
      have hlw : wr.heap.size < w2.heap.size := by omega
      have hlw0 : w.heap.size < w2.heap.size := by omega
      clear hb2 gx2 HC d0 d1 d2 l0 l1 l2
      cases hq : p (x1, x2, x3) with
      | true =>
        have HQ := Lib.hid (fnd_some HX.out hq HN.out)
        go_wp2_with (fail)
        (try simp only [Exit.inBlock, Exit.then])
        refine bodyPost_ret (ret_cell rfl _ _ w.heap.size 42 _ _ _ rfl (set3 HV2.out) Try.underlying42 rfl sizeO) rfl ?_
        rw [HQ.out.1, HQ.out.2]
        exact ⟨rfl, below_set3 HB2.out (Nat.le_refl _) _ _ _⟩
      | false =>
        go_wp2_with (fail)
        go_roundg (n - (i + 1))
        case measure => omega
        case rel =>
          refine ⟨i + 1, by go_num, by omega, by omega, rfl, fun j hj hj2 => ?_, HB2.out, HV2.out, hlw0⟩
          rcases Nat.lt_or_ge j i with h | h
          · exact HN.out j hj h
          · obtain rfl : j = i := by omega
            obtain ⟨_, hx2⟩ := List.getElem?_eq_some_iff.1 HX.out
            rw [hx2]; exact hq
    · obtain rfl : i = n := by omega
      have hltz : ¬ (i : Int) < (i : Int) := by omega
      have HQ := Lib.hid (fnd_none (fun j hj => HN.out j hj (by rw [← HL.out]; exact hj)))
      obtain ⟨⟨r0, r1, r2⟩, f0, f1, f2⟩ := isv3_cells HV.out
      have HV2 := Lib.hid (show IsV3 42 (wr.alloc (.cells #[.int .i64 0, .int .i64 0, .int .i64 0] 42)) w.heap.size (.int .i64 0) (.int .i64 0) (.int .i64 0) from alloc_old _ HV.out)
      have HB2 := Lib.hid (show Below w.heap.size w (wr.alloc (.cells #[.int .i64 0, .int .i64 0, .int .i64 0] 42)) from HB.out.alloc (by omega) _)
      go_wp2_with (fail)
      (try simp only [Exit.inBlock, Exit.then])
      refine bodyPost_ret (ret_cell rfl _ _ w.heap.size 42 _ _ _ rfl (alloc_old _ (set3 HV.out)) Try.underlying42 rfl sizeO) rfl ?_
      rw [HQ.out.1, HQ.out.2]
      exact ⟨rfl, (below_set3 HB.out (Nat.le_refl _) _ _ _).alloc (by simp [World.setCell]; omega) _⟩
/-- .. and of Find, and of ownerValid -/
theorem find1_x (W : World) (g : Nat) (n : Int) (o : O) (hg : g < W.heap.size) (hc : W.cell? ⟨g, 0, none⟩ = some (.int .i64 n)) :
    Calls Try.prog 26 #[oV o, .pointer (some ⟨g, 0, none⟩)] W fun e w' => e = .returned (.bool (o.1 == n)) ∧ Below W.heap.size W w' := by
  obtain ⟨o1, o2, o3⟩ := o
  go_enter Try.func26, Try.ntmps26
  go_wp2_with (fail)
  all_goals (go_ret; exact ⟨by simp_all, below_al _ _⟩)
theorem valid1_x (W : World) (g : Nat) (q1 q2 q3 : Int) (o : O) (hg : g < W.heap.size) (hc : W.cell? ⟨g, 2, none⟩ = some (.int .i64 q3)) :
    Calls Try.prog 45 #[oV o, .pointer (some ⟨g, 0, none⟩)] W fun e w' => e = .returned (.bool (o.1 == q3)) ∧ Below W.heap.size W w' := by
  obtain ⟨o1, o2, o3⟩ := o
  go_enter Try.func45, Try.ntmps45
  go_wp2_with (fail)
  all_goals (go_ret; exact ⟨by simp_all, below_al _ _⟩)
end Go.Proofs.Ytheanpcbjjogfaa.pm
/-
  Placements: Find and Load, the program's.
-/
namespace Go.Proofs.Ytheanpcbjjogfaa.pm
open Go.ChangeShapes Go.WideShapes Go.ChangeAt Go.RowKit Go.Shelf plain words ord mem

/-- a placement in a variable -/
abbrev Boxed (w : World) (g : Nat) (v : PV) : Prop := IsV3 25 w g (.int .i64 v.ver) (.slice v.nA v.nodes.length v.nc) (.slice v.sA v.rs.length v.sc)
abbrev boxO (v : PV) : Obj := .cells #[.int .i64 v.ver, .slice v.nA v.nodes.length v.nc, .slice v.sA v.rs.length v.sc] 25
abbrev zeroO : Obj := .cells #[.int .i64 0, .int .i64 0, .int .i64 0] 42
def shardAt (ss : List (List O)) (s : Int) : List O := if s < 0 then [] else (ss[s.toNat]?).getD []
abbrev byNode (n : Int) : O → Bool := fun o => o.1 == n
theorem shardAt_neg {ss : List (List O)} {s : Int} (h : s < 0) : shardAt ss s = [] := by unfold shardAt; rw [if_pos h]
theorem shardAt_out {ss : List (List O)} {k : Nat} (h : ss.length ≤ k) : shardAt ss (k : Int) = [] := by unfold shardAt; rw [if_neg (by omega)]; simp [h]
theorem shardAt_in {ss : List (List O)} {k : Nat} {l : List O} (h : ss[k]? = some l) : shardAt ss (k : Int) = l := by unfold shardAt; rw [if_neg (by omega)]; simp [h]
theorem pl_at {v : PV} {k : Nat} {r : Rw3} (h : v.rs[k]? = some r) : v.pl.ss[k]? = some r.l := by simp [PV.pl, h]
theorem PVok.len {w : World} {B : Nat} {v : PV} (h : PVok w B v) : v.rs.length ≤ 9223372036854775807 ∧ v.nodes.length ≤ 9223372036854775807 := ⟨Nat.le_trans h.sc h.sm, Nat.le_trans h.nc h.nm⟩
theorem RwOk.len {w : World} {B : Nat} {r : Rw3} (h : RwOk w B r) : r.l.length ≤ 9223372036854775807 := Nat.le_trans h.cap h.most
set_option maxHeartbeats 1000000 in
theorem pfind_x (w : World) (B : Nat) (v : PV) (h : PVok w B v) (hB : B ≤ w.heap.size) (s n : Int) :
    Calls Try.prog 14 #[v.val, .int .i64 s, .int .i64 n] w fun e w' => e = .returned (.tuple #[oV (fnd (byNode n) (shardAt v.pl.ss s)), .bool (fis (byNode n) (shardAt v.pl.ss s))]) ∧ Below w.heap.size w w' := by
  have eg : ∀ args w, (callFunc 26 args).run Try.prog w = .ok (.enter 26 args) w := enters_of Try.func26 (by kernel_rfl) rfl
  obtain ⟨wa, hwa⟩ : ∃ wa, ((w.alloc (boxO v)).alloc (.cells #[.int .i64 n] 3)).alloc zeroO = wa := ⟨_, rfl⟩
  have hba : Below w.heap.size w wa := by rw [← hwa]; exact ((below_al _ _).alloc (by simp) _).alloc (by simp; omega) _
  have gr : IsV3 42 wa (w.heap.size + 2) (.int .i64 0) (.int .i64 0) (.int .i64 0) := by rw [← hwa]; have := alloc_new ((w.alloc (boxO v)).alloc (.cells #[.int .i64 n] 3)) zeroO; rwa [World.size_alloc, World.size_alloc] at this
  have gn : wa.cell? ⟨w.heap.size + 1, 0, none⟩ = some (.int .i64 n) := by
    rw [cell_of_row _ _ _ _ _ _ (show wa.heap[w.heap.size + 1]? = some (.cells #[.int .i64 n] 3 (0, 0)) from by rw [← hwa]; have := alloc_new (w.alloc (boxO v)) (.cells #[.int .i64 n] 3); rw [World.size_alloc] at this; exact alloc_old _ this)]
    rfl
  have hsz : w.heap.size + 2 < wa.heap.size := blk_lt gr
  have hl := h.len
  have HWA := Lib.hid hwa
  have HBA := Lib.hid hba
  have GR := Lib.hid gr
  have GN := Lib.hid gn
  have HH := Lib.hid h
  clear h hwa hba gr gn
  by_cases hneg : s < 0
  · have HS := Lib.hid (fnd_none (p := byNode n) (l := []) (by simp))
    have he := Lib.hid (shardAt_neg (ss := v.pl.ss) hneg)
    go_enter Try.func14, Try.ntmps14
    go_wp2_with (fail)
    (try simp only [Exit.inBlock, Exit.then])
    rw [HWA.out]
    refine bodyPost_ret (ret_cell rfl _ _ (w.heap.size + 2) 42 _ _ _ rfl GR.out Try.underlying42 rfl sizeO) rfl ?_
    rw [he.out, HS.out.1, HS.out.2]
    exact ⟨rfl, HBA.out⟩
  · obtain ⟨k, rfl⟩ : ∃ k : Nat, s = (k : Int) := ⟨s.toNat, by omega⟩
    have hneg2 : decide ((k : Int) < 0) = false := by simp
    by_cases hout : v.rs.length ≤ k
    · have HS := Lib.hid (fnd_none (p := byNode n) (l := []) (by simp))
      have he := Lib.hid (shardAt_out (ss := v.pl.ss) (k := k) (by simpa [PV.pl] using hout))
      have hge : ((v.rs.length : Nat) : Int) ≤ (k : Int) := by omega
      go_enter Try.func14, Try.ntmps14
      go_wp2_with (fail)
      (try simp only [Exit.inBlock, Exit.then])
      rw [HWA.out]
      refine bodyPost_ret (ret_cell rfl _ _ (w.heap.size + 2) 42 _ _ _ rfl GR.out Try.underlying42 rfl sizeO) rfl ?_
      rw [he.out, HS.out.1, HS.out.2]
      exact ⟨rfl, HBA.out⟩
    · have hlt : k < v.rs.length := by omega
      have hge : ¬ ((v.rs.length : Nat) : Int) ≤ (k : Int) := by omega
      obtain ⟨r, hr⟩ : ∃ r, v.rs[k]? = some r := ⟨_, List.getElem?_eq_getElem hlt⟩
      have he := Lib.hid (shardAt_in (pl_at hr))
      obtain ⟨b, off, hAe, hb, l0, ho⟩ := HH.out.s.at_ hr
      have hbw : b < w.heap.size := by omega
      have hbw1 : b < w.heap.size + 1 := by omega
      have hbw2 : b < w.heap.size + 1 + 1 := by omega
      have hs := search_x wa B r.l.length r.c r.A r.l (ho.ls.below HBA.out hB) (by omega) ho.len 26 #[.pointer (some ⟨w.heap.size + 1, 0, none⟩)] (byNode n) eg
        (fun W o hW => find1_x W (w.heap.size + 1) n o (by have := hW.size; omega) ((hW.cell (p := ⟨w.heap.size + 1, 0, none⟩) (by show w.heap.size + 1 < _; omega)).trans GN.out))
      have HS := Lib.hid hs
      rw [show r.val = .slice r.A r.l.length r.c from rfl] at l0
      clear hs hr ho
      go_enter Try.func14, Try.ntmps14
      simp only [PV.val, hAe]
      go_wp2_with (fail)
      have HWA2 := HWA.out
      simp only [boxO, zeroO, hAe] at HWA2
      rw [HWA2]
      clear HWA2
      refine HS.out.mono ?_
      rintro e w2 ⟨rfl, hb2⟩
      have GR2 := Lib.hid (blk_below hb2 GR.out hsz)
      have HB2 := Lib.hid (HBA.out.trans (hb2.mono (by omega)))
      obtain ⟨⟨c0, c1, c2⟩, f0, f1, f2⟩ := isv3_cells GR2.out
      clear hb2
      go_wp2_with (fail)
      (try simp only [Exit.inBlock, Exit.then])
      refine bodyPost_ret (ret_cell rfl _ _ (w.heap.size + 2) 42 _ _ _ rfl (set3 GR2.out) Try.underlying42 rfl sizeO) rfl ?_
      rw [he.out]
      exact ⟨rfl, below_set3 HB2.out (by omega) _ _ _⟩
theorem load_succ {ss : List (List O)} {i : Nat} {l : List O} (n : Int) (h : ss[i]? = some l) : load (ss.take (i + 1)) n = load (ss.take i) n + (if holds l n then 1 else 0) := by
  unfold load
  rw [List.take_add_one, h, List.countP_append]
  simp [List.countP_cons]
theorem load_le (ss : List (List O)) (n : Int) : load ss n ≤ ss.length := List.countP_le_length
end Go.Proofs.Ytheanpcbjjogfaa.pm
/-
  Placements: the document's node, has, Find, Owns, Load; the library's Index and Contains at numbers.
-/
namespace Go.Proofs.Ytheanpcbjjogfaa.pm
open Go.ChangeShapes Go.WideShapes Go.ChangeAt Go.RowKit Go.Shelf plain words ord mem

theorem any_hit {α : Type} {l : List α} {p : α → Bool} {i : Nat} {x : α} (h : l[i]? = some x) (hp : p x = true) : l.any p = true := List.any_eq_true.2 ⟨x, List.mem_of_getElem? h, hp⟩
theorem any_none {α : Type} {l : List α} {p : α → Bool} (h : ∀ (j : Nat) (x : α), l[j]? = some x → p x = false) : l.any p = false := by
  rw [List.any_eq_false]
  intro x hx
  obtain ⟨j, hj, rfl⟩ := List.getElem_of_mem hx
  simp [h j _ (List.getElem?_eq_getElem hj)]
theorem below_step {α : Type} {l : List α} {p : α → Bool} {i : Nat} {x : α} (hx : l[i]? = some x) (hp : p x = false) (h : ∀ (j : Nat) (y : α), j < i → l[j]? = some y → p y = false) : ∀ (j : Nat) (y : α), j < i + 1 → l[j]? = some y → p y = false := fun j y hj hy => by
  rcases Nat.lt_or_ge j i with h1 | h1
  · exact h j y h1 hy
  · obtain rfl : j = i := by omega
    rw [hx] at hy; cases hy; exact hp
theorem below_all {α : Type} {l : List α} {p : α → Bool} {n : Nat} (hn : l.length = n) (h : ∀ (j : Nat) (y : α), j < n → l[j]? = some y → p y = false) : l.any p = false := any_none fun j x hx => by
  refine h j x ?_ hx
  obtain ⟨hj, _⟩ := List.getElem?_eq_some_iff.1 hx
  omega
def isNodeB (n : Int) : Bool := decide (0 ≤ n) && decide (n < 8)
theorem isNodeB_iff (n : Int) : isNodeB n = true ↔ isNode n := by simp [isNodeB, isNode]
theorem node_y (w : World) (n : Int) : Calls Try.prog 33 #[.int .i64 n] w fun e w' => e = .returned (.bool (isNodeB n)) ∧ Below w.heap.size w w' := by
  go_enter Try.func33, Try.ntmps33
  by_cases h : (0 : Int) ≤ n
  · go_wp2_with (fail)
    all_goals (go_ret; exact ⟨by simp_all [isNodeB], Below.refl _ _⟩)
  · go_wp2_with (fail)
    all_goals (go_ret; exact ⟨by simp_all [isNodeB]; try omega, Below.refl _ _⟩)
theorem has_y (w : World) (B n c : Nat) (A : Option Addr) (l : List Int) (h : Ls NE w B A n l) (hB : B ≤ w.heap.size) (hn : n ≤ 9223372036854775807) (k : Int) :
    Calls Try.prog 44 #[.slice A n c, .int .i64 k] w fun e w' => e = .returned (.bool (has l k)) ∧ Below w.heap.size w w' := by
  have HH := Lib.hid h
  have HL := Lib.hid h.1
  clear h
  go_enter Try.func44, Try.ntmps44
  go_wp2_with (fail)
  go_loopg [4, 5] n (fun gg s4 s5 wr => ∃ i : Nat, s5 = .int .i64 i ∧ i ≤ n ∧ n - i ≤ gg ∧ s4 = .bool false ∧ Aside (∀ (j : Nat) (y : Int), j < i → l[j]? = some y → (y == k) = false) ∧ Aside (Below w.heap.size w wr))
  case atStart => exact ⟨0, rfl, by omega, by omega, rfl, fun j y hj => by omega, Below.refl _ _⟩
  case round =>
    obtain ⟨i, rfl, hi, hg, rfl, HN, HB⟩ := hrel
    by_cases hlt : i < n
    · have hltz : (i : Int) < (n : Int) := by omega
      obtain ⟨x, hx⟩ := HH.out.get hlt
      have hs := HB.out.size
      obtain ⟨b, off, rfl, hb, l0⟩ := num_at (HH.out.below HB.out hB) hx
      have hbw : b < wr.heap.size := by omega
      have HX := Lib.hid hx
      clear hx
      cases hq : x == k with
      | true =>
        have HQ := Lib.hid (show has l k = true from any_hit HX.out hq)
        go_wp2_with (fail)
        go_ret
        rw [HQ.out]
        exact ⟨rfl, HB.out⟩
      | false =>
        go_wp2_with (fail)
        go_roundg (n - (i + 1))
        case measure => omega
        case rel => exact ⟨i + 1, by go_num, by omega, by omega, rfl, below_step HX.out hq HN.out, HB.out⟩
    · obtain rfl : i = n := by omega
      have hltz : ¬ (i : Int) < (i : Int) := by omega
      have HQ := Lib.hid (show has l k = false from below_all HL.out HN.out)
      go_wp2_with (fail)
      go_ret
      rw [HQ.out]
      exact ⟨rfl, HB.out⟩
theorem index_x (w : World) (B n c : Nat) (A : Option Addr) (l : List Int) (h : Ls NE w B A n l) (hB : B ≤ w.heap.size) (hn : n ≤ 9223372036854775807) (k : Int) :
    Calls Try.prog 38 #[.slice A n c, .int .i64 k] w fun e w' => (∃ z : Int, e = .returned (.int .i64 z) ∧ (decide (0 ≤ z)) = has l k) ∧ Below w.heap.size w w' := by
  have HH := Lib.hid h
  have HL := Lib.hid h.1
  clear h
  go_enter Try.func38, Try.ntmps38
  go_wp2_with (fail)
  go_loopg [4, 5, 8] n (fun gg s4 s5 s8 wr => ∃ i : Nat, s8 = .int .i64 i ∧ i ≤ n ∧ n - i ≤ gg ∧ s4 = .int .i64 0 ∧ Aside (∀ (j : Nat) (y : Int), j < i → l[j]? = some y → (y == k) = false) ∧ Aside (Below w.heap.size w wr))
  case atStart => exact ⟨0, rfl, by omega, by omega, rfl, fun j y hj => by omega, Below.refl _ _⟩
  case round =>
    obtain ⟨i, rfl, hi, hg, rfl, HN, HB⟩ := hrel
    by_cases hlt : i < n
    · have hltz : (i : Int) < (n : Int) := by omega
      obtain ⟨x, hx⟩ := HH.out.get hlt
      have hs := HB.out.size
      obtain ⟨b, off, rfl, hb, l0⟩ := num_at (HH.out.below HB.out hB) hx
      have hbw : b < wr.heap.size := by omega
      have HX := Lib.hid hx
      clear hx
      cases hq : k == x with
      | true =>
        have HQ := Lib.hid (show has l k = true from any_hit HX.out (by simp at hq ⊢; omega))
        go_wp2_with (fail)
        go_ret
        exact ⟨⟨_, rfl, by rw [HQ.out]; simp⟩, HB.out⟩
      | false =>
        have HQ := Lib.hid (show (x == k) = false by simp at hq ⊢; omega)
        go_wp2_with (fail)
        go_roundg (n - (i + 1))
        case measure => omega
        case rel => exact ⟨i + 1, by go_num, by omega, by omega, rfl, below_step HX.out HQ.out HN.out, HB.out⟩
    · obtain rfl : i = n := by omega
      have hltz : ¬ (i : Int) < (i : Int) := by omega
      have HQ := Lib.hid (show has l k = false from below_all HL.out HN.out)
      go_wp2_with (fail)
      go_ret
      exact ⟨⟨_, rfl, by rw [HQ.out]; decide⟩, HB.out⟩
theorem contains_x (w : World) (B n c : Nat) (A : Option Addr) (l : List Int) (h : Ls NE w B A n l) (hB : B ≤ w.heap.size) (hn : n ≤ 9223372036854775807) (k : Int) :
    Calls Try.prog 22 #[.slice A n c, .int .i64 k] w fun e w' => e = .returned (.bool (has l k)) ∧ Below w.heap.size w w' := by
  have HI := Lib.hid (index_x w B n c A l h hB hn k)
  clear h
  go_enter Try.func22, Try.ntmps22
  go_wp2_with (fail)
  refine HI.out.mono ?_
  rintro e w2 ⟨⟨z, rfl, hz⟩, hb⟩
  have HZ := Lib.hid hz
  have HB := Lib.hid hb
  clear hz hb HI
  by_cases h0 : (0 : Int) ≤ z
  · go_wp2_with (fail)
    go_ret
    rw [← HZ.out]
    exact ⟨by simp [h0], HB.out⟩
  · go_wp2_with (fail)
    go_ret
    rw [← HZ.out]
    exact ⟨by simp [h0], HB.out⟩
set_option maxHeartbeats 1000000 in
theorem rfind_y (w : World) (B : Nat) (v : PV) (h : PVok w B v) (hB : B ≤ w.heap.size) (s n : Int) :
    Calls Try.prog 8 #[v.val, .int .i64 s, .int .i64 n] w fun e w' => e = .returned (.tuple #[oV (fnd (byNode n) (shardAt v.pl.ss s)), .bool (fis (byNode n) (shardAt v.pl.ss s))]) ∧ Below w.heap.size w w' := by
  obtain ⟨ver, nA, nc, nodes, sA, sc, rs⟩ := v
  obtain ⟨wa, hwa⟩ : ∃ wa, (w.alloc (boxO ⟨ver, nA, nc, nodes, sA, sc, rs⟩)).alloc zeroO = wa := ⟨_, rfl⟩
  have hba : Below w.heap.size w wa := by rw [← hwa]; exact (below_al _ _).alloc (by simp) _
  have gr : IsV3 42 wa (w.heap.size + 1) (.int .i64 0) (.int .i64 0) (.int .i64 0) := by rw [← hwa]; have := alloc_new (w.alloc (boxO ⟨ver, nA, nc, nodes, sA, sc, rs⟩)) zeroO; rwa [World.size_alloc] at this
  have gp : IsV3 25 wa w.heap.size (.int .i64 ver) (.slice nA nodes.length nc) (.slice sA rs.length sc) := by rw [← hwa]; exact alloc_old _ (alloc_new w _)
  have hsz : w.heap.size + 1 < wa.heap.size := blk_lt gr
  have hl := h.len.1
  obtain ⟨N, hN⟩ : ∃ N, rs.length = N := ⟨_, rfl⟩
  obtain ⟨ss, hss⟩ : ∃ ss, rs.map (·.l) = ss := ⟨_, rfl⟩
  obtain ⟨nl, hnl⟩ : ∃ nl, nodes.length = nl := ⟨_, rfl⟩
  have hsl : ss.length = N := by rw [← hss, List.length_map, hN]
  have hs := h.s
  simp only [PV.pl, PV.val, boxO, hN, hss, hnl] at hl hwa hs gp ⊢
  have HWA := Lib.hid hwa
  have HBA := Lib.hid hba
  have GR := Lib.hid gr
  have HH := Lib.hid hs
  have HN := Lib.hid hN
  have HSS := Lib.hid hss
  have HSL := Lib.hid hsl
  have HP := Lib.hid gp
  clear h hwa hba hN hss hs hnl hsl gr gp
  have HE := Lib.hid (fnd_none (p := byNode n) (l := []) (by simp))
  by_cases hneg : s < 0
  · have he := Lib.hid (shardAt_neg (ss := ss) hneg)
    go_enter Try.func8, Try.ntmps8
    go_wp2_with (fail)
    (try simp only [Exit.inBlock, Exit.then])
    rw [HWA.out]
    refine bodyPost_ret (ret_cell rfl _ _ (w.heap.size + 1) 42 _ _ _ rfl GR.out Try.underlying42 rfl sizeO) rfl ?_
    rw [he.out, HE.out.1, HE.out.2]
    exact ⟨rfl, HBA.out⟩
  · obtain ⟨k, rfl⟩ : ∃ k : Nat, s = (k : Int) := ⟨s.toNat, by omega⟩
    have hneg2 : decide ((k : Int) < 0) = false := by simp
    by_cases hout : N ≤ k
    · have he := Lib.hid (shardAt_out (ss := ss) (k := k) (by rw [HSL.out]; exact hout))
      have hge : ((N : Nat) : Int) ≤ (k : Int) := by omega
      go_enter Try.func8, Try.ntmps8
      go_wp2_with (fail)
      (try simp only [Exit.inBlock, Exit.then])
      rw [HWA.out]
      refine bodyPost_ret (ret_cell rfl _ _ (w.heap.size + 1) 42 _ _ _ rfl GR.out Try.underlying42 rfl sizeO) rfl ?_
      rw [he.out, HE.out.1, HE.out.2]
      exact ⟨rfl, HBA.out⟩
    · have hlt : k < N := by omega
      have hge : ¬ ((N : Nat) : Int) ≤ (k : Int) := by omega
      obtain ⟨r, hr⟩ : ∃ r, rs[k]? = some r := ⟨_, List.getElem?_eq_getElem (by rw [HN.out]; exact hlt)⟩
      obtain ⟨b, off, rfl, hb, l0, ho⟩ := HH.out.at_ hr
      have he := Lib.hid (shardAt_in (show ss[k]? = some r.l by rw [← HSS.out]; simp [hr]))
      obtain ⟨rA, rc, rl⟩ := r
      have hol := ho.len
      simp only at hol
      rw [show Rw3.val ⟨rA, rc, rl⟩ = .slice rA rl.length rc from rfl] at l0
      obtain ⟨m, hm⟩ : ∃ m, rl.length = m := ⟨_, rfl⟩
      rw [hm] at l0 hol
      have HO := Lib.hid (show Ls OE w B rA m rl from hm ▸ ho.ls)
      have HM := Lib.hid hm
      have hbw : b < w.heap.size := by omega
      have hbw1 : b < w.heap.size + 1 := by omega
      clear hr ho hm
      go_enter Try.func8, Try.ntmps8
      go_wp2_with (fail)
      rw [HWA.out]
      go_loopg [7, 9] m (fun gg s7 s9 wr => ∃ i : Nat, s9 = .int .i64 i ∧ i ≤ m ∧ m - i ≤ gg ∧ s7 = .bool false ∧ Aside (∀ (j : Nat) (hj : j < rl.length), j < i → byNode n rl[j] = false) ∧ wr = wa)
      case atStart => exact ⟨0, rfl, by omega, by omega, rfl, fun j hj hj2 => by omega, rfl⟩
      case round =>
        obtain ⟨i, rfl, hi, hg, rfl, HN2, rfl⟩ := hrel
        by_cases hlt2 : i < m
        · have hltz : (i : Int) < (m : Int) := by omega
          obtain ⟨x, hx⟩ := HO.out.get hlt2
          obtain ⟨b2, off2, rfl, hb2, l1, l2, l3⟩ := own_at (HO.out.below HBA.out hB) hx
          have hbw2 : b2 < wr.heap.size := by omega
          obtain ⟨x1, x2, x3⟩ := x
          have HX := Lib.hid hx
          clear hx
          cases hq : x1 == n with
          | true =>
            have HQ := Lib.hid (fnd_some HX.out (show byNode n (x1, x2, x3) = true from hq) HN2.out)
            obtain ⟨⟨c0, c1, c2⟩, f0, f1, f2⟩ := isv3_cells GR.out
            go_wp2_with (fail)
            (try simp only [Exit.inBlock, Exit.then])
            refine bodyPost_ret (ret_cell rfl _ _ (w.heap.size + 1) 42 _ _ _ rfl (set3 GR.out) Try.underlying42 rfl sizeO) rfl ?_
            rw [he.out, HQ.out.1, HQ.out.2]
            exact ⟨rfl, below_set3 HBA.out (by omega) _ _ _⟩
          | false =>
            go_wp2_with (fail)
            go_roundg (m - (i + 1))
            case measure => omega
            case rel =>
              refine ⟨i + 1, by go_num, by omega, by omega, rfl, fun j hj hj2 => ?_, rfl⟩
              rcases Nat.lt_or_ge j i with h | h
              · exact HN2.out j hj h
              · obtain rfl : j = i := by omega
                obtain ⟨_, hx2⟩ := List.getElem?_eq_some_iff.1 HX.out
                rw [hx2]; exact hq
        · obtain rfl : i = m := by omega
          have hltz : ¬ (i : Int) < (i : Int) := by omega
          have HQ := Lib.hid (fnd_none (p := byNode n) (fun j hj => HN2.out j hj (by rw [← HM.out]; exact hj)))
          obtain ⟨⟨c0, c1, c2⟩, f0, f1, f2⟩ := isv3_cells GR.out
          go_wp2_with (fail)
          (try simp only [Exit.inBlock, Exit.then])
          refine bodyPost_ret (ret_cell rfl _ _ (w.heap.size + 1) 42 _ _ _ rfl (set3 GR.out) Try.underlying42 rfl sizeO) rfl ?_
          rw [he.out, HQ.out.1, HQ.out.2]
          exact ⟨rfl, below_set3 HBA.out (by omega) _ _ _⟩
end Go.Proofs.Ytheanpcbjjogfaa.pm
/-
  Placements: lists made new by the document's functions.
-/
namespace Go.Proofs.Ytheanpcbjjogfaa.pm
open Go.ChangeShapes Go.WideShapes Go.ChangeAt Go.RowKit Go.Shelf plain words ord mem

theorem infoN : (Try.prog.info? 3).map (fun i => (i.zero, i.size, i.bytes)) = some (some (.int .i64 0), 1, 8) := by kernel_rfl
theorem info_of {t : TypeId} {z : Value} {k b : Nat} (h : (Try.prog.info? t).map (fun i => (i.zero, i.size, i.bytes)) = some (some z, k, b)) : ∃ i, Try.prog.info? t = some i ∧ i.zero = some z ∧ i.size = k ∧ i.bytes = b := by
  cases hi : Try.prog.info? t with
  | none => rw [hi] at h; cases h
  | some i => rw [hi] at h; simp at h; exact ⟨i, rfl, h.1, h.2.1, h.2.2⟩
section
variable {w : World} {ops : Array Oper} {rest : List Oper} {o : Oper} {a : Act} {Q : Exit → Act → World → Prop}
/-- 'append' to owners, to numbers, to rows of owners -/
theorem app_o (hgd : o.guard = none) (s x : Operand) (ho : o.op = .call { callee := .builtin .append, args := #[s, x], argTypes := #[50, 50] })
    (base : Nat) (v : Value) (n : Nat) (l : List O) (hs : a.eval s = v) (hown : Ow OE w base v n l)
    (B : Nat) (A : Option Addr) (m c : Nat) (hA : A = none → c = 0) (news : List O) (hx : a.eval x = .slice A m c) (hr : Ls OE w B A m news)
    (hn : n + m ≤ 1099511627776) (hbase : base ≤ w.heap.size)
    (h : ∀ A' c' w', Ow OE w' base (.slice A' (n + m) c') (n + m) (l ++ news) → w.grownBy w' v.ownBlock → (A' = none → c' = 0) → n + m ≤ c' → c' ≤ 9223372036854775807 → w.heap.size ≤ w'.heap.size → wpList Try.prog ops Q rest (a.put o.dst (.slice A' (n + m) c')) w') : wpList Try.prog ops Q (o :: rest) a w := by
  obtain ⟨i0, hi, hz0, hz1, hz2⟩ := info_of infoO
  exact wpList_append_ow OE (P := Try.prog) Try.underlying50 hi hz0 hz1 hz2 rfl (by decide) hgd s x ho base v n l hs hown B A m c hA news hx hr hn hbase h
theorem app_n (hgd : o.guard = none) (s x : Operand) (ho : o.op = .call { callee := .builtin .append, args := #[s, x], argTypes := #[22, 22] })
    (base : Nat) (v : Value) (n : Nat) (l : List Int) (hs : a.eval s = v) (hown : Ow NE w base v n l)
    (B : Nat) (A : Option Addr) (m c : Nat) (hA : A = none → c = 0) (news : List Int) (hx : a.eval x = .slice A m c) (hr : Ls NE w B A m news)
    (hn : n + m ≤ 1099511627776) (hbase : base ≤ w.heap.size)
    (h : ∀ A' c' w', Ow NE w' base (.slice A' (n + m) c') (n + m) (l ++ news) → w.grownBy w' v.ownBlock → (A' = none → c' = 0) → n + m ≤ c' → c' ≤ 9223372036854775807 → w.heap.size ≤ w'.heap.size → wpList Try.prog ops Q rest (a.put o.dst (.slice A' (n + m) c')) w') : wpList Try.prog ops Q (o :: rest) a w := by
  obtain ⟨i0, hi, hz0, hz1, hz2⟩ := info_of infoN
  exact wpList_append_ow NE (P := Try.prog) Try.underlying22 hi hz0 hz1 hz2 rfl (by decide) hgd s x ho base v n l hs hown B A m c hA news hx hr hn hbase h
theorem app_s (hgd : o.guard = none) (s x : Operand) (ho : o.op = .call { callee := .builtin .append, args := #[s, x], argTypes := #[23, 23] })
    (base : Nat) (v : Value) (n : Nat) (l : List Rw3) (hs : a.eval s = v) (hown : Ow SE w base v n l)
    (B : Nat) (A : Option Addr) (m c : Nat) (hA : A = none → c = 0) (news : List Rw3) (hx : a.eval x = .slice A m c) (hr : Ls SE w B A m news)
    (hn : n + m ≤ 1099511627776) (hbase : base ≤ w.heap.size)
    (h : ∀ A' c' w', Ow SE w' base (.slice A' (n + m) c') (n + m) (l ++ news) → w.grownBy w' v.ownBlock → (A' = none → c' = 0) → n + m ≤ c' → c' ≤ 9223372036854775807 → w.heap.size ≤ w'.heap.size → wpList Try.prog ops Q rest (a.put o.dst (.slice A' (n + m) c')) w') : wpList Try.prog ops Q (o :: rest) a w := by
  obtain ⟨i0, hi, hz0, hz1, hz2⟩ := info_of infoS
  exact wpList_append_ow SE (P := Try.prog) Try.underlying23 hi hz0 hz1 hz2 rfl (by decide) hgd s x ho base v n l hs hown B A m c hA news hx hr hn hbase h
end
/-- a new row of owners behind a call .. -/
def RetO (w : World) (l : List O) (e : Ending) (w' : World) : Prop := ∃ g c, e = .returned (.slice (some ⟨g, 0, none⟩) l.length c) ∧ Ow OE w' w.heap.size (.slice (some ⟨g, 0, none⟩) l.length c) l.length l ∧ Below w.heap.size w w'
/-- .. and of numbers -/
def RetN (w : World) (l : List Int) (e : Ending) (w' : World) : Prop := ∃ g c, e = .returned (.slice (some ⟨g, 0, none⟩) l.length c) ∧ Ow NE w' w.heap.size (.slice (some ⟨g, 0, none⟩) l.length c) l.length l ∧ Below w.heap.size w w'
def disown (l : List O) (n : Int) : List O := l.filter fun o => o.1 != n
theorem filter_succ {α : Type} {p : α → Bool} {l : List α} {i : Nat} {x : α} (h : l[i]? = some x) : (l.take (i + 1)).filter p = (l.take i).filter p ++ (if p x then [x] else []) := by
  rw [List.take_add_one, h, List.filter_append]
  congr 1
  simp only [Option.toList_some, List.filter_cons, List.filter_nil]
theorem filter_le {α : Type} (p : α → Bool) (l : List α) (i : Nat) : ((l.take i).filter p).length ≤ i := Nat.le_trans (List.length_filter_le _ _) (by rw [List.length_take]; omega)
def without (l : List Int) (n : Int) : List Int := l.filter fun x => x != n
def with_ (l : List Int) (n : Int) (i : Nat) : List Int := ((List.range i).map fun j : Nat => (j : Int)).filter fun x => x == n || has l x
theorem with_succ (l : List Int) (n : Int) (i : Nat) : with_ l n (i + 1) = with_ l n i ++ (if ((i : Int) == n || has l i) = true then [(i : Int)] else []) := by
  unfold with_
  rw [List.range_succ, List.map_append, List.filter_append]
  congr 1
  simp only [List.map_cons, List.map_nil, List.filter_cons, List.filter_nil]
theorem with_le (l : List Int) (n : Int) (i : Nat) : (with_ l n i).length ≤ i := Nat.le_trans (List.length_filter_le _ _) (by simp)
end Go.Proofs.Ytheanpcbjjogfaa.pm
/-
  Placements: an owner set in its place, the document's way.
-/
namespace Go.Proofs.Ytheanpcbjjogfaa.pm
open Go.ChangeShapes Go.WideShapes Go.ChangeAt Go.RowKit Go.Shelf plain words ord mem

def pos (l : List O) (n : Int) : Nat := (l.takeWhile fun x => decide (x.1 < n)).length
def own (l : List O) (o : O) : List O := l.take (pos l o.1) ++ o :: l.drop (pos l o.1)
theorem pos_of {l : List O} {n : Int} {i : Nat} (hi : i ≤ l.length) (h : ∀ (j : Nat) (x : O), j < i → l[j]? = some x → x.1 < n) (he : ∀ x, l[i]? = some x → ¬ x.1 < n) : pos l n = i := by
  unfold pos
  induction l generalizing i with
  | nil => simp at hi; subst hi; rfl
  | cons y l ih =>
    cases i with
    | zero => rw [List.takeWhile_cons_of_neg (by simpa using he y rfl)]; rfl
    | succ i =>
      rw [List.takeWhile_cons_of_pos (by simpa using h 0 y (by omega) rfl), List.length_cons]
      rw [ih (i := i) (by simpa using hi) (fun j x hj hx => h (j + 1) x (by omega) (by simpa using hx)) (fun x hx => he x (by simpa using hx))]
theorem pos_le (l : List O) (n : Int) : pos l n ≤ l.length := (List.takeWhile_sublist _).length_le
theorem own_len (l : List O) (o : O) : (own l o).length = l.length + 1 := by
  have := pos_le l o.1
  simp [own]; omega
theorem ls_rest {α : Type} {E : El α} {w : World} {B g n c i o : Nat} {l : List α} (h : Ls E w B (some ⟨g, 0, none⟩) n l) (hi : i ≤ n) (hn : n ≤ c) (ho : o = i * E.k) : Ls E w B (if c = i then some ⟨g, 0, none⟩ else some ⟨g, o, none⟩) (n - i) (l.drop i) := by
  by_cases hc : c = i
  · obtain rfl : n = i := by omega
    rw [if_pos hc]
    have : l.drop n = [] := List.drop_eq_nil_of_le (by rw [h.1]; exact Nat.le_refl _)
    rw [this, Nat.sub_self]
    exact Ls.nil _ _ _
  · rw [if_neg hc]
    have := h.drop (i := i) hi
    rwa [Nat.zero_add, ← ho] at this
theorem ls_rest2 {w : World} {B g n c i : Nat} {l : List O} (h : Ls OE w B (some ⟨g, 0, none⟩) n l) (hi : i ≤ n) (hn : n ≤ c) : (c = i → Ls OE w B (some ⟨g, 0, none⟩) (n - i) (l.drop i)) ∧ (¬ c = i → Ls OE w B (some ⟨g, i * 3, none⟩) (n - i) (l.drop i)) := by
  have := ls_rest (o := i * 3) h hi hn rfl
  exact ⟨fun e => by rwa [if_pos e] at this, fun e => by rwa [if_neg e] at this⟩
theorem below_pos {l : List O} {n : Int} {i : Nat} {x : O} (hx : l[i]? = some x) (hp : x.1 < n) (h : ∀ (j : Nat) (y : O), j < i → l[j]? = some y → y.1 < n) : ∀ (j : Nat) (y : O), j < i + 1 → l[j]? = some y → y.1 < n := fun j y hj hy => by
  rcases Nat.lt_or_ge j i with h1 | h1
  · exact h j y h1 hy
  · obtain rfl : j = i := by omega
    rw [hx] at hy; cases hy; exact hp
end Go.Proofs.Ytheanpcbjjogfaa.pm
