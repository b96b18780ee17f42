/-
  Placements in memory, as they are read: nodes, owners, rows of owners.
-/
import Derived.Test.YtnpkhkhchimcnaaPm
import Derived.Test.YtnpkhkhchimcnaaLst
import Derived.Laws.StructEq
namespace Go.Proofs.Ytnpkhkhchimcnaa.pm
open Go.ChangeShapes Go.WideShapes Go.ChangeAt Go.RowKit plain words ord mem

instance : Inhabited O := ⟨(0, 0, 0)⟩
def oE (o : O) : List Value := [.int .i64 o.1, .int .i64 o.2.1, .int .i64 o.2.2]
abbrev oV (o : O) : Value := .agg #[.int .i64 o.1, .int .i64 o.2.1, .int .i64 o.2.2]
theorem oE_len (o : O) : (oE o).length = 3 := rfl
theorem oE_one (o : O) : ∀ v ∈ oE o, v.oneCell' = true := by
  intro v hv
  simp [oE] at hv
  rcases hv with rfl | rfl | rfl <;> rfl
def OE : El O := ⟨oE, 3, 44, oE_len, oE_one, by decide⟩
theorem infoO : (Try.prog.info? 44).map (fun i => (i.zero, i.size, i.bytes)) = some (some (.agg #[.int .i64 0, .int .i64 0, .int .i64 0]), 3, 24) := by kernel_rfl
/-- a number in a row of numbers -/
def NE : El Int := ⟨fun n => [.int .i64 n], 1, 3, fun _ => rfl, fun n v hv => by simp at hv; subst hv; rfl, by decide⟩
/-- a slice of owners -/
structure Rw3 where
  A : Option Addr
  c : Nat
  l : List O
def Rw3.val (r : Rw3) : Value := .slice r.A r.l.length r.c
instance : Inhabited Rw3 := ⟨⟨none, 0, []⟩⟩
def SE : El Rw3 := ⟨fun r => [r.val], 1, 42, fun _ => rfl, fun r v hv => by simp at hv; subst hv; rfl, by decide⟩
theorem infoS : (Try.prog.info? 42).map (fun i => (i.zero, i.size, i.bytes)) = some (some (.slice none 0 0), 1, 24) := by kernel_rfl
structure RwOk (w : World) (B : Nat) (r : Rw3) : Prop where
  ls : Ls OE w B r.A r.l.length r.l
  cap : r.l.length ≤ r.c
  most : r.c ≤ 9223372036854775807
  nil : r.A = none → r.c = 0
theorem RwOk.below {w w' : World} {B C : Nat} {r : Rw3} (h : RwOk w B r) (hb : Below C w w') (hB : B ≤ C) : RwOk w' B r := ⟨h.ls.below hb hB, h.cap, h.most, h.nil⟩
theorem RwOk.drew {w : World} {B : Nat} {r : Rw3} (h : RwOk w B r) : RwOk w.drew B r := ⟨h.ls.drew, h.cap, h.most, h.nil⟩
theorem RwOk.more {w : World} {B C : Nat} {r : Rw3} (h : RwOk w B r) (hB : B ≤ C) : RwOk w C r := ⟨h.ls.more hB, h.cap, h.most, h.nil⟩
/-- a slice of slices of owners -/
structure Rws (w : World) (B : Nat) (A : Option Addr) (n : Nat) (rs : List Rw3) : Prop where
  ls : Ls SE w B A n rs
  each : ∀ r ∈ rs, RwOk w B r
theorem Rws.below {w w' : World} {B C n : Nat} {A : Option Addr} {rs : List Rw3} (h : Rws w B A n rs) (hb : Below C w w') (hB : B ≤ C) : Rws w' B A n rs := ⟨h.ls.below hb hB, fun r hr => (h.each r hr).below hb hB⟩
theorem Rws.drew {w : World} {B n : Nat} {A : Option Addr} {rs : List Rw3} (h : Rws w B A n rs) : Rws w.drew B A n rs := ⟨h.ls.drew, fun r hr => (h.each r hr).drew⟩
theorem Rws.more {w : World} {B C n : Nat} {A : Option Addr} {rs : List Rw3} (h : Rws w B A n rs) (hB : B ≤ C) : Rws w C A n rs := ⟨h.ls.more hB, fun r hr => (h.each r hr).more hB⟩
theorem Rws.len {w : World} {B n : Nat} {A : Option Addr} {rs : List Rw3} (h : Rws w B A n rs) : rs.length = n := h.ls.1
/-- the slice at a place -/
theorem Rws.at_ {w : World} {B n i : Nat} {A : Option Addr} {rs : List Rw3} (h : Rws w B A n rs) {r : Rw3} (hx : rs[i]? = some r) : ∃ b off, A = some ⟨b, off, none⟩ ∧ b < B ∧ w.cell? ⟨b, off + i, none⟩ = some r.val ∧ RwOk w B r := by
  obtain ⟨b, off, e, hb, hc⟩ := h.ls.at_ hx
  have := hc 0 (by decide)
  refine ⟨b, off, e, hb, ?_, h.each r (List.mem_of_getElem? hx)⟩
  simpa [SE] using this
/-- an owner's three cells -/
theorem own_at {w : World} {B n i : Nat} {A : Option Addr} {l : List O} (h : Ls OE w B A n l) {o : O} (hx : l[i]? = some o) :
    ∃ b off, A = some ⟨b, off, none⟩ ∧ b < B ∧ w.cell? ⟨b, off + i * 3, none⟩ = some (.int .i64 o.1) ∧ w.cell? ⟨b, off + i * 3 + 1, none⟩ = some (.int .i64 o.2.1) ∧ w.cell? ⟨b, off + i * 3 + 2, none⟩ = some (.int .i64 o.2.2) := by
  obtain ⟨b, off, e, hb, hc⟩ := h.at_ hx
  exact ⟨b, off, e, hb, hc 0 (by decide), hc 1 (by decide), hc 2 (by decide)⟩
theorem num_at {w : World} {B n i : Nat} {A : Option Addr} {l : List Int} (h : Ls NE w B A n l) {x : Int} (hx : l[i]? = some x) :
    ∃ b off, A = some ⟨b, off, none⟩ ∧ b < B ∧ w.cell? ⟨b, off + i, none⟩ = some (.int .i64 x) := by
  obtain ⟨b, off, e, hb, hc⟩ := h.at_ hx
  have := hc 0 (by decide)
  refine ⟨b, off, e, hb, ?_⟩
  simpa [NE] using this
/-- a placement as a value, and what it holds -/
structure PV where
  ver : Int
  nA : Option Addr
  nc : Nat
  nodes : List Int
  sA : Option Addr
  sc : Nat
  rs : List Rw3
def PV.pl (v : PV) : Pl := ⟨v.ver, v.nodes, v.rs.map (·.l)⟩
abbrev PV.val (v : PV) : Value := .agg #[.int .i64 v.ver, .slice v.nA v.nodes.length v.nc, .slice v.sA v.rs.length v.sc]
structure PVok (w : World) (B : Nat) (v : PV) : Prop where
  n : Ls NE w B v.nA v.nodes.length v.nodes
  nc : v.nodes.length ≤ v.nc
  nm : v.nc ≤ 9223372036854775807
  nn : v.nA = none → v.nc = 0
  s : Rws w B v.sA v.rs.length v.rs
  sc : v.rs.length ≤ v.sc
  sm : v.sc ≤ 9223372036854775807
  sn : v.sA = none → v.sc = 0
theorem PVok.below {w w' : World} {B C : Nat} {v : PV} (h : PVok w B v) (hb : Below C w w') (hB : B ≤ C) : PVok w' B v := ⟨h.n.below hb hB, h.nc, h.nm, h.nn, h.s.below hb hB, h.sc, h.sm, h.sn⟩
theorem PVok.drew {w : World} {B : Nat} {v : PV} (h : PVok w B v) : PVok w.drew B v := ⟨h.n.drew, h.nc, h.nm, h.nn, h.s.drew, h.sc, h.sm, h.sn⟩
theorem PVok.more {w : World} {B C : Nat} {v : PV} (h : PVok w B v) (hB : B ≤ C) : PVok w C v := ⟨h.n.more hB, h.nc, h.nm, h.nn, h.s.more hB, h.sc, h.sm, h.sn⟩
/-- two owners compared -/
theorem eq_owner (a b c a' b' c' : Int) (w : World) : (binOp .eql 44 (.agg #[.int .i64 a, .int .i64 b, .int .i64 c]) (.agg #[.int .i64 a', .int .i64 b', .int .i64 c'])).run Try.prog w = .ok (.bool (a == a' && b == b' && c == c')) w := by
  have hS : Try.prog.underlying 44 = some (.struct (Try.prog.fieldsOf 44)) := by kernel_rfl
  have hp : Try.prog.stoodInHeld 44 = false := by kernel_rfl
  have u3 := Try.underlying3
  have a3 := Try.isAgg3
  have z3 := Try.sizeOf3
  rw [run_eql_struct, show (10000 : Nat) = 9999 + 1 from rfl, run_equalIn_agg w 9999 44 _ _ hS hp]
  simp only [Program.fieldsOf, Try.underlying44]
  go_simp
  by_cases h1 : a = a' <;> by_cases h2 : b = b' <;> by_cases h3 : c = c' <;> simp [h1, h2, h3]
theorem guard_owner : Try.prog.eqGuardType Try.prog.depth 44 = false := by kernel_rfl
end Go.Proofs.Ytnpkhkhchimcnaa.pm
