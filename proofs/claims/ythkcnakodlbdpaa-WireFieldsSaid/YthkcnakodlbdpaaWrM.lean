/-
  Messages as bytes: mathematics. A coder is a step for each sort of field; 'pass' goes over a message's fields by a coder's steps.
-/
import Derived.Test.YthkcnakodlbdpaaUv
import Derived.Test.YthkcnakodlbdpaaCl
namespace Go.Proofs.Ythkcnakodlbdpaa.wr
open uvs cl

abbrev By := List UInt8
/-- error, state, value -/
abbrev R (α : Type) := Int × By × α
def bnd {α β : Type} (r : R α) (d : β) (k : By → α → R β) : R β := if r.1 = 0 then k r.2.1 r.2.2 else (r.1, r.2.1, d)
theorem bnd_ok {α β : Type} {r : R α} {d : β} {k : By → α → R β} (h : r.1 = 0) : bnd r d k = k r.2.1 r.2.2 := if_pos h
theorem bnd_no {α β : Type} {r : R α} {d : β} {k : By → α → R β} (h : r.1 ≠ 0) : bnd r d k = (r.1, r.2.1, d) := if_neg h
theorem bnd_assoc {α β γ : Type} (r : R α) (d : β) (d2 : γ) (k : By → α → R β) (k2 : By → β → R γ) : bnd (bnd r d k) d2 k2 = bnd r d2 fun s v => bnd (k s v) d2 k2 := by
  unfold bnd
  by_cases h : r.1 = 0
  · simp [h]
  · simp [h]
structure Cd where
  num : By → Int → Int → R Int
  cnt : By → Int → Int → R Int
  fix : By → Int → Nat → R Int
  txt : By → By → R By
  flg : By → Bool → R Bool
def numE (s : By) (v most : Int) : R Int := if v < 0 ∨ most < v then (1, s, v) else (0, s ++ uv v.toNat, v)
def cntE (s : By) (n most : Int) : R Int := if most < n then (52, s, n) else numE s n most
def fixE (s : By) (v : Int) (k : Nat) : R Int := (0, s ++ be k v.toNat, v)
def txtE (s id : By) : R By := if 16 < id.length then (80, s, id) else (0, s ++ uv id.length ++ id, id)
def flgE (s : By) (b : Bool) : R Bool := (0, s ++ [if b then 1 else 0], b)
def encC : Cd := ⟨numE, cntE, fixE, txtE, flgE⟩

abbrev Pt := Int × Int × Int
abbrev Mt := By × Int × Int × Int
structure Msg where
  kind : Int
  seq : Int
  epoch : Int
  space : Int
  shard : Int
  id : By
  block : Int
  rf : Int
  rt : Int
  p : Pt
  err : Int
  more : Bool
  pts : List Pt
  mts : List Mt
section
variable (C : Cd)
def passPt (s : By) (p : Pt) : R Pt := bnd (C.num s p.1 1099511627776) p fun s a => bnd (C.fix s p.2.1 8) p fun s b => bnd (C.fix s p.2.2 8) p fun s c => (0, s, (a, b, c))
def passRg (s : By) (f t : Int) : R (Int × Int) := bnd (C.num s f 1099511627777) (f, t) fun s a => bnd (C.num s t 1099511627777) (f, t) fun s b => (0, s, (a, b))
def passMt (s : By) (m : Mt) : R Mt := bnd (C.txt s m.1) m fun s i => bnd (C.num s m.2.1 1099511627776) m fun s b => bnd (C.num s m.2.2.1 512) m fun s c => bnd (C.fix s m.2.2.2 4) m fun s x => (0, s, (i, b, c, x % 4294967296))
def passL {α : Type} (item : By → α → R α) : By → List α → R (List α)
  | s, [] => (0, s, [])
  | s, x :: l => bnd (item s x) [] fun s y => bnd (passL item s l) [] fun s l' => (0, s, y :: l')
/-- as many as there are to be: what there was, and zeros -/
def fit {α : Type} (z : α) (l : List α) (n : Int) : List α := l.take n.toNat ++ List.replicate (n.toNat - l.length) z
def passList {α : Type} (z : α) (item : By → α → R α) (most : Int) (s : By) (l : List α) : R (List α) := bnd (C.cnt s l.length most) l fun s n => bnd (passL item s (fit z l n)) l fun s l' => (0, s, l')
def head (s : By) (m : Msg) : R Msg :=
  if m.kind = 1 ∨ m.kind = 3 then bnd (C.num s m.space 255) m fun s a => bnd (C.txt s m.id) m fun s i => (0, s, { m with space := a, id := i })
  else if m.kind = 5 ∨ m.kind = 7 then bnd (C.num s m.space 255) m fun s a => bnd (C.num s m.shard 255) m fun s b => (0, s, { m with space := a, shard := b })
  else bnd (C.num s m.err 255) m fun s a => (0, s, { m with err := a })
def blockId (s : By) (m : Msg) : R Msg := bnd (C.num s m.block 1099511627776) m fun s a => bnd (C.txt s m.id) m fun s i => (0, s, { m with block := a, id := i })
def tail (s : By) (m : Msg) : R Msg :=
  if m.kind = 1 then bnd (passPt C s m.p) m fun s a => (0, s, { m with p := a })
  else if m.kind = 3 then bnd (passRg C s m.rf m.rt) m fun s a => (0, s, { m with rf := a.1, rt := a.2 })
  else if m.kind = 5 then bnd (passRg C s m.rf m.rt) m fun s a => blockId C s { m with rf := a.1, rt := a.2 }
  else if m.kind = 7 then blockId C s m
  else if m.kind = 6 then bnd (C.flg s m.more) m fun s a => bnd (passList C ([], 0, 0, 0) (passMt C) 8 s m.mts) m fun s l => (0, s, { m with more := a, mts := l })
  else if m.kind = 4 ∨ m.kind = 8 then bnd (passList C (0, 0, 0) (passPt C) 512 s m.pts) m fun s l => (0, s, { m with pts := l })
  else (0, s, m)
def pass (s : By) (m : Msg) : R Msg := bnd (C.num s m.seq 1099511627776) m fun s a => bnd (C.num s m.epoch 1099511627776) m fun s b => bnd (head C s { m with seq := a, epoch := b }) m fun s m => tail C s m
end
/-- Encode's answer: bytes, error -/
def encM (m : Msg) : By × Int := if m.kind < 1 ∨ 8 < m.kind then ([], 1) else if (pass encC [UInt8.ofNat m.kind.toNat] m).1 = 0 then ((pass encC [UInt8.ofNat m.kind.toNat] m).2.1, 0) else ([], (pass encC [UInt8.ofNat m.kind.toNat] m).1)
/-- how much longer -/
theorem numE_len (s : By) (v most : Int) : (numE s v most).2.1.length ≤ s.length + 10 := by
  unfold numE; split
  · simp
  · have := (uv_len v.toNat).2; simp only [List.length_append]; omega
theorem cntE_len (s : By) (v most : Int) : (cntE s v most).2.1.length ≤ s.length + 10 := by
  unfold cntE; split
  · simp
  · exact numE_len _ _ _
theorem txtE_len (s i : By) : (txtE s i).2.1.length ≤ s.length + 30 := by
  unfold txtE; split
  · simp
  · have := (uv_len i.length).2; simp only [List.length_append]; omega
theorem fixE_len (s : By) (v k : Nat) : (fixE s (v : Int) k).2.1.length ≤ s.length + k := by unfold fixE; simp [be_len]
theorem flgE_len (s : By) (b : Bool) : (flgE s b).2.1.length ≤ s.length + 1 := by unfold flgE; simp
end Go.Proofs.Ythkcnakodlbdpaa.wr
