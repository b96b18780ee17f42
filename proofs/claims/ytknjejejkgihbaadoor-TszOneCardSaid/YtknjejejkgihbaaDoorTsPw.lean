/-
  Tsz: the program's encoder as memory; what Put leaves of it; the variables that lie ahead.
-/
import Derived.Test.YtknjejejkgihbaaDoorTsSt
import Derived.Test.YtknjejejkgihbaaDoorBitsPut
import Derived.Test.YtknjejejkgihbaaDoorTsEncY
import Derived.Lib.TrailingZeros
namespace Go.Proofs.YtknjejejkgihbaaDoor.ts
open Go.ChangeShapes Go.WideShapes Go.ChangeAt Go.RowKit plain words ord mem bitm

def wS (a : Win) : Bool := a.isSome
def wA (a : Win) : Nat := match a with | none => 0 | some (x, _) => x
def wB (a : Win) : Nat := match a with | none => 0 | some (_, y) => y
/-- the encoder's cells -/
def encC (pw : Nat) (t d : Int) (v : Nat) (a : Win) (s : Nat) (b : Win) : Array Value :=
  #[.pointer (some ⟨pw, 0, none⟩), .int .i64 t, .int .i64 d, .int .u64 (v : Int), .bool (wS a), .int .i64 (wA a : Int), .int .i64 (wB a : Int), .int .u64 (s : Int), .bool (wS b), .int .i64 (wA b : Int), .int .i64 (wB b : Int)]
/-- the variables that the program's text lays -/
structure Lay (w : World) : Prop where
  cls : ∀ j (v : Int), ([7, 63, 9, 255, 12, 2047] : List Int)[j]? = some v → w.cell? ⟨0, j, none⟩ = some (.int .i64 v)
  tab : ∀ j, j < 64 → w.cell? ⟨1, j, none⟩ = some (.int .u8 (Lib.deBruijn64tab.getD j 0 : Nat))
theorem Lay.below {w w' : World} {H : Nat} (h : Lay w) (hb : Below H w w') (h2 : 2 ≤ H) : Lay w' :=
  ⟨fun j v hj => (hb.cell (p := ⟨0, j, none⟩) (show 0 < H by omega)).trans (h.cls j v hj), fun j hj => (hb.cell (p := ⟨1, j, none⟩) (show 1 < H by omega)).trans (h.tab j hj)⟩
structure PW (H : Nat) (w : World) (pe pw : Nat) (r : Option Nat) (X : List Bool) (t d : Int) (v : Nat) (a : Win) (s : Nat) (b : Win) : Prop where
  enc : w.heap[pe]? = some (.cells (encC pw t d v a s b) 51 (0, 0))
  wr : bitc.IsW w pw r X
  ne : pe ≠ pw
  nr : some pe ≠ r
  he : H ≤ pe
  hw : H ≤ pw
  hr : ∀ g, r = some g → H ≤ g
  lay : Lay w
  two : 2 ≤ H
def Touch (pe pw : Nat) (r : Option Nat) (k : Nat) : Prop := k = pe ∨ k = pw ∨ some k = r
def RetPW (H : Nat) (w : World) (pe pw : Nat) (r : Option Nat) (Y : List Bool) (t d : Int) (v : Nat) (a : Win) (s : Nat) (b : Win) (e : Ending) (w' : World) : Prop :=
  e = .returned (.tuple #[]) ∧ Chg (Touch pe pw r) w w' ∧ ∃ r' Y', Hid (Y' = Y) ∧ PW H w' pe pw r' Y' t d v a s b ∧ (r' = r ∨ ∃ g, r' = some g ∧ w.heap.size ≤ g)
theorem touch_chg {pe pw : Nat} {r r1 : Option Nat} {w w1 w2 : World} (h : Chg (Touch pe pw r) w w1) (hr : r1 = r ∨ ∃ g, r1 = some g ∧ w.heap.size ≤ g) (k : Chg (Touch pe pw r1) w1 w2) : Chg (Touch pe pw r) w w2 :=
  h.trans k (fun i hi e => by
    rcases e with e | e | e
    · exact .inl e
    · exact .inr (.inl e)
    · rcases hr with e2 | ⟨g, e2, hg⟩
      · exact .inr (.inr (e.trans e2))
      · rw [e2] at e; cases e; omega)
theorem two_r {r r1 r2 : Option Nat} {s s1 : Nat} (h : r1 = r ∨ ∃ g, r1 = some g ∧ s ≤ g) (k : r2 = r1 ∨ ∃ g, r2 = some g ∧ s1 ≤ g) (hs : s ≤ s1) : r2 = r ∨ ∃ g, r2 = some g ∧ s ≤ g := two_l h k hs
theorem PW.bel {H : Nat} {w w' : World} {pe pw : Nat} {r : Option Nat} {X : List Bool} {t d : Int} {v s : Nat} {a b : Win} (h : PW H w pe pw r X t d v a s b) (hs : H ≤ w.heap.size) (hc : Chg (Touch pe pw r) w w') : Below H w w' :=
  hc.below hs (fun k e => by
    rcases e with rfl | rfl | e
    · exact h.he
    · exact h.hw
    · exact h.hr k e.symm)
/-- one behind the other -/
theorem RetPW.then {H : Nat} {w w1 : World} {pe pw : Nat} {r r1 : Option Nat} {Y Y1 : List Bool} {t d : Int} {v s : Nat} {a b : Win} {e : Ending} {w2 : World} (hc : Chg (Touch pe pw r) w w1) (hr : r1 = r ∨ ∃ g, r1 = some g ∧ w.heap.size ≤ g)
    (h : RetPW H w1 pe pw r1 Y1 t d v a s b e w2) (hY : Y1 = Y) : RetPW H w pe pw r Y t d v a s b e w2 := by
  subst hY
  obtain ⟨rfl, hc2, r2, Y2, h1, h2, h3⟩ := h
  exact ⟨rfl, touch_chg hc hr hc2, r2, Y2, h1, h2, two_r hr h3 hc.size⟩
theorem PW.sz {H : Nat} {w : World} {pe pw : Nat} {r : Option Nat} {X : List Bool} {t d : Int} {v s : Nat} {a b : Win} (h : PW H w pe pw r X t d v a s b) : H ≤ w.heap.size := by
  have := blk_lt h.enc; have := h.he; omega
theorem PW.put {H : Nat} {w : World} {pe pw : Nat} {r : Option Nat} {X : List Bool} {t d : Int} {v s : Nat} {a b : Win} (h : PW H w pe pw r X t d v a s b) (hl : X.length ≤ 1000000000) (V : Nat) (hV : lt64 V) (n : Nat) (hn : n ≤ 64) :
    Calls Tryd.prog 40 #[.pointer (some ⟨pw, 0, none⟩), .int .u64 (V : Int), .int .i64 (n : Int)] w (RetPW H w pe pw r (X ++ bitsOf V n) t d v a s b) := by
  have hcl : bitc.cl (n : Int) = n := by unfold bitc.cl; omega
  have hsz := h.sz
  refine (bitc.put_x w pw r X V (n : Int) (by omega) h.wr (by omega) hV).mono ?_
  rintro e w' ⟨rfl, hc, r', hw', hr'⟩
  rw [hcl] at hw'
  have hc2 : Chg (Touch pe pw r) w w' := (chg_of hc).mono (fun i _ e => e.elim (fun e => .inr (.inl e)) (fun e => .inr (.inr e)))
  have hB := h.bel hsz hc2
  have henc := (chg_of hc).blk h.enc (by
    rintro (e | e)
    · exact h.ne e
    · exact h.nr e)
  refine ⟨rfl, hc2, r', _, Lib.hid rfl, ⟨henc, hw', h.ne, ?_, h.he, h.hw, ?_, h.lay.below hB h.two, h.two⟩, hr'⟩
  · rcases hr' with e | ⟨g, e, hg⟩
    · rw [e]; exact h.nr
    · rw [e]; have := blk_lt h.enc; rintro ⟨⟩; omega
  · intro g hg
    rcases hr' with e | ⟨g', e, hg'⟩
    · exact h.hr g (e ▸ hg)
    · rw [e] at hg; cases hg; omega
theorem PW.chgF {H : Nat} {w w' : World} {pe pw : Nat} {r r' : Option Nat} {X X' : List Bool} {t d : Int} {v s : Nat} {a b : Win} (h : PW H w pe pw r X t d v a s b) (h' : PW H w' pe pw r' X' t d v a s b) (hc : Chg (Touch pe pw r) w w') : Chg (fun k => k ≠ pe) w w' :=
  ⟨hc.os, hc.tape, hc.output, hc.size, fun k _ hn => by
    obtain rfl : k = pe := Classical.not_not.1 hn
    exact h'.enc.trans h.enc.symm⟩
theorem PW.chg {S : Nat → Prop} {H : Nat} {w w' : World} {pe pw : Nat} {r : Option Nat} {X : List Bool} {t d : Int} {v s : Nat} {a b : Win} (h : PW H w pe pw r X t d v a s b) (hc : Chg S w w') (h1 : ¬ S pe) (h2 : ¬ S pw) (h3 : ∀ g, r = some g → ¬ S g) (hS : ∀ k, S k → H ≤ k) : PW H w' pe pw r X t d v a s b :=
  ⟨hc.blk h.enc h1, h.wr.chg (chg_to hc) h2 h3, h.ne, h.nr, h.he, h.hw, h.hr, h.lay.below (hc.below h.sz hS) h.two, h.two⟩
theorem PW.below {H : Nat} {w w' : World} {pe pw : Nat} {r : Option Nat} {X : List Bool} {t d : Int} {v s : Nat} {a b : Win} (h : PW H w pe pw r X t d v a s b) (hb : Below w.heap.size w w') : PW H w' pe pw r X t d v a s b :=
  h.chg (Chg.of_below hb) (fun e => e) (fun e => e) (fun _ _ e => e) (fun _ e => e.elim)
theorem PW.drew {H : Nat} {w : World} {pe pw : Nat} {r : Option Nat} {X : List Bool} {t d : Int} {v s : Nat} {a b : Win} (h : PW H w pe pw r X t d v a s b) : PW H w.drew pe pw r X t d v a s b :=
  h.chg (S := fun _ => False) (Chg.refl _ _).drew (fun e => e) (fun e => e) (fun _ _ e => e) (fun _ e => e.elim)
/-- a store into the encoder's own cells -/
theorem PW.set {H : Nat} {w : World} {pe pw : Nat} {r : Option Nat} {X : List Bool} {t d t' d' : Int} {v s v' s' : Nat} {a b a' b' : Win} (h : PW H w pe pw r X t d v a s b) {w' : World} (hc : Chg (fun k => k = pe) w w')
    (he : w'.heap[pe]? = some (.cells (encC pw t' d' v' a' s' b') 51 (0, 0))) : PW H w' pe pw r X t' d' v' a' s' b' :=
  ⟨he, h.wr.chg (chg_to hc) (fun e => h.ne e.symm) (fun g hg e => h.nr (by rw [hg, e])), h.ne, h.nr, h.he, h.hw, h.hr, h.lay.below (hc.below h.sz (fun k e => by subst e; exact h.he)) h.two, h.two⟩
theorem PW.cells {H : Nat} {w : World} {pe pw : Nat} {r : Option Nat} {X : List Bool} {t d : Int} {v s : Nat} {a b : Win} (h : PW H w pe pw r X t d v a s b) :
    (w.cell? ⟨pe, 0, none⟩ = some (.pointer (some ⟨pw, 0, none⟩)) ∧ w.cell? ⟨pe, 1, none⟩ = some (.int .i64 t) ∧ w.cell? ⟨pe, 2, none⟩ = some (.int .i64 d)) ∧
    (w.cell? ⟨pe, 3, none⟩ = some (.int .u64 (v : Int)) ∧ w.cell? ⟨pe, 4, none⟩ = some (.bool (wS a)) ∧ w.cell? ⟨pe, 5, none⟩ = some (.int .i64 (wA a : Int)) ∧ w.cell? ⟨pe, 6, none⟩ = some (.int .i64 (wB a : Int))) ∧
    w.cell? ⟨pe, 7, none⟩ = some (.int .u64 (s : Int)) ∧ w.cell? ⟨pe, 8, none⟩ = some (.bool (wS b)) ∧ w.cell? ⟨pe, 9, none⟩ = some (.int .i64 (wA b : Int)) ∧ w.cell? ⟨pe, 10, none⟩ = some (.int .i64 (wB b : Int)) :=
  ⟨⟨by rw [cell_of_row _ _ _ _ _ _ h.enc]; rfl, by rw [cell_of_row _ _ _ _ _ _ h.enc]; rfl, by rw [cell_of_row _ _ _ _ _ _ h.enc]; rfl⟩, ⟨by rw [cell_of_row _ _ _ _ _ _ h.enc]; rfl, by rw [cell_of_row _ _ _ _ _ _ h.enc]; rfl, by rw [cell_of_row _ _ _ _ _ _ h.enc]; rfl, by rw [cell_of_row _ _ _ _ _ _ h.enc]; rfl⟩, by rw [cell_of_row _ _ _ _ _ _ h.enc]; rfl, by rw [cell_of_row _ _ _ _ _ _ h.enc]; rfl, by rw [cell_of_row _ _ _ _ _ _ h.enc]; rfl, by rw [cell_of_row _ _ _ _ _ _ h.enc]; rfl⟩
theorem PW.fz {H : Nat} {w : World} {pe pw : Nat} {r : Option Nat} {X : List Bool} {t d : Int} {v s : Nat} {a b : Win} (h : PW H w pe pw r X t d v a s b) (j : Nat) : w.frozen? ⟨pe, j, none⟩ = false := frozen_of_row _ _ j _ _ h.enc
set_option maxRecDepth 100000 in
theorem size_x (w : World) (S : Bool) (a b : Nat) (n : Nat) (hn : 64 - a - b = n) (h : a + b ≤ 64) :
    Calls Tryd.prog 56 #[.agg #[.bool S, .int .i64 (a : Int), .int .i64 (b : Int)]] w fun e w' => e = .returned (.int .i64 (n : Int)) ∧ Below w.heap.size w w' := by
  have h1 : IntKind.i64.wrap (64 - (a : Int)) = 64 - (a : Int) := IntWalk.i64_in _ (by omega)
  have h2 : IntKind.i64.wrap (64 - (a : Int) - (b : Int)) = (n : Int) := by rw [IntWalk.i64_in _ (by omega)]; omega
  have hb : Below w.heap.size w (w.alloc (.cells #[.bool S, .int .i64 (a : Int), .int .i64 (b : Int)] 47)) := (Below.refl _ _).alloc (Nat.le_refl _) _
  have HB := Lib.hid hb
  clear hb hn h
  go_enter Tryd.func56, Tryd.ntmps56
  go_wp2_with (fail)
  go_ret
  exact ⟨by simp [h1, h2], HB.out⟩
end Go.Proofs.YtknjejejkgihbaaDoor.ts
