/-
  Tsz: the document's reader of bits; how it reads a time.
-/
import Derived.Test.YtknjejejkgihbaaDoorTsRefGet
import Derived.Test.YtknjejejkgihbaaDoorTsDcd
import Derived.Test.YtknjejejkgihbaaDoorMem
import Derived.Test.YtknjejejkgihbaaDoorTsVal
import Derived.Test.YtknjejejkgihbaaDoorUvCodeY
namespace Go.Proofs.YtknjejejkgihbaaDoor.ts
open Go.ChangeShapes Go.WideShapes Go.ChangeAt Go.RowKit plain words ord mem bitm uvs

/-- what is read, and what is left: o, before it; none: something has been missing -/
def Rel {α : Type} (f : List Bool → Option (α × List Bool)) (o : Option (List Bool)) (v : α) (o' : Option (List Bool)) : Prop :=
  (∃ X', o.bind f = some (v, X') ∧ o' = some X') ∨ (o.bind f = none ∧ o' = none)
theorem Rel.bad {α : Type} {f : List Bool → Option (α × List Bool)} {v : α} {o' : Option (List Bool)} (h : Rel f none v o') : o' = none := by
  rcases h with ⟨X', h, _⟩ | ⟨_, h⟩
  · cases h
  · exact h
theorem Rel.none' {α : Type} (f : List Bool → Option (α × List Bool)) (v : α) : Rel f none v none := .inr ⟨rfl, rfl⟩
/-- one step, then the rest -/
theorem Rel.step {α β : Type} {f : List Bool → Option (α × List Bool)} {g : List Bool → Option (β × List Bool)} {h : List Bool → Option (β × List Bool)} {o o1 o2 : Option (List Bool)} {v : α} {u : β} (h1 : Rel f o v o1) (h2 : Rel g o1 u o2)
    (hf : ∀ X, f X = none → h X = none) (hg : ∀ X X', f X = some (v, X') → h X = g X') : Rel h o u o2 := by
  rcases h1 with ⟨X1, e1, rfl⟩ | ⟨e1, rfl⟩
  · obtain ⟨X, rfl, e1⟩ := Option.bind_eq_some_iff.1 e1
    have := hg X X1 e1
    rcases h2 with ⟨X2, e2, rfl⟩ | ⟨e2, rfl⟩
    · exact .inl ⟨X2, by simp only [Option.bind_some] at e2 ⊢; rw [this, e2], rfl⟩
    · exact .inr ⟨by simp only [Option.bind_some] at e2 ⊢; rw [this, e2], rfl⟩
  · have hb := h2.bad
    subst hb
    refine .inr ⟨?_, rfl⟩
    cases o with
    | none => rfl
    | some X => exact hf X e1
/-- nothing more is read -/
theorem Rel.last {α β : Type} {f : List Bool → Option (α × List Bool)} {h : List Bool → Option (β × List Bool)} {o o1 : Option (List Bool)} {v : α} {u : β} (h1 : Rel f o v o1) (hf : ∀ X, f X = none → h X = none) (hg : ∀ X X', f X = some (v, X') → h X = some (u, X')) : Rel h o u o1 := by
  rcases h1 with ⟨X1, e1, rfl⟩ | ⟨e1, rfl⟩
  · obtain ⟨X, rfl, e1⟩ := Option.bind_eq_some_iff.1 e1
    exact .inl ⟨X1, hg X X1 e1, rfl⟩
  · refine .inr ⟨?_, rfl⟩
    cases o with
    | none => rfl
    | some X => exact hf X e1
theorem rel_t0 {o o1 : Option (List Bool)} (h1 : Rel (gb 1) o 0 o1) : Rel dTime o 0 o1 :=
  h1.last (fun X h => by unfold dTime; rw [h]; rfl) (fun X X' h => by unfold dTime; rw [h]; simp)
theorem rel_b {o1 o2 : Option (List Bool)} {V n : Nat} {u : Int} {z : Int} (h1 : Rel (gb n) o1 V o2) (hu : u = (V : Int) - z) : Rel (fun X => (gb n X).map fun q => ((q.1 : Int) - z, q.2)) o1 u o2 :=
  h1.last (fun X h => by simp only [h, Option.map_none]) (fun X X' h => by simp only [h, Option.map_some, hu])
/-- what follows the first one, the second, the third -/
def dT1 (X : List Bool) : Option (Int × List Bool) := (gb 1 X).bind fun q => if q.1 = 0 then (gb 7 q.2).map fun q => ((q.1 : Int) - 63, q.2) else
  (gb 1 q.2).bind fun q => if q.1 = 0 then (gb 9 q.2).map fun q => ((q.1 : Int) - 255, q.2) else
  (gb 1 q.2).bind fun q => if q.1 = 0 then (gb 12 q.2).map fun q => ((q.1 : Int) - 2047, q.2) else
  (gb 64 q.2).map fun q => (w64 q.1, q.2)
def dT2 (X : List Bool) : Option (Int × List Bool) := (gb 1 X).bind fun q => if q.1 = 0 then (gb 9 q.2).map fun q => ((q.1 : Int) - 255, q.2) else
  (gb 1 q.2).bind fun q => if q.1 = 0 then (gb 12 q.2).map fun q => ((q.1 : Int) - 2047, q.2) else
  (gb 64 q.2).map fun q => (w64 q.1, q.2)
def dT3 (X : List Bool) : Option (Int × List Bool) := (gb 1 X).bind fun q => if q.1 = 0 then (gb 12 q.2).map fun q => ((q.1 : Int) - 2047, q.2) else
  (gb 64 q.2).map fun q => (w64 q.1, q.2)
theorem rel_s0 {o o1 o2 : Option (List Bool)} {u : Int} (h1 : Rel (gb 1) o 1 o1) (h2 : Rel dT1 o1 u o2) : Rel dTime o u o2 :=
  h1.step h2 (fun X h => by unfold dTime; rw [h]; rfl) (fun X X' h => by unfold dTime; rw [h]; rfl)
theorem rel_s1 {o o1 o2 : Option (List Bool)} {u : Int} (h1 : Rel (gb 1) o 1 o1) (h2 : Rel dT2 o1 u o2) : Rel dT1 o u o2 :=
  h1.step h2 (fun X h => by unfold dT1; rw [h]; rfl) (fun X X' h => by unfold dT1; rw [h]; rfl)
theorem rel_s2 {o o1 o2 : Option (List Bool)} {u : Int} (h1 : Rel (gb 1) o 1 o1) (h2 : Rel dT3 o1 u o2) : Rel dT2 o u o2 :=
  h1.step h2 (fun X h => by unfold dT2; rw [h]; rfl) (fun X X' h => by unfold dT2; rw [h]; rfl)
theorem rel_c1 {o o1 o2 : Option (List Bool)} {u : Int} (h1 : Rel (gb 1) o 0 o1) (h2 : Rel (fun X => (gb 7 X).map fun q => ((q.1 : Int) - 63, q.2)) o1 u o2) : Rel dT1 o u o2 :=
  h1.step h2 (fun X h => by unfold dT1; rw [h]; rfl) (fun X X' h => by unfold dT1; rw [h]; rfl)
theorem rel_c2 {o o1 o2 : Option (List Bool)} {u : Int} (h1 : Rel (gb 1) o 0 o1) (h2 : Rel (fun X => (gb 9 X).map fun q => ((q.1 : Int) - 255, q.2)) o1 u o2) : Rel dT2 o u o2 :=
  h1.step h2 (fun X h => by unfold dT2; rw [h]; rfl) (fun X X' h => by unfold dT2; rw [h]; rfl)
theorem rel_c3 {o o1 o2 : Option (List Bool)} {u : Int} (h1 : Rel (gb 1) o 0 o1) (h2 : Rel (fun X => (gb 12 X).map fun q => ((q.1 : Int) - 2047, q.2)) o1 u o2) : Rel dT3 o u o2 :=
  h1.step h2 (fun X h => by unfold dT3; rw [h]; rfl) (fun X X' h => by unfold dT3; rw [h]; rfl)
theorem rel_c4 {o o1 o2 : Option (List Bool)} {V : Nat} (h1 : Rel (gb 1) o 1 o1) (h2 : Rel (gb 64) o1 V o2) : Rel dT3 o (w64 V) o2 :=
  h1.step (h2.last (h := fun X => (gb 64 X).map fun q => (w64 q.1, q.2)) (u := w64 V) (fun X h => by simp only [h, Option.map_none]) (fun X X' h => by simp only [h, Option.map_some])) (fun X h => by unfold dT3; rw [h]; rfl) (fun X X' h => by unfold dT3; rw [h]; rfl)

/-! ### in memory -/
/-- a reader at a block: its bits, whether something has been missing; the bits lie ahead of it -/
def RR (w : World) (q : Nat) (X : List Bool) (bad : Bool) : Prop := ∃ A c, w.heap[q]? = some (.cells #[.slice A X.length c, .bool bad] 71 (0, 0)) ∧ Bs w q A X.length (bitc.bys X) ∧ (A = none → c = 0) ∧ (X.length ≤ c ∧ c ≤ 9223372036854775807) ∧ X.length ≤ 1099511627776
def RS (w : World) (q : Nat) (o : Option (List Bool)) : Prop := match o with
  | some X => RR w q X false
  | none => ∃ X, RR w q X true
theorem RS.any {w : World} {q : Nat} {o : Option (List Bool)} (h : RS w q o) : ∃ X b, RR w q X b ∧ o = if b then none else some X := by
  cases o with
  | none => obtain ⟨X, h⟩ := h; exact ⟨X, true, h, rfl⟩
  | some X => exact ⟨X, false, h, rfl⟩
theorem chg_cellq {S : Nat → Prop} {w w' : World} {q : Nat} (hc : Chg S w w') (hS : ∀ k, S k → q ≤ k) (hq : q ≤ w.heap.size) : ∀ p : Addr, p.block < q → w'.cell? p = w.cell? p := fun p hp => by
  simp only [World.cell?, hc.block p.block (by omega) (fun e => by have := hS _ e; omega)]
theorem RR.chg {S : Nat → Prop} {w w' : World} {q : Nat} {X : List Bool} {b : Bool} (h : RR w q X b) (hc : Chg S w w') (hS : ∀ k, S k → q < k) : RR w' q X b := by
  obtain ⟨A, c, h1, h2, h3⟩ := h
  have hq := blk_lt h1
  exact ⟨A, c, hc.blk h1 (fun e => by have := hS _ e; omega), h2.keep (chg_cellq hc (fun k e => by have := hS k e; omega) (by omega)), h3⟩
theorem RS.chg {S : Nat → Prop} {w w' : World} {q : Nat} {o : Option (List Bool)} (h : RS w q o) (hc : Chg S w w') (hS : ∀ k, S k → q < k) : RS w' q o := by
  cases o with
  | none => obtain ⟨X, h⟩ := h; exact ⟨X, h.chg hc hS⟩
  | some X => exact RR.chg h hc hS
theorem RS.below {w w' : World} {q : Nat} {o : Option (List Bool)} (h : RS w q o) (hb : Below w.heap.size w w') : RS w' q o := h.chg (Chg.of_below hb) (fun _ e => e.elim)
theorem RS.blk {w : World} {q : Nat} {o : Option (List Bool)} (h : RS w q o) : ∃ v, w.heap[q]? = some (.cells #[v, .bool o.isNone] 71 (0, 0)) := by
  cases o with
  | none => obtain ⟨X, A, c, h, _⟩ := h; exact ⟨_, h⟩
  | some X => obtain ⟨A, c, h, _⟩ := h; exact ⟨_, h⟩
theorem RS.lt {w : World} {q : Nat} {o : Option (List Bool)} (h : RS w q o) : q < w.heap.size := by
  obtain ⟨v, h⟩ := h.blk
  exact blk_lt h
theorem RS.fail {w : World} {q : Nat} {o : Option (List Bool)} (h : RS w q o) : RS (w.setCell ⟨q, 1, none⟩ (.bool true)) q none := by
  obtain ⟨X, b, ⟨A, c, h1, h2, h3⟩, _⟩ := h.any
  refine ⟨X, A, c, by rw [heap_setCell_same _ _ _ _ _ _ h1]; rfl, h2.keep (chg_cellq (((Chg.refl (fun k => k = q) w).setCell (p := ⟨q, 1, none⟩) (fun _ => rfl) _)) (fun k e => by omega) (by have := blk_lt h1; omega)), h3⟩
theorem bys_drop (X : List Bool) (n : Nat) : (bitc.bys X).drop n = bitc.bys (X.drop n) := by simp [bitc.bys, List.map_drop]
def RetRg (w : World) (q n : Nat) (o : Option (List Bool)) (e : Ending) (w' : World) : Prop :=
  ∃ V o', e = .returned (.int .u64 ((V : Nat) : Int)) ∧ V < 2 ^ n ∧ RS w' q o' ∧ Chg (fun k => k = q) w w' ∧ Rel (gb n) o V o'
theorem set2p {T : TypeId} {w : World} {g : Nat} {a b a' b' : Value} (h : w.heap[g]? = some (.cells #[a, b] T (0, 0))) : ((w.setCell ⟨g, 0, none⟩ a').setCell ⟨g, 1, none⟩ b').heap[g]? = some (.cells #[a', b'] T (0, 0)) := by
  have h0 := heap_setCell_same w g 0 _ _ a' h
  have h1 := heap_setCell_same _ g 1 _ _ b' h0
  simpa using h1
set_option maxHeartbeats 1000000 in
set_option maxRecDepth 100000 in
theorem get_ry (w : World) (q n : Nat) (o : Option (List Bool)) (hn : n ≤ 64) (h : RS w q o) :
    Calls Tryd.prog 37 #[.pointer (some ⟨q, 0, none⟩), .int .i64 (n : Int)] w (RetRg w q n o) := by
  obtain ⟨X, b, ⟨A, c, h1, h2, h3, h4, h5⟩, ho⟩ := h.any
  cases b with
  | false =>
   have hcl : bitc.cl (n : Int) = n := by unfold bitc.cl; omega
   obtain ⟨L, hL⟩ : ∃ L, X.length = L := ⟨_, rfl⟩
   have c0 : w.cell? ⟨q, 0, none⟩ = some (.slice A L c) := by rw [cell_of_row _ _ _ _ _ _ h1, ← hL]; rfl
   have f0 : w.frozen? ⟨q, 0, none⟩ = false := frozen_of_row _ _ 0 _ _ h1
   have f1 : w.frozen? ⟨q, 1, none⟩ = false := frozen_of_row _ _ 1 _ _ h1
   have hq : q < w.heap.size := blk_lt h1
   by_cases hy : n ≤ L
   · have HG := Lib.hid (bitc.refget_x w q A L c X (n : Int) (by omega) (by rw [← hL]; exact h2) hL h3 (by rw [← hL]; exact h4) (by omega) (by rw [hcl]; exact hy))
     rw [hcl] at HG
     have H1 := Lib.hid h1
     have HX := Lib.hid hL
     have HO := Lib.hid ho
     have hb5 : L ≤ 1099511627776 := by omega
     clear h h1 h2 h3 h4 h5 hL ho
     go_enter Tryd.func37, Tryd.ntmps37
     go_wp2_with (fail)
     refine HG.out.mono ?_
     rintro e w1 ⟨A', c', rfl, hb', hA', hc', hsub, m, rfl⟩
     have c1 : (w.drewN m).cell? ⟨q, 0, none⟩ = some (.slice A L c) := c0
     have g1 : ((w.drewN m).setCell ⟨q, 0, none⟩ (.slice A' (L - n) c')).cell? ⟨q, 1, none⟩ = some (.bool false) := by
       rw [cell_of_row _ _ _ _ _ _ (heap_setCell_same (w.drewN m) q 0 _ _ (.slice A' (L - n) c') H1.out)]; simp
     have HB' := Lib.hid hb'
     have HS := Lib.hid (And.intro hA' hc')
     clear hb' hA' hc' hsub HG
     go_wp2_with (fail)
     all_goals
       go_ret
       obtain ⟨hA', hc'⟩ := HS.out
       have hV : val (X.take n) < 2 ^ n := Nat.lt_of_lt_of_le (val_lt _) (Nat.pow_le_pow_right (by omega) (by rw [List.length_take]; omega))
       have hlen : (X.drop n).length = L - n := by rw [List.length_drop, HX.out]
       have hrr : RR (((w.drewN m).setCell ⟨q, 0, none⟩ (.slice A' (L - n) c')).setCell ⟨q, 1, none⟩ (.bool false)) q (X.drop n) false := by
         refine ⟨A', c', by rw [hlen]; exact set2p (show (w.drewN m).heap[q]? = _ from H1.out), ?_, hA', by rw [hlen]; exact hc', by rw [hlen]; omega⟩
         rw [hlen]
         have hch : Chg (fun k => k = q) w (((w.drewN m).setCell ⟨q, 0, none⟩ (.slice A' (L - n) c')).setCell ⟨q, 1, none⟩ (.bool false)) := (((chg_of (bitc.chg_drewN (fun k => k = q) w m))).setCell (p := ⟨q, 0, none⟩) (fun _ => rfl) _).setCell (p := ⟨q, 1, none⟩) (fun _ => rfl) _
         exact HB'.out.keep (chg_cellq hch (fun k e => by omega) (by omega))
       have hch : Chg (fun k => k = q) w (((w.drewN m).setCell ⟨q, 0, none⟩ (.slice A' (L - n) c')).setCell ⟨q, 1, none⟩ (.bool false)) := (((chg_of (bitc.chg_drewN (fun k => k = q) w m))).setCell (p := ⟨q, 0, none⟩) (fun _ => rfl) _).setCell (p := ⟨q, 1, none⟩) (fun _ => rfl) _
       have hgb : gb n X = some (val (X.take n), X.drop n) := by unfold gb; rw [if_pos (by rw [HX.out]; exact hy)]
       rw [HO.out]
       first
         | exact ⟨val (X.take n), none, rfl, hV, ⟨_, hrr⟩, hch, .inr ⟨rfl, rfl⟩⟩
         | exact ⟨val (X.take n), some (X.drop n), rfl, hV, hrr, hch, .inl ⟨_, hgb, rfl⟩⟩
   · have HG := Lib.hid (bitc.refget_no w A L c (n : Int) (by omega) (by omega) (by rw [hcl]; exact hy))
     have H1 := Lib.hid h1
     have H2 := Lib.hid h2
     have HX := Lib.hid hL
     have HO := Lib.hid ho
     have H3 := Lib.hid (And.intro h3 (And.intro h4 h5))
     clear h h1 h2 h3 h4 h5 hL ho
     go_enter Tryd.func37, Tryd.ntmps37
     go_wp2_with (fail)
     refine HG.out.mono ?_
     rintro e w1 ⟨rfl, rfl⟩
     have g1 : (w.setCell ⟨q, 0, none⟩ (.slice A L c)).cell? ⟨q, 1, none⟩ = some (.bool false) := by
       rw [cell_of_row _ _ _ _ _ _ (heap_setCell_same w q 0 _ _ (.slice A L c) H1.out)]; simp
     clear HG
     go_wp2_with (fail)
     all_goals
       go_ret
       have hrr : RR ((w.setCell ⟨q, 0, none⟩ (.slice A L c)).setCell ⟨q, 1, none⟩ (.bool true)) q X true := by
         refine ⟨A, c, by rw [HX.out]; exact set2p H1.out, ?_, H3.out.1, H3.out.2.1, H3.out.2.2⟩
         have hch : Chg (fun k => k = q) w ((w.setCell ⟨q, 0, none⟩ (.slice A L c)).setCell ⟨q, 1, none⟩ (.bool true)) := ((Chg.refl (fun k => k = q) w).setCell (p := ⟨q, 0, none⟩) (fun _ => rfl) _).setCell (p := ⟨q, 1, none⟩) (fun _ => rfl) _
         exact H2.out.keep (chg_cellq hch (fun k e => by omega) (by omega))
       have hch : Chg (fun k => k = q) w ((w.setCell ⟨q, 0, none⟩ (.slice A L c)).setCell ⟨q, 1, none⟩ (.bool true)) := ((Chg.refl (fun k => k = q) w).setCell (p := ⟨q, 0, none⟩) (fun _ => rfl) _).setCell (p := ⟨q, 1, none⟩) (fun _ => rfl) _
       have hgb : gb n X = none := by unfold gb; rw [if_neg (by rw [HX.out]; exact hy)]
       refine ⟨0, none, rfl, Nat.two_pow_pos n, ⟨X, hrr⟩, hch, ?_⟩
       rw [HO.out]
       first | exact .inr ⟨rfl, rfl⟩ | exact .inr ⟨hgb, rfl⟩
  | true =>
   have hcl : bitc.cl (n : Int) = n := by unfold bitc.cl; omega
   obtain ⟨L, hL⟩ : ∃ L, X.length = L := ⟨_, rfl⟩
   have c0 : w.cell? ⟨q, 0, none⟩ = some (.slice A L c) := by rw [cell_of_row _ _ _ _ _ _ h1, ← hL]; rfl
   have f0 : w.frozen? ⟨q, 0, none⟩ = false := frozen_of_row _ _ 0 _ _ h1
   have f1 : w.frozen? ⟨q, 1, none⟩ = false := frozen_of_row _ _ 1 _ _ h1
   have hq : q < w.heap.size := blk_lt h1
   by_cases hy : n ≤ L
   · have HG := Lib.hid (bitc.refget_x w q A L c X (n : Int) (by omega) (by rw [← hL]; exact h2) hL h3 (by rw [← hL]; exact h4) (by omega) (by rw [hcl]; exact hy))
     rw [hcl] at HG
     have H1 := Lib.hid h1
     have HX := Lib.hid hL
     have HO := Lib.hid ho
     have hb5 : L ≤ 1099511627776 := by omega
     clear h h1 h2 h3 h4 h5 hL ho
     go_enter Tryd.func37, Tryd.ntmps37
     go_wp2_with (fail)
     refine HG.out.mono ?_
     rintro e w1 ⟨A', c', rfl, hb', hA', hc', hsub, m, rfl⟩
     have c1 : (w.drewN m).cell? ⟨q, 0, none⟩ = some (.slice A L c) := c0
     have g1 : ((w.drewN m).setCell ⟨q, 0, none⟩ (.slice A' (L - n) c')).cell? ⟨q, 1, none⟩ = some (.bool true) := by
       rw [cell_of_row _ _ _ _ _ _ (heap_setCell_same (w.drewN m) q 0 _ _ (.slice A' (L - n) c') H1.out)]; simp
     have HB' := Lib.hid hb'
     have HS := Lib.hid (And.intro hA' hc')
     clear hb' hA' hc' hsub HG
     go_wp2_with (fail)
     all_goals
       go_ret
       obtain ⟨hA', hc'⟩ := HS.out
       have hV : val (X.take n) < 2 ^ n := Nat.lt_of_lt_of_le (val_lt _) (Nat.pow_le_pow_right (by omega) (by rw [List.length_take]; omega))
       have hlen : (X.drop n).length = L - n := by rw [List.length_drop, HX.out]
       have hrr : RR (((w.drewN m).setCell ⟨q, 0, none⟩ (.slice A' (L - n) c')).setCell ⟨q, 1, none⟩ (.bool true)) q (X.drop n) true := by
         refine ⟨A', c', by rw [hlen]; exact set2p (show (w.drewN m).heap[q]? = _ from H1.out), ?_, hA', by rw [hlen]; exact hc', by rw [hlen]; omega⟩
         rw [hlen]
         have hch : Chg (fun k => k = q) w (((w.drewN m).setCell ⟨q, 0, none⟩ (.slice A' (L - n) c')).setCell ⟨q, 1, none⟩ (.bool true)) := (((chg_of (bitc.chg_drewN (fun k => k = q) w m))).setCell (p := ⟨q, 0, none⟩) (fun _ => rfl) _).setCell (p := ⟨q, 1, none⟩) (fun _ => rfl) _
         exact HB'.out.keep (chg_cellq hch (fun k e => by omega) (by omega))
       have hch : Chg (fun k => k = q) w (((w.drewN m).setCell ⟨q, 0, none⟩ (.slice A' (L - n) c')).setCell ⟨q, 1, none⟩ (.bool true)) := (((chg_of (bitc.chg_drewN (fun k => k = q) w m))).setCell (p := ⟨q, 0, none⟩) (fun _ => rfl) _).setCell (p := ⟨q, 1, none⟩) (fun _ => rfl) _
       have hgb : gb n X = some (val (X.take n), X.drop n) := by unfold gb; rw [if_pos (by rw [HX.out]; exact hy)]
       rw [HO.out]
       first
         | exact ⟨val (X.take n), none, rfl, hV, ⟨_, hrr⟩, hch, .inr ⟨rfl, rfl⟩⟩
         | exact ⟨val (X.take n), some (X.drop n), rfl, hV, hrr, hch, .inl ⟨_, hgb, rfl⟩⟩
   · have HG := Lib.hid (bitc.refget_no w A L c (n : Int) (by omega) (by omega) (by rw [hcl]; exact hy))
     have H1 := Lib.hid h1
     have H2 := Lib.hid h2
     have HX := Lib.hid hL
     have HO := Lib.hid ho
     have H3 := Lib.hid (And.intro h3 (And.intro h4 h5))
     clear h h1 h2 h3 h4 h5 hL ho
     go_enter Tryd.func37, Tryd.ntmps37
     go_wp2_with (fail)
     refine HG.out.mono ?_
     rintro e w1 ⟨rfl, rfl⟩
     have g1 : (w.setCell ⟨q, 0, none⟩ (.slice A L c)).cell? ⟨q, 1, none⟩ = some (.bool true) := by
       rw [cell_of_row _ _ _ _ _ _ (heap_setCell_same w q 0 _ _ (.slice A L c) H1.out)]; simp
     clear HG
     go_wp2_with (fail)
     all_goals
       go_ret
       have hrr : RR ((w.setCell ⟨q, 0, none⟩ (.slice A L c)).setCell ⟨q, 1, none⟩ (.bool true)) q X true := by
         refine ⟨A, c, by rw [HX.out]; exact set2p H1.out, ?_, H3.out.1, H3.out.2.1, H3.out.2.2⟩
         have hch : Chg (fun k => k = q) w ((w.setCell ⟨q, 0, none⟩ (.slice A L c)).setCell ⟨q, 1, none⟩ (.bool true)) := ((Chg.refl (fun k => k = q) w).setCell (p := ⟨q, 0, none⟩) (fun _ => rfl) _).setCell (p := ⟨q, 1, none⟩) (fun _ => rfl) _
         exact H2.out.keep (chg_cellq hch (fun k e => by omega) (by omega))
       have hch : Chg (fun k => k = q) w ((w.setCell ⟨q, 0, none⟩ (.slice A L c)).setCell ⟨q, 1, none⟩ (.bool true)) := ((Chg.refl (fun k => k = q) w).setCell (p := ⟨q, 0, none⟩) (fun _ => rfl) _).setCell (p := ⟨q, 1, none⟩) (fun _ => rfl) _
       have hgb : gb n X = none := by unfold gb; rw [if_neg (by rw [HX.out]; exact hy)]
       refine ⟨0, none, rfl, Nat.two_pow_pos n, ⟨X, hrr⟩, hch, ?_⟩
       rw [HO.out]
       first | exact .inr ⟨rfl, rfl⟩ | exact .inr ⟨hgb, rfl⟩
end Go.Proofs.YtknjejejkgihbaaDoor.ts
/-
  Tsz: how the document's reader reads a time and a value.
-/
namespace Go.Proofs.YtknjejejkgihbaaDoor.ts
open Go.ChangeShapes Go.WideShapes Go.ChangeAt Go.RowKit plain words ord mem bitm uvs

def RetRt (w : World) (q : Nat) (o : Option (List Bool)) (e : Ending) (w' : World) : Prop :=
  ∃ x o', e = .returned (.int .i64 x) ∧ (-9223372036854775808 ≤ x ∧ x ≤ 9223372036854775807) ∧ RS w' q o' ∧ Chg (fun k => k = q) w w' ∧ Rel dTime o x o'
theorem v12 {V n : Nat} (h : V < 2 ^ n) (hn : n ≤ 12) : (V : Int) ≤ 4096 := by
  have h2 := Nat.pow_le_pow_right (n := 2) (by omega) hn
  have h3 : (2 : Nat) ^ 12 = 4096 := by decide
  omega
set_option maxHeartbeats 1000000 in
set_option maxRecDepth 100000 in
theorem time_ry (w : World) (q : Nat) (o : Option (List Bool)) (h : RS w q o) :
    Calls Tryd.prog 38 #[.pointer (some ⟨q, 0, none⟩)] w (RetRt w q o) := by
  have HG := Lib.hid (get_ry w q 1 o (by omega) h)
  clear h
  go_enter Tryd.func38, Tryd.ntmps38
  go_wp2_with (fail)
  refine HG.out.mono ?_
  rintro e w1 ⟨V1, o1, rfl, hv, hr, hc, hrel⟩
  have R1 := Lib.hid hr
  have C1 := Lib.hid hc
  have L1 := Lib.hid hrel
  clear hr hc hrel HG
  by_cases hV : V1 = 0
  · subst hV
    go_wp2_with (fail)
    go_ret
    exact ⟨0, o1, rfl, by omega, R1.out, C1.out, rel_t0 L1.out⟩
  · obtain rfl : V1 = 1 := by omega
    have HG := Lib.hid (get_ry w1 q 1 o1 (by omega) R1.out)
    clear hv hV
    go_wp2_with (fail)
    refine HG.out.mono ?_
    rintro e w2 ⟨V2, o2, rfl, hv, hr, hc, hrel⟩
    have R2 := Lib.hid hr
    have C2 := Lib.hid (chg_trans C1.out hc)
    have L2 := Lib.hid hrel
    clear hr hc hrel HG
    by_cases hV : V2 = 0
    · subst hV
      have HG := Lib.hid (get_ry w2 q 7 o2 (by omega) R2.out)
      clear hv
      go_wp2_with (fail)
      refine HG.out.mono ?_
      rintro e wz ⟨V, oz, rfl, hv, hr, hc, hrel⟩
      have hv2 := v12 hv (by omega)
      have y1 : IntKind.i64.wrap (V : Int) = (V : Int) := IntWalk.i64_in _ (by omega)
      have y2 : IntKind.i64.wrap ((V : Int) - 63) = (V : Int) - 63 := IntWalk.i64_in _ (by omega)
      have RZ := Lib.hid hr
      have CZ := Lib.hid (chg_trans C2.out hc)
      have LZ := Lib.hid hrel
      clear hr hc hrel HG
      go_wp2_with (fail)
      go_ret
      exact ⟨(V : Int) - 63, oz, by first | rfl | (congr 2; omega), by omega, RZ.out, CZ.out, rel_s0 L1.out (rel_c1 L2.out (rel_b LZ.out rfl))⟩
    · obtain rfl : V2 = 1 := by omega
      have HG := Lib.hid (get_ry w2 q 1 o2 (by omega) R2.out)
      clear hv hV
      go_wp2_with (fail)
      refine HG.out.mono ?_
      rintro e w3 ⟨V3, o3, rfl, hv, hr, hc, hrel⟩
      have R3 := Lib.hid hr
      have C3 := Lib.hid (chg_trans C2.out hc)
      have L3 := Lib.hid hrel
      clear hr hc hrel HG
      by_cases hV : V3 = 0
      · subst hV
        have HG := Lib.hid (get_ry w3 q 9 o3 (by omega) R3.out)
        clear hv
        go_wp2_with (fail)
        refine HG.out.mono ?_
        rintro e wz ⟨V, oz, rfl, hv, hr, hc, hrel⟩
        have hv2 := v12 hv (by omega)
        have y1 : IntKind.i64.wrap (V : Int) = (V : Int) := IntWalk.i64_in _ (by omega)
        have y2 : IntKind.i64.wrap ((V : Int) - 255) = (V : Int) - 255 := IntWalk.i64_in _ (by omega)
        have RZ := Lib.hid hr
        have CZ := Lib.hid (chg_trans C3.out hc)
        have LZ := Lib.hid hrel
        clear hr hc hrel HG
        go_wp2_with (fail)
        go_ret
        exact ⟨(V : Int) - 255, oz, by first | rfl | (congr 2; omega), by omega, RZ.out, CZ.out, rel_s0 L1.out (rel_s1 L2.out (rel_c2 L3.out (rel_b LZ.out rfl)))⟩
      · obtain rfl : V3 = 1 := by omega
        have HG := Lib.hid (get_ry w3 q 1 o3 (by omega) R3.out)
        clear hv hV
        go_wp2_with (fail)
        refine HG.out.mono ?_
        rintro e w4 ⟨V4, o4, rfl, hv, hr, hc, hrel⟩
        have R4 := Lib.hid hr
        have C4 := Lib.hid (chg_trans C3.out hc)
        have L4 := Lib.hid hrel
        clear hr hc hrel HG
        by_cases hV : V4 = 0
        · subst hV
          have HG := Lib.hid (get_ry w4 q 12 o4 (by omega) R4.out)
          clear hv
          go_wp2_with (fail)
          refine HG.out.mono ?_
          rintro e wz ⟨V, oz, rfl, hv, hr, hc, hrel⟩
          have hv2 := v12 hv (by omega)
          have y1 : IntKind.i64.wrap (V : Int) = (V : Int) := IntWalk.i64_in _ (by omega)
          have y2 : IntKind.i64.wrap ((V : Int) - 2047) = (V : Int) - 2047 := IntWalk.i64_in _ (by omega)
          have RZ := Lib.hid hr
          have CZ := Lib.hid (chg_trans C4.out hc)
          have LZ := Lib.hid hrel
          clear hr hc hrel HG
          go_wp2_with (fail)
          go_ret
          exact ⟨(V : Int) - 2047, oz, by first | rfl | (congr 2; omega), by omega, RZ.out, CZ.out, rel_s0 L1.out (rel_s1 L2.out (rel_s2 L3.out (rel_c3 L4.out (rel_b LZ.out rfl))))⟩
        · obtain rfl : V4 = 1 := by omega
          have HG := Lib.hid (get_ry w4 q 64 o4 (by omega) R4.out)
          clear hv hV
          go_wp2_with (fail)
          refine HG.out.mono ?_
          rintro e wz ⟨V, oz, rfl, hv, hr, hc, hrel⟩
          have RZ := Lib.hid hr
          have CZ := Lib.hid (chg_trans C4.out hc)
          have LZ := Lib.hid hrel
          clear hr hc hrel HG hv
          go_wp2_with (fail)
          go_ret
          exact ⟨w64 V, oz, by simp [w64, wrap64], w64_bd _, RZ.out, CZ.out, rel_s0 L1.out (rel_s1 L2.out (rel_s2 L3.out (rel_c4 L4.out LZ.out)))⟩

/-! ### a value -/
def fW (a : Win) (X : List Bool) : Option ((Nat × Win) × List Bool) := (dWin a X).map fun r => ((r.1, r.2.1), r.2.2)
def fV (a : Win) (X : List Bool) : Option ((Nat × Win) × List Bool) := (dVal a X).map fun r => ((r.1, r.2.1), r.2.2)
def fNew (X : List Bool) : Option ((Nat × Win) × List Bool) := (gb 5 X).bind fun a => (gb 6 a.2).bind fun n => if a.1 + n.1 ≤ 63 then fW (some (a.1, 63 - a.1 - n.1)) n.2 else none
def fN2 (p : Nat) (X : List Bool) : Option ((Nat × Win) × List Bool) := (gb 6 X).bind fun n => if p + n.1 ≤ 63 then fW (some (p, 63 - p - n.1)) n.2 else none
def fV1 (a : Win) (X : List Bool) : Option ((Nat × Win) × List Bool) := (gb 1 X).bind fun q => if q.1 = 0 then fW a q.2 else fNew q.2
theorem fV_eq (a : Win) (X : List Bool) : fV a X = (gb 1 X).bind fun q => if q.1 = 0 then some ((0, a), q.2) else fV1 a q.2 := by
  unfold fV dVal fV1 fNew fW
  cases gb 1 X with
  | none => rfl
  | some z =>
    obtain ⟨b, X1⟩ := z
    simp only [Option.bind_some]
    by_cases hb : b = 0
    · simp [hb]
    · simp only [if_neg hb]
      cases gb 1 X1 with
      | none => rfl
      | some z =>
        obtain ⟨b2, X2⟩ := z
        simp only [Option.bind_some]
        by_cases hb2 : b2 = 0
        · simp [hb2]
        · simp only [if_neg hb2]
          cases gb 5 X2 with
          | none => rfl
          | some z =>
            obtain ⟨p, X3⟩ := z
            simp only [Option.bind_some]
            cases gb 6 X3 with
            | none => rfl
            | some z =>
              obtain ⟨n, X4⟩ := z
              simp only [Option.bind_some]
              by_cases hp : p + n ≤ 63
              · simp only [if_pos hp]
              · simp only [if_neg hp, Option.map_none]
theorem rv0 {a : Win} {o o1 : Option (List Bool)} (h1 : Rel (gb 1) o 0 o1) : Rel (fV a) o (0, a) o1 :=
  h1.last (fun X h => by rw [fV_eq, h]; rfl) (fun X X' h => by rw [fV_eq, h]; simp)
theorem rv1 {a : Win} {o o1 o2 : Option (List Bool)} {u : Nat × Win} (h1 : Rel (gb 1) o 1 o1) (h2 : Rel (fV1 a) o1 u o2) : Rel (fV a) o u o2 :=
  h1.step h2 (fun X h => by rw [fV_eq, h]; rfl) (fun X X' h => by rw [fV_eq, h]; rfl)
theorem rw0 {a : Win} {o o1 o2 : Option (List Bool)} {u : Nat × Win} (h1 : Rel (gb 1) o 0 o1) (h2 : Rel (fW a) o1 u o2) : Rel (fV1 a) o u o2 :=
  h1.step h2 (fun X h => by unfold fV1; rw [h]; rfl) (fun X X' h => by unfold fV1; rw [h]; rfl)
theorem rw1 {a : Win} {o o1 o2 : Option (List Bool)} {u : Nat × Win} (h1 : Rel (gb 1) o 1 o1) (h2 : Rel fNew o1 u o2) : Rel (fV1 a) o u o2 :=
  h1.step h2 (fun X h => by unfold fV1; rw [h]; rfl) (fun X X' h => by unfold fV1; rw [h]; rfl)
theorem rn1 {p : Nat} {o o1 o2 : Option (List Bool)} {u : Nat × Win} (h1 : Rel (gb 5) o p o1) (h2 : Rel (fN2 p) o1 u o2) : Rel fNew o u o2 :=
  h1.step h2 (fun X h => by unfold fNew; rw [h]; rfl) (fun X X' h => by unfold fNew fN2; rw [h]; rfl)
theorem rn2 {p n : Nat} {o o1 o2 : Option (List Bool)} {u : Nat × Win} (h1 : Rel (gb 6) o n o1) (hp : p + n ≤ 63) (h2 : Rel (fW (some (p, 63 - p - n))) o1 u o2) : Rel (fN2 p) o u o2 :=
  h1.step h2 (fun X h => by unfold fN2; rw [h]; rfl) (fun X X' h => by unfold fN2; rw [h]; simp [hp])
theorem rn2bad {p n : Nat} {o o1 : Option (List Bool)} {u : Nat × Win} (h1 : Rel (gb 6) o n o1) (hp : ¬ p + n ≤ 63) : Rel (fN2 p) o u none := by
  refine .inr ⟨?_, rfl⟩
  cases o with
  | none => rfl
  | some X =>
    simp only [Option.bind_some]
    unfold fN2
    rcases h1 with ⟨X1, e1, _⟩ | ⟨e1, _⟩
    · simp only [Option.bind_some] at e1; rw [e1]; simp [hp]
    · simp only [Option.bind_some] at e1; rw [e1]; rfl
theorem rwnone {o : Option (List Bool)} {u : Nat × Win} : Rel (fW none) o u none := .inr ⟨by cases o <;> rfl, rfl⟩
theorem rws {p n V : Nat} {o o1 : Option (List Bool)} (h1 : Rel (gb (64 - p - n)) o V o1) : Rel (fW (some (p, n))) o (V * 2 ^ n, some (p, n)) o1 :=
  h1.last (fun X h => by simp only [fW, dWin, h, Option.map_none]) (fun X X' h => by simp only [fW, dWin, h, Option.map_some])
end Go.Proofs.YtknjejejkgihbaaDoor.ts
/-
  Tsz: how the document's reader reads a value.
-/
namespace Go.Proofs.YtknjejejkgihbaaDoor.ts
open Go.ChangeShapes Go.WideShapes Go.ChangeAt Go.RowKit plain words ord mem bitm uvs

def RetRv (w : World) (q : Nat) (o : Option (List Bool)) (a : Win) (e : Ending) (w' : World) : Prop :=
  ∃ y a' o', e = .returned (.tuple #[.int .u64 ((y : Nat) : Int), .agg (winC a')]) ∧ lt64 y ∧ WinOk a' ∧ RS w' q o' ∧ Chg (fun k => k = q) w w' ∧ Rel (fV a) o (y, a') o'
theorem lt64_shl {p n V : Nat} (h : V < 2 ^ (64 - p - n)) (hp : p + n ≤ 63) : lt64 (V * 2 ^ n) := by
  unfold lt64
  rw [← p64]
  have h1 : V * 2 ^ n < 2 ^ (64 - p - n) * 2 ^ n := Nat.mul_lt_mul_of_pos_right h (Nat.two_pow_pos _)
  rw [← Nat.pow_add] at h1
  exact Nat.lt_of_lt_of_le h1 (Nat.pow_le_pow_right (by omega) (by omega))
theorem rs_set {w : World} {q g : Nat} {o : Option (List Bool)} (h : RS w q o) (hg : q < g) (x y z : Value) : RS (((w.setCell ⟨g, 0, none⟩ x).setCell ⟨g, 1, none⟩ y).setCell ⟨g, 2, none⟩ z) q o :=
  h.chg (S := fun k => k = g) ((((Chg.refl (fun k => k = g) w).setCell (p := ⟨g, 0, none⟩) (fun _ => rfl) x).setCell (p := ⟨g, 1, none⟩) (fun _ => rfl) y).setCell (p := ⟨g, 2, none⟩) (fun _ => rfl) z) (fun k e => by omega)
set_option maxHeartbeats 2000000 in
set_option maxRecDepth 100000 in
theorem value_none (w : World) (q : Nat) (o : Option (List Bool)) (h : RS w q o) :
    Calls Tryd.prog 39 #[.pointer (some ⟨q, 0, none⟩), .agg (winC (none))] w (RetRv w q o (none)) := by
  obtain ⟨N, hN⟩ : ∃ N, w.heap.size = N := ⟨_, rfl⟩
  have hq := h.lt
  rw [hN] at hq
  obtain ⟨wa, hwa⟩ : ∃ wa, (w.alloc (.cells #[.bool false, .int .i64 0, .int .i64 0] 59)).alloc (.cells #[.bool false, .int .i64 0, .int .i64 0] 59) = wa := ⟨_, rfl⟩
  have hba : Below w.heap.size w wa := by rw [← hwa]; exact ((Below.refl _ _).alloc (Nat.le_refl _) _).alloc (by simp) _
  have ga : wa.heap[N]? = some (.cells #[.bool false, .int .i64 0, .int .i64 0] 59 (0, 0)) := by rw [← hwa, ← hN]; exact alloc_old _ (alloc_new _ _)
  have gb' : wa.heap[N + 1]? = some (.cells #[.bool false, .int .i64 0, .int .i64 0] 59 (0, 0)) := by
    rw [← hwa, ← hN]
    have := alloc_new (w.alloc (.cells #[.bool false, .int .i64 0, .int .i64 0] 59)) (.cells #[.bool false, .int .i64 0, .int .i64 0] 59)
    rwa [World.size_alloc] at this
  have RA := Lib.hid (h.below hba)
  have CA := Lib.hid ((Chg.of_below hba).mono (S' := fun k => k = q) (fun _ _ e => e.elim))
  have GA := Lib.hid ga
  have GA2 := Lib.hid gb'
  have HW := Lib.hid (And.intro hN hwa)
  have HG := Lib.hid (get_ry wa q 1 o (by omega) RA.out)
  have hwz : w.heap.size ≤ N := by omega
  clear h hba ga gb' hwa
  simp only [winC]
  go_enter Tryd.func39, Tryd.ntmps39
  go_wp2_with (fail)
  rw [HW.out.2]
  refine HG.out.mono ?_
  rintro e w1 ⟨V1, o1, rfl, hv, hr, hc, hrel⟩
  have R1 := Lib.hid hr
  have C1 := Lib.hid (chg_trans CA.out hc)
  have L1 := Lib.hid hrel
  have G1 := Lib.hid (hc.blk GA.out (by omega))
  have H1 := Lib.hid (hc.blk GA2.out (by omega))
  clear hr hc hrel HG RA CA GA GA2
  by_cases hV : V1 = 0
  · subst hV
    obtain ⟨t0, t1, t2⟩ := cells3 G1.out
    have q0 := Wb.at_ t0
    have q1 := Wb.at_ t1
    have q2 := Wb.at_ t2
    have hl1 : N < w1.heap.size := blk_lt G1.out
    go_wp2_with (fail)
    refine wp_region_plan [([0, 1], some (2, true)), ([], none)] (by kernel_rfl) (by kernel_rfl) ?_
    refine seg_write _ (by dsimp only [pick, at_]) _ (by dsimp only [pick, at_]) ?_
    repeat (go_big_quiet_step (fail))
    refine wpQuiet_nil ?_
    intro K1 g1
    clear q0 q1 q2 t0 t1 t2
    have hbd : Below w1.heap.size w1 w1.drew := (Below.refl _ _).drew
    have hd0 : w1.drew.heap[N + 1]? = _ := H1.out
    obtain ⟨wd, hwd⟩ : ∃ wd, w1.drew = wd := ⟨_, rfl⟩
    rw [hwd] at hd0 hbd ⊢
    have HD := Lib.hid hd0
    have hl1b : N + 1 < wd.heap.size := blk_lt hd0
    have HBD := Lib.hid hbd
    clear hd0 hbd hwd
    obtain ⟨s0, s1, s2⟩ := cells3 HD.out
    obtain ⟨u0, u1, u2⟩ := frozen3 HD.out
    go_wp2_with (fail)
    refine seg_end _ (by dsimp only [pick, at_]) ?_
    refine wpQuiet_nil (NoPanic.normal ?_)
    go_wp2_with (fail)
    refine bodyPost_ret (results_tmp_cell rfl _ _ (N + 1) 59 _ _ _ rfl (set3 rfl HD.out) Tryd.underlying59 rfl infoW) rfl ?_
    exact ⟨0, none, o1, rfl, by unfold lt64; omega, win0, rs_set (R1.out.below HBD.out) (by omega) _ _ _, chg_set3 (chg_trans C1.out ((Chg.of_below HBD.out).mono (S' := fun k => k = q) (fun _ _ e => e.elim))) (by omega) _ _ _, rv0 L1.out⟩
  · obtain rfl : V1 = 1 := by omega
    have HG := Lib.hid (get_ry w1 q 1 o1 (by omega) R1.out)
    clear hv hV
    go_wp2_with (fail)
    refine HG.out.mono ?_
    rintro e w2 ⟨V2, o2, rfl, hv, hr, hc, hrel⟩
    have R2 := Lib.hid hr
    have C2 := Lib.hid (chg_trans C1.out hc)
    have L2 := Lib.hid hrel
    have G2 := Lib.hid (hc.blk G1.out (by omega))
    have H2 := Lib.hid (hc.blk H1.out (by omega))
    clear hr hc hrel HG R1 C1 G1 H1
    by_cases hV : V2 = 0
    · subst hV
      clear hv
      obtain ⟨k0, k1, k2⟩ := cells3 G2.out
      have hl2 : N < w2.heap.size := blk_lt G2.out
      obtain ⟨v0, hblk⟩ := R2.out.blk
      have f1 : w2.frozen? ⟨q, 1, none⟩ = false := frozen_of_row _ _ 1 _ _ hblk
      have d1 : w2.cell? ⟨q, 1, none⟩ = some (.bool o2.isNone) := by rw [cell_of_row _ _ _ _ _ _ hblk]; rfl
      obtain ⟨wb, hwb⟩ : ∃ wb, w2.setCell ⟨q, 1, none⟩ (.bool true) = wb := ⟨_, rfl⟩
      have RB := Lib.hid (show RS wb q none by rw [← hwb]; exact R2.out.fail)
      have CB := Lib.hid (show Chg (fun k => k = q) w wb by rw [← hwb]; exact C2.out.setCell (p := ⟨q, 1, none⟩) (fun _ => rfl) _)
      have GB2 := Lib.hid (show wb.heap[N + 1]? = some (.cells #[.bool false, .int .i64 0, .int .i64 0] 59 (0, 0)) by rw [← hwb]; exact (Below.heap_setCell _ ⟨q, 1, none⟩ _ (N + 1) (by simp only; omega)).trans H2.out)
      obtain ⟨s0, s1, s2⟩ := cells3 GB2.out
      obtain ⟨u0, u1, u2⟩ := frozen3 GB2.out
      have hlb : N + 1 < wb.heap.size := blk_lt GB2.out
      have hlq : q < w2.heap.size := R2.out.lt
      have HWB := Lib.hid hwb
      clear hwb hblk
      go_wp2_with (rw [HWB.out])
      refine bodyPost_ret (results_tmp_cell rfl _ _ (N + 1) 59 _ _ _ rfl (set3 rfl GB2.out) Tryd.underlying59 rfl infoW) rfl ?_
      exact ⟨0, none, none, rfl, by unfold lt64; omega, win0, rs_set RB.out (by omega) _ _ _, chg_set3 CB.out (by omega) _ _ _, rv1 L1.out (rw0 L2.out rwnone)⟩
    · obtain rfl : V2 = 1 := by omega
      have HG := Lib.hid (get_ry w2 q 5 o2 (by omega) R2.out)
      clear hv hV
      go_wp2_with (fail)
      refine HG.out.mono ?_
      rintro e u3 ⟨m, o3, rfl, hv5, hr, hc, hrel⟩
      have R3 := Lib.hid hr
      have C3 := Lib.hid (chg_trans C2.out hc)
      have L3 := Lib.hid hrel
      have G3 := Lib.hid (hc.blk G2.out (by omega))
      have H3 := Lib.hid (hc.blk H2.out (by omega))
      have y1 : IntKind.i64.wrap (m : Int) = (m : Int) := IntWalk.i64_in _ (by omega)
      clear hr hc hrel HG R2 C2 G2 H2
      have HG := Lib.hid (get_ry u3 q 6 o3 (by omega) R3.out)
      go_wp2_with (fail)
      refine HG.out.mono ?_
      rintro e w4 ⟨n, o4, rfl, hv6, hr, hc, hrel⟩
      have R4 := Lib.hid hr
      have C4 := Lib.hid (chg_trans C3.out hc)
      have L4 := Lib.hid hrel
      have G4 := Lib.hid (hc.blk G3.out (by omega))
      have H4 := Lib.hid (hc.blk H3.out (by omega))
      obtain ⟨T, hT⟩ : ∃ T : Int, 63 - (m : Int) - (n : Int) = T := ⟨_, rfl⟩
      have y2 : IntKind.i64.wrap (n : Int) = (n : Int) := IntWalk.i64_in _ (by omega)
      have y3 : IntKind.i64.wrap ((n : Int) + 1) = (n : Int) + 1 := IntWalk.i64_in _ (by omega)
      have y4 : IntKind.i64.wrap (64 - (m : Int)) = 64 - (m : Int) := IntWalk.i64_in _ (by omega)
      have y5 : IntKind.i64.wrap (64 - (m : Int) - ((n : Int) + 1)) = T := by rw [IntWalk.i64_in _ (by omega)]; omega
      have HT := Lib.hid hT
      obtain ⟨k0, k1, k2⟩ := cells3 G4.out
      obtain ⟨f0, f1, f2⟩ := frozen3 G4.out
      have hl4 : N < w4.heap.size := blk_lt G4.out
      obtain ⟨w5, hw5⟩ : ∃ w5, ((w4.setCell ⟨N, 0, none⟩ (.bool true)).setCell ⟨N, 1, none⟩ (.int .i64 (m : Int))).setCell ⟨N, 2, none⟩ (.int .i64 T) = w5 := ⟨_, rfl⟩
      have R5 := Lib.hid (show RS w5 q o4 by rw [← hw5]; exact rs_set R4.out (by omega) _ _ _)
      have C5 := Lib.hid (show Chg (fun k => k = q) w w5 by rw [← hw5]; exact chg_set3 C4.out (by omega) _ _ _)
      have G5 := Lib.hid (show w5.heap[N]? = some (.cells #[.bool true, .int .i64 (m : Int), .int .i64 T] 59 (0, 0)) by rw [← hw5]; exact set3 rfl G4.out)
      have hch5 : Chg (fun k => k = N) w4 w5 := by rw [← hw5]; exact (((Chg.refl (fun k => k = N) w4).setCell (p := ⟨N, 0, none⟩) (fun _ => rfl) _).setCell (p := ⟨N, 1, none⟩) (fun _ => rfl) _).setCell (p := ⟨N, 2, none⟩) (fun _ => rfl) _
      have H5 := Lib.hid (hch5.blk H4.out (by omega))
      have HW5 := Lib.hid hw5
      clear hr hc hrel HG R3 C3 G3 H3 hT hw5 hch5
      obtain ⟨z0, z1, z2⟩ := cells3 G5.out
      have hl5 : N < w5.heap.size := blk_lt G5.out
      by_cases hpn : m + n ≤ 63
      · obtain ⟨tt, htt⟩ : ∃ z, 63 - m - n = z := ⟨_, rfl⟩
        have hTq : T = (tt : Int) := by have := HT.out; omega
        subst hTq
        have hpq' : m + tt ≤ 63 := by omega
        have j1 : ¬ ((tt : Int) < 0) := by omega
        go_wp2_with (rw [HW5.out])
        clear k0 k1 k2 z0 z1 z2 f0 f1 f2 y1 y2 y3 y4 y5
        obtain ⟨nn, hnn⟩ : ∃ zz, 64 - m - tt = zz := ⟨_, rfl⟩
        have y6 : IntKind.i64.wrap (64 - (m : Int)) = 64 - (m : Int) := IntWalk.i64_in _ (by omega)
        have y7 : IntKind.i64.wrap (64 - (m : Int) - (tt : Int)) = (nn : Int) := by rw [IntWalk.i64_in _ (by omega)]; omega
        have i4 : (0 : Int) ≤ (tt : Int) := by omega
        have i5 : (tt : Int) < 64 := by omega
        obtain ⟨t0, t1, t2⟩ := row_at (F := fun k => k = q) G5.out (fun e => by omega)
        have hlN : N < w5.heap.size := blk_lt G5.out
        refine fr.wp_region_tree (F := fun k => k = q) (.reads [0, 1, 2, 3, 4, 5, 6, 8, 9, 11] (.one 7 false (.reads [10, 12] (.one 13 true .stop)))) (by kernel_rfl) (by kernel_rfl) ?_
        refine fr.tr_reads _ (by dsimp only [pick, at_]) ?_
        repeat (go_big_quiet_step (fail))
        refine wpQuiet_nil ?_
        clear t0 t1 t2
        refine fr.tr_one _ (by dsimp only [pick, at_]) ?_
        intro K1 g1 g2
        clear g2
        have hbd : Below w5.heap.size w5 w5.drew := (Below.refl _ _).drew
        have HG := Lib.hid (get_ry w5.drew q nn o4 (by omega) (R5.out.below hbd))
        have CD := Lib.hid (chg_trans C5.out ((Chg.of_below hbd).mono (S' := fun k => k = q) (fun _ _ e => e.elim)))
        have GD := Lib.hid (show w5.drew.heap[N]? = _ from G5.out)
        have GD2 := Lib.hid (show w5.drew.heap[N + 1]? = _ from H5.out)
        have CDD := Lib.hid ((Chg.of_below hbd).mono (S' := fun k => k = q) (fun _ _ e => e.elim))
        clear hbd
        go_wp2_with (fail)
        refine HG.out.mono ?_
        rintro e wz ⟨V, oz, rfl, hv, hr, hc, hrel⟩
        rw [← hnn] at hv hrel
        have hV64 := lt64_shl hv (by omega)
        have hsh := shl_z V tt hV64
        obtain ⟨Y, hY⟩ : ∃ Y, V * 2 ^ tt = Y := ⟨_, rfl⟩
        rw [hY] at hsh
        have HV := Lib.hid (hY ▸ hV64)
        have RZ := Lib.hid hr
        have CZ := Lib.hid (chg_trans CD.out hc)
        have cz := Lib.hid (chg_trans CDD.out hc)
        have GZ := Lib.hid (hc.blk GD.out (by omega))
        have GZ2 := Lib.hid (hc.blk GD2.out (by omega))
        have h0 : Rel (fV (none)) o (V * 2 ^ tt, some (m, tt)) oz := (rv1 L1.out (rw1 L2.out (rn1 L3.out (rn2 L4.out hpn (by rw [htt]; exact rws hrel)))))
        rw [hY] at h0
        have LZ := Lib.hid h0
        clear h0
        clear hr hc hrel HG hv hV64 hY
        go_wp2_with (fail)
        refine g1 _ _ cz.out ?_
        clear g1
        refine fr.tr_reads _ (by dsimp only [pick, at_]) ?_
        repeat (go_big_quiet_step (fail))
        refine wpQuiet_nil ?_
        refine fr.tr_write _ (by dsimp only [pick, at_]) ?_
        intro K1 g1
        obtain ⟨s0, s1, s2⟩ := cells3 GZ2.out
        obtain ⟨u0, u1, u2⟩ := frozen3 GZ2.out
        have hlz : N + 1 < wz.heap.size := blk_lt GZ2.out
        go_wp2_with (fail)
        refine fr.tr_stop ?_
        refine NoPanic.normal ?_
        go_wp2_with (fail)
        refine bodyPost_ret (results_tmp_cell rfl _ _ (N + 1) 59 _ _ _ rfl (set3 rfl GZ2.out) Tryd.underlying59 rfl infoW) rfl ?_
        exact ⟨Y, some (m, tt), oz, rfl, HV.out, fun x y e => by cases e; omega, rs_set RZ.out (by omega) _ _ _, chg_set3 CZ.out (by omega) _ _ _, LZ.out⟩
      · have j1 : T < 0 := by have := HT.out; omega
        obtain ⟨v0, hblk⟩ := R5.out.blk
        have f1 : w5.frozen? ⟨q, 1, none⟩ = false := frozen_of_row _ _ 1 _ _ hblk
        have d1 : w5.cell? ⟨q, 1, none⟩ = some (.bool o4.isNone) := by rw [cell_of_row _ _ _ _ _ _ hblk]; rfl
        obtain ⟨wb, hwb⟩ : ∃ wb, w5.setCell ⟨q, 1, none⟩ (.bool true) = wb := ⟨_, rfl⟩
        have RB := Lib.hid (show RS wb q none by rw [← hwb]; exact R5.out.fail)
        have CB := Lib.hid (show Chg (fun k => k = q) w wb by rw [← hwb]; exact C5.out.setCell (p := ⟨q, 1, none⟩) (fun _ => rfl) _)
        have GB2 := Lib.hid (show wb.heap[N + 1]? = some (.cells #[.bool false, .int .i64 0, .int .i64 0] 59 (0, 0)) by rw [← hwb]; exact (Below.heap_setCell _ ⟨q, 1, none⟩ _ (N + 1) (by simp only; omega)).trans H5.out)
        obtain ⟨s0, s1, s2⟩ := cells3 GB2.out
        obtain ⟨u0, u1, u2⟩ := frozen3 GB2.out
        have hlb : N + 1 < wb.heap.size := blk_lt GB2.out
        have hlq : q < w5.heap.size := R5.out.lt
        have HWB := Lib.hid hwb
        clear hwb hblk
        go_wp2_with (first | rw [HW5.out] | rw [HWB.out])
        refine bodyPost_ret (results_tmp_cell rfl _ _ (N + 1) 59 _ _ _ rfl (set3 rfl GB2.out) Tryd.underlying59 rfl infoW) rfl ?_
        exact ⟨0, none, none, rfl, by unfold lt64; omega, win0, rs_set RB.out (by omega) _ _ _, chg_set3 CB.out (by omega) _ _ _, rv1 L1.out (rw1 L2.out (rn1 L3.out (rn2bad L4.out hpn)))⟩
set_option maxHeartbeats 2000000 in
set_option maxRecDepth 100000 in
theorem value_some (w : World) (q : Nat) (o : Option (List Bool)) (h : RS w q o) (p qq : Nat) (hpq : p + qq ≤ 63) :
    Calls Tryd.prog 39 #[.pointer (some ⟨q, 0, none⟩), .agg (winC (some (p, qq)))] w (RetRv w q o (some (p, qq))) := by
  obtain ⟨N, hN⟩ : ∃ N, w.heap.size = N := ⟨_, rfl⟩
  have hq := h.lt
  rw [hN] at hq
  obtain ⟨wa, hwa⟩ : ∃ wa, (w.alloc (.cells #[.bool true, .int .i64 (p : Int), .int .i64 (qq : Int)] 59)).alloc (.cells #[.bool false, .int .i64 0, .int .i64 0] 59) = wa := ⟨_, rfl⟩
  have hba : Below w.heap.size w wa := by rw [← hwa]; exact ((Below.refl _ _).alloc (Nat.le_refl _) _).alloc (by simp) _
  have ga : wa.heap[N]? = some (.cells #[.bool true, .int .i64 (p : Int), .int .i64 (qq : Int)] 59 (0, 0)) := by rw [← hwa, ← hN]; exact alloc_old _ (alloc_new _ _)
  have gb' : wa.heap[N + 1]? = some (.cells #[.bool false, .int .i64 0, .int .i64 0] 59 (0, 0)) := by
    rw [← hwa, ← hN]
    have := alloc_new (w.alloc (.cells #[.bool true, .int .i64 (p : Int), .int .i64 (qq : Int)] 59)) (.cells #[.bool false, .int .i64 0, .int .i64 0] 59)
    rwa [World.size_alloc] at this
  have RA := Lib.hid (h.below hba)
  have CA := Lib.hid ((Chg.of_below hba).mono (S' := fun k => k = q) (fun _ _ e => e.elim))
  have GA := Lib.hid ga
  have GA2 := Lib.hid gb'
  have HW := Lib.hid (And.intro hN hwa)
  have HG := Lib.hid (get_ry wa q 1 o (by omega) RA.out)
  have hwz : w.heap.size ≤ N := by omega
  clear h hba ga gb' hwa
  simp only [winC]
  go_enter Tryd.func39, Tryd.ntmps39
  go_wp2_with (fail)
  rw [HW.out.2]
  refine HG.out.mono ?_
  rintro e w1 ⟨V1, o1, rfl, hv, hr, hc, hrel⟩
  have R1 := Lib.hid hr
  have C1 := Lib.hid (chg_trans CA.out hc)
  have L1 := Lib.hid hrel
  have G1 := Lib.hid (hc.blk GA.out (by omega))
  have H1 := Lib.hid (hc.blk GA2.out (by omega))
  clear hr hc hrel HG RA CA GA GA2
  by_cases hV : V1 = 0
  · subst hV
    obtain ⟨t0, t1, t2⟩ := cells3 G1.out
    have q0 := Wb.at_ t0
    have q1 := Wb.at_ t1
    have q2 := Wb.at_ t2
    have hl1 : N < w1.heap.size := blk_lt G1.out
    go_wp2_with (fail)
    refine wp_region_plan [([0, 1], some (2, true)), ([], none)] (by kernel_rfl) (by kernel_rfl) ?_
    refine seg_write _ (by dsimp only [pick, at_]) _ (by dsimp only [pick, at_]) ?_
    repeat (go_big_quiet_step (fail))
    refine wpQuiet_nil ?_
    intro K1 g1
    clear q0 q1 q2 t0 t1 t2
    have hbd : Below w1.heap.size w1 w1.drew := (Below.refl _ _).drew
    have hd0 : w1.drew.heap[N + 1]? = _ := H1.out
    obtain ⟨wd, hwd⟩ : ∃ wd, w1.drew = wd := ⟨_, rfl⟩
    rw [hwd] at hd0 hbd ⊢
    have HD := Lib.hid hd0
    have hl1b : N + 1 < wd.heap.size := blk_lt hd0
    have HBD := Lib.hid hbd
    clear hd0 hbd hwd
    obtain ⟨s0, s1, s2⟩ := cells3 HD.out
    obtain ⟨u0, u1, u2⟩ := frozen3 HD.out
    go_wp2_with (fail)
    refine seg_end _ (by dsimp only [pick, at_]) ?_
    refine wpQuiet_nil (NoPanic.normal ?_)
    go_wp2_with (fail)
    refine bodyPost_ret (results_tmp_cell rfl _ _ (N + 1) 59 _ _ _ rfl (set3 rfl HD.out) Tryd.underlying59 rfl infoW) rfl ?_
    exact ⟨0, some (p, qq), o1, rfl, by unfold lt64; omega, fun x y e => by cases e; omega, rs_set (R1.out.below HBD.out) (by omega) _ _ _, chg_set3 (chg_trans C1.out ((Chg.of_below HBD.out).mono (S' := fun k => k = q) (fun _ _ e => e.elim))) (by omega) _ _ _, rv0 L1.out⟩
  · obtain rfl : V1 = 1 := by omega
    have HG := Lib.hid (get_ry w1 q 1 o1 (by omega) R1.out)
    clear hv hV
    go_wp2_with (fail)
    refine HG.out.mono ?_
    rintro e w2 ⟨V2, o2, rfl, hv, hr, hc, hrel⟩
    have R2 := Lib.hid hr
    have C2 := Lib.hid (chg_trans C1.out hc)
    have L2 := Lib.hid hrel
    have G2 := Lib.hid (hc.blk G1.out (by omega))
    have H2 := Lib.hid (hc.blk H1.out (by omega))
    clear hr hc hrel HG R1 C1 G1 H1
    by_cases hV : V2 = 0
    · subst hV
      clear hv
      obtain ⟨k0, k1, k2⟩ := cells3 G2.out
      have hl2 : N < w2.heap.size := blk_lt G2.out
      have j1 : ¬ ((qq : Int) < 0) := by omega
      go_wp2_with (fail)
      clear k0 k1 k2
      obtain ⟨nn, hnn⟩ : ∃ zz, 64 - p - qq = zz := ⟨_, rfl⟩
      have y6 : IntKind.i64.wrap (64 - (p : Int)) = 64 - (p : Int) := IntWalk.i64_in _ (by omega)
      have y7 : IntKind.i64.wrap (64 - (p : Int) - (qq : Int)) = (nn : Int) := by rw [IntWalk.i64_in _ (by omega)]; omega
      have i4 : (0 : Int) ≤ (qq : Int) := by omega
      have i5 : (qq : Int) < 64 := by omega
      obtain ⟨t0, t1, t2⟩ := row_at (F := fun k => k = q) G2.out (fun e => by omega)
      have hlN : N < w2.heap.size := blk_lt G2.out
      refine fr.wp_region_tree (F := fun k => k = q) (.reads [0, 1, 2, 3, 4, 5, 6, 8, 9, 11] (.one 7 false (.reads [10, 12] (.one 13 true .stop)))) (by kernel_rfl) (by kernel_rfl) ?_
      refine fr.tr_reads _ (by dsimp only [pick, at_]) ?_
      repeat (go_big_quiet_step (fail))
      refine wpQuiet_nil ?_
      clear t0 t1 t2
      refine fr.tr_one _ (by dsimp only [pick, at_]) ?_
      intro K1 g1 g2
      clear g2
      have hbd : Below w2.heap.size w2 w2.drew := (Below.refl _ _).drew
      have HG := Lib.hid (get_ry w2.drew q nn o2 (by omega) (R2.out.below hbd))
      have CD := Lib.hid (chg_trans C2.out ((Chg.of_below hbd).mono (S' := fun k => k = q) (fun _ _ e => e.elim)))
      have GD := Lib.hid (show w2.drew.heap[N]? = _ from G2.out)
      have GD2 := Lib.hid (show w2.drew.heap[N + 1]? = _ from H2.out)
      have CDD := Lib.hid ((Chg.of_below hbd).mono (S' := fun k => k = q) (fun _ _ e => e.elim))
      clear hbd
      go_wp2_with (fail)
      refine HG.out.mono ?_
      rintro e wz ⟨V, oz, rfl, hv, hr, hc, hrel⟩
      rw [← hnn] at hv hrel
      have hV64 := lt64_shl hv (by omega)
      have hsh := shl_z V qq hV64
      obtain ⟨Y, hY⟩ : ∃ Y, V * 2 ^ qq = Y := ⟨_, rfl⟩
      rw [hY] at hsh
      have HV := Lib.hid (hY ▸ hV64)
      have RZ := Lib.hid hr
      have CZ := Lib.hid (chg_trans CD.out hc)
      have cz := Lib.hid (chg_trans CDD.out hc)
      have GZ := Lib.hid (hc.blk GD.out (by omega))
      have GZ2 := Lib.hid (hc.blk GD2.out (by omega))
      have h0 : Rel (fV (some (p, qq))) o (V * 2 ^ qq, some (p, qq)) oz := (rv1 L1.out (rw0 L2.out (rws hrel)))
      rw [hY] at h0
      have LZ := Lib.hid h0
      clear h0
      clear hr hc hrel HG hv hV64 hY
      go_wp2_with (fail)
      refine g1 _ _ cz.out ?_
      clear g1
      refine fr.tr_reads _ (by dsimp only [pick, at_]) ?_
      repeat (go_big_quiet_step (fail))
      refine wpQuiet_nil ?_
      refine fr.tr_write _ (by dsimp only [pick, at_]) ?_
      intro K1 g1
      obtain ⟨s0, s1, s2⟩ := cells3 GZ2.out
      obtain ⟨u0, u1, u2⟩ := frozen3 GZ2.out
      have hlz : N + 1 < wz.heap.size := blk_lt GZ2.out
      go_wp2_with (fail)
      refine fr.tr_stop ?_
      refine NoPanic.normal ?_
      go_wp2_with (fail)
      refine bodyPost_ret (results_tmp_cell rfl _ _ (N + 1) 59 _ _ _ rfl (set3 rfl GZ2.out) Tryd.underlying59 rfl infoW) rfl ?_
      exact ⟨Y, some (p, qq), oz, rfl, HV.out, fun x y e => by cases e; omega, rs_set RZ.out (by omega) _ _ _, chg_set3 CZ.out (by omega) _ _ _, LZ.out⟩
    · obtain rfl : V2 = 1 := by omega
      have HG := Lib.hid (get_ry w2 q 5 o2 (by omega) R2.out)
      clear hv hV
      go_wp2_with (fail)
      refine HG.out.mono ?_
      rintro e u3 ⟨m, o3, rfl, hv5, hr, hc, hrel⟩
      have R3 := Lib.hid hr
      have C3 := Lib.hid (chg_trans C2.out hc)
      have L3 := Lib.hid hrel
      have G3 := Lib.hid (hc.blk G2.out (by omega))
      have H3 := Lib.hid (hc.blk H2.out (by omega))
      have y1 : IntKind.i64.wrap (m : Int) = (m : Int) := IntWalk.i64_in _ (by omega)
      clear hr hc hrel HG R2 C2 G2 H2
      have HG := Lib.hid (get_ry u3 q 6 o3 (by omega) R3.out)
      go_wp2_with (fail)
      refine HG.out.mono ?_
      rintro e w4 ⟨n, o4, rfl, hv6, hr, hc, hrel⟩
      have R4 := Lib.hid hr
      have C4 := Lib.hid (chg_trans C3.out hc)
      have L4 := Lib.hid hrel
      have G4 := Lib.hid (hc.blk G3.out (by omega))
      have H4 := Lib.hid (hc.blk H3.out (by omega))
      obtain ⟨T, hT⟩ : ∃ T : Int, 63 - (m : Int) - (n : Int) = T := ⟨_, rfl⟩
      have y2 : IntKind.i64.wrap (n : Int) = (n : Int) := IntWalk.i64_in _ (by omega)
      have y3 : IntKind.i64.wrap ((n : Int) + 1) = (n : Int) + 1 := IntWalk.i64_in _ (by omega)
      have y4 : IntKind.i64.wrap (64 - (m : Int)) = 64 - (m : Int) := IntWalk.i64_in _ (by omega)
      have y5 : IntKind.i64.wrap (64 - (m : Int) - ((n : Int) + 1)) = T := by rw [IntWalk.i64_in _ (by omega)]; omega
      have HT := Lib.hid hT
      obtain ⟨k0, k1, k2⟩ := cells3 G4.out
      obtain ⟨f0, f1, f2⟩ := frozen3 G4.out
      have hl4 : N < w4.heap.size := blk_lt G4.out
      obtain ⟨w5, hw5⟩ : ∃ w5, ((w4.setCell ⟨N, 0, none⟩ (.bool true)).setCell ⟨N, 1, none⟩ (.int .i64 (m : Int))).setCell ⟨N, 2, none⟩ (.int .i64 T) = w5 := ⟨_, rfl⟩
      have R5 := Lib.hid (show RS w5 q o4 by rw [← hw5]; exact rs_set R4.out (by omega) _ _ _)
      have C5 := Lib.hid (show Chg (fun k => k = q) w w5 by rw [← hw5]; exact chg_set3 C4.out (by omega) _ _ _)
      have G5 := Lib.hid (show w5.heap[N]? = some (.cells #[.bool true, .int .i64 (m : Int), .int .i64 T] 59 (0, 0)) by rw [← hw5]; exact set3 rfl G4.out)
      have hch5 : Chg (fun k => k = N) w4 w5 := by rw [← hw5]; exact (((Chg.refl (fun k => k = N) w4).setCell (p := ⟨N, 0, none⟩) (fun _ => rfl) _).setCell (p := ⟨N, 1, none⟩) (fun _ => rfl) _).setCell (p := ⟨N, 2, none⟩) (fun _ => rfl) _
      have H5 := Lib.hid (hch5.blk H4.out (by omega))
      have HW5 := Lib.hid hw5
      clear hr hc hrel HG R3 C3 G3 H3 hT hw5 hch5
      obtain ⟨z0, z1, z2⟩ := cells3 G5.out
      have hl5 : N < w5.heap.size := blk_lt G5.out
      by_cases hpn : m + n ≤ 63
      · obtain ⟨tt, htt⟩ : ∃ z, 63 - m - n = z := ⟨_, rfl⟩
        have hTq : T = (tt : Int) := by have := HT.out; omega
        subst hTq
        have hpq' : m + tt ≤ 63 := by omega
        have j1 : ¬ ((tt : Int) < 0) := by omega
        go_wp2_with (rw [HW5.out])
        clear k0 k1 k2 z0 z1 z2 f0 f1 f2 y1 y2 y3 y4 y5
        obtain ⟨nn, hnn⟩ : ∃ zz, 64 - m - tt = zz := ⟨_, rfl⟩
        have y6 : IntKind.i64.wrap (64 - (m : Int)) = 64 - (m : Int) := IntWalk.i64_in _ (by omega)
        have y7 : IntKind.i64.wrap (64 - (m : Int) - (tt : Int)) = (nn : Int) := by rw [IntWalk.i64_in _ (by omega)]; omega
        have i4 : (0 : Int) ≤ (tt : Int) := by omega
        have i5 : (tt : Int) < 64 := by omega
        obtain ⟨t0, t1, t2⟩ := row_at (F := fun k => k = q) G5.out (fun e => by omega)
        have hlN : N < w5.heap.size := blk_lt G5.out
        refine fr.wp_region_tree (F := fun k => k = q) (.reads [0, 1, 2, 3, 4, 5, 6, 8, 9, 11] (.one 7 false (.reads [10, 12] (.one 13 true .stop)))) (by kernel_rfl) (by kernel_rfl) ?_
        refine fr.tr_reads _ (by dsimp only [pick, at_]) ?_
        repeat (go_big_quiet_step (fail))
        refine wpQuiet_nil ?_
        clear t0 t1 t2
        refine fr.tr_one _ (by dsimp only [pick, at_]) ?_
        intro K1 g1 g2
        clear g2
        have hbd : Below w5.heap.size w5 w5.drew := (Below.refl _ _).drew
        have HG := Lib.hid (get_ry w5.drew q nn o4 (by omega) (R5.out.below hbd))
        have CD := Lib.hid (chg_trans C5.out ((Chg.of_below hbd).mono (S' := fun k => k = q) (fun _ _ e => e.elim)))
        have GD := Lib.hid (show w5.drew.heap[N]? = _ from G5.out)
        have GD2 := Lib.hid (show w5.drew.heap[N + 1]? = _ from H5.out)
        have CDD := Lib.hid ((Chg.of_below hbd).mono (S' := fun k => k = q) (fun _ _ e => e.elim))
        clear hbd
        go_wp2_with (fail)
        refine HG.out.mono ?_
        rintro e wz ⟨V, oz, rfl, hv, hr, hc, hrel⟩
        rw [← hnn] at hv hrel
        have hV64 := lt64_shl hv (by omega)
        have hsh := shl_z V tt hV64
        obtain ⟨Y, hY⟩ : ∃ Y, V * 2 ^ tt = Y := ⟨_, rfl⟩
        rw [hY] at hsh
        have HV := Lib.hid (hY ▸ hV64)
        have RZ := Lib.hid hr
        have CZ := Lib.hid (chg_trans CD.out hc)
        have cz := Lib.hid (chg_trans CDD.out hc)
        have GZ := Lib.hid (hc.blk GD.out (by omega))
        have GZ2 := Lib.hid (hc.blk GD2.out (by omega))
        have h0 : Rel (fV (some (p, qq))) o (V * 2 ^ tt, some (m, tt)) oz := (rv1 L1.out (rw1 L2.out (rn1 L3.out (rn2 L4.out hpn (by rw [htt]; exact rws hrel)))))
        rw [hY] at h0
        have LZ := Lib.hid h0
        clear h0
        clear hr hc hrel HG hv hV64 hY
        go_wp2_with (fail)
        refine g1 _ _ cz.out ?_
        clear g1
        refine fr.tr_reads _ (by dsimp only [pick, at_]) ?_
        repeat (go_big_quiet_step (fail))
        refine wpQuiet_nil ?_
        refine fr.tr_write _ (by dsimp only [pick, at_]) ?_
        intro K1 g1
        obtain ⟨s0, s1, s2⟩ := cells3 GZ2.out
        obtain ⟨u0, u1, u2⟩ := frozen3 GZ2.out
        have hlz : N + 1 < wz.heap.size := blk_lt GZ2.out
        go_wp2_with (fail)
        refine fr.tr_stop ?_
        refine NoPanic.normal ?_
        go_wp2_with (fail)
        refine bodyPost_ret (results_tmp_cell rfl _ _ (N + 1) 59 _ _ _ rfl (set3 rfl GZ2.out) Tryd.underlying59 rfl infoW) rfl ?_
        exact ⟨Y, some (m, tt), oz, rfl, HV.out, fun x y e => by cases e; omega, rs_set RZ.out (by omega) _ _ _, chg_set3 CZ.out (by omega) _ _ _, LZ.out⟩
      · have j1 : T < 0 := by have := HT.out; omega
        obtain ⟨v0, hblk⟩ := R5.out.blk
        have f1 : w5.frozen? ⟨q, 1, none⟩ = false := frozen_of_row _ _ 1 _ _ hblk
        have d1 : w5.cell? ⟨q, 1, none⟩ = some (.bool o4.isNone) := by rw [cell_of_row _ _ _ _ _ _ hblk]; rfl
        obtain ⟨wb, hwb⟩ : ∃ wb, w5.setCell ⟨q, 1, none⟩ (.bool true) = wb := ⟨_, rfl⟩
        have RB := Lib.hid (show RS wb q none by rw [← hwb]; exact R5.out.fail)
        have CB := Lib.hid (show Chg (fun k => k = q) w wb by rw [← hwb]; exact C5.out.setCell (p := ⟨q, 1, none⟩) (fun _ => rfl) _)
        have GB2 := Lib.hid (show wb.heap[N + 1]? = some (.cells #[.bool false, .int .i64 0, .int .i64 0] 59 (0, 0)) by rw [← hwb]; exact (Below.heap_setCell _ ⟨q, 1, none⟩ _ (N + 1) (by simp only; omega)).trans H5.out)
        obtain ⟨s0, s1, s2⟩ := cells3 GB2.out
        obtain ⟨u0, u1, u2⟩ := frozen3 GB2.out
        have hlb : N + 1 < wb.heap.size := blk_lt GB2.out
        have hlq : q < w5.heap.size := R5.out.lt
        have HWB := Lib.hid hwb
        clear hwb hblk
        go_wp2_with (first | rw [HW5.out] | rw [HWB.out])
        refine bodyPost_ret (results_tmp_cell rfl _ _ (N + 1) 59 _ _ _ rfl (set3 rfl GB2.out) Tryd.underlying59 rfl infoW) rfl ?_
        exact ⟨0, none, none, rfl, by unfold lt64; omega, win0, rs_set RB.out (by omega) _ _ _, chg_set3 CB.out (by omega) _ _ _, rv1 L1.out (rw1 L2.out (rn1 L3.out (rn2bad L4.out hpn)))⟩
theorem value_ry (w : World) (q : Nat) (o : Option (List Bool)) (h : RS w q o) (a : Win) (ha : WinOk a) :
    Calls Tryd.prog 39 #[.pointer (some ⟨q, 0, none⟩), .agg (winC a)] w (RetRv w q o a) := by
  cases a with
  | none => exact value_none w q o h
  | some W => obtain ⟨p, qq⟩ := W; exact value_some w q o h p qq (ha p qq rfl)
end Go.Proofs.YtknjejejkgihbaaDoor.ts
/-
  Tsz: what the document's Decode keeps while it reads.
-/
namespace Go.Proofs.YtknjejejkgihbaaDoor.ts
open Go.ChangeShapes Go.WideShapes Go.ChangeAt Go.RowKit plain words ord mem bitm uvs uvc

theorem rel_first {X : List Bool} {V1 V2 V3 : Nat} {o1 o2 o3 : Option (List Bool)} (h1 : Rel (gb 64) (some X) V1 o1) (h2 : Rel (gb 64) o1 V2 o2) (h3 : Rel (gb 64) o2 V3 o3) :
    (∃ X3, o3 = some X3 ∧ dFirst X = some ⟨w64 V1, 0, V2, V3, none, none, X3⟩) ∨ (o3 = none ∧ dFirst X = none) := by
  unfold dFirst
  rcases h1 with ⟨X1, e1, rfl⟩ | ⟨e1, rfl⟩
  · simp only [Option.bind_some] at e1
    rcases h2 with ⟨X2, e2, rfl⟩ | ⟨e2, rfl⟩
    · simp only [Option.bind_some] at e2
      rcases h3 with ⟨X3, e3, rfl⟩ | ⟨e3, rfl⟩
      · simp only [Option.bind_some] at e3
        exact .inl ⟨X3, rfl, by simp only [e1, e2, e3, Option.bind_some]⟩
      · simp only [Option.bind_some] at e3
        exact .inr ⟨rfl, by simp only [e1, e2, e3, Option.bind_some, Option.bind_none]⟩
    · simp only [Option.bind_some] at e2
      exact .inr ⟨h3.bad, by simp only [e1, e2, Option.bind_some, Option.bind_none]⟩
  · simp only [Option.bind_some] at e1
    have := h2.bad
    subst this
    exact .inr ⟨h3.bad, by simp only [e1, Option.bind_none]⟩
theorem fV_some {a : Win} {X : List Bool} {y : Nat} {a' : Win} {X' : List Bool} (h : fV a X = some ((y, a'), X')) : dVal a X = some (y, a', X') := by
  unfold fV at h
  obtain ⟨⟨y0, a0, X0⟩, h9, e⟩ := Option.map_eq_some_iff.1 h
  simp only [Prod.mk.injEq] at e
  obtain ⟨⟨rfl, rfl⟩, rfl⟩ := e
  exact h9
theorem fV_none {a : Win} {X : List Bool} (h : fV a X = none) : dVal a X = none := by unfold fV at h; simpa using h
theorem rel_next {q : DS} {x : Int} {y z : Nat} {a' b' : Win} {o1 o2 o3 : Option (List Bool)} (h1 : Rel dTime (some q.X) x o1) (h2 : Rel (fV q.a) o1 (y, a') o2) (h3 : Rel (fV q.b) o2 (z, b') o3) :
    (∃ X3, o3 = some X3 ∧ dNext q = some ⟨w64 (q.t + w64 (q.d + x)), w64 (q.d + x), q.v ^^^ y, q.s ^^^ z, a', b', X3⟩) ∨ (o3 = none ∧ dNext q = none) := by
  unfold dNext
  rcases h1 with ⟨X1, e1, rfl⟩ | ⟨e1, rfl⟩
  · simp only [Option.bind_some] at e1
    rcases h2 with ⟨X2, e2, rfl⟩ | ⟨e2, rfl⟩
    · simp only [Option.bind_some] at e2
      have f2 := fV_some e2
      rcases h3 with ⟨X3, e3, rfl⟩ | ⟨e3, rfl⟩
      · simp only [Option.bind_some] at e3
        have f3 := fV_some e3
        exact .inl ⟨X3, rfl, by simp only [e1, f2, f3, Option.bind_some]⟩
      · simp only [Option.bind_some] at e3
        have f3 := fV_none e3
        exact .inr ⟨rfl, by simp only [e1, f2, f3, Option.bind_some, Option.bind_none]⟩
    · simp only [Option.bind_some] at e2
      have f2 := fV_none e2
      exact .inr ⟨h3.bad, by simp only [e1, f2, Option.bind_some, Option.bind_none]⟩
  · simp only [Option.bind_some] at e1
    have := h2.bad
    subst this
    exact .inr ⟨h3.bad, by simp only [e1, Option.bind_none]⟩
theorem win3 (a : Win) : ∃ x0 x1 x2, winC a = #[x0, x1, x2] := by cases a <;> exact ⟨_, _, _, rfl⟩
/-- the reader, the two windows -/
structure ED (w wr : World) (q : Nat) (o : Option (List Bool)) (a b : Win) : Prop where
  bel : Below w.heap.size w wr
  rs : RS wr q o
  gv : wr.heap[q + 2]? = some (.cells (winC a) 59 (0, 0))
  gw : wr.heap[q + 3]? = some (.cells (winC b) 59 (0, 0))
  hq : w.heap.size ≤ q
theorem ED.keep {w wr w' : World} {q : Nat} {o : Option (List Bool)} {a b : Win} {S : Nat → Prop} (h : ED w wr q o a b) (hc : Chg S wr w') (hS : ∀ k, S k → q < k ∧ k ≠ q + 2 ∧ k ≠ q + 3) : ED w w' q o a b :=
  ⟨h.bel.trans (hc.below h.bel.size (fun k e => by have := hS k e; have := h.hq; omega)), h.rs.chg hc (fun k e => (hS k e).1), hc.blk h.gv (fun e => (hS _ e).2.1 rfl), hc.blk h.gw (fun e => (hS _ e).2.2 rfl), h.hq⟩
theorem ED.below {w wr w' : World} {q : Nat} {o : Option (List Bool)} {a b : Win} (h : ED w wr q o a b) (hb : Below wr.heap.size wr w') : ED w w' q o a b := h.keep (Chg.of_below hb) (fun _ e => e.elim)
theorem ED.got {w wr w' : World} {q : Nat} {o o' : Option (List Bool)} {a b : Win} (h : ED w wr q o a b) (hr : RS w' q o') (hc : Chg (fun k => k = q) wr w') : ED w w' q o' a b :=
  ⟨h.bel.trans (hc.below h.bel.size (fun k e => by have := h.hq; omega)), hr, hc.blk h.gv (by omega), hc.blk h.gw (by omega), h.hq⟩
theorem chg3 {w : World} (g : Nat) (x y z : Value) : Chg (fun k => k = g) w (((w.setCell ⟨g, 0, none⟩ x).setCell ⟨g, 1, none⟩ y).setCell ⟨g, 2, none⟩ z) :=
  (((Chg.refl (fun k => k = g) w).setCell (p := ⟨g, 0, none⟩) (fun _ => rfl) x).setCell (p := ⟨g, 1, none⟩) (fun _ => rfl) y).setCell (p := ⟨g, 2, none⟩) (fun _ => rfl) z
theorem ED.setv {w wr : World} {q : Nat} {o : Option (List Bool)} {a b a' : Win} (h : ED w wr q o a b) {x y z : Value} (hx : winC a' = #[x, y, z]) : ED w (((wr.setCell ⟨q + 2, 0, none⟩ x).setCell ⟨q + 2, 1, none⟩ y).setCell ⟨q + 2, 2, none⟩ z) q o a' b :=
  ⟨h.bel.trans ((chg3 (q + 2) x y z).below h.bel.size (fun k e => by have := h.hq; omega)), h.rs.chg (chg3 (q + 2) x y z) (fun k e => by omega), by rw [hx]; exact set3 (winC_size a) h.gv, (chg3 (q + 2) x y z).blk h.gw (by omega), h.hq⟩
theorem ED.setw {w wr : World} {q : Nat} {o : Option (List Bool)} {a b b' : Win} (h : ED w wr q o a b) {x y z : Value} (hx : winC b' = #[x, y, z]) : ED w (((wr.setCell ⟨q + 3, 0, none⟩ x).setCell ⟨q + 3, 1, none⟩ y).setCell ⟨q + 3, 2, none⟩ z) q o a b' :=
  ⟨h.bel.trans ((chg3 (q + 3) x y z).below h.bel.size (fun k e => by have := h.hq; omega)), h.rs.chg (chg3 (q + 3) x y z) (fun k e => by omega), (chg3 (q + 3) x y z).blk h.gv (by omega), by rw [hx]; exact set3 (winC_size b) h.gw, h.hq⟩
theorem ED.setvr {w wr : World} {q : Nat} {o : Option (List Bool)} {a b a' : Win} (h : ED w wr q o a b) : ED w (wr.setRow (q + 2) (winC a')) q o a' b := by
  have hc : Chg (fun k => k = q + 2) wr (wr.setRow (q + 2) (winC a')) := Chg.setRow (S := fun k => k = q + 2) (Chg.refl _ _) (fun _ => rfl) _
  exact ⟨h.bel.trans (hc.below h.bel.size (fun k e => by have := h.hq; omega)), h.rs.chg hc (fun k e => by omega), setRow_heap _ _ _ _ _ _ h.gv, hc.blk h.gw (by omega), h.hq⟩
theorem ED.setwr {w wr : World} {q : Nat} {o : Option (List Bool)} {a b b' : Win} (h : ED w wr q o a b) : ED w (wr.setRow (q + 3) (winC b')) q o a b' := by
  have hc : Chg (fun k => k = q + 3) wr (wr.setRow (q + 3) (winC b')) := Chg.setRow (S := fun k => k = q + 3) (Chg.refl _ _) (fun _ => rfl) _
  exact ⟨h.bel.trans (hc.below h.bel.size (fun k e => by have := h.hq; omega)), h.rs.chg hc (fun k e => by omega), hc.blk h.gv (by omega), setRow_heap _ _ _ _ _ _ h.gw, h.hq⟩
theorem row_cells {w : World} {H g c j : Nat} {acc : List Pt} (h : w.ownsRow H 39 3 (.slice (some ⟨g, 0, none⟩) j c) j (cs pE acc)) (ha : acc.length = j) {i : Nat} (hi : i < j) {x : Pt} (hx : acc[i]? = some x) :
    w.cell? ⟨g, i * 3, none⟩ = some (.int .i64 x.1) ∧ w.cell? ⟨g, i * 3 + 1, none⟩ = some (.int .u64 x.2.1) ∧ w.cell? ⟨g, i * 3 + 2, none⟩ = some (.int .u64 x.2.2) := by
  have hp : Pts w w.heap.size (some ⟨g, 0, none⟩) j acc := ⟨ha, own_rd h⟩
  obtain ⟨b, off, e, _, h0, h1, h2⟩ := hp.at_ hi hx
  cases e
  rw [Nat.zero_add] at h0 h1 h2
  exact ⟨h0, h1, h2⟩
/-- before a point: what has been read, or that something was missing -/
def InvR (m : Nat) (X0 : List Bool) (acc : List Pt) (t d : Int) (v s : Nat) (a b : Win) (o : Option (List Bool)) : Prop := match o with
  | some X => Dn m X0 acc ⟨t, d, v, s, a, b, X⟩
  | none => dPts m X0 = none
theorem take_ans {bs : List UInt8} {l : List Pt} {k e n : Nat} (h : ans bs l) (hr : ru bs 0 0 = (l.length, k)) (hn : bs.length = n) (he : min n (k + 16384) = e) : ∃ Y, dPts l.length (ofBytes ((bs.drop k).take (e - k))) = some (l, Y) := by
  obtain ⟨h1, h2, h3, h4, Y, hY⟩ := ans_read h
  have hk : (uv l.length).length = k := by rw [h1] at hr; exact congrArg Prod.snd hr
  rw [hk] at h4 hY
  rw [List.length_drop, hn] at h4
  rw [List.take_of_length_le (by rw [List.length_drop, hn]; omega)]
  exact ⟨Y, hY⟩
theorem bs_less {w : World} {B n m : Nat} {A : Option Addr} {bs : List UInt8} (h : Bs w B A n bs) (hm : m ≤ n) : Bs w B A m (bs.take m) := by
  have hl := h.len_
  refine ⟨by simp [u8s, hl]; omega, fun j hj => ?_⟩
  obtain ⟨b, off, v, e, hb, hv, hc⟩ := h.at_ j (by omega)
  exact ⟨b, off, v, e, hb, by simp only [u8s, List.map_take] at hv ⊢; rw [List.getElem?_take, if_pos hj]; exact hv, hc⟩
theorem enc_any {w w' : World} {l : List Pt} {e : Ending} (h : RetEnc w l e w') : ∃ (E : List UInt8) (A : Option Addr) (c : Nat), e = .returned (.tuple #[.slice A E.length c, .int .i64 (checkP l)]) ∧ Bs w' w'.heap.size A E.length E ∧ (checkP l = 0 → E = encP l) ∧ Below w.heap.size w w' := by
  unfold RetEnc at h
  by_cases hc : checkP l = 0
  · rw [if_pos hc] at h
    obtain ⟨A, c, he, ho, hb⟩ := h
    exact ⟨encP l, A, c, by rw [hc]; exact he, own_bs ho, fun _ => rfl, hb⟩
  · rw [if_neg hc] at h
    exact ⟨[], none, 0, h.1, Rd.nil _ _ _, fun e => absurd e hc, h.2⟩
theorem own_cap2 {w : World} {base n c : Nat} {A : Option Addr} {e : TypeId} {k : Nat} {xs : List Value} (h : w.ownsRow base e k (.slice A n c) n xs) : (A = none → c = 0) ∧ n ≤ c ∧ c ≤ 9223372036854775807 := by
  rcases own_form h with ⟨e, e0⟩ | ⟨g, cap, e, _, _, h1, h2⟩
  · cases e; exact ⟨fun _ => rfl, by omega, by omega⟩
  · cases e; unfold maxLen at h2; exact ⟨(fun e => by cases e), h1, h2⟩
end Go.Proofs.YtknjejejkgihbaaDoor.ts
/-
  Tsz: Decode, the document's.
-/
namespace Go.Proofs.YtknjejejkgihbaaDoor.ts
open Go.ChangeShapes Go.WideShapes Go.ChangeAt Go.RowKit plain words ord mem bitm uvs uvc

set_option maxHeartbeats 40000000 in
set_option maxRecDepth 100000 in
theorem decode_bad (w : World) (B n c : Nat) (A : Option Addr) (bs : List UInt8) (h : Bs w B A n bs) (hA : A = none → c = 0) (hB : B ≤ w.heap.size) (hnc : n ≤ c) (hcm : c ≤ 9223372036854775807) (hn : n ≤ 1073741824) (m k : Nat) (hmk : ru bs 0 0 = (m, k)) (hbad : k = 0 ∨ 512 < m) :
    Calls Tryd.prog 20 #[.slice A n c] w (RetDec w bs) := by
  have hl := h.len_
  have HRU := Lib.hid (readuv_y w B n c A bs h hB hnc hcm (by omega))
  unfold RetNum at HRU
  have hback := ru_back0 bs m k hmk
  rw [hl] at hback
  rw [hmk] at HRU
  simp only at HRU
  have HMK := Lib.hid hmk
  clear hmk
  have HNO := Lib.hid (show ∀ l, ¬ ans bs l from fun l hla => by
    obtain ⟨h1, h2, _⟩ := ans_read hla
    have h3 := (uvs.uv_len l.length).1
    have h4 := h1.symm.trans HMK.out
    have h5 := congrArg Prod.fst h4
    have h6 := congrArg Prod.snd h4
    simp only at h5 h6
    omega)
  clear hback
  rcases Nat.eq_zero_or_pos k with hk0 | hk0
  · have hz : ((k : Int) == 0) = true := by simp; omega
    go_enter Tryd.func20, Tryd.ntmps20
    go_wp2_with (fail)
    refine HRU.out.mono ?_
    rintro e w1 ⟨rfl, hb1⟩
    go_wp2_with (fail)
    go_ret2
    exact .inr ⟨HNO.out, rfl, hb1⟩
  · have hz : ((k : Int) == 0) = false := by simp; omega
    have hmz : (512 : Int) < (m : Int) := by omega
    go_enter Tryd.func20, Tryd.ntmps20
    go_wp2_with (fail)
    refine HRU.out.mono ?_
    rintro e w1 ⟨rfl, hb1⟩
    go_wp2_with (fail)
    go_ret2
    exact .inr ⟨HNO.out, rfl, hb1⟩
end Go.Proofs.YtknjejejkgihbaaDoor.ts
