/-
  Messages: Encode, the program's.
-/
import Derived.Test.YthkcnakodlbdpaaWrS
import Derived.Defers
import Derived.Recover
namespace Go.Proofs.Ythkcnakodlbdpaa.wr
open Go.ChangeShapes Go.WideShapes Go.ChangeAt Go.RowKit plain words ord mem uvs uvc

theorem catch_bad (p q : Nat) (x y : Value) (z : Int) (older : List PanicEntry) (w : World) (hpq : p ≠ q) (hp : w.heap[p]? = some (.cells #[x] 33 (0, 0))) (hq : w.heap[q]? = some (.cells #[y] 27 (0, 0))) :
    CallsD Try.prog 15 #[.pointer (some ⟨p, 0, none⟩), .pointer (some ⟨q, 0, none⟩)] (.panicking ({ v := .iface 27 (.int .i64 z), recovered := false } :: older)) w fun e u' w' =>
      e = .returned (.tuple #[]) ∧ u' = .panicking ({ v := .iface 27 (.int .i64 z), recovered := true } :: older) ∧ w' = ((w.setCell ⟨p, 0, none⟩ (.slice none 0 0)).setCell ⟨q, 0, none⟩ (.int .i64 z)).drew := by
  have c0 : w.cell? ⟨p, 0, none⟩ = some x := by rw [cell_of_row _ _ _ _ _ _ hp]; rfl
  have c1 : w.cell? ⟨q, 0, none⟩ = some y := by rw [cell_of_row _ _ _ _ _ _ hq]; rfl
  have f0 : w.frozen? ⟨p, 0, none⟩ = false := frozen_of_row _ _ 0 _ _ hp
  have f1 : w.frozen? ⟨q, 0, none⟩ = false := frozen_of_row _ _ 0 _ _ hq
  have c2 : (w.setCell ⟨p, 0, none⟩ (.slice none 0 0)).cell? ⟨q, 0, none⟩ = some y := by rw [cell_of_row _ _ _ _ _ _ ((Below.heap_setCell w ⟨p, 0, none⟩ _ q hpq.symm).trans hq)]; rfl
  refine callsD_of_wpS Try.func15 rfl fun c₀ cs hu => ?_
  apply wpS_seq
  apply wpS_region
  simp [wpOpsS, go_sem, recoverD, hu, Try.ntmps15, Exit.thenS]
  apply wpS_seq
  apply wpS_region
  simp [wpOpsS, go_sem, recoverD, hu, Try.ntmps15, Exit.thenS]
  refine wpS_cond (t := true) (by simp [Act.eval, Array.replicate]) ?_
  simp only [if_true]
  refine wpS_of_wp ?_
  have hta : ∀ w : World, (Instr.typeAssert (.iface 27 (.int .i64 z)) 20 27 false).run Try.prog w = .ok (.int .i64 z) w := fun _ => by kernel_rfl
  have c0' : w.drew.cell? ⟨p, 0, none⟩ = some x := c0
  have c1' : w.drew.cell? ⟨q, 0, none⟩ = some y := c1
  have f0' : w.drew.frozen? ⟨p, 0, none⟩ = false := f0
  have f1' : w.drew.frozen? ⟨q, 0, none⟩ = false := f1
  go_region
  all_goals simp [bodyPostS, results, Try.results15]
theorem catch_idle (p q : Addr) (w : World) :
    CallsD Try.prog 15 #[.pointer (some p), .pointer (some q)] .returning w fun e u' w' => e = .returned (.tuple #[]) ∧ u' = .returning ∧ w' = w := by
  refine callsD_of_wpS Try.func15 rfl fun c₀ cs hu => ?_
  apply wpS_seq
  apply wpS_region
  simp [wpOpsS, go_sem, recoverD, hu, Try.ntmps15, Exit.thenS]
  apply wpS_seq
  apply wpS_region
  simp [wpOpsS, go_sem, recoverD, hu, Try.ntmps15, Exit.thenS]
  refine wpS_cond (t := false) (by simp [Act.eval, Array.replicate]) ?_
  simp only [Bool.false_eq_true, if_false]
  refine wpS_of_wp (wp_skip ?_)
  cases c₀
  simp_all [bodyPostS, results, Try.results15]
theorem drew_cell {w : World} {a : Addr} {x : Option Value} (h : w.cell? a = x) : w.drew.cell? a = x := h
theorem set1 {T : TypeId} {w : World} {g : Nat} {x y : Value} (h : w.heap[g]? = some (.cells #[x] T (0, 0))) : (w.setCell ⟨g, 0, none⟩ y).heap[g]? = some (.cells #[y] T (0, 0)) := by
  rw [heap_setCell_same _ _ _ _ _ _ h]; rfl
theorem set1o {T : TypeId} {w : World} {g g' : Nat} {xs : Array Value} {y : Value} (h : w.heap[g]? = some (.cells xs T (0, 0))) (hn : g ≠ g') : (w.setCell ⟨g', 0, none⟩ y).heap[g]? = some (.cells xs T (0, 0)) := (Below.heap_setCell w ⟨g', 0, none⟩ _ g hn).trans h
theorem cell1 {T : TypeId} {w : World} {g : Nat} {x : Value} (h : w.heap[g]? = some (.cells #[x] T (0, 0))) : w.cell? ⟨g, 0, none⟩ = some x := by rw [cell_of_row _ _ _ _ _ _ h]; rfl
theorem fro1 {T : TypeId} {w : World} {g : Nat} {x : Value} (h : w.heap[g]? = some (.cells #[x] T (0, 0))) : w.frozen? ⟨g, 0, none⟩ = false := frozen_of_row _ _ 0 _ _ h
theorem bel1 {w0 w : World} {B g : Nat} (h : Below B w0 w) (hg : B ≤ g) (x : Value) : Below B w0 (w.setCell ⟨g, 0, none⟩ x) := h.setCell (p := ⟨g, 0, none⟩) hg x
/-- a row of bytes does not lie in a variable of another type -/
theorem own_set {w : World} {g B n : Nat} {v x : Value} {cur : Array Value} {t : TypeId} {l : List Value} (ho : w.ownsRow B 5 1 v n l) (hg : w.heap[g]? = some (.cells cur t (0, 0))) (ht : t ≠ 5) : (w.setCell ⟨g, 0, none⟩ x).ownsRow B 5 1 v n l :=
  own_chg ho (cl.chg_set w g 0 x) (fun k hk e => by
    subst e
    rcases ho.2 with ⟨e, _⟩ | ⟨g', cap, cur, e, _, h3, _⟩
    · rw [e] at hk; cases hk
    · rw [e] at hk; injection hk with hk
      have hk : g' = k := hk
      subst hk; rw [hg] at h3; injection h3 with h3; injection h3 with _ h3; exact ht h3)
def RetEn (w : World) (r : By × Int) (e : Ending) (w' : World) : Prop :=
  ∃ A c, e = .returned (.tuple #[.slice A r.1.length c, .int .i64 r.2]) ∧ w'.ownsRow w.heap.size 5 1 (.slice A r.1.length c) r.1.length (u8s r.1) ∧ Below w.heap.size w w'
theorem RetEn.no {w w' : World} {x : Int} (hb : Below w.heap.size w w') : RetEn w ([], x) (.returned (.tuple #[.slice none 0 0, .int .i64 x])) w' := ⟨none, 0, rfl, ⟨rfl, .inl ⟨rfl, rfl⟩⟩, hb⟩
set_option maxHeartbeats 4000000 in
set_option maxRecDepth 100000 in
theorem encode_x (w : World) (m : Msg) (pA mA : Option Addr) (pc mc : Nat) (hok : MOk w w.heap.size m pA mA pc mc) (hid : m.id.length ≤ 1000000000) (hpt : PtOk m.p) (hlp : m.pts.length ≤ 1000000) (hlm : m.mts.length ≤ 1000000) :
    Calls Try.prog 9 #[.agg (mcells m (.slice pA m.pts.length pc) (.slice mA m.mts.length mc))] w (RetEn w (encM m)) := by
  have hmf : ∀ (fn : Fn) (first cap : Array Value) (w : World), (Instr.makeFunc fn first cap).run Try.prog w = .ok (.func fn first cap) w := fun _ _ _ _ => rfl
  obtain ⟨P, hP⟩ : ∃ P : Value, .slice pA m.pts.length pc = P := ⟨_, rfl⟩
  obtain ⟨M, hM⟩ : ∃ M : Value, .slice mA m.mts.length mc = M := ⟨_, rfl⟩
  obtain ⟨k, hk⟩ : ∃ k, m.kind = k := ⟨_, rfl⟩
  obtain ⟨N, hN⟩ : ∃ N, w.heap.size = N := ⟨_, rfl⟩
  obtain ⟨mv, hmv⟩ : ∃ mv, mcells m P M = mv := ⟨_, rfl⟩
  rw [hP, hM, hmv]
  have hm0 : mv[0]? = some (.int .i64 k) := by rw [← hmv, ← hk]; rfl
  obtain ⟨w1, hw1⟩ : ∃ w1, ((w.alloc (.cells mv 31)).alloc (.cells #[.slice none 0 0] 33)).alloc (.cells #[.int .i64 0] 27) = w1 := ⟨_, rfl⟩
  have hb1 : Below w.heap.size w w1 := by rw [← hw1]; exact (((Below.refl _ _).alloc (Nat.le_refl _) _).alloc (by simp) _).alloc (by simp; omega) _
  have g0 : w1.heap[N]? = some (.cells mv 31 (0, 0)) := by rw [← hw1, ← hN]; exact alloc_old _ (alloc_old _ (alloc_new _ _))
  have g1 : w1.heap[N + 1]? = some (.cells #[.slice none 0 0] 33 (0, 0)) := by
    rw [← hw1, ← hN]
    have := alloc_old (.cells #[.int .i64 0] 27) (alloc_new (w.alloc (.cells mv 31)) (.cells #[.slice none 0 0] 33))
    rwa [World.size_alloc] at this
  have g2 : w1.heap[N + 2]? = some (.cells #[.int .i64 0] 27 (0, 0)) := by
    rw [← hw1, ← hN]
    have := alloc_new ((w.alloc (.cells mv 31)).alloc (.cells #[.slice none 0 0] 33)) (.cells #[.int .i64 0] 27)
    rwa [World.size_alloc, World.size_alloc] at this
  have hz1 : w1.heap.size = N + 3 := by rw [← hw1, World.size_alloc, World.size_alloc, World.size_alloc, hN]
  have c0 : w1.cell? ⟨N, 0, none⟩ = some (.int .i64 k) := by rw [cell_of_row _ _ _ _ _ _ g0]; exact hm0
  have c1 := cell1 g1
  have f1 := fro1 g1
  have c2 := cell1 g2
  have f2 := fro1 g2
  have hl1 : N + 2 < w1.heap.size := by omega
  have B1 := Lib.hid hb1
  have G0 := Lib.hid g0
  have G1 := Lib.hid g1
  have G2 := Lib.hid g2
  have HN := Lib.hid hN
  by_cases hbad : k < 1 ∨ 8 < k
  · have HR := Lib.hid (show encM m = ([], 1) by unfold encM; rw [if_pos (by rw [hk]; exact hbad)])
    rw [HR.out]
    have c3 : (w1.setCell ⟨N + 1, 0, none⟩ (.slice none 0 0)).cell? ⟨N + 2, 0, none⟩ = some (.int .i64 0) := cell1 (set1o g2 (by omega))
    have f3 : (w1.setCell ⟨N + 1, 0, none⟩ (.slice none 0 0)).frozen? ⟨N + 2, 0, none⟩ = false := fro1 (set1o g2 (by omega))
    have hl3 : N + 2 < (w1.setCell ⟨N + 1, 0, none⟩ (.slice none 0 0)).heap.size := by simp; omega
    have hfin : ∀ e w', e = Ending.returned (.tuple #[.slice none 0 0, .int .i64 1]) → w' = (w1.setCell ⟨N + 1, 0, none⟩ (.slice none 0 0)).setCell ⟨N + 2, 0, none⟩ (.int .i64 1) → RetEn w ([], 1) e w' := fun e w' e1 e2 => by
      rw [e1, e2]; exact RetEn.no (bel1 (bel1 B1.out (by rw [HN.out]; omega) _) (by rw [HN.out]; omega) _)
    have HFIN := Lib.hid hfin
    clear hfin hb1 g0 g1 g2 hok hid hpt hlp hlm hmv hm0 hP hM hk HR
    by_cases h1 : k < 1
    · clear hbad
      go_enter_defers Try.func9, Try.ntmps9
      go_wp2_with (fail)
      refine leaves_cons (f := 15) (args := #[.pointer (some ⟨N + 1, 0, none⟩), .pointer (some ⟨N + 2, 0, none⟩)]) (by simp) (by simp [go_sem]) ?_
      refine (catch_idle ⟨N + 1, 0, none⟩ ⟨N + 2, 0, none⟩ _).mono ?_
      rintro e u' w'' ⟨rfl, rfl, rfl⟩
      have k1 := cell1 (set1o (y := .int .i64 1) (set1 (y := .slice none 0 0) G1.out) (show N + 1 ≠ N + 2 by omega))
      have k2 := cell1 (set1 (y := .int .i64 1) (set1o (y := .slice none 0 0) G2.out (show N + 2 ≠ N + 1 by omega)))
      simp [Leaves, settle, results, Try.results9, go_sem, k1, k2]
      exact HFIN.out _ _ rfl rfl
    · have h2 : 8 < k := by omega
      clear hbad
      go_enter_defers Try.func9, Try.ntmps9
      go_wp2_with (fail)
      refine leaves_cons (f := 15) (args := #[.pointer (some ⟨N + 1, 0, none⟩), .pointer (some ⟨N + 2, 0, none⟩)]) (by simp) (by simp [go_sem]) ?_
      refine (catch_idle ⟨N + 1, 0, none⟩ ⟨N + 2, 0, none⟩ _).mono ?_
      rintro e u' w'' ⟨rfl, rfl, rfl⟩
      have k1 := cell1 (set1o (y := .int .i64 1) (set1 (y := .slice none 0 0) G1.out) (show N + 1 ≠ N + 2 by omega))
      have k2 := cell1 (set1 (y := .int .i64 1) (set1o (y := .slice none 0 0) G2.out (show N + 2 ≠ N + 1 by omega)))
      simp [Leaves, settle, results, Try.results9, go_sem, k1, k2]
      exact HFIN.out _ _ rfl rfl
  · have h1 : ¬ k < 1 := fun e => hbad (.inl e)
    have h2 : ¬ 8 < k := fun e => hbad (.inr e)
    obtain ⟨kn, rfl⟩ : ∃ kn : Nat, k = (kn : Int) := ⟨k.toNat, by omega⟩
    have hkm : (kn : Int) % 256 = kn := by omega
    obtain ⟨l0, hl0⟩ : ∃ l0 : By, [UInt8.ofNat kn] = l0 := ⟨_, rfl⟩
    obtain ⟨an, han⟩ : ∃ an, encM m = an := ⟨_, rfl⟩
    rw [han]
    have HR := Lib.hid (show an = if (pass encC l0 m).1 = 0 then ((pass encC l0 m).2.1, 0) else ([], (pass encC l0 m).1) by rw [← han]; unfold encM; rw [if_neg (by rw [hk]; exact hbad), hk, Int.toNat_natCast, hl0])
    obtain ⟨w2, hw2⟩ : ∃ w2, w1.alloc (.cells #[.int .u8 kn] 5) = w2 := ⟨_, rfl⟩
    obtain ⟨w3, hw3⟩ : ∃ w3, w2.alloc (.cells #[.slice (some ⟨N + 3, 0, none⟩) 1 1] 52) = w3 := ⟨_, rfl⟩
    have hb2 : Below w1.heap.size w1 w2 := by rw [← hw2]; exact below_al _ _
    have hz2 : w2.heap.size = N + 4 := by rw [← hw2, World.size_alloc, hz1]
    have hb3 : Below w1.heap.size w1 w3 := by rw [← hw3]; exact hb2.trans ((below_al _ _).mono (by omega))
    have gr : w3.heap[N + 3]? = some (.cells #[.int .u8 kn] 5 (0, 0)) := by rw [← hw3, ← hz1, ← hw2]; exact alloc_old _ (alloc_new _ _)
    have gg : w3.heap[N + 4]? = some (.cells #[.slice (some ⟨N + 3, 0, none⟩) 1 1] 52 (0, 0)) := by rw [← hw3, ← hz2]; exact alloc_new _ _
    have hST : StE w3 (N + 4) N l0 := ⟨some ⟨N + 3, 0, none⟩, 1, by rw [← hl0]; exact gg, by
      rw [← hl0]
      refine ⟨rfl, .inr ⟨N + 3, 1, _, rfl, by omega, gr, Nat.le_refl _, by unfold maxLen; omega, rfl, ?_⟩⟩
      have hch : Value.int .u8 (kn : Int) = .int .u8 ((UInt8.ofNat kn).toNat : Int) := by rw [ofNat_lt kn (by omega)]
      rw [hch]; rfl⟩
    have hV := blk_below hb3 G0.out (by omega)
    have hb30 : Below w.heap.size w w3 := B1.out.trans (hb3.mono (by omega))
    have hmk : MOk w3 w.heap.size m pA mA pc mc := ⟨⟨hok.1.1.below hb30 (Nat.le_refl _), hok.1.2⟩, ⟨hok.2.1.below hb30 (Nat.le_refl _), hok.2.2⟩⟩
    rw [← hmv, ← hP, ← hM] at hV
    have HPS := Lib.hid (pass_e w3 (N + 4) N N N l0 m pA mA pc mc hST hV (by rw [← hN]; exact hmk) hid hpt hlp hlm (by omega) (Nat.le_refl _) (by have := hb3.size; omega) (by omega) (by omega) (by rw [← hl0]; simp))
    obtain ⟨r, hr⟩ : ∃ r, pass encC l0 m = r := ⟨_, rfl⟩
    rw [hr] at HPS HR
    obtain ⟨er, l, m'⟩ := r
    simp only at HR
    have B3 := Lib.hid hb30
    have G4 := Lib.hid (blk_below hb3 G1.out (by omega))
    have G5 := Lib.hid (blk_below hb3 G2.out (by omega))
    have hl3 : N + 4 < w3.heap.size := blk_lt gg
    clear han hr hST hV hmk hb30 hb1 hb2 hb3 gr gg g0 g1 g2 hok hid hpt hlp hlm hmv hm0 hP hM hk hbad hl0
    go_enter_defers Try.func9, Try.ntmps9
    go_wp2_with (fail)
    refine HPS.out.mono ?_
    clear HPS c0 c1 c2 f1 f2 hw1 hw2 hw3
    intro e w4 hret
    obtain ⟨hc, ⟨h0, rfl, hst⟩ | ⟨h0, rfl⟩⟩ := hret
    · simp only at h0 hst
      subst h0
      have g4 := hc.blk G4.out (fun e => by
        rcases e with e | e | ⟨_, cur, e⟩
        · omega
        · omega
        · rw [G4.out] at e; injection e with e; injection e with _ e; exact absurd e (by decide))
      have g5 := hc.blk G5.out (fun e => by
        rcases e with e | e | ⟨_, cur, e⟩
        · omega
        · omega
        · rw [G5.out] at e; injection e with e; injection e with _ e; exact absurd e (by decide))
      have hb4 : Below w.heap.size w w4 := B3.out.trans (hc.below (by omega) (fun k e => by rcases e with e | e | ⟨e, _⟩ <;> omega))
      obtain ⟨A, c, gg, ho⟩ := hst
      obtain ⟨L, hL⟩ : ∃ L, l.length = L := ⟨_, rfl⟩
      have HL := Lib.hid hL
      rw [hL] at gg ho
      have c0 := cell1 gg
      have hl4 := blk_lt gg
      have c1 := cell1 g4
      have f1 := fro1 g4
      obtain ⟨w5, hw5⟩ : ∃ w5, w4.setCell ⟨N + 1, 0, none⟩ (.slice A L c) = w5 := ⟨_, rfl⟩
      have g6 : w5.heap[N + 1]? = some (.cells #[.slice A L c] 33 (0, 0)) := by rw [← hw5]; exact set1 g4
      have g7 : w5.heap[N + 2]? = some (.cells #[.int .i64 0] 27 (0, 0)) := by rw [← hw5]; exact set1o g5 (by omega)
      have c2 := cell1 g7
      have f2 := fro1 g7
      have hl5 := blk_lt g7
      have ho5 : w5.ownsRow N 5 1 (.slice A L c) L (u8s l) := by rw [← hw5]; exact own_set ho g4 (by decide)
      have hb5 : Below w.heap.size w w5 := by rw [← hw5]; exact bel1 hb4 (by rw [HN.out]; omega) _
      have HFIN := Lib.hid (show RetEn w an (.returned (.tuple #[.slice A L c, .int .i64 0])) (w5.setCell ⟨N + 2, 0, none⟩ (.int .i64 0)) from by rw [HR.out]; simp only [if_true]; exact ⟨A, c, by simp only; rw [HL.out], by simp only; rw [HL.out, HN.out]; exact own_set ho5 g7 (by decide), bel1 hb5 (by rw [HN.out]; omega) _⟩)
      have k1 := Lib.hid (cell1 (set1o (y := .int .i64 0) g6 (show N + 1 ≠ N + 2 by omega)))
      have k2 := Lib.hid (cell1 (set1 (y := .int .i64 0) g7))
      clear hc gg ho g4 g5 g6 g7 ho5 hb4 hb5 hL G4 G5 HL
      go_wp2_with (fail)
      refine leaves_cons (f := 15) (args := #[.pointer (some ⟨N + 1, 0, none⟩), .pointer (some ⟨N + 2, 0, none⟩)]) (by simp) (by simp [go_sem]) ?_
      refine (catch_idle ⟨N + 1, 0, none⟩ ⟨N + 2, 0, none⟩ _).mono ?_
      rintro e u' w'' ⟨rfl, rfl, rfl⟩
      have k1 := k1.out
      have k2 := k2.out
      simp [Leaves, settle, results, Try.results9, go_sem, k1, k2]
      exact HFIN.out
    · simp only at h0
      have g4 := hc.blk G4.out (fun e => by
        rcases e with e | e | ⟨_, cur, e⟩
        · omega
        · omega
        · rw [G4.out] at e; injection e with e; injection e with _ e; exact absurd e (by decide))
      have g5 := hc.blk G5.out (fun e => by
        rcases e with e | e | ⟨_, cur, e⟩
        · omega
        · omega
        · rw [G5.out] at e; injection e with e; injection e with _ e; exact absurd e (by decide))
      have hb4 : Below w.heap.size w w4 := B3.out.trans (hc.below (by omega) (fun k e => by rcases e with e | e | ⟨e, _⟩ <;> omega))
      have HFIN := Lib.hid (show RetEn w an (.returned (.tuple #[.slice none 0 0, .int .i64 er])) ((w4.setCell ⟨N + 1, 0, none⟩ (.slice none 0 0)).setCell ⟨N + 2, 0, none⟩ (.int .i64 er)).drew from by
        rw [HR.out, if_neg h0]; exact RetEn.no (bel1 (bel1 hb4 (by rw [HN.out]; omega) _) (by rw [HN.out]; omega) _).drew)
      clear hc hb4
      go_wp2_with (fail)
      unfold errC
      refine leaves_cons (f := 15) (args := #[.pointer (some ⟨N + 1, 0, none⟩), .pointer (some ⟨N + 2, 0, none⟩)]) (by simp) (by simp [go_sem]) ?_
      refine (catch_bad (N + 1) (N + 2) _ _ er [] w4 (by omega) g4 g5).mono ?_
      rintro e u' w'' ⟨rfl, rfl, rfl⟩
      have k1 := drew_cell (cell1 (set1o (y := .int .i64 er) (set1 (y := .slice none 0 0) g4) (show N + 1 ≠ N + 2 by omega)))
      have k2 := drew_cell (cell1 (set1 (y := .int .i64 er) (set1o (y := .slice none 0 0) g5 (show N + 2 ≠ N + 1 by omega))))
      simp [Leaves, settle, results, Try.results9, go_sem, k1, k2]
      exact HFIN.out
end Go.Proofs.Ythkcnakodlbdpaa.wr
