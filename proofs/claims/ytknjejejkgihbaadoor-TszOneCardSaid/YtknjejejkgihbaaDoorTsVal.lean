/-
  Tsz: how a value is laid down, the document's way.
-/
import Derived.Test.YtknjejejkgihbaaDoorTsTime
import Derived.Test.YtknjejejkgihbaaDoorFree
import Derived.Laws.ResultCell
import Derived.Laws.Rows
namespace Go.Proofs.YtknjejejkgihbaaDoor.ts
open Go.ChangeShapes Go.WideShapes Go.ChangeAt Go.RowKit plain words ord mem bitm

theorem chg_of {S : Nat → Prop} {w w' : World} (h : bitc.Chg S w w') : Chg S w w' := ⟨h.os, h.tape, h.output, h.size, h.block⟩
theorem chg_to {S : Nat → Prop} {w w' : World} (h : Chg S w w') : bitc.Chg S w w' := ⟨h.os, h.tape, h.output, h.size, h.block⟩
theorem IsL.keep {w w' : World} {base : Nat} {v : Value} {X : List Bool} (h : IsL w base v X) (hb : Below w.heap.size w w') : IsL w' base v X := by
  obtain ⟨A, c, e, ho⟩ := h
  exact ⟨A, c, e, own_keep ho hb (Nat.le_refl _)⟩
theorem IsL.chg {S : Nat → Prop} {w w' : World} {base : Nat} {v : Value} {X : List Bool} (h : IsL w base v X) (hc : Chg S w w') (hS : ∀ g, v.ownBlock = some g → ¬ S g) : IsL w' base v X := by
  obtain ⟨A, c, rfl, ho⟩ := h
  exact ⟨A, c, rfl, own_chg ho hc hS⟩
theorem IsL.drew {w : World} {base : Nat} {v : Value} {X : List Bool} (h : IsL w base v X) : IsL w.drew base v X := by
  obtain ⟨A, c, e, ho⟩ := h
  exact ⟨A, c, e, ho⟩
theorem IsL.lt {w : World} {base : Nat} {v : Value} {X : List Bool} (h : IsL w base v X) {g : Nat} (hg : v.ownBlock = some g) : g < w.heap.size := by
  obtain ⟨A, c, rfl, ho⟩ := h
  exact own_lt ho hg
/-- a window as three cells -/
def winC (W : Win) : Array Value := match W with
  | none => #[.bool false, .int .i64 0, .int .i64 0]
  | some (a, b) => #[.bool true, .int .i64 (a : Int), .int .i64 (b : Int)]
abbrev IsW3 (T : TypeId) (w : World) (g : Nat) (W : Win) : Prop := w.heap[g]? = some (.cells (winC W) T (0, 0))
theorem winC_size (W : Win) : (winC W).size = 3 := by cases W <;> rfl
def RetLW (base : Nat) (w : World) (v : Value) (Y : List Bool) (W : Win) (e : Ending) (w' : World) : Prop :=
  ∃ v', e = .returned (.tuple #[v', .agg (winC W)]) ∧ IsL w' base v' Y ∧ Chg (fun k => some k = v.ownBlock) w w' ∧ (v'.ownBlock = v.ownBlock ∨ ∃ g, v'.ownBlock = some g ∧ w.heap.size ≤ g)
theorem results_tmp_cell {P : Program} {fn : Func} {p u : Tmp} {ty : TypeId} (h : fn.results = #[.tmp u, .cell p ty]) (tmps : Array Value) (w : World) (g : Nat) (t : TypeId) (cs : Array Value) (fr : Nat × Nat) (d : TypeDesc)
    (hp : tmps.getD p undef = .pointer (some ⟨g, 0, none⟩)) (hg : w.heap[g]? = some (.cells cs t fr))
    (hu : P.underlying ty = some d) (hd : (match d with | .struct _ | .array _ _ => true | _ => false) = true) (hi : (P.info? ty).map (·.size) = some cs.size) :
    (results fn tmps).run P w = .ok (.tuple #[tmps.getD u undef, .agg cs]) w := by
  have hp' : tmps[p]?.getD undef = .pointer (some ⟨g, 0, none⟩) := by simpa using hp
  simp only [results, h]
  simp [Sem.run_bind, Result.andThen, hp', asAddr, run_loadVar_row w g t ty cs fr d hg hu hd hi]
theorem set3 {T : TypeId} {w : World} {g : Nat} {cs : Array Value} (hs : cs.size = 3) {a b c : Value} (h : w.heap[g]? = some (.cells cs T (0, 0))) : (((w.setCell ⟨g, 0, none⟩ a).setCell ⟨g, 1, none⟩ b).setCell ⟨g, 2, none⟩ c).heap[g]? = some (.cells #[a, b, c] T (0, 0)) := by
  have h0 := heap_setCell_same w g 0 _ _ a h
  have h1 := heap_setCell_same _ g 1 _ _ b h0
  have h2 := heap_setCell_same _ g 2 _ _ c h1
  rw [h2]
  obtain ⟨l⟩ := cs
  simp at hs
  match l, hs with
  | [x, y, z], _ => simp
theorem row_at {F : Nat → Prop} {w0 : World} {g : Nat} {t : TypeId} {x y z : Value} {fr : Nat × Nat} (hg : w0.heap[g]? = some (.cells #[x, y, z] t fr)) (hn : ¬ F g) :
    (∀ u : Wf F w0, u.w.cell? ⟨g, 0, none⟩ = some x) ∧ (∀ u : Wf F w0, u.w.cell? ⟨g, 1, none⟩ = some y) ∧ (∀ u : Wf F w0, u.w.cell? ⟨g, 2, none⟩ = some z) :=
  ⟨Wf.at_ (by rw [cell_of_row _ _ _ _ _ _ hg]; rfl) hn, Wf.at_ (by rw [cell_of_row _ _ _ _ _ _ hg]; rfl) hn, Wf.at_ (by rw [cell_of_row _ _ _ _ _ _ hg]; rfl) hn⟩
theorem frozen3 {w : World} {g : Nat} {t : TypeId} {cs : Array Value} (hg : w.heap[g]? = some (.cells cs t (0, 0))) : w.frozen? ⟨g, 0, none⟩ = false ∧ w.frozen? ⟨g, 1, none⟩ = false ∧ w.frozen? ⟨g, 2, none⟩ = false :=
  ⟨frozen_of_row _ _ 0 _ _ hg, frozen_of_row _ _ 1 _ _ hg, frozen_of_row _ _ 2 _ _ hg⟩
theorem cells3 {w : World} {g : Nat} {t : TypeId} {x y z : Value} {fr : Nat × Nat} (hg : w.heap[g]? = some (.cells #[x, y, z] t fr)) : w.cell? ⟨g, 0, none⟩ = some x ∧ w.cell? ⟨g, 1, none⟩ = some y ∧ w.cell? ⟨g, 2, none⟩ = some z :=
  ⟨by rw [cell_of_row _ _ _ _ _ _ hg]; rfl, by rw [cell_of_row _ _ _ _ _ _ hg]; rfl, by rw [cell_of_row _ _ _ _ _ _ hg]; rfl⟩
theorem infoW : (Tryd.prog.info? 59).map (·.size) = some 3 := by kernel_rfl
theorem chg_set3 {F : Nat → Prop} {a w : World} {g : Nat} (h : Chg F a w) (hg : a.heap.size ≤ g) (x y z : Value) : Chg F a (((w.setCell ⟨g, 0, none⟩ x).setCell ⟨g, 1, none⟩ y).setCell ⟨g, 2, none⟩ z) :=
  ((h.setCell (p := ⟨g, 0, none⟩) (fun e => by have : g < a.heap.size := e; omega) x).setCell (p := ⟨g, 1, none⟩) (fun e => by have : g < a.heap.size := e; omega) y).setCell (p := ⟨g, 2, none⟩) (fun e => by have : g < a.heap.size := e; omega) z
/-- the same with names for the length and the block -/
def IsP (w : World) (base : Nat) (A : Option Addr) (L c : Nat) (X : List Bool) (O : Option Nat) : Prop := X.length = L ∧ w.ownsRow base 5 1 (.slice A L c) L (u8s (bitc.bys X)) ∧ (Value.slice A L c).ownBlock = O
theorem IsL.isP {w : World} {base : Nat} {A : Option Addr} {c : Nat} {X : List Bool} {O : Option Nat} {L : Nat} (h : IsL w base (.slice A L c) X) (hO : (Value.slice A L c).ownBlock = O) : IsP w base A L c X O := by
  obtain ⟨A', c', e, ho⟩ := h
  injection e with e1 e2 e3
  subst e1 e2 e3
  exact ⟨rfl, ho, hO⟩
theorem IsP.isL {w : World} {base : Nat} {A : Option Addr} {L c : Nat} {X : List Bool} {O : Option Nat} (h : IsP w base A L c X O) : IsL w base (.slice A L c) X := by
  obtain ⟨rfl, ho, hO⟩ := h
  exact ⟨A, c, rfl, ho⟩
theorem IsP.lt {w : World} {base : Nat} {A : Option Addr} {L c : Nat} {X : List Bool} {g : Nat} (h : IsP w base A L c X (some g)) : g < w.heap.size := own_lt h.2.1 h.2.2
def RetP (base : Nat) (w : World) (L : Nat) (O : Option Nat) (Y : List Bool) (e : Ending) (w' : World) : Prop :=
  ∃ A' L' c' X' O', e = .returned (.slice A' L' c') ∧ IsP w' base A' L' c' X' O' ∧ Hid (X' = Y) ∧ L' ≤ L + 64 ∧ Chg (fun k => some k = O) w w' ∧ (O' = O ∨ ∃ g, O' = some g ∧ w.heap.size ≤ g)
theorem put_p (w : World) (base : Nat) (A : Option Addr) (L c : Nat) (X : List Bool) (O : Option Nat) (h : IsP w base A L c X O) (hb : base ≤ w.heap.size) (hL : L ≤ 1000000000) (V : Nat) (hV : lt64 V) (n : Nat) (hn : n ≤ 64) :
    Calls Tryd.prog 29 #[.slice A L c, .int .u64 (V : Int), .int .i64 (n : Int)] w (RetP base w L O (X ++ bitsOf V n)) := by
  obtain ⟨rfl, ho, rfl⟩ := h
  refine (put_l w base _ X ⟨A, c, rfl, ho⟩ hb (by omega) V hV n hn).mono ?_
  rintro e w' ⟨v', rfl, ⟨A', c', rfl, ho'⟩, hc, hl⟩
  exact ⟨A', _, c', _, _, rfl, ⟨rfl, ho', rfl⟩, Lib.hid rfl, by rw [List.length_append, bitsOf_len]; omega, chg_of hc, hl⟩
theorem two_own {O O1 : Option Nat} {s i : Nat} (h : O1 = O ∨ ∃ g, O1 = some g ∧ s ≤ g) (hi : i < s) (e : some i = O1) : some i = O := by
  rcases h with h | ⟨g, h, hg⟩
  · rw [e, h]
  · rw [h] at e; cases e; omega
theorem two_l {O O1 O2 : Option Nat} {s s1 : Nat} (h : O1 = O ∨ ∃ g, O1 = some g ∧ s ≤ g) (h2 : O2 = O1 ∨ ∃ g, O2 = some g ∧ s1 ≤ g) (hs : s ≤ s1) : O2 = O ∨ ∃ g, O2 = some g ∧ s ≤ g := by
  rcases h2 with e | ⟨g, e, hg⟩
  · rw [e]; exact h
  · exact .inr ⟨g, e, by omega⟩
theorem lw_end {w w0 w1 : World} {base : Nat} {v v1 : Value} {Y : List Bool} {W : Win} {O : Option Nat} {cs : Array Value} (hB : Below w.heap.size w w0) (hs : w0.heap.size = w.heap.size + 2) (hO : v.ownBlock = O) (hn : some (w.heap.size + 1) ≠ O)
    (hc : Chg (fun k => some k = O) w0 w1) (hi : IsL w1 base v1 Y) (hl : v1.ownBlock = v.ownBlock ∨ ∃ g, v1.ownBlock = some g ∧ w0.heap.size ≤ g) (hw : cs = winC W) (x y z : Value) :
    RetLW base w v Y W (.returned (.tuple #[v1, .agg cs])) (((w1.setCell ⟨w.heap.size + 1, 0, none⟩ x).setCell ⟨w.heap.size + 1, 1, none⟩ y).setCell ⟨w.heap.size + 1, 2, none⟩ z) := by
  subst hw
  have h1 : Chg (fun k => some k = O) w w1 := ((Chg.of_below hB).mono (fun _ _ e => e.elim)).trans hc (fun _ _ e => e)
  refine ⟨v1, rfl, ?_, ?_, ?_⟩
  · refine hi.chg (S := fun k => k = w.heap.size + 1) (((Chg.refl (fun k => k = w.heap.size + 1) w1).setCell (p := ⟨w.heap.size + 1, 0, none⟩) (fun _ => rfl) x).setCell (p := ⟨w.heap.size + 1, 1, none⟩) (fun _ => rfl) y |>.setCell (p := ⟨w.heap.size + 1, 2, none⟩) (fun _ => rfl) z) ?_
    rintro g hg rfl
    rcases hl with e | ⟨g', e, h⟩
    · rw [e, hO] at hg; exact hn hg.symm
    · rw [e] at hg; cases hg; omega
  · rw [hO]; exact chg_set3 h1 (by omega) _ _ _
  · rcases hl with e | ⟨g', e, h⟩
    · exact .inl e
    · exact .inr ⟨g', e, by omega⟩
set_option maxHeartbeats 1000000 in
set_option maxRecDepth 100000 in
theorem value_y (w : World) (base : Nat) (v : Value) (X : List Bool) (h : IsL w base v X) (hb : base ≤ w.heap.size) (hX : X.length ≤ 100000000) (W : Win) (hW : WinOk W) (y : Nat) (hy : lt64 y) :
    Calls Tryd.prog 31 #[v, .agg (winC W), .int .u64 (y : Int)] w (RetLW base w v (X ++ valB W y) (valW W y)) := by
  obtain ⟨A, c, rfl⟩ := h.form
  have hlt : ∀ g, (Value.slice A X.length c).ownBlock = some g → g < w.heap.size := fun g hg => h.lt hg
  obtain ⟨O, hO⟩ : ∃ O, (Value.slice A X.length c).ownBlock = O := ⟨_, rfl⟩
  obtain ⟨w0, hw0⟩ : ∃ w0, (w.alloc (.cells (winC W) 59)).alloc (.cells #[.bool false, .int .i64 0, .int .i64 0] 59) = w0 := ⟨_, rfl⟩
  have b0 : Below w.heap.size w w0 := by rw [← hw0]; exact ((Below.refl _ _).alloc (Nat.le_refl _) _).alloc (by simp) _
  have hs0 : w0.heap.size = w.heap.size + 2 := by rw [← hw0]; simp
  have g4 : w0.heap[w.heap.size]? = some (.cells (winC W) 59 (0, 0)) := by rw [← hw0]; exact alloc_old _ (alloc_new _ _)
  have g7 : w0.heap[w.heap.size + 1]? = some (.cells #[.bool false, .int .i64 0, .int .i64 0] 59 (0, 0)) := by
    rw [← hw0]
    have := alloc_new (w.alloc (.cells (winC W) 59)) (.cells #[.bool false, .int .i64 0, .int .i64 0] 59)
    rwa [World.size_alloc] at this
  have h0 : IsL w0 base (.slice A X.length c) X := h.keep b0
  have HL0 := Lib.hid h0
  have HB0 := Lib.hid b0
  have HS0 := Lib.hid hs0
  have G4 := Lib.hid g4
  have G7 := Lib.hid g7
  have HW0 := Lib.hid hw0
  have HO := Lib.hid hO
  rw [hO] at hlt
  have hlt0 : (some w.heap.size : Option Nat) ≠ O := fun e => by have := hlt _ e.symm; omega
  have hlt1 : (some (w.heap.size + 1) : Option Nat) ≠ O := fun e => by have := hlt _ e.symm; omega
  have HLT0 := Lib.hid hlt0
  have HLT1 := Lib.hid hlt1
  clear h h0 b0 hs0 g4 g7 hw0 hO hlt hlt0 hlt1
  go_enter Tryd.func31, Tryd.ntmps31
  by_cases hz : y = 0
  · subst hz
    have HP := Lib.hid (put_l w0.drew base _ X HL0.out.drew (by have := HB0.out.size; simp; omega) (by omega) 0 (by unfold lt64; omega) 1 (by omega))
    rcases W with _ | ⟨a, b⟩
    all_goals
      go_wp2_with (fail)
      rw [HW0.out]
      obtain ⟨q0, q1, q2⟩ := row_at (F := fun k => some k = O) G4.out HLT0.out
      refine fr.wp_region_tree (F := fun k => some k = O) (.reads [0, 2] (.one 1 false (.reads [3] (.one 4 true .stop)))) (by kernel_rfl) (by kernel_rfl) ?_
      refine fr.tr_reads _ (by dsimp only [pick, at_]) ?_
      repeat (go_big_quiet_step (fail))
      refine wpQuiet_nil ?_
      clear q0 q1 q2
      refine fr.tr_one _ (by dsimp only [pick, at_]) ?_
      intro K1 g1 g2
      clear g1
      go_wp2_with (fail)
      refine HP.out.mono ?_
      rintro e w1 ⟨v1, rfl, hi1, hc1, hl1⟩
      have hcw : Chg (fun k => some k = O) w0 w1 := (Chg.refl _ _).drew.trans (chg_of hc1) (fun i _ e => by rw [HO.out] at e; exact e)
      have G71 := hcw.blk G7.out HLT1.out
      have HC1 := Lib.hid hcw
      have HI1 := Lib.hid hi1
      have HL1 := Lib.hid hl1
      clear hcw hi1 hc1 hl1
      go_wp2_with (fail)
      refine g2 _ _ HC1.out ?_
      clear g2
      refine fr.tr_reads _ (by dsimp only [pick, at_]) ?_
      repeat (go_big_quiet_step (fail))
      refine wpQuiet_nil ?_
      refine fr.tr_write _ (by dsimp only [pick, at_]) ?_
      intro K2 g2
      obtain ⟨c0, c1, c2⟩ := cells3 G71
      obtain ⟨f0, f1, f2⟩ := frozen3 G71
      go_wp2_with (fail)
      refine fr.tr_stop ?_
      refine NoPanic.normal ?_
      go_wp2_with (fail)
      refine bodyPost_ret (results_tmp_cell rfl _ _ (w.heap.size + 1) 59 _ _ _ rfl (set3 rfl G71) Tryd.underlying59 rfl infoW) rfl ?_
      exact lw_end HB0.out HS0.out HO.out HLT1.out HC1.out HI1.out HL1.out rfl _ _ _
  · have hlead := lead_le y
    have hboth := both_le y hy hz
    have e1 : valB W y = if fitB W y then oldB W y else newB y := by unfold valB; rw [if_neg hz]
    have e2 : valW W y = if fitB W y then W else some (lead y, trail y) := by unfold valW; rw [if_neg hz]
    have e3 : newB y = bitsOf 3 2 ++ bitsOf (lead y) 5 ++ bitsOf (63 - lead y - trail y) 6 ++ bitsOf (y / 2 ^ trail y) (64 - lead y - trail y) := rfl
    have e4 : ∀ a b, W = some (a, b) → fitB W y = (decide (a ≤ lead y) && decide (b ≤ trail y)) := fun a b e => by subst e; rfl
    have hly := fun w => leads_y w y hy
    have hty := fun w => trails_y w y hy
    obtain ⟨p, hp⟩ : ∃ p, lead y = p := ⟨_, rfl⟩
    obtain ⟨q, hq⟩ : ∃ q, trail y = q := ⟨_, rfl⟩
    rw [hp, hq] at hboth e2 e3
    rw [hp] at hly hlead
    rw [hq] at hty
    have HLY := Lib.hid hly
    have HTY := Lib.hid hty
    have E1 := Lib.hid e1
    have E2 := Lib.hid e2
    have E3 := Lib.hid e3
    have hyz : ((y : Int) == 0) = false := by simp; omega
    by_cases hf : fitB W y = true
    · obtain ⟨a, b, rfl⟩ : ∃ a b, W = some (a, b) := by
        cases W with
        | none => simp [fitB] at hf
        | some W => exact ⟨W.1, W.2, rfl⟩
      have hab := hW a b rfl
      have e5 := e4 a b rfl
      rw [hf, hp, hq] at e5
      have hle : a ≤ p ∧ b ≤ q := by simpa using e5.symm
      obtain ⟨l1, l2⟩ := hle
      rw [if_pos hf] at e1 e2
      have E1 := Lib.hid (show valB (some (a, b)) y = bitsOf 2 2 ++ bitsOf (y / 2 ^ b) (64 - a - b) from e1)
      have E2 := Lib.hid e2
      clear e1 e2 e3 e4 e5 hly hty hf hp hq
      obtain ⟨Z, hZ⟩ : ∃ Z, y / 2 ^ b = Z := ⟨_, rfl⟩
      obtain ⟨m, hm⟩ : ∃ m, 64 - a = m := ⟨_, rfl⟩
      obtain ⟨n, hn⟩ : ∃ n, m - b = n := ⟨_, rfl⟩
      have hZ64 : lt64 Z := by have := Nat.div_le_self y (2 ^ b); unfold lt64 at hy ⊢; omega
      have i1 : (y : Int) / 2 ^ b = (Z : Int) := by rw [← hZ]; simp
      have i2 : IntKind.i64.wrap (64 - (a : Int)) = (m : Int) := by rw [IntWalk.i64_in _ (by omega)]; omega
      have i3 : IntKind.i64.wrap ((m : Int) - (b : Int)) = (n : Int) := by rw [IntWalk.i64_in _ (by omega)]; omega
      have i4 : (0 : Int) ≤ (b : Int) := by omega
      have i5 : (b : Int) < 64 := by omega
      have hn64 : n ≤ 64 := by omega
      rw [hZ, hm, hn] at E1
      have HP := Lib.hid (put_l w0 base _ X HL0.out (by have := HB0.out.size; omega) (by omega) 2 (by unfold lt64; omega) 2 (by omega))
      have HI := Lib.hid (And.intro i1 (And.intro i2 (And.intro i3 (And.intro i4 i5))))
      clear i1 i2 i3 i4 i5 hZ hm hn
      obtain ⟨c0, c1, c2⟩ := cells3 G4.out
      go_wp2_with (fail)
      rw [HW0.out]
      refine (HLY.out _).mono ?_
      rintro e w' ⟨rfl, rfl⟩
      go_wp2_with (fail)
      refine (HTY.out _).mono ?_
      rintro e w' ⟨rfl, rfl⟩
      have d1 : decide ((a : Int) ≤ (p : Int)) = true := by simp; omega
      have d2 : decide ((b : Int) ≤ (q : Int)) = true := by simp; omega
      go_wp2_with (fail)
      refine HP.out.mono ?_
      rintro e w1 ⟨v1, rfl, hi1, hc1, hl1⟩
      have hcw : Chg (fun k => some k = O) w0 w1 := (chg_of hc1).mono (fun i _ e => by rw [HO.out] at e; exact e)
      rw [HO.out] at hl1
      obtain ⟨O1, hO1⟩ : ∃ O1, v1.ownBlock = O1 := ⟨_, rfl⟩
      rw [hO1] at hl1
      obtain ⟨X1, hX1⟩ : ∃ X1, X ++ bitsOf 2 2 = X1 := ⟨_, rfl⟩
      have hX1l : X1.length ≤ 100000002 := by rw [← hX1, List.length_append, bitsOf_len]; omega
      rw [hX1] at hi1
      have HX1 := Lib.hid hX1
      clear hX1
      have n0 : (some w.heap.size : Option Nat) ≠ O1 := by
        rcases hl1 with e | ⟨g, e, hg⟩
        · rw [e]; exact HLT0.out
        · rw [e]; rintro ⟨⟩; have := HS0.out; omega
      have n1 : (some (w.heap.size + 1) : Option Nat) ≠ O1 := by
        rcases hl1 with e | ⟨g, e, hg⟩
        · rw [e]; exact HLT1.out
        · rw [e]; rintro ⟨⟩; have := HS0.out; omega
      have G41 := Lib.hid (hcw.blk G4.out HLT0.out)
      have G71 := Lib.hid (hcw.blk G7.out HLT1.out)
      have hs1 := hcw.size
      have HQ := Lib.hid (put_l w1.drew base _ _ hi1.drew (by have := HS0.out; simp; omega) (by omega) Z hZ64 n hn64)
      have HC1 := Lib.hid hcw
      have HL1 := Lib.hid hl1
      have HO1 := Lib.hid hO1
      have HN0 := Lib.hid n0
      have HN1 := Lib.hid n1
      clear hcw hc1 hl1 hO1 n0 n1 HP c0 c1 c2 d1 d2
      obtain ⟨A1, cp1, rfl⟩ := hi1.form
      clear hi1
      go_wp2_with (fail)
      obtain ⟨q0, q1, q2⟩ := row_at (F := fun k => some k = O1) G41.out HN0.out
      obtain ⟨i1, i2, i3, i4, i5⟩ := HI.out
      refine fr.wp_region_tree (F := fun k => some k = O1) (.reads [0, 1, 2, 3, 4, 5, 6, 7, 8, 9, 10, 12] (.one 11 false (.reads [13] (.one 14 true .stop)))) (by kernel_rfl) (by kernel_rfl) ?_
      refine fr.tr_reads _ (by dsimp only [pick, at_]) ?_
      repeat (go_big_quiet_step (fail))
      refine wpQuiet_nil ?_
      clear q0 q1 q2 i1 i2 i3 i4 i5
      refine fr.tr_one _ (by dsimp only [pick, at_]) ?_
      intro K1 g1 g2
      clear g1
      go_wp2_with (fail)
      (with_reducible refine HQ.out.mono ?_)
      rintro e w2 ⟨v2, rfl, hi2, hc2, hl2⟩
      have hcw2 : Chg (fun k => some k = O1) w1 w2 := (Chg.refl _ _).drew.trans (chg_of hc2) (fun i _ e => by rw [HO1.out] at e; exact e)
      have G72 := hcw2.blk G71.out HN1.out
      have HC2 := Lib.hid hcw2
      have HI2 := Lib.hid hi2
      have HL2 := Lib.hid hl2
      clear hcw2 hi2 hc2 hl2
      go_wp2_with (fail)
      refine g2 _ _ HC2.out ?_
      clear g2
      refine fr.tr_reads _ (by dsimp only [pick, at_]) ?_
      repeat (go_big_quiet_step (fail))
      refine wpQuiet_nil ?_
      refine fr.tr_write _ (by dsimp only [pick, at_]) ?_
      intro K2 g2
      obtain ⟨c0, c1, c2⟩ := cells3 G72
      obtain ⟨f0, f1, f2⟩ := frozen3 G72
      go_wp2_with (fail)
      refine fr.tr_stop ?_
      refine NoPanic.normal ?_
      go_wp2_with (fail)
      refine bodyPost_ret (results_tmp_cell rfl _ _ (w.heap.size + 1) 59 _ _ _ rfl (set3 rfl G72) Tryd.underlying59 rfl infoW) rfl ?_
      have hI2 := HI2.out
      rw [← HX1.out, List.append_assoc, ← E1.out] at hI2
      have hC := HC1.out.trans HC2.out (fun i hi e => two_own HL1.out hi e)
      exact lw_end HB0.out HS0.out HO.out HLT1.out hC hI2 (by rw [HO.out]; exact two_l HL1.out (by have := HL2.out; rwa [HO1.out] at this) HC1.out.size) (by rw [E2.out]; rfl) _ _ _
    · have hnf : fitB W y = false := by simpa using hf
      rw [hnf] at e1 e2
      have E1 := Lib.hid (show valB W y = newB y from by rw [e1]; rfl)
      have E2 := Lib.hid (show valW W y = some (p, q) from by rw [e2]; rfl)
      have hcase : (W = none) ∨ (∃ a b, W = some (a, b) ∧ p < a) ∨ ∃ a b, W = some (a, b) ∧ a ≤ p ∧ q < b := by
        cases W with
        | none => exact .inl rfl
        | some W =>
          obtain ⟨a, b⟩ := W
          have e5 := e4 a b rfl
          rw [hnf, hp, hq] at e5
          by_cases h1 : a ≤ p
          · have h2 : ¬ b ≤ q := by intro h2; simp [h1, h2] at e5
            exact .inr (.inr ⟨a, b, rfl, h1, by omega⟩)
          · exact .inr (.inl ⟨a, b, rfl, by omega⟩)
      clear e1 e2 e3 e4 hly hty hf hp hq hnf
      obtain ⟨Z, hZ⟩ : ∃ Z, y / 2 ^ q = Z := ⟨_, rfl⟩
      obtain ⟨m1, hm1⟩ : ∃ m, 63 - p = m := ⟨_, rfl⟩
      obtain ⟨n1, hn1⟩ : ∃ n, m1 - q = n := ⟨_, rfl⟩
      obtain ⟨m, hm⟩ : ∃ m, 64 - p = m := ⟨_, rfl⟩
      obtain ⟨n, hn⟩ : ∃ n, m - q = n := ⟨_, rfl⟩
      have hZ64 : lt64 Z := by have := Nat.div_le_self y (2 ^ q); unfold lt64 at hy ⊢; omega
      have i1 : (y : Int) / 2 ^ q = (Z : Int) := by rw [← hZ]; simp
      have i2 : IntKind.i64.wrap (64 - (p : Int)) = (m : Int) := by rw [IntWalk.i64_in _ (by omega)]; omega
      have i3 : IntKind.i64.wrap ((m : Int) - (q : Int)) = (n : Int) := by rw [IntWalk.i64_in _ (by omega)]; omega
      have i6 : IntKind.i64.wrap (63 - (p : Int)) = (m1 : Int) := by rw [IntWalk.i64_in _ (by omega)]; omega
      have i7 : IntKind.i64.wrap ((m1 : Int) - (q : Int)) = (n1 : Int) := by rw [IntWalk.i64_in _ (by omega)]; omega
      have hn64 : n ≤ 64 := by omega
      have hn63 : n1 ≤ 63 := by omega
      have E3 := Lib.hid (show newB y = bitsOf 3 2 ++ bitsOf p 5 ++ bitsOf n1 6 ++ bitsOf Z n by rw [E3.out, hZ, hm1, hn1, hm, hn])
      have HI := Lib.hid (And.intro i1 (And.intro i2 (And.intro i3 (And.intro i6 i7))))
      have HP := Lib.hid (put_p w0 base A X.length c X O (HL0.out.isP HO.out) (by have := HB0.out.size; omega) (by omega) 3 (by unfold lt64; omega) 2 (by omega))
      have hs0 := HS0.out
      clear i1 i2 i3 i6 i7 hZ hm1 hm hn hs0
      rcases hcase with rfl | ⟨a, b, rfl, l1⟩ | ⟨a, b, rfl, l1, l2⟩
      all_goals
        obtain ⟨c0, c1, c2⟩ := cells3 G4.out
        go_wp2_with (fail)
        rw [HW0.out]
        refine (HLY.out _).mono ?_
        rintro e w' ⟨rfl, rfl⟩
        go_wp2_with (fail)
        refine (HTY.out _).mono ?_
        rintro e w' ⟨rfl, rfl⟩
        try have d1 : decide ((a : Int) ≤ (p : Int)) = false := by simp; omega
        try have d1 : decide ((a : Int) ≤ (p : Int)) = true := by simp; omega
        try have d2 : decide ((b : Int) ≤ (q : Int)) = false := by simp; omega
        go_wp2_with (fail)
        refine HP.out.mono ?_
        rintro e w1 ⟨A1, L1, cp1, X1, O1, rfl, hi1, HX1, hL1, hc1, hl1⟩
        have hs1 := hc1.size
        have HC1 := Lib.hid hc1
        have HL1 := Lib.hid hl1
        have HP2 := Lib.hid (put_p w1 base A1 L1 cp1 X1 O1 hi1 (by have := HB0.out.size; omega) (by omega) p (by unfold lt64; omega) 5 (by omega))
        clear hi1 hc1 hl1 HP
        obtain ⟨i1, i2, i3, i6, i7⟩ := HI.out
        have hpm : (p : Int) % 18446744073709551616 = (p : Int) := by omega
        have hnm : (n1 : Int) % 18446744073709551616 = (n1 : Int) := by omega
        go_wp2_with (fail)
        refine HP2.out.mono ?_
        rintro e w2 ⟨A2, L2, cp2, X2, O2, rfl, hi2, HX2, hL2, hc2, hl2⟩
        have hs2 := hc2.size
        have HC2 := Lib.hid hc2
        have HL2 := Lib.hid hl2
        have HP3 := Lib.hid (put_p w2 base A2 L2 cp2 X2 O2 hi2 (by have := HB0.out.size; omega) (by omega) n1 (by unfold lt64; omega) 6 (by omega))
        clear hi2 hc2 hl2 HP2
        go_wp2_with (fail)
        refine HP3.out.mono ?_
        rintro e w3 ⟨A3, L3, cp3, X3, O3, rfl, hi3, HX3, hL3, hc3, hl3⟩
        have hs3 := hc3.size
        have HC3 := Lib.hid hc3
        have HL3 := Lib.hid hl3
        have HP4 := Lib.hid (put_p w3 base A3 L3 cp3 X3 O3 hi3 (by have := HB0.out.size; omega) (by omega) Z hZ64 n (by omega))
        clear hi3 hc3 hl3 HP3
        go_wp2_with (fail)
        (with_reducible refine HP4.out.mono ?_)
        rintro e w4 ⟨A4, L4, cp4, X4, O4, rfl, hi4, HX4, hL4, hc4, hl4⟩
        have hs4 := hc4.size
        have HC4 := Lib.hid hc4
        have HL4 := Lib.hid hl4
        have HC := Lib.hid (((HC1.out.trans HC2.out (fun i hi e => two_own HL1.out hi e)).trans HC3.out (fun i hi e => two_own (two_l HL1.out HL2.out hs1) hi e)).trans HC4.out (fun i hi e => two_own (two_l (two_l HL1.out HL2.out hs1) HL3.out (Nat.le_trans hs1 hs2)) hi e))
        have HLL := Lib.hid (two_l (two_l (two_l HL1.out HL2.out hs1) HL3.out (Nat.le_trans hs1 hs2)) HL4.out (Nat.le_trans (Nat.le_trans hs1 hs2) hs3))
        have G74 := HC.out.blk G7.out HLT1.out
        have HI4 := Lib.hid (HX4.out ▸ hi4.isL)
        have HO4 := Lib.hid hi4.2.2
        clear hi4 hc4 hl4 HP4 c0 c1 c2 HC1 HC2 HC3 HC4 HL1 HL2 HL3 HL4
        obtain ⟨c0, c1, c2⟩ := cells3 G74
        obtain ⟨f0, f1, f2⟩ := frozen3 G74
        go_wp2_with (fail)
        refine bodyPost_ret (results_tmp_cell rfl _ _ (w.heap.size + 1) 59 _ _ _ rfl (set3 rfl G74) Tryd.underlying59 rfl infoW) rfl ?_
        have hI4 := HI4.out
        rw [HX3.out, HX2.out, HX1.out] at hI4
        rw [E1.out, E3.out]
        simp only [List.append_assoc] at hI4 ⊢
        exact lw_end HB0.out HS0.out HO.out HLT1.out HC.out hI4 (by rw [HO.out, HO4.out]; exact HLL.out) (by rw [E2.out]; rfl) _ _ _
end Go.Proofs.YtknjejejkgihbaaDoor.ts
