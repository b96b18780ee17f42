/-
  The document's nets: what is taken, dropped, doubled.
-/
import Derived.Test.YtcebmlcdhapnkaaNetY2
import Derived.Laws.ResultCell
namespace Go.Proofs.Ytcebmlcdhapnkaa.net
open Go.ChangeShapes Go.WideShapes Go.ChangeAt Go.RowKit plain words ord mem

theorem ret_ct {P : Program} {fn : Func} {p u : Tmp} {ty : TypeId} (h : fn.results = #[.cell p ty, .tmp u]) (tmps : Array Value) (w : World) (g : Nat) (t : TypeId) (cs : Array Value) (fr : Nat × Nat) (d : TypeDesc)
    (hp : tmps.getD p undef = .pointer (some ⟨g, 0, none⟩)) (hg : w.heap[g]? = some (.cells cs t fr))
    (hu : P.underlying ty = some d) (hd : (match d with | .struct _ | .array _ _ => true | _ => false) = true) (hi : (P.info? ty).map (·.size) = some cs.size) :
    (results fn tmps).run P w = .ok (.tuple #[.agg cs, tmps.getD u undef]) w := by
  have hp' : tmps[p]?.getD undef = .pointer (some ⟨g, 0, none⟩) := by simpa using hp
  rw [results_cell_tmp h]
  simp [hp', asAddr, Result.andThen, run_loadVar_row w g t ty cs fr d hg hu hd hi]
theorem row_up {w w' : World} {e : TypeId} {size n B : Nat} {v : Value} {xs : List Value} (h : Row w e size v n xs) (hb : Below B w w') (hB : ∀ g, v.ownBlock = some g → g < B) : Row w' e size v n xs := by
  refine h.chg (S := fun b => B ≤ b) ⟨hb.os, hb.tape, hb.output, hb.size, fun b _ hn => hb.block b ?_⟩ (fun g hg e => ?_)
  · have hn : ¬ B ≤ b := hn
    omega
  · have := hB g hg
    have e : B ≤ g := e
    omega
theorem own_up {w w' : World} {base size n B : Nat} {e : TypeId} {v : Value} {xs : List Value} (h : w.ownsRow base e size v n xs) (hb : Below B w w') (hB : ∀ g, v.ownBlock = some g → g < B) : w'.ownsRow base e size v n xs := by
  refine own_chg h (S := fun b => B ≤ b) ⟨hb.os, hb.tape, hb.output, hb.size, fun b _ hn => hb.block b ?_⟩ (fun g hg e => ?_)
  · have hn : ¬ B ≤ b := hn
    omega
  · have := hB g hg
    have e : B ≤ g := e
    omega
theorem chg3n {w : World} (g : Nat) (x y z : Value) : Chg (fun k => k = g) w (((w.setCell ⟨g, 0, none⟩ x).setCell ⟨g, 1, none⟩ y).setCell ⟨g, 2, none⟩ z) :=
  (((Chg.refl (fun k => k = g) w).setCell (p := ⟨g, 0, none⟩) (fun _ => rfl) x).setCell (p := ⟨g, 1, none⟩) (fun _ => rfl) y).setCell (p := ⟨g, 2, none⟩) (fun _ => rfl) z
theorem rest_pos {w : World} {g c k : Nat} {K : List Pk} (h : Row w 32 3 (.slice (some ⟨g, 0, none⟩) K.length c) K.length (pcells K)) (hk : k < K.length) (hck : c = k + 1) : Rd w w.heap.size (some ⟨g, 0, none⟩) ((K.length - (k + 1)) * 3) (pcells (K.drop (k + 1))) := by
  have h := h.rest (k + 1) ((k + 1) * 3) (by omega) rfl
  rw [pcells_drop, if_pos hck] at h
  exact h
theorem rest_neg {w : World} {g c k : Nat} {K : List Pk} (h : Row w 32 3 (.slice (some ⟨g, 0, none⟩) K.length c) K.length (pcells K)) (hk : k < K.length) (hck : ¬ c = k + 1) : Rd w w.heap.size (some ⟨g, (k + 1) * 3, none⟩) ((K.length - (k + 1)) * 3) (pcells (K.drop (k + 1))) := by
  have h := h.rest (k + 1) ((k + 1) * 3) (by omega) rfl
  rw [pcells_drop, if_neg hck] at h
  exact h
def TakePostY (F : Nat → Prop) (w : World) (p : Nat) (r : Option Nat) (P : List Msg) (x y : Int) (n : Nat) (bs : List UInt8) (e : Ending) (w' : World) : Prop :=
  ∃ r' A c, e = .returned (.tuple #[.agg #[.int .i64 x, .int .i64 y, .slice A n c], .int .i64 0]) ∧ Bs w' w'.heap.size A n bs ∧ IsNetF 46 F w' p r' P ∧ Chg (fun b => b = p ∨ some b = r) w w' ∧ ∀ g, r' = some g → r = some g ∨ w.heap.size ≤ g
set_option maxHeartbeats 2000000 in
set_option maxRecDepth 100000 in
theorem take_y (F : Nat → Prop) (w : World) (p : Nat) (r : Option Nat) (P : List Msg) (hN : IsNetF 46 F w p r P) (hP : P.length ≤ 1000000) (k : Nat) (x y : Int) (bs : List UInt8) (hk : P[k]? = some (x, y, bs)) (hn : bs.length ≤ 1099511627776) (n : Nat) (hbn : bs.length = n) :
    Calls Try.prog 23 #[.pointer (some ⟨p, 0, none⟩), .int .i64 (k : Int)] w (TakePostY F w p r (P.eraseIdx k) x y n bs) := by
  have hkl : k < P.length := by
    rcases Nat.lt_or_ge k P.length with h | h
    · exact h
    · rw [List.getElem?_eq_none h] at hk; cases hk
  have hpl := hN.lt
  obtain ⟨N, hNe⟩ : ∃ N, w.heap.size = N := ⟨_, rfl⟩
  obtain ⟨w1, hw1⟩ : ∃ w1, w.alloc (.cells #[.int .i64 0, .int .i64 0, .slice none 0 0] 32) = w1 := ⟨_, rfl⟩
  have hb1 : Below w.heap.size w w1 := by rw [← hw1]; exact (Below.refl _ _).alloc (Nat.le_refl _) _
  have g1 : w1.heap[N]? = some (.cells #[.int .i64 0, .int .i64 0, .slice none 0 0] 32 (0, 0)) := by rw [← hw1, ← hNe]; exact alloc_new _ _
  have HAT := Lib.hid (at_y F w1 p r P (hN.below hb1) k x y bs hk hn n hbn)
  have hs1 := hb1.size
  obtain ⟨v, K, hp, hrow, hK, rfl, hr⟩ := hN
  simp only [List.length_map] at hkl hP
  obtain ⟨g, c, rfl, hg, hc1, hc2⟩ := hrow.pos (by omega)
  have HROW := Lib.hid hrow
  have HK := Lib.hid hK
  have HPB := Lib.hid hp
  have HR := Lib.hid hr
  have G1 := Lib.hid g1
  have B1 := Lib.hid hb1
  have HW1 := Lib.hid (And.intro hNe hw1)
  have j1 : (0 : Int) ≤ (k : Int) := by omega
  have j2 : (k : Int) ≤ (c : Int) := by omega
  have j3 : (k : Int) + 1 ≤ (K.length : Int) := by omega
  have j4 : (0 : Int) ≤ (k : Int) + 1 := by omega
  have j5 : IntKind.i64.wrap ((k : Int) + 1) = (k : Int) + 1 := IntWalk.i64_in _ (by omega)
  have j6 : ((k : Int) + 1).toNat = k + 1 := by omega
  obtain ⟨i0, hi, hz0, hz1, hz2⟩ := info_parts infoP
  have hN1 : N < w1.heap.size := blk_lt g1
  have hpN' : p ≠ N := by omega
  clear hrow hK hp hr g1 hb1 hw1 hNe hk hbn
  by_cases hck : c = k + 1
  all_goals
    go_enter Try.func23, Try.ntmps23
    go_wp2_with (fail)
    rw [HW1.out.1, HW1.out.2]
    refine HAT.out.mono ?_
    rintro e w2 ⟨A2, c2, rfl, ho2, hb2⟩
    have hs2 := hb2.size
    have B2 := Lib.hid (B1.out.trans (hb2.mono hs1))
    have G2 := Lib.hid (blk_below hb2 G1.out hN1)
    obtain ⟨N2, hN2⟩ : ∃ N2, w2.heap.size = N2 := ⟨_, rfl⟩
    obtain ⟨w3, hw3⟩ : ∃ w3, w2.alloc (.cells #[.int .i64 x, .int .i64 y, .slice A2 n c2] 32) = w3 := ⟨_, rfl⟩
    have hb3 : Below w2.heap.size w2 w3 := by rw [← hw3]; exact (Below.refl _ _).alloc (Nat.le_refl _) _
    have g3 : w3.heap[N2]? = some (.cells #[.int .i64 x, .int .i64 y, .slice A2 n c2] 32 (0, 0)) := by rw [← hw3, ← hN2]; exact alloc_new _ _
    have hs3 : w3.heap.size = N2 + 1 := by rw [← hw3, ← hN2]; simp
    obtain ⟨w4, hw4⟩ : ∃ w4, w3.alloc (.cells #[] 32) = w4 := ⟨_, rfl⟩
    have hb4 : Below w3.heap.size w3 w4 := by rw [← hw4]; exact (Below.refl _ _).alloc (Nat.le_refl _) _
    have hlit := World.ownsRow_lit (w := w3) (base := N2 + 1) (e := 32) (size := 3) #[] 0 (by omega) (by simp) rfl
    rw [hw4, hs3] at hlit
    have B4 := Lib.hid ((B2.out.trans (hb3.mono (by omega))).trans (hb4.mono (by omega)))
    have G4 := Lib.hid (blk_below hb4 g3 (blk_lt g3))
    have F4 := Lib.hid (blk_below hb4 (blk_below hb3 G2.out (by omega)) (by omega))
    have O4 := Lib.hid (own_keep (own_keep ho2 hb3 (Nat.le_refl _)) hb4 (by omega))
    have HP4 := Lib.hid (blk_below B4.out HPB.out hpl)
    have HR4 := Lib.hid (HROW.out.below B4.out (Nat.le_refl _))
    have HW3 := Lib.hid (And.intro hN2 (And.intro hw3 (And.intro hs3 hw4)))
    have c0 : w2.cell? ⟨p, 0, none⟩ = some (.slice (some ⟨g, 0, none⟩) K.length c) := by rw [cell_of_row _ _ _ _ _ _ (blk_below B2.out HPB.out hpl)]; rfl
    have hpl2 : p < w2.heap.size := by omega
    have hs4 := hb4.size
    have hpN : p < N2 := by omega
    have hgN : g < N2 := by omega
    have hNN2 : N < N2 := by omega
    have HAB := Lib.hid (show ∀ g', (Value.slice A2 n c2).ownBlock = some g' → g' < N2 + 1 from fun g' hg' => by have := own_lt ho2 hg'; omega)
    have hcutr : Rd w4 w4.heap.size (some ⟨g, 0, none⟩) (k * 3) (pcells (K.take k)) := by
      have := (HR4.out.cut k c (by omega) (by omega) (Nat.le_refl _)).rd _ _ rfl
      rwa [pcells_take] at this
    have hK4 : ∀ q ∈ K, PkOk w4 q := fun q hq => own_keep (HK.out q hq).1 B4.out (Nat.le_refl _)
    have HK4 := Lib.hid hK4
    have HLIT := Lib.hid hlit
    clear hb2 hb3 hb4 g3 ho2 hw3 hw4 hN2 HAT G2 hK4 B2
    have hs3n : N2 + 1 ≤ w4.heap.size := by omega
    clear hs3 hs4
    go_wp2_with (first
      | (at_builtin
         (try rw [HW3.out.1])
         (try rw [HW3.out.2.1])
         (try rw [HW3.out.2.2.1])
         (try rw [HW3.out.2.2.2])
         refine wpList_append_rd rfl (.tmp 19) (.tmp 25) 44 rfl (N2 + 1) 32 i0 _ 3 40 Try.underlying44 hi hz0 hz1 hz2 rfl (by decide) _ 0 [] rfl hlit w4.heap.size (some ⟨g, 0, none⟩) k _ (fun e => by cases e) (pcells (K.take k)) rfl hcutr (pcells_one _) (by unfold maxLen; omega) (by omega) (by omega) ?_
         intro v5 w5 hown5 hg5 hnn5
         simp only [Nat.zero_add, List.nil_append] at hown5
         have hb5 := own_below (Below.refl (N2 + 1) w4) HLIT.out (by omega) hg5
         have hs5 := hb5.size
         have cp5 : w5.cell? ⟨p, 0, none⟩ = some (.slice (some ⟨g, 0, none⟩) K.length c) := by rw [cell_of_row _ _ _ _ _ _ (blk_below hb5 HP4.out (by omega))]; rfl
         have hpl5 : p < w5.heap.size := by omega
         have HR5 := Lib.hid (row_up HR4.out hb5 (fun g' e => by cases e; show g < N2 + 1; omega))
         have HO5 := Lib.hid hown5
         have HB5 := Lib.hid hb5
         have HG5 := Lib.hid (blk_below hb5 G4.out (by omega))
         have HF5 := Lib.hid (blk_below hb5 F4.out (by omega))
         clear hown5 hg5 hnn5 hb5 hcutr c0 hlit)
      | (at_builtin
         refine wpList_append_rd rfl (.tmp 28) (.tmp 35) 44 rfl (N2 + 1) 32 i0 _ 3 40 Try.underlying44 hi hz0 hz1 hz2 rfl (by decide) _ k (pcells (K.take k)) rfl HO5.out w5.heap.size _ (K.length - (k + 1)) _ (fun e => by cases e) (pcells (K.drop (k + 1))) rfl (by first | exact rest_pos HR5.out hkl hck | exact rest_neg HR5.out hkl hck) (pcells_one _) (by unfold maxLen; omega) (by omega) (by omega) ?_
         intro v6 w6 hown6 hg6 hnn6
         obtain ⟨L, hL⟩ : ∃ L, K.eraseIdx k = L := ⟨_, rfl⟩
         have hLe : K.take k ++ K.drop (k + 1) = L := by rw [← hL, List.eraseIdx_eq_take_drop_succ]
         have hLl : L.length = k + (K.length - (k + 1)) := by rw [← hLe]; simp; omega
         rw [← pcells_append, hLe, ← hLl] at hown6
         obtain ⟨A6, c6, rfl⟩ := own_sl hown6
         have hb6 := own_below (Below.refl (N2 + 1) w5) HO5.out (by omega) hg6
         have hb46 := Lib.hid (HB5.out.trans hb6)
         have HO6 := Lib.hid hown6
         have HLL := Lib.hid (And.intro hL hLl)
         have hp6 := blk_below hb46.out HP4.out (by omega)
         have cp6 : w6.cell? ⟨p, 0, none⟩ = some (.slice (some ⟨g, 0, none⟩) K.length c) := by rw [cell_of_row _ _ _ _ _ _ hp6]; rfl
         have fp6 : w6.frozen? ⟨p, 0, none⟩ = false := frozen_of_row _ _ _ _ _ hp6
         have HP6 := Lib.hid hp6
         have g6 := blk_below hb46.out G4.out (by omega)
         have f6 := blk_below hb46.out F4.out (by omega)
         obtain ⟨k0, k1, k2⟩ := cells3p g6
         obtain ⟨z0, z1, z2⟩ := cells3p f6
         obtain ⟨y0, y1, y2⟩ := frozen3p f6
         have G6 := Lib.hid g6
         have F6 := Lib.hid f6
         have hs6 := hb6.size
         have hpl6 : p < w6.heap.size := by omega
         have hNl6 : N2 < w6.heap.size := by omega
         have hNl7 : N < w6.heap.size := by omega
         clear hown6 hg6 hnn6 hL hLe hLl hb6 hp6 g6 f6 cp5 hpl5))
    have hch : Chg (fun b => b = p) w6 (w6.setCell ⟨p, 0, none⟩ (.slice A6 L.length c6)) := (Chg.refl (fun b => b = p) w6).setCell (p := ⟨p, 0, none⟩) (fun _ => rfl) _
    have hf7 := hch.blk F6.out (fun e => hpN' e.symm)
    refine bodyPost_ret (ret_ct rfl _ _ N 32 _ _ _ rfl (set3p hf7) Try.underlying32 rfl infoP3) rfl ?_
    have hwN := HW1.out.1
    have hchN := chg3n (w := w6.setCell ⟨p, 0, none⟩ (.slice A6 L.length c6)) N (.int .i64 x) (.int .i64 y) (.slice A2 n c2)
    have hall : Chg (fun b => b = p ∨ b = N) w6 ((((w6.setCell ⟨p, 0, none⟩ (.slice A6 L.length c6)).setCell ⟨N, 0, none⟩ (.int .i64 x)).setCell ⟨N, 1, none⟩ (.int .i64 y)).setCell ⟨N, 2, none⟩ (.slice A2 n c2)) :=
      (hch.mono (S' := fun b => b = p ∨ b = N) (fun _ _ e => .inl e)).trans hchN (fun _ _ e => .inr e)
    have hA6 : ∀ g', (Value.slice A6 L.length c6).ownBlock = some g' → N2 + 1 ≤ g' := fun g' hg' => (HO6.out.lt g' hg').1
    have hB6 : Below w.heap.size w w6 := B4.out.trans (hb46.out.mono (by omega))
    have hob := own_up O4.out hb46.out HAB.out
    refine ⟨(Value.slice A6 L.length c6).ownBlock, A2, c2, rfl, ?_, ⟨_, L, hchN.blk (heap_setCell_same _ _ _ _ _ _ HP6.out) (fun e => hpN' e), Row.of_own (own_chg HO6.out hall (fun g' hg' e => by have := hA6 g' hg'; omega)), fun q hq => ⟨?_, ?_⟩, ?_, rfl⟩, ?_, fun g' hg' => .inr (by have := hA6 g' hg'; omega)⟩
    · refine own_bs (own_chg hob hall (fun g' hg' e => ?_))
      obtain ⟨cx, hcx⟩ := own_type hob hg'
      rcases e with e | e
      · exact blk_type hcx HP6.out (by decide) e
      · exact blk_type hcx F6.out (by decide) e
    · have hqK : q ∈ K := by rw [← HLL.out.1] at hq; exact List.mem_of_mem_eraseIdx hq
      have hq1 := own_up (HK4.out q hqK) hb46.out (fun g' hg' => by have := own_lt (HK.out q hqK).1 hg'; omega)
      refine own_chg hq1 hall (fun g' hg' e => ?_)
      obtain ⟨cx, hcx⟩ := own_type hq1 hg'
      rcases e with e | e
      · exact blk_type hcx HP6.out (by decide) e
      · exact blk_type hcx F6.out (by decide) e
    · exact (HK.out q (by rw [← HLL.out.1] at hq; exact List.mem_of_mem_eraseIdx hq)).2
    · rw [← HLL.out.1, List.eraseIdx_eq_take_drop_succ, List.eraseIdx_eq_take_drop_succ, List.map_append, List.map_take, List.map_drop]
    · have h1 : Chg (fun b => b = p ∨ some b = r) w w6 := (Chg.of_below hB6).mono (fun _ _ e => e.elim)
      exact (((h1.setCell (p := ⟨p, 0, none⟩) (fun _ => .inl rfl) _).setCell (p := ⟨N, 0, none⟩) (fun e => absurd (show N < w.heap.size from e) (by omega)) _).setCell (p := ⟨N, 1, none⟩) (fun e => absurd (show N < w.heap.size from e) (by omega)) _).setCell (p := ⟨N, 2, none⟩) (fun e => absurd (show N < w.heap.size from e) (by omega)) _
end Go.Proofs.Ytcebmlcdhapnkaa.net
