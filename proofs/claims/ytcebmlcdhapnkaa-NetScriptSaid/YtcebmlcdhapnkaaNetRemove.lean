/-
  Packets that are taken away.
-/
import Derived.Test.YtcebmlcdhapnkaaNet
namespace Go.Proofs.Ytcebmlcdhapnkaa.net
open Go.ChangeShapes Go.WideShapes Go.ChangeAt Go.RowKit plain words ord mem

set_option maxHeartbeats 1000000 in
theorem remove_x (w : World) (p : Nat) (r : Option Nat) (P : List Msg) (hN : IsNet w p r P) (k : Nat) (hk : k < P.length) (hP : P.length ≤ 1000000) :
    Calls Try.prog 39 #[.pointer (some ⟨p, 0, none⟩), .int .i64 (k : Int)] w (NetPost w p r (.tuple #[]) (P.eraseIdx k)) := by
  have hpl := hN.lt
  obtain ⟨v, K, hp, hrow, hK, rfl, hr⟩ := hN
  simp only [List.length_map] at hk hP
  obtain ⟨g, c, rfl, hg, hc1, hc2⟩ := hrow.pos (by omega)
  have c0 : w.cell? ⟨p, 0, none⟩ = some (.slice (some ⟨g, 0, none⟩) K.length c) := by rw [cell_of_row _ _ _ _ _ _ hp]; rfl
  have q0 := Wb.at_ c0
  have i1 : (0 : Int) ≤ (k : Int) := by omega
  have i2 : (k : Int) ≤ (K.length : Int) := by omega
  have i3 : (k : Int) + 1 ≤ (K.length : Int) := by omega
  have i4 : (k : Int) ≤ (c : Int) := by omega
  have i5 : IntKind.i64.wrap ((k : Int) + 1) = (k : Int) + 1 := IntWalk.i64_in _ (by omega)
  have i6 : ((k : Int) + 1).toNat = k + 1 := by omega
  have i7 : (0 : Int) ≤ (k : Int) + 1 := by omega
  have HROW := Lib.hid hrow
  have HK := Lib.hid hK
  have HPB := Lib.hid hp
  clear hrow hK hp
  go_enter Try.func39, Try.ntmps39
  go_wp2_with (fail)
  refine wp_region_plan [([0, 1, 2, 3, 4, 5, 6, 7, 8, 9, 10, 11, 12, 13, 14], some (15, true)), ([16, 17], some (18, true)), ([], none)] (by kernel_rfl) (by kernel_rfl) ?_
  refine seg_write _ (by dsimp only [pick, at_]) _ (by dsimp only [pick, at_]) ?_
  repeat (go_big_quiet_step (fail))
  refine wpQuiet_nil ?_
  intro K1 h1
  obtain ⟨i0, hi, hz0, hz1, hz2⟩ := info_parts infoP
  have hcut : Row w.drew 32 3 (.slice (some ⟨g, 0, none⟩) k k) k (pcells (K.take k)) := by
    have := HROW.out.cut k k (by omega) (Nat.le_refl _) (by omega)
    rw [pcells_take] at this
    exact this
  have hrest : Rd w.drew w.heap.size (if c = k + 1 then some ⟨g, 0, none⟩ else some ⟨g, (k + 1) * 3, none⟩) ((K.length - (k + 1)) * 3) (pcells (K.drop (k + 1))) := by
    have := (HROW.out.rest (k + 1) ((k + 1) * 3) (by omega) rfl).drew
    rw [pcells_drop] at this
    exact this
  have hA0 : (if c = k + 1 then some (⟨g, 0, none⟩ : Addr) else some ⟨g, (k + 1) * 3, none⟩) = none → c - (k + 1) = 0 := fun e => by split at e <;> cases e
  generalize (if c = k + 1 then some (⟨g, 0, none⟩ : Addr) else some ⟨g, (k + 1) * 3, none⟩) = A0 at hrest hA0 ⊢
  refine wpList_append_row _ rfl (.tmp 11) (.tmp 18) 44 rfl 32 i0 _ 3 40 Try.underlying44 hi hz0 hz1 hz2 rfl (by decide) _ k (pcells (K.take k)) (by rfl) hcut _ _ (K.length - (k + 1)) (c - (k + 1)) hA0 _ (by rfl) hrest (pcells_one _) (by unfold maxLen; omega) (by omega) ?_
  intro v3 w3 hrow3 hgrow hat hnn
  clear hcut hrest i0 hi hz0 hz1 hz2 hnn q0
  obtain ⟨L, hL⟩ : ∃ L, K.eraseIdx k = L := ⟨_, rfl⟩
  have hLe : K.take k ++ K.drop (k + 1) = L := by rw [← hL, List.eraseIdx_eq_take_drop_succ]
  have hLl : L.length = k + (K.length - (k + 1)) := by rw [← hLe]; simp; omega
  rw [← pcells_append, hLe, ← hLl] at hrow3
  obtain ⟨A3, c3, rfl, hd1, hd2, hd3⟩ := hrow3.form
  have hpg : p ≠ g := by
    obtain ⟨cur, hc⟩ := HROW.out.type rfl
    exact blk_type HPB.out hc (by decide)
  have hp3 : w3.heap[p]? = some (.cells #[.slice (some ⟨g, 0, none⟩) K.length c] 73 (0, 0)) :=
    (hgrow.block p hpl (fun e => hpg (by injection e))).trans HPB.out
  have hc3 : w3.cell? ⟨p, 0, none⟩ = some (.slice (some ⟨g, 0, none⟩) K.length c) := by rw [cell_of_row _ _ _ _ _ _ hp3]; rfl
  have hf3 : w3.frozen? ⟨p, 0, none⟩ = false := frozen_of_row _ _ _ _ _ hp3
  have hch3 : Chg (fun b => b = p ∨ some b = r) w w3 := (Chg.refl _ w).drew.grown hgrow (fun j hj _ => .inr (by rw [← hr, ← hj]; rfl))
  have hk3 : ∀ q ∈ L, PkOk w3 q := fun q hq => by
    have h0 : w.ownsRow 0 5 1 (.slice q.a q.n q.c) q.n (u8s q.bs) := HK.out q (by rw [← hL] at hq; exact List.mem_of_mem_eraseIdx hq)
    refine (h0.drew).kept hgrow ?_
    cases hx : (Value.slice q.a q.n q.c).ownBlock with
    | none => exact .inl rfl
    | some gx =>
      refine .inr fun e => ?_
      obtain ⟨cx, hcx⟩ := own_type h0 hx
      obtain ⟨cy, hcy⟩ := HROW.out.type (g := gx) e.symm
      exact blk_type hcx hcy (by decide) rfl
  have hrn : ∀ g', (Value.slice A3 L.length c3).ownBlock = some g' → g' = g ∨ w.heap.size ≤ g' := fun g' hg' => by
    rcases hat with e | e
    · rw [hg'] at e; injection e with e; exact .inl e
    · rw [hg'] at e; injection e with e; exact .inr (Nat.le_of_eq e.symm)
  have HROW3 := Lib.hid hrow3
  have HK3 := Lib.hid hk3
  have HCH3 := Lib.hid hch3
  have HP3 := Lib.hid hp3
  have HLL := Lib.hid hL
  clear hrow3 hk3 hch3 hp3 hgrow hLe hLl hL
  go_wp2_with (fail)
  refine seg_write _ (by dsimp only [pick, at_]) _ (by dsimp only [pick, at_]) ?_
  repeat (go_big_quiet_step (fail))
  refine wpQuiet_nil ?_
  intro K4 h4
  go_wp2_with (fail)
  refine seg_end _ (by dsimp only [pick, at_]) ?_
  refine wpQuiet_nil (NoPanic.normal ?_)
  go_wp2_with (fail)
  go_end0
  have hS := (Chg.refl (fun b => b = p) w3).setCell (p := ⟨p, 0, none⟩) (fun _ => rfl) (.slice A3 L.length c3)
  refine ⟨(Value.slice A3 L.length c3).ownBlock, rfl, ⟨_, L, heap_setCell_same _ _ _ _ _ _ HP3.out, HROW3.out.chg hS (fun g' hg' e => ?_), fun q hq => own_chg (HK3.out q hq) hS (fun g' hg' e => ?_), ?_, rfl⟩, HCH3.out.setCell (fun _ => .inl rfl) _, ?_⟩
  · rcases hrn g' hg' with e' | e'
    · exact hpg (e ▸ e')
    · omega
  · obtain ⟨cx, hcx⟩ := own_type (HK3.out q hq) hg'
    exact blk_type hcx HP3.out (by decide) e
  · rw [← HLL.out, List.eraseIdx_eq_take_drop_succ, List.eraseIdx_eq_take_drop_succ, List.map_append, List.map_take, List.map_drop]
  · rcases hat with e | e
    · exact .inl (e.trans hr)
    · exact .inr ⟨_, e, Nat.le_refl _⟩

/-- Take of a packet that is there *-/
def TakePost (w : World) (p : Nat) (r : Option Nat) (P : List Msg) (x y : Int) (n : Nat) (bs : List UInt8) (e : Ending) (w' : World) : Prop :=
  ∃ r' A c, e = .returned (.tuple #[.agg #[.int .i64 x, .int .i64 y, .slice A n c], .int .i64 0]) ∧ w'.ownsRow 0 5 1 (.slice A n c) n (u8s bs) ∧ IsNet w' p r' P ∧ Chg (fun b => b = p ∨ some b = r) w w' ∧ (r' = r ∨ ∃ g, r' = some g ∧ w.heap.size ≤ g)

set_option maxHeartbeats 1000000 in
theorem take_x (w : World) (p : Nat) (r : Option Nat) (P : List Msg) (hN : IsNet w p r P) (hP : P.length ≤ 1000000) (k : Nat) (x y : Int) (bs : List UInt8) (hk : P[k]? = some (x, y, bs)) (n : Nat) (hbn : bs.length = n) :
    Calls Try.prog 16 #[.pointer (some ⟨p, 0, none⟩), .int .i64 (k : Int)] w (TakePost w p r (P.eraseIdx k) x y n bs) := by
  have hkl : k < P.length := by
    rcases Nat.lt_or_ge k P.length with h | h
    · exact h
    · rw [List.getElem?_eq_none h] at hk; cases hk
  have hpl := hN.lt
  have hrl : ∀ g, r = some g → g < w.heap.size := fun g hg => by subst hg; exact hN.row_lt
  obtain ⟨g, c, A, n', d, hc, c0, c1, c2, hbs, hA, hc1, hc2, hgl, hok⟩ := hN.at_ hk
  obtain rfl : n' = n := hbs.len_.symm.trans hbn
  have hin : inP P (k : Int) = true := by simp [inP]; omega
  obtain ⟨P1, hP1⟩ : ∃ o, Obj.cells #[.int .i64 0, .int .i64 0, .slice none 0 0] 32 (0, 0) = o := ⟨_, rfl⟩
  obtain ⟨P2, hP2⟩ : ∃ o, Obj.cells #[.int .i64 x, .int .i64 y, .slice A n' d] 32 (0, 0) = o := ⟨_, rfl⟩
  have hb1 : Below w.heap.size w (w.alloc P1) := (Below.refl _ _).alloc (Nat.le_refl _) _
  have hb2 : Below w.heap.size w ((w.alloc P1).alloc P2) := hb1.alloc (by simp) _
  have hha := has_x (w.alloc P1) p r P (hN.below hb1) (k : Int)
  rw [hin] at hha
  have hrm := remove_x ((w.alloc P1).alloc P2) p r P (hN.below hb2) k hkl hP
  have g0 := alloc_old P2 (alloc_new w P1)
  have g1 := alloc_new (w.alloc P1) P2
  have hs1 : (w.alloc P1).heap.size = w.heap.size + 1 := by simp
  rw [hs1] at g1
  have i1 : (0 : Int) ≤ (k : Int) := by omega
  have i2 : (k : Int) < (P.length : Int) := by omega
  have hok2 := own_keep hok hb2 (Nat.le_refl _)
  subst hP1 hP2
  have HHA := Lib.hid hha
  have HRM := Lib.hid hrm
  have HN := Lib.hid hN
  have HB2 := Lib.hid hb2
  have HOK := Lib.hid hok2
  have G0 := Lib.hid g0
  have G1 := Lib.hid g1
  clear hha hrm hin hbs hk hbn hN hb1 hb2 hok hok2 g0 g1 hs1
  go_enter Try.func16, Try.ntmps16
  go_wp2_with (fail)
  refine HHA.out.mono ?_
  rintro e w1 ⟨rfl, rfl⟩
  go_wp2_with (fail)
  refine HRM.out.mono ?_
  rintro e w1 ⟨r', rfl, hN', hch, hr'⟩
  have n0 : ¬ (w.heap.size = p ∨ some w.heap.size = r) := fun e => by
    rcases e with e | e
    · omega
    · have := hrl _ e.symm; omega
  have n1 : ¬ (w.heap.size + 1 = p ∨ some (w.heap.size + 1) = r) := fun e => by
    rcases e with e | e
    · omega
    · have := hrl _ e.symm; omega
  have f0 := hch.blk G0.out n0
  have f1 := hch.blk G1.out n1
  have e0 : w1.cell? ⟨w.heap.size + 1, 0, none⟩ = some (.int .i64 x) := by rw [cell_of_row _ _ _ _ _ _ f1]; rfl
  have e1 : w1.cell? ⟨w.heap.size + 1, 1, none⟩ = some (.int .i64 y) := by rw [cell_of_row _ _ _ _ _ _ f1]; rfl
  have e2 : w1.cell? ⟨w.heap.size + 1, 2, none⟩ = some (.slice A n' d) := by rw [cell_of_row _ _ _ _ _ _ f1]; rfl
  have d0 : w1.cell? ⟨w.heap.size, 0, none⟩ = some (.int .i64 0) := by rw [cell_of_row _ _ _ _ _ _ f0]; rfl
  have d1 : w1.cell? ⟨w.heap.size, 1, none⟩ = some (.int .i64 0) := by rw [cell_of_row _ _ _ _ _ _ f0]; rfl
  have d2 : w1.cell? ⟨w.heap.size, 2, none⟩ = some (.slice none 0 0) := by rw [cell_of_row _ _ _ _ _ _ f0]; rfl
  have y0 : w1.frozen? ⟨w.heap.size, 0, none⟩ = false := frozen_of_row _ _ _ _ _ f0
  have y1 : w1.frozen? ⟨w.heap.size, 1, none⟩ = false := frozen_of_row _ _ _ _ _ f0
  have y2 : w1.frozen? ⟨w.heap.size, 2, none⟩ = false := frozen_of_row _ _ _ _ _ f0
  have hok1 := own_chg HOK.out hch (fun g' hg' e => by
    obtain ⟨cx, hcx⟩ := own_type HOK.out hg'
    rcases e with e | e
    · obtain ⟨v, K, hp, _⟩ := HN.out
      exact blk_type hcx (blk_below HB2.out hp hpl) (by decide) e
    · obtain ⟨v, K, _, hrow, _, _, hr⟩ := HN.out
      obtain ⟨cy, hcy⟩ := hrow.type (hr.trans e.symm)
      exact blk_type hcx (blk_below HB2.out hcy (blk_lt hcy)) (by decide) rfl)
  have F0 := Lib.hid f0
  have HN' := Lib.hid hN'
  have HCH := Lib.hid hch
  have HOK1 := Lib.hid hok1
  clear f0 f1 hN' hch hok1 n0 n1 HHA HRM HOK
  go_wp2_with (fail)
  have hS : Chg (fun b => b = w.heap.size) w1 (((w1.setCell ⟨w.heap.size, 0, none⟩ (.int .i64 x)).setCell ⟨w.heap.size, 1, none⟩ (.int .i64 y)).setCell ⟨w.heap.size, 2, none⟩ (.slice A n' d)) :=
    (((Chg.refl (fun b => b = w.heap.size) w1).setCell (p := ⟨w.heap.size, 0, none⟩) (fun _ => rfl) _).setCell (p := ⟨w.heap.size, 1, none⟩) (fun _ => rfl) _).setCell (p := ⟨w.heap.size, 2, none⟩) (fun _ => rfl) _
  have hr2 : ∀ g', r' = some g' → g' ≠ w.heap.size := fun g' hg' e => by
    rcases hr' with h | ⟨q, h, h2⟩
    · have := hrl g' (h ▸ hg'); omega
    · rw [hg'] at h; injection h with h; simp at h2; omega
  refine bodyPost_ret (v := .tuple #[.agg #[.int .i64 x, .int .i64 y, .slice A n' d], .int .i64 0]) (by simp [results, Try.results16, go_sem, d0, d1, d2]) rfl ⟨r', A, d, rfl, ?_, ?_, ?_, ?_⟩
  · refine own_chg HOK1.out hS fun g' hg' e => ?_
    obtain ⟨cx, hcx⟩ := own_type HOK1.out hg'
    exact blk_type hcx F0.out (by decide) e
  · refine HN'.out.chg hS (by omega) hr2 fun b cur e h => ?_
    subst e
    exact blk_type h F0.out (by decide) rfl
  · have h1 : Chg (fun b => b = p ∨ some b = r) w w1 := ((Chg.of_below HB2.out).mono (fun _ _ e => e.elim)).trans HCH.out (fun i _ e => e)
    exact ((h1.setCell (fun e => absurd e (Nat.lt_irrefl _)) _).setCell (fun e => absurd e (Nat.lt_irrefl _)) _).setCell (fun e => absurd e (Nat.lt_irrefl _)) _
  · rcases hr' with h | ⟨q, h, h2⟩
    · exact .inl h
    · exact .inr ⟨q, h, by simp at h2; omega⟩

theorem take_no (w : World) (p : Nat) (r : Option Nat) (P : List Msg) (hN : IsNet w p r P) (i : Int) (hi : inP P i = false) :
    Calls Try.prog 16 #[.pointer (some ⟨p, 0, none⟩), .int .i64 i] w fun e w' => e = .returned (.tuple #[.agg #[.int .i64 0, .int .i64 0, .slice none 0 0], .int .i64 11]) ∧ Below w.heap.size w w' := by
  have hha := has_x (w.alloc (.cells #[.int .i64 0, .int .i64 0, .slice none 0 0] 32)) p r P (hN.below ((Below.refl _ _).alloc (Nat.le_refl _) _)) i
  rw [hi] at hha
  have HHA := Lib.hid hha
  clear hha hi
  go_enter Try.func16, Try.ntmps16
  go_wp2_with (fail)
  refine HHA.out.mono ?_
  rintro e w1 ⟨rfl, rfl⟩
  go_wp2_with (fail)
  refine bodyPost_ret (v := .tuple #[.agg #[.int .i64 0, .int .i64 0, .slice none 0 0], .int .i64 11]) (by simp [results, Try.results16, go_sem]) rfl ⟨rfl, ?_⟩
  exact (Below.refl _ _).alloc (Nat.le_refl _) _
theorem drop_x (w : World) (p : Nat) (r : Option Nat) (P : List Msg) (hN : IsNet w p r P) (hP : P.length ≤ 1000000) (k : Nat) (hk : k < P.length) :
    Calls Try.prog 19 #[.pointer (some ⟨p, 0, none⟩), .int .i64 (k : Int)] w (NetPost w p r (.int .i64 0) (P.eraseIdx k)) := by
  have hin : inP P (k : Int) = true := by simp [inP]; omega
  have hha := has_x w p r P hN (k : Int)
  rw [hin] at hha
  have hrm := remove_x w p r P hN k hk hP
  have HHA := Lib.hid hha
  have HRM := Lib.hid hrm
  clear hha hrm hin
  go_enter Try.func19, Try.ntmps19
  go_wp2_with (fail)
  refine HHA.out.mono ?_
  rintro e w1 ⟨rfl, rfl⟩
  go_wp2_with (fail)
  refine HRM.out.mono ?_
  rintro e w1 ⟨r', rfl, hN', hch, hr'⟩
  go_wp2_with (fail)
  go_ret
  exact ⟨r', rfl, hN', hch, hr'⟩
theorem drop_no (w : World) (p : Nat) (r : Option Nat) (P : List Msg) (hN : IsNet w p r P) (i : Int) (hi : inP P i = false) :
    Calls Try.prog 19 #[.pointer (some ⟨p, 0, none⟩), .int .i64 i] w fun e w' => e = .returned (.int .i64 11) ∧ w = w' := by
  have hha := has_x w p r P hN i
  rw [hi] at hha
  have HHA := Lib.hid hha
  clear hha hi
  go_enter Try.func19, Try.ntmps19
  go_wp2_with (fail)
  refine HHA.out.mono ?_
  rintro e w1 ⟨rfl, rfl⟩
  go_wp2_with (fail)
  go_ret
  exact ⟨rfl, rfl⟩
theorem double_no (w : World) (p : Nat) (r : Option Nat) (P : List Msg) (hN : IsNet w p r P) (i : Int) (hi : inP P i = false) :
    Calls Try.prog 18 #[.pointer (some ⟨p, 0, none⟩), .int .i64 i] w fun e w' => e = .returned (.int .i64 11) ∧ w = w' := by
  have hha := has_x w p r P hN i
  rw [hi] at hha
  have HHA := Lib.hid hha
  clear hha hi
  go_enter Try.func18, Try.ntmps18
  go_wp2_with (fail)
  refine HHA.out.mono ?_
  rintro e w1 ⟨rfl, rfl⟩
  go_wp2_with (fail)
  go_ret
  exact ⟨rfl, rfl⟩
theorem double_x (w : World) (p : Nat) (r : Option Nat) (P : List Msg) (hN : IsNet w p r P) (hP : P.length < 256) (k : Nat) (x y : Int) (bs : List UInt8) (hk : P[k]? = some (x, y, bs)) (hn : bs.length ≤ 1099511627776) :
    Calls Try.prog 18 #[.pointer (some ⟨p, 0, none⟩), .int .i64 (k : Int)] w (NetPost w p r (.int .i64 0) (P ++ [(x, y, bs)])) := by
  have hkl : k < P.length := by
    rcases Nat.lt_or_ge k P.length with h | h
    · exact h
    · rw [List.getElem?_eq_none h] at hk; cases hk
  obtain ⟨g, c, A, n', d, hc, c0, c1, c2, hbs, hA, hc1, hc2, hgl, _⟩ := hN.at_ hk
  have hl := hbs.len_
  have hin : inP P (k : Int) = true := by simp [inP]; omega
  have hha := has_x w p r P hN (k : Int)
  rw [hin] at hha
  have had := add_x w p r P hN x y w.heap.size n' d A bs hbs hA (Nat.le_refl _) (by omega) hP
  have i1 : (0 : Int) ≤ (k : Int) := by omega
  have i2 : (k : Int) < (P.length : Int) := by omega
  have HHA := Lib.hid hha
  have HAD := Lib.hid had
  clear hha had hin hbs hk hl
  go_enter Try.func18, Try.ntmps18
  go_wp2_with (fail)
  refine HHA.out.mono ?_
  rintro e w1 ⟨rfl, rfl⟩
  go_wp2_with (fail)
  refine HAD.out.mono ?_
  rintro e w1 ⟨r', rfl, hN', hch, hr'⟩
  go_wp2_with (fail)
  go_ret
  exact ⟨r', rfl, hN', hch, hr'⟩
theorem double_full (w : World) (p : Nat) (r : Option Nat) (P : List Msg) (hN : IsNet w p r P) (hP : 256 ≤ P.length) (k : Nat) (hk : k < P.length) :
    Calls Try.prog 18 #[.pointer (some ⟨p, 0, none⟩), .int .i64 (k : Int)] w fun e w' => e = .returned (.int .i64 12) ∧ Below w.heap.size w w' := by
  have hin : inP P (k : Int) = true := by simp [inP]; omega
  obtain ⟨x, y, bs⟩ : Msg := P[k]
  have hk' : ∃ x y bs, P[k]? = some (x, y, bs) := ⟨P[k].1, P[k].2.1, P[k].2.2, List.getElem?_eq_getElem hk⟩
  obtain ⟨x, y, bs, hk'⟩ := hk'
  obtain ⟨g, c, A, n', d, hc, c0, c1, c2, hbs, hA, hc1, hc2, hgl, _⟩ := hN.at_ hk'
  have hha := has_x w p r P hN (k : Int)
  rw [hin] at hha
  have had := add_full w p r P hN undef x y hP A n' d
  have i1 : (0 : Int) ≤ (k : Int) := by omega
  have i2 : (k : Int) < (P.length : Int) := by omega
  have HHA := Lib.hid hha
  have HAD := Lib.hid had
  clear hha had hin hbs hk'
  go_enter Try.func18, Try.ntmps18
  go_wp2_with (fail)
  refine HHA.out.mono ?_
  rintro e w1 ⟨rfl, rfl⟩
  go_wp2_with (fail)
  refine HAD.out.mono ?_
  rintro e w1 ⟨rfl, hb⟩
  go_wp2_with (fail)
  go_ret
  exact ⟨rfl, hb⟩
end Go.Proofs.Ytcebmlcdhapnkaa.net
