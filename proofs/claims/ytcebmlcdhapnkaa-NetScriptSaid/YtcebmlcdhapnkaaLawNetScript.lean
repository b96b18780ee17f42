/-
  The walk of the law NetScript.
-/
import Derived.Test.YtcebmlcdhapnkaaNetBothS
import Derived.Test.YtcebmlcdhapnkaaFree
import Derived.Test.YtcebmlcdhapnkaaCallQ
import Derived.Test.YtcebmlcdhapnkaaNetSame
namespace Go.Proofs.Ytcebmlcdhapnkaa.lawNetScript
open Go.ChangeShapes Go.WideShapes Go.ChangeAt Go.RowKit plain words ord mem net

set_option maxHeartbeats 8000000 in
set_option maxRecDepth 100000 in
theorem walk_core (a0 : Option Addr) (n c : Nat) (st : List St) (w : World) (h : Scr w w.heap.size a0 n st) (hn : n ≤ 9223372036854775807) :
    Calls Try.prog 5 #[.slice a0 n c] w fun e w' => e = .returned (.bool true) ∧ Below w.heap.size w w' := by
  have hhv := heavy_l w w.heap.size n c a0 st h hn
  obtain ⟨H0, hH0⟩ : ∃ H0, w.heap.size = H0 := ⟨_, rfl⟩
  rw [hH0] at h ⊢
  have HH0 := Lib.hid hH0
  clear hH0
  go_enter Try.func5, Try.ntmps5
  go_wp2_with (fail)
  refine hhv.mono ?_
  rintro e wh ⟨hb, rfl, hhb, rfl⟩
  clear hhv
  cases hb with
  | true =>
    go_wp2_with (fail)
    go_ret
    exact ⟨rfl, Below.refl _ _⟩
  | false =>
    obtain ⟨hn2, hli⟩ := hhb rfl
    have HLI := Lib.hid hli
    clear hhb hli
    go_wp2_with (fail)
    refine (new_x _).mono ?_
    rintro e w1 ⟨rfl, hN, hb⟩
    rw [HH0.out] at hN hb ⊢
    obtain ⟨p2, hp2⟩ : ∃ p2, w1.heap.size = p2 := ⟨_, rfl⟩
    obtain ⟨w2, hw2⟩ : ∃ w2, w1.alloc (.cells #[.slice none 0 0] 46) = w2 := ⟨_, rfl⟩
    have hb2 : Below w1.heap.size w1 w2 := by rw [← hw2]; exact (Below.refl _ _).alloc (Nat.le_refl _) _
    have g2 : w2.heap[p2]? = some (.cells #[.slice none 0 0] 46 (0, 0)) := by rw [← hw2, ← hp2]; exact alloc_new _ _
    have hNlt := hN.lt
    have hB : Both H0 w w2 H0 p2 (fun _ => False) none none [] [] :=
      ⟨hb.trans (hb2.mono (by omega)), by have := hb2.size; omega, (hN.below hb2).fence _ (fun _ e => e.elim), ⟨_, [], g2, Row.nil _ _ _, (fun k hk => by cases hk), rfl, rfl⟩, Nat.le_refl _, by omega, (fun _ e => by cases e), (fun _ e => by cases e), (fun _ e => by cases e)⟩
    have HB := Lib.hid hB
    have HW2 := Lib.hid (And.intro hp2 hw2)
    clear hN hb hb2 g2 hB hp2 hw2
    go_wp2_with (fail)
    rw [HW2.out.1, HW2.out.2]
    obtain ⟨i0, hi, hz0, hz1, hz2⟩ := info_parts mem.infoB
    go_loopw [5] (fun i wr => ∃ (j : Nat) (r1 r2 : Option Nat) (P : List Msg), j ≤ n ∧ i = .int .i64 j ∧ P.length ≤ 256 ∧ Aside (∀ m ∈ P, m.2.2.length ≤ 32768) ∧ Aside (Both H0 w wr H0 p2 (fun _ => False) r1 r2 P P)) (fun i _ => n - (intOf i).toNat)
    case atStart => exact ⟨0, none, none, [], Nat.zero_le _, rfl, by simp, (fun m hm => by cases hm), HB.out⟩
    case round =>
      clear HB HW2 hNlt
      obtain ⟨j, r1, r2, P, hj, rfl, hfull, SH, BB⟩ := hrel
      have hsw := BB.out.sz
      by_cases hlt : j < n
      · obtain ⟨b, off, A, L, C, kd, fx, fy, bs, rfl, hbB, hst, c0, c1, c2, c3, hbs, hA, hLC, hC, hfx⟩ := h.at_ j hlt
        unfold maxLen at hC
        have hl := hbs.len_
        have hL : L ≤ 262144 := hl ▸ HLI.out j hlt _ _ _ _ hst
        have i1 : (0 : Int) ≤ (j : Int) := by omega
        have i2 : (j : Int) < (n : Int) := by omega
        have d0 : wr.cell? ⟨b, off + j * 4, none⟩ = some (.int .i64 kd) := (BB.out.bel.cell (p := ⟨b, off + j * 4, none⟩) hbB).trans c0
        have d1 : wr.cell? ⟨b, off + j * 4 + 1, none⟩ = some (.int .i64 fx) := (BB.out.bel.cell (p := ⟨b, off + j * 4 + 1, none⟩) hbB).trans c1
        have d2 : wr.cell? ⟨b, off + j * 4 + 2, none⟩ = some (.int .i64 fy) := (BB.out.bel.cell (p := ⟨b, off + j * 4 + 2, none⟩) hbB).trans c2
        have d3 : wr.cell? ⟨b, off + j * 4 + 3, none⟩ = some (.slice A L C) := (BB.out.bel.cell (p := ⟨b, off + j * 4 + 3, none⟩) hbB).trans c3
        have hbw : b < wr.heap.size := by omega
        obtain ⟨so, hso⟩ : ∃ so, wr.heap.size = so := ⟨_, rfl⟩
        obtain ⟨w3, hw3⟩ : ∃ w3, wr.alloc (.cells #[.int .i64 kd, .int .i64 fx, .int .i64 fy, .slice A L C] 48) = w3 := ⟨_, rfl⟩
        have hb3 : Below wr.heap.size wr w3 := by rw [← hw3]; exact (Below.refl _ _).alloc (Nat.le_refl _) _
        have g3 : w3.heap[so]? = some (.cells #[.int .i64 kd, .int .i64 fx, .int .i64 fy, .slice A L C] 48 (0, 0)) := by rw [← hw3, ← hso]; exact alloc_new _ _
        have hs3 : w3.heap.size = so + 1 := by rw [← hw3, World.size_alloc, hso]
        have e3 : w3.cell? ⟨so, 3, none⟩ = some (.slice A L C) := by rw [cell_of_row _ _ _ _ _ _ g3]; rfl
        have hsl : so < w3.heap.size := blk_lt g3
        obtain ⟨w4, hw4⟩ : ∃ w4, w3.alloc (.cells #[] 5) = w4 := ⟨_, rfl⟩
        have hlit : w4.ownsRow (so + 1) 5 1 (.slice (some ⟨so + 1, 0, none⟩) 0 0) 0 [] := by
          rw [← hw4, ← hs3]
          exact World.ownsRow_lit (w := w3) (base := w3.heap.size) (e := 5) (size := 1) #[] 0 (Nat.le_refl _) (by simp) rfl
        have hb4 : Below w3.heap.size w3 w4 := by rw [← hw4]; exact (Below.refl _ _).alloc (Nat.le_refl _) _
        have g4 := blk_below hb4 g3 hsl
        have e4 : w4.cell? ⟨so, 3, none⟩ = some (.slice A L C) := by rw [cell_of_row _ _ _ _ _ _ g4]; rfl
        have hs4 : w4.heap.size = so + 2 := by rw [← hw4, World.size_alloc, hs3]
        have B4 := Lib.hid ((BB.out.below hb3).below hb4)
        have F4 := Lib.hid ((((BB.out.below hb3).fence (fun g => so + 1 ≤ g) (fun g hg => by rw [hs3]; exact hg))).below hb4)
        have T4 := Lib.hid (show ∃ cur, w4.heap[so + 1]? = some (.cells cur 5 (0, 0)) from own_type hlit rfl)
        have hsrc := hbs.below B4.out.bel (Nat.le_refl _)
        have hrd : Rd w4 H0 A (L * 1) (u8s bs) := by rw [Nat.mul_one]; exact hsrc
        have G4 := Lib.hid g4
        have HST := Lib.hid hst
        have HW := Lib.hid (And.intro hw3 hw4)
        have HO := Lib.hid hlit
        have HBS := Lib.hid hbs
        have HSO := Lib.hid hso
        clear c0 c1 c2 c3 hst hbs g3 g4 BB hb3 hb4 hw3 hw4 hlit hsrc hso
        go_wp2_with (first | (at_builtin; go_loud (refine wpList_append_rd rfl (.tmp 39) (.tmp 41) 28 rfl (so + 1) 5 i0 (.int .u8 0) 1 1 Try.underlying28 hi hz0 hz1 hz2 rfl (by decide) _ 0 [] rfl HO.out H0 A L C hA (u8s bs) rfl hrd (u8s_one bs) (by unfold maxLen; omega) (by omega) (by omega) ?_); intro v5 w5 hown5 hg5 hnn5; simp only [Nat.zero_add, List.nil_append] at hown5; have hB5 := own_below (Below.refl (so + 1) w4) HO.out (by omega) hg5; have g5 := blk_below hB5 G4.out (by omega); have f0 : w5.cell? ⟨so, 0, none⟩ = some (.int .i64 kd) := (by rw [cell_of_row _ _ _ _ _ _ g5]; rfl); have f1 : w5.cell? ⟨so, 1, none⟩ = some (.int .i64 fx) := (by rw [cell_of_row _ _ _ _ _ _ g5]; rfl); have hs5 : so < w5.heap.size := blk_lt g5; have hs45 := hB5.size; have G5 := Lib.hid g5; have O5 := Lib.hid hown5; have Q5 := Lib.hid hg5; have D5 := Lib.hid hB5; clear hB5 g5 hown5 hg5 hnn5 d0 d1 d2 d3 e3 e4 hrd hs3) | (rw [HSO.out, HW.out.1]) | (rw [HW.out.2]))
        all_goals
          have hch5 : Chg (fun g => g = so + 1) w4 w5 := (Chg.refl _ w4).grown Q5.out (fun k e _ => by injection e with e; exact e.symm)
          have B5 := Lib.hid (F4.out.data hch5 (fun b e => by subst e; exact ⟨Nat.le_refl _, (by have := HSO.out; omega), T4.out⟩))
          clear hch5 Q5 F4 T4 D5 B4 HO
        · obtain ⟨A5, c5, rfl⟩ := own_sl O5.out
          have hA5 : A5 = none → c5 = 0 := fun e => by
            rcases own_form O5.out with ⟨e1, _⟩ | ⟨_, _, e1, _⟩
            · injection e1
            · injection e1 with e1; rw [e] at e1; cases e1
          have hoc5 := own_cap O5.out
          have f2 : w5.cell? ⟨so, 2, none⟩ = some (.int .i64 fy) := by rw [cell_of_row _ _ _ _ _ _ G5.out]; rfl
          have f3 : w5.cell? ⟨so, 3, none⟩ = some (.slice A L C) := by rw [cell_of_row _ _ _ _ _ _ G5.out]; rfl
          have BF := Lib.hid (B5.out.weak (F' := fun g => (Value.slice A5 L c5).ownBlock = some g) (fun g e => (O5.out.lt g e).1))
          obtain ⟨F, hF⟩ : ∃ F : Nat → Prop, F = fun b => b = H0 ∨ b = p2 ∨ some b = r1 ∨ some b = r2 := ⟨_, rfl⟩
          have hFso : ∀ b, F b → b ≠ so := fun b e => by
            obtain ⟨v1, t1⟩ := BF.out.n1.type
            obtain ⟨v2, t2⟩ := BF.out.n2.type
            subst hF
            rcases e with rfl | rfl | e | e
            · exact blk_type t1 G5.out (by decide)
            · exact blk_type t2 G5.out (by decide)
            · obtain ⟨cur, hcur⟩ := BF.out.row1 e.symm
              exact blk_type hcur G5.out (by decide)
            · obtain ⟨cur, hcur⟩ := BF.out.row2 e.symm
              exact blk_type hcur G5.out (by decide)
          have hFu : ∀ g, (Value.slice A5 L c5).ownBlock = some g → ¬ F g := fun g hg e => by
            obtain ⟨cu, hcu⟩ := own_type O5.out hg
            obtain ⟨v1, t1⟩ := BF.out.n1.type
            obtain ⟨v2, t2⟩ := BF.out.n2.type
            subst hF
            rcases e with rfl | rfl | e | e
            · exact blk_type t1 hcu (by decide) rfl
            · exact blk_type t2 hcu (by decide) rfl
            · obtain ⟨cur, hcur⟩ := BF.out.row1 e.symm
              exact blk_type hcur hcu (by decide) rfl
            · obtain ⟨cur, hcur⟩ := BF.out.row2 e.symm
              exact blk_type hcur hcu (by decide) rfl
          have hFH : ∀ g, F g → H0 ≤ g := fun g e => by
            subst hF
            rcases e with rfl | rfl | e | e
            · exact Nat.le_refl _
            · exact BF.out.lo2
            · exact BF.out.up1 _ e.symm
            · exact BF.out.up2 _ e.symm
          have hF1 : ∀ b, (b = H0 ∨ some b = r1) → F b := fun b e => by subst hF; rcases e with e | e <;> simp [e]
          have hF2 : ∀ b, (b = p2 ∨ some b = r2) → F b := fun b e => by subst hF; rcases e with e | e <;> simp [e]
          clear hF
          have HF1 := Lib.hid hF1
          have HF2 := Lib.hid hF2
          have HFU := Lib.hid hFu
          have hnf : ¬ F so := fun e => hFso so e rfl
          have q1 := Wf.at_ (F := F) f1 hnf
          have q2 := Wf.at_ (F := F) f2 hnf
          have q3 := Wf.at_ (F := F) f3 hnf
          have q4 : ∀ u : Wf F w5, (convert 28 9 (.slice A5 L c5)).run Try.prog u.w = .ok (.string ⟨bs.toArray⟩) u.w := fun u =>
            conv_string (own_bs (own_chg O5.out u.h (fun g hg => HFU.out g hg))) 28 9 5 Try.underlying28 Try.underlying9 Try.underlying5
          have q5 : ∀ u : Wf F w5, (convert 28 9 (.slice A L C)).run Try.prog u.w = .ok (.string ⟨bs.toArray⟩) u.w := fun u =>
            conv_string ((HBS.out.below BF.out.bel (Nat.le_refl _)).below (u.h.below BF.out.sz hFH) (Nat.le_refl _)) 28 9 5 Try.underlying28 Try.underlying9 Try.underlying5
          have HD := Lib.hid (send_b1 (BF.out.below (Below.refl _ _).drew) (fun g e => (O5.out.lt g e).2) fx fy w5.heap.size L c5 A5 bs (own_bs O5.out).drew hA5 (Nat.le_refl _) (by omega))
          have hok := sent_ok hfull SH.out (fx, fy, bs)
          obtain ⟨z, Pf, hz⟩ : ∃ z Pf, sent P (fx, fy, bs) = (z, Pf) := ⟨_, _, rfl⟩
          rw [hz] at HD hok
          simp only at HD hok
          obtain ⟨hfullf, hSHf⟩ := hok
          have SHF := Lib.hid hSHf
          have HZ := Lib.hid hz
          have hzz : (z != z) = false := by simp
          clear f0 f1 f2 f3 B5 G4 hFso hFu hF1 hF2 hSHf hz hFH hnf
          refine fr.wp_region_tree (F := F) (.reads [0, 1, 2, 3, 4, 5, 7, 8, 9, 10, 11, 12, 13] (.one 6 false (.one 14 false (.reads [15, 16, 17, 18, 19, 20, 21, 22, 23] .stop)))) (by kernel_rfl) (by kernel_rfl) ?_
          refine fr.tr_reads _ (by dsimp only [pick, at_]) ?_
          repeat (go_big_quiet_step (fail))
          refine wpQuiet_nil ?_
          refine fr.tr_one _ (by dsimp only [pick, at_]) ?_
          intro K1 g1 g2
          clear g2
          go_wp2_with (fail)
          refine HD.out.mono ?_
          rintro e w6 ⟨rfl, ra, hB6, hc6⟩
          have HF6 := Lib.hid (chg_trans (Chg.refl F w5).drew (hc6.mono (fun b _ e => HF1.out b e)))
          have HD2 := Lib.hid (send_b2 hB6 (fun g e => by have := (O5.out.lt g e).2; have := HF6.out.size; omega) fx fy H0 L C A bs (HBS.out.below hB6.bel (Nat.le_refl _)) hA hB6.sz (by omega) hfull)
          rw [HZ.out] at HD2
          simp only at HD2
          clear hB6 hc6 HD
          go_wp2_with (fail)
          refine g1 _ _ HF6.out ?_
          clear g1
          refine fr.tr_one _ (by dsimp only [pick, at_]) ?_
          intro K2 g1 g2
          clear g2
          go_wp2_with (fail)
          refine HD2.out.mono ?_
          rintro e w7 ⟨rfl, rb, hB7, hc7⟩
          have HF7 := Lib.hid (chg_trans HF6.out (hc7.mono (fun b _ e => HF2.out b e)))
          have B7 := Lib.hid hB7
          have O7 := Lib.hid (own_chg O5.out HF7.out (fun g hg => HFU.out g hg))
          have hs7 := HF7.out.size
          clear hB7 hc7 HD2
          go_wp2_with (fail)
          refine g1 _ _ HF7.out ?_
          clear g1
          refine fr.tr_reads _ (by dsimp only [pick, at_]) ?_
          repeat (go_big_quiet_step (fail))
          refine wpQuiet_nil ?_
          refine fr.tr_stop ?_
          refine NoPanic.normal ?_
          have hbl : bs.length = L := hl
          have HBL := Lib.hid hbl
          clear q1 q2 q3 q4 q5 hbl
          go_wp2_with (fail)
          go_loopw [8] (fun i wr => ∃ (k : Nat) (ys : List UInt8), k ≤ L ∧ i = .int .i64 k ∧ Aside (ys.length = L) ∧ wr.ownsRow (so + 1) 5 1 (.slice A5 L c5) L (u8s ys) ∧ Chg (fun g => (Value.slice A5 L c5).ownBlock = some g) w7 wr) (fun i _ => L - (intOf i).toNat)
          case atStart => exact ⟨0, bs, Nat.zero_le _, rfl, HBL.out, O7.out, Chg.refl _ _⟩
          case round =>
            obtain ⟨k, ys, hk, rfl, HYS, hown, hch⟩ := hrel
            by_cases hlt : k < L
            · obtain ⟨g, cap, e5, hg1, hg2, hg3, hg4⟩ : ∃ g cap, Value.slice A5 L c5 = .slice (some ⟨g, 0, none⟩) L cap ∧ so + 1 ≤ g ∧ g < wr.heap.size ∧ L ≤ cap ∧ cap ≤ maxLen := by
                rcases own_form hown with ⟨_, e⟩ | e
                · omega
                · exact e
              obtain ⟨rfl, rfl⟩ : A5 = some ⟨g, 0, none⟩ ∧ c5 = cap := by injection e5 with a b c; exact ⟨a, c⟩
              have hy : ys[k]? = some (ys[k]'(by have := HYS.out; omega)) := List.getElem?_eq_getElem _
              obtain ⟨y, hye⟩ : ∃ y, ys[k]'(by have := HYS.out; omega) = y := ⟨_, rfl⟩
              rw [hye] at hy
              have hcell := hown.cellAt k (by omega)
              rw [show (u8s ys)[k]? = some (.int .u8 (y.toNat : Int)) from by simp only [u8s, List.getElem?_map, hy]; rfl] at hcell
              have hfr := hown.frozenAt k
              obtain ⟨y2, hy2⟩ := byte_of ((y.toNat : Int) + 1)
              have hst := (hown.stored k (.int .u8 (y2.toNat : Int))).1
              rw [u8s_set] at hst
              have hc2 := hch.setCell (p := ⟨g, k, none⟩) (fun _ => rfl) (.int .u8 (y2.toNat : Int))
              have hy3 : ((y.toNat : Int) + 1) % 256 = (y2.toNat : Int) := hy2.symm
              have hyl := y.toNat_lt
              have i3 : (0 : Int) ≤ (k : Int) := by omega
              have i4 : (k : Int) < (L : Int) := by omega
              have HYS2 := Lib.hid (show (ys.set k y2).length = L by rw [List.length_set]; exact HYS.out)
              have HST := Lib.hid hst
              have HC2 := Lib.hid hc2
              clear hst hc2 hy hye hown hy2 e5
              go_wp2_with fail
              go_roundw
              case rel => exact ⟨k + 1, ys.set k y2, by omega, by go_num, HYS2.out, HST.out, HC2.out⟩
              case measure => simp [intOf]; omega
            · have BFF := Lib.hid ((B7.out.data hch (fun b e => ⟨e, (by have h1 := (O7.out.lt b e).1; have h2 := HSO.out; omega), own_type O7.out e⟩)).weak (F' := fun _ => False) (fun _ e => e.elim))
              obtain ⟨wv, rfl⟩ : ∃ wv, wv = wr := ⟨wr, rfl⟩
              have i4 : ¬ (k : Int) < (L : Int) := by omega
              clear hown hch O7 B7
              go_wp2_with fail
              obtain ⟨ls, lc, hslot, hlc1, hlc2⟩ := BFF.out.n2.slot
              have hp2 := BFF.out.n2.lt
              have q0 := Wb.at_ hslot
              have HLF := Lib.hid (len_x wv.drew H0 ra Pf (IsNetF.net BFF.out.n1).drew)
              refine wp_region_plan [([0, 2, 3, 4, 5, 6], some (1, false)), ([7], none)] (by kernel_rfl) (by kernel_rfl) ?_
              refine seg_act _ (by dsimp only [pick, at_]) _ (by dsimp only [pick, at_]) ?_
              repeat (go_big_quiet_step (fail))
              refine wpQuiet_nil ?_
              intro K1 h1 h2
              clear q0 h2
              go_wp2_with (fail)
              refine HLF.out.mono ?_
              rintro e wz ⟨rfl, rfl⟩
              go_wp2_with (fail)
              refine h1 _ _ (Below.refl _ _).drew ?_
              clear h1
              refine seg_end _ (by dsimp only [pick, at_]) ?_
              repeat (go_big_quiet_step (fail))
              refine wpQuiet_nil ?_
              refine NoPanic.normal ?_
              go_wp2_with (fail)
              go_roundw
              case rel => exact ⟨j + 1, ra, rb, Pf, by omega, by go_num, hfullf, SHF.out, BFF.out.below (Below.refl _ _).drew⟩
              case measure => simp [intOf]; omega
        · have BF := Lib.hid (B5.out.weak (F' := fun _ => False) (fun _ e => e.elim))
          have HD := Lib.hid (take_b1 BF.out hfull fx)
          have hok := taken_ok hfull SH.out fx
          obtain ⟨z, M, Pf, hz⟩ : ∃ z M Pf, taken P fx = (z, M, Pf) := ⟨_, _, _, rfl⟩
          rw [hz] at HD hok
          simp only at HD hok
          obtain ⟨hfullf, hSHf⟩ := hok
          have SHF := Lib.hid hSHf
          have HZ := Lib.hid hz
          have hns : ∀ b, (b = H0 ∨ some b = r1) → b ≠ so := fun b e => by
            obtain ⟨v1, t1⟩ := BF.out.n1.type
            rcases e with rfl | e
            · exact blk_type t1 G5.out (by decide)
            · obtain ⟨cur, hcur⟩ := BF.out.row1 e.symm
              exact blk_type hcur G5.out (by decide)
          have HNS := Lib.hid hns
          clear f0 f1 B5 O5 G4 hns hz hSHf
          refine HD.out.mono ?_
          rintro e w6 ⟨x1, y1, n1, A1, c1, bs1, ra, rfl, hbs1, hm1, hB6, hc6⟩
          have G6 := hc6.blk G5.out (fun e => HNS.out _ e rfl)
          obtain ⟨N1, hN1⟩ : ∃ N, w6.heap.size = N := ⟨_, rfl⟩
          obtain ⟨w7, hw7⟩ : ∃ w7, w6.alloc (.cells #[.int .i64 x1, .int .i64 y1, .slice A1 n1 c1] 32) = w7 := ⟨_, rfl⟩
          have hb7 : Below w6.heap.size w6 w7 := by rw [← hw7]; exact (Below.refl _ _).alloc (Nat.le_refl _) _
          have hn12 : ∀ b, (b = p2 ∨ some b = r2) → b ≠ N1 := fun b e => by
            have h6 := hc6.size
            have : b < w5.heap.size := by
              rcases e with rfl | e
              · exact BF.out.n2.lt
              · obtain ⟨cur, hcur⟩ := BF.out.row2 e.symm
                exact blk_lt hcur
            omega
          have HN12 := Lib.hid hn12
          have G7 := Lib.hid (show w7.heap[N1]? = some (.cells #[.int .i64 x1, .int .i64 y1, .slice A1 n1 c1] 32 (0, 0)) by rw [← hw7, ← hN1]; exact alloc_new _ _)
          have GS := Lib.hid (blk_below hb7 G6 (blk_lt G6))
          have B7 := Lib.hid (hB6.below hb7)
          have S7 := Lib.hid (own_keep hbs1 hb7 (Nat.le_refl _))
          have M1 := Lib.hid hm1
          have HW7 := Lib.hid (And.intro hN1 hw7)
          have hs7 := hb7.size
          have f1 : w7.cell? ⟨so, 1, none⟩ = some (.int .i64 fx) := by rw [cell_of_row _ _ _ _ _ _ GS.out]; rfl
          have hso7 : so < w7.heap.size := blk_lt GS.out
          have HD2 := Lib.hid (take_b2 B7.out hfull SH.out fx)
          rw [HZ.out] at HD2
          simp only at HD2
          clear hbs1 hm1 hB6 hc6 G6 hN1 hw7 hb7 HD hn12
          go_wp2_with (first | (rw [HW7.out.1, HW7.out.2]) | (rw [HW7.out.2]))
          refine HD2.out.mono ?_
          rintro e w8 ⟨x2, y2, n2, A2, c2, bs2, rb, rfl, hbs2, hm2, hB8, hc8⟩
          have G8 := hc8.blk G7.out (fun e => HN12.out _ e rfl)
          have O8 := own_chg S7.out hc8 (fun g hg e => by
            obtain ⟨cur, hcur⟩ := own_type S7.out hg
            obtain ⟨v2, t2⟩ := B7.out.n2.type
            rcases e with e | e
            · exact blk_type hcur t2 (by decide) e
            · obtain ⟨cur', hcur'⟩ := B7.out.row2 e.symm
              exact blk_type hcur hcur' (by decide) rfl)
          obtain ⟨N2, hN2⟩ : ∃ N, w8.heap.size = N := ⟨_, rfl⟩
          obtain ⟨w9, hw9⟩ : ∃ w9, w8.alloc (.cells #[.int .i64 x2, .int .i64 y2, .slice A2 n2 c2] 32) = w9 := ⟨_, rfl⟩
          have hb9 : Below w8.heap.size w8 w9 := by rw [← hw9]; exact (Below.refl _ _).alloc (Nat.le_refl _) _
          have g9 : w9.heap[N2]? = some (.cells #[.int .i64 x2, .int .i64 y2, .slice A2 n2 c2] 32 (0, 0)) := by rw [← hw9, ← hN2]; exact alloc_new _ _
          have g91 := blk_below hb9 G8 (blk_lt G8)
          have hl1 : N1 < w9.heap.size := blk_lt g91
          have hl2 : N2 < w9.heap.size := blk_lt g9
          obtain ⟨t0, t1, t2⟩ := cells3p g91
          obtain ⟨u0, u1, u2⟩ := cells3p g9
          have hs9 := hb9.size
          have B9 := Lib.hid (hB8.below hb9)
          have hsm : sameM (x1, y1, bs1) (x2, y2, bs2) = true := (sameM_eq _ _).2 (M1.out.trans hm2.symm)
          have HS := Lib.hid (same_x w9 x1 y1 x2 y2 n1 c1 n2 c2 A1 A2 bs1 bs2 (own_bs (own_keep O8 hb9 (Nat.le_refl _))) ((hbs2.below hb9 (Nat.le_refl _)).more hs9))
          rw [hsm] at HS
          have HW9 := Lib.hid (And.intro hN2 hw9)
          clear hbs2 hm2 hB8 hc8 G8 O8 hN2 hw9 hb9 g9 g91 hsm HD2 f1 hs7 hso7
          go_wp2_with (first | (rw [HW9.out.1, HW9.out.2]) | (rw [HW9.out.2]))
          refine HS.out.mono ?_
          rintro e w10 ⟨rfl, hb10⟩
          have BF := Lib.hid (B9.out.below hb10)
          clear hb10 HS t0 t1 t2 u0 u1 u2 hl1 hl2 hs9
          go_wp2_with (fail)
          obtain ⟨ls, lc, hslot, hlc1, hlc2⟩ := BF.out.n2.slot
          have hp2 := BF.out.n2.lt
          have q0 := Wb.at_ hslot
          have HLF := Lib.hid (len_x w10.drew H0 ra Pf (IsNetF.net BF.out.n1).drew)
          refine wp_region_plan [([0, 2, 3, 4, 5, 6], some (1, false)), ([7], none)] (by kernel_rfl) (by kernel_rfl) ?_
          refine seg_act _ (by dsimp only [pick, at_]) _ (by dsimp only [pick, at_]) ?_
          repeat (go_big_quiet_step (fail))
          refine wpQuiet_nil ?_
          intro K1 h1 h2
          clear q0 h2
          go_wp2_with (fail)
          refine HLF.out.mono ?_
          rintro e wz ⟨rfl, rfl⟩
          go_wp2_with (fail)
          refine h1 _ _ (Below.refl _ _).drew ?_
          clear h1
          refine seg_end _ (by dsimp only [pick, at_]) ?_
          repeat (go_big_quiet_step (fail))
          refine wpQuiet_nil ?_
          refine NoPanic.normal ?_
          go_wp2_with (fail)
          go_roundw
          case rel => exact ⟨j + 1, ra, rb, Pf, by omega, by go_num, hfullf, SHF.out, BF.out.below (Below.refl _ _).drew⟩
          case measure => simp [intOf]; omega
        · have BF := Lib.hid (B5.out.weak (F' := fun _ => False) (fun _ e => e.elim))
          have q1 := Wf.at_ (F := fun b => b ≠ so) f1 (fun e => e rfl)
          have hn1 : ∀ b, (b = H0 ∨ some b = r1) → b ≠ so := fun b e => by
            obtain ⟨v1, t1⟩ := BF.out.n1.type
            rcases e with rfl | e
            · exact blk_type t1 G5.out (by decide)
            · obtain ⟨cur, hcur⟩ := BF.out.row1 e.symm
              exact blk_type hcur G5.out (by decide)
          have hn2' : ∀ b, (b = p2 ∨ some b = r2) → b ≠ so := fun b e => by
            obtain ⟨v2, t2⟩ := BF.out.n2.type
            rcases e with rfl | e
            · exact blk_type t2 G5.out (by decide)
            · obtain ⟨cur, hcur⟩ := BF.out.row2 e.symm
              exact blk_type hcur G5.out (by decide)
          have HN1 := Lib.hid hn1
          have HN2 := Lib.hid hn2'
          have BD := Lib.hid (BF.out.below (Below.refl _ _).drew)
          have HD := Lib.hid (drop_b1 BD.out hfull fx)
          clear f0 f1 B5 O5 G4 hn1 hn2'
          refine fr.wp_region_tree (F := fun b => b ≠ so) (.reads [0, 1, 2, 4, 5, 6] (.one 3 false (.one 7 false (.reads [8] .stop)))) (by kernel_rfl) (by kernel_rfl) ?_
          refine fr.tr_reads _ (by dsimp only [pick, at_]) ?_
          repeat (go_big_quiet_step (fail))
          refine wpQuiet_nil ?_
          clear q1
          refine fr.tr_one _ (by dsimp only [pick, at_]) ?_
          intro K1 g1 g2
          clear g2
          go_wp2_with (fail)
          refine HD.out.mono ?_
          rintro e w6 ⟨rfl, ra, hB6, hc6⟩
          have hF6 : Chg (fun b => b ≠ so) w5 w6 := chg_trans (Chg.refl _ _).drew (hc6.mono (fun b _ e => HN1.out b e))
          have HD2 := Lib.hid (drop_b2 hB6 hfull SH.out fx)
          have HF6 := Lib.hid hF6
          clear hB6 hc6 hF6 HD
          go_wp2_with (fail)
          refine g1 _ _ HF6.out ?_
          clear g1
          refine fr.tr_one _ (by dsimp only [pick, at_]) ?_
          intro K2 g1 g2
          clear g2
          go_wp2_with (fail)
          refine HD2.out.mono ?_
          rintro e w7 ⟨rfl, rb, hB7, hc7⟩
          have HF7 := Lib.hid (chg_trans HF6.out (hc7.mono (fun b _ e => HN2.out b e)))
          have hok := dropped_ok hfull SH.out fx
          obtain ⟨z, Pf, hz⟩ : ∃ z Pf, dropped P fx = (z, Pf) := ⟨_, _, rfl⟩
          rw [hz] at hok hB7 ⊢
          simp only at hok hB7 ⊢
          obtain ⟨hfullf, hSHf⟩ := hok
          have BF := Lib.hid hB7
          have SHF := Lib.hid hSHf
          clear hB7 hc7 HD2 hz hSHf
          go_wp2_with (fail)
          refine g1 _ _ HF7.out ?_
          clear g1
          refine fr.tr_reads _ (by dsimp only [pick, at_]) ?_
          repeat (go_big_quiet_step (fail))
          refine wpQuiet_nil ?_
          refine fr.tr_stop ?_
          refine NoPanic.normal ?_
          go_wp2_with (fail)
          obtain ⟨ls, lc, hslot, hlc1, hlc2⟩ := BF.out.n2.slot
          have hp2 := BF.out.n2.lt
          have q0 := Wb.at_ hslot
          have HLF := Lib.hid (len_x w7.drew H0 ra Pf (IsNetF.net BF.out.n1).drew)
          refine wp_region_plan [([0, 2, 3, 4, 5, 6], some (1, false)), ([7], none)] (by kernel_rfl) (by kernel_rfl) ?_
          refine seg_act _ (by dsimp only [pick, at_]) _ (by dsimp only [pick, at_]) ?_
          repeat (go_big_quiet_step (fail))
          refine wpQuiet_nil ?_
          intro K1 h1 h2
          clear q0 h2
          go_wp2_with (fail)
          refine HLF.out.mono ?_
          rintro e wz ⟨rfl, rfl⟩
          go_wp2_with (fail)
          refine h1 _ _ (Below.refl _ _).drew ?_
          clear h1
          refine seg_end _ (by dsimp only [pick, at_]) ?_
          repeat (go_big_quiet_step (fail))
          refine wpQuiet_nil ?_
          refine NoPanic.normal ?_
          go_wp2_with (fail)
          go_roundw
          case rel => exact ⟨j + 1, ra, rb, Pf, by omega, by go_num, hfullf, SHF.out, BF.out.below (Below.refl _ _).drew⟩
          case measure => simp [intOf]; omega
        · have BF := Lib.hid (B5.out.weak (F' := fun _ => False) (fun _ e => e.elim))
          have q1 := Wf.at_ (F := fun b => b ≠ so) f1 (fun e => e rfl)
          have hn1 : ∀ b, (b = H0 ∨ some b = r1) → b ≠ so := fun b e => by
            obtain ⟨v1, t1⟩ := BF.out.n1.type
            rcases e with rfl | e
            · exact blk_type t1 G5.out (by decide)
            · obtain ⟨cur, hcur⟩ := BF.out.row1 e.symm
              exact blk_type hcur G5.out (by decide)
          have hn2' : ∀ b, (b = p2 ∨ some b = r2) → b ≠ so := fun b e => by
            obtain ⟨v2, t2⟩ := BF.out.n2.type
            rcases e with rfl | e
            · exact blk_type t2 G5.out (by decide)
            · obtain ⟨cur, hcur⟩ := BF.out.row2 e.symm
              exact blk_type hcur G5.out (by decide)
          have HN1 := Lib.hid hn1
          have HN2 := Lib.hid hn2'
          have BD := Lib.hid (BF.out.below (Below.refl _ _).drew)
          have HD := Lib.hid (double_b1 BD.out hfull SH.out fx)
          clear f0 f1 B5 O5 G4 hn1 hn2'
          refine fr.wp_region_tree (F := fun b => b ≠ so) (.reads [0, 1, 2, 4, 5, 6] (.one 3 false (.one 7 false (.reads [8] .stop)))) (by kernel_rfl) (by kernel_rfl) ?_
          refine fr.tr_reads _ (by dsimp only [pick, at_]) ?_
          repeat (go_big_quiet_step (fail))
          refine wpQuiet_nil ?_
          clear q1
          refine fr.tr_one _ (by dsimp only [pick, at_]) ?_
          intro K1 g1 g2
          clear g2
          go_wp2_with (fail)
          refine HD.out.mono ?_
          rintro e w6 ⟨rfl, ra, hB6, hc6⟩
          have hF6 : Chg (fun b => b ≠ so) w5 w6 := chg_trans (Chg.refl _ _).drew (hc6.mono (fun b _ e => HN1.out b e))
          have HD2 := Lib.hid (double_b2 hB6 hfull SH.out fx)
          have HF6 := Lib.hid hF6
          clear hB6 hc6 hF6 HD
          go_wp2_with (fail)
          refine g1 _ _ HF6.out ?_
          clear g1
          refine fr.tr_one _ (by dsimp only [pick, at_]) ?_
          intro K2 g1 g2
          clear g2
          go_wp2_with (fail)
          refine HD2.out.mono ?_
          rintro e w7 ⟨rfl, rb, hB7, hc7⟩
          have HF7 := Lib.hid (chg_trans HF6.out (hc7.mono (fun b _ e => HN2.out b e)))
          have hok := doubled_ok hfull SH.out fx
          obtain ⟨z, Pf, hz⟩ : ∃ z Pf, doubled P fx = (z, Pf) := ⟨_, _, rfl⟩
          rw [hz] at hok hB7 ⊢
          simp only at hok hB7 ⊢
          obtain ⟨hfullf, hSHf⟩ := hok
          have BF := Lib.hid hB7
          have SHF := Lib.hid hSHf
          clear hB7 hc7 HD2 hz hSHf
          go_wp2_with (fail)
          refine g1 _ _ HF7.out ?_
          clear g1
          refine fr.tr_reads _ (by dsimp only [pick, at_]) ?_
          repeat (go_big_quiet_step (fail))
          refine wpQuiet_nil ?_
          refine fr.tr_stop ?_
          refine NoPanic.normal ?_
          go_wp2_with (fail)
          obtain ⟨ls, lc, hslot, hlc1, hlc2⟩ := BF.out.n2.slot
          have hp2 := BF.out.n2.lt
          have q0 := Wb.at_ hslot
          have HLF := Lib.hid (len_x w7.drew H0 ra Pf (IsNetF.net BF.out.n1).drew)
          refine wp_region_plan [([0, 2, 3, 4, 5, 6], some (1, false)), ([7], none)] (by kernel_rfl) (by kernel_rfl) ?_
          refine seg_act _ (by dsimp only [pick, at_]) _ (by dsimp only [pick, at_]) ?_
          repeat (go_big_quiet_step (fail))
          refine wpQuiet_nil ?_
          intro K1 h1 h2
          clear q0 h2
          go_wp2_with (fail)
          refine HLF.out.mono ?_
          rintro e wz ⟨rfl, rfl⟩
          go_wp2_with (fail)
          refine h1 _ _ (Below.refl _ _).drew ?_
          clear h1
          refine seg_end _ (by dsimp only [pick, at_]) ?_
          repeat (go_big_quiet_step (fail))
          refine wpQuiet_nil ?_
          refine NoPanic.normal ?_
          go_wp2_with (fail)
          go_roundw
          case rel => exact ⟨j + 1, ra, rb, Pf, by omega, by go_num, hfullf, SHF.out, BF.out.below (Below.refl _ _).drew⟩
          case measure => simp [intOf]; omega
        · have BF := Lib.hid (B5.out.weak (F' := fun _ => False) (fun _ e => e.elim))
          have HD := Lib.hid (at_b1 BF.out SH.out fx)
          clear f0 f1 B5 O5 G4
          have f1 : w5.cell? ⟨so, 1, none⟩ = some (.int .i64 fx) := by rw [cell_of_row _ _ _ _ _ _ G5.out]; rfl
          go_wp2_with (fail)
          refine HD.out.mono ?_
          rintro e w6 ⟨x1, y1, n1, A1, c1, bs1, rfl, hn1, hown, hb6⟩
          obtain ⟨ib, hib⟩ : ∃ ib, inP P fx = ib := ⟨_, rfl⟩
          rw [hib]
          have HIB := Lib.hid hib
          have G6 := blk_below hb6 G5.out (blk_lt G5.out)
          obtain ⟨N1, hN1⟩ : ∃ N, w6.heap.size = N := ⟨_, rfl⟩
          obtain ⟨w7, hw7⟩ : ∃ w7, w6.alloc (.cells #[.int .i64 x1, .int .i64 y1, .slice A1 n1 c1] 32) = w7 := ⟨_, rfl⟩
          have hb7 : Below w6.heap.size w6 w7 := by rw [← hw7]; exact (Below.refl _ _).alloc (Nat.le_refl _) _
          have G7 := Lib.hid (show w7.heap[N1]? = some (.cells #[.int .i64 x1, .int .i64 y1, .slice A1 n1 c1] 32 (0, 0)) by rw [← hw7, ← hN1]; exact alloc_new _ _)
          have GS := Lib.hid (blk_below hb7 G6 (blk_lt G6))
          have B7 := Lib.hid (((BF.out.fence (fun g => w5.heap.size ≤ g) (fun g e => e)).below hb6).below hb7)
          have O7 := Lib.hid (own_keep hown hb7 (Nat.le_refl _))
          have HBL := Lib.hid (show bs1.length = n1 by simpa [u8s] using hown.1)
          have hoc := own_cap hown
          have HW7 := Lib.hid (And.intro hN1 hw7)
          clear hown hb6 G6 hN1 hw7 hb7 HD f1 hib
          go_wp2_with (first | (rw [HW7.out.1, HW7.out.2]) | (rw [HW7.out.2]))
          go_loopw [15] (fun i wr => ∃ (k : Nat) (ys : List UInt8), k ≤ n1 ∧ i = .int .i64 k ∧ Aside (ys.length = n1) ∧ wr.ownsRow w5.heap.size 5 1 (.slice A1 n1 c1) n1 (u8s ys) ∧ Chg (fun g => (Value.slice A1 n1 c1).ownBlock = some g) w7 wr) (fun i _ => n1 - (intOf i).toNat)
          case atStart => exact ⟨0, bs1, Nat.zero_le _, rfl, HBL.out, O7.out, Chg.refl _ _⟩
          case round =>
            obtain ⟨k, ys, hk, rfl, HYS, hown, hch⟩ := hrel
            have g7 := hch.blk G7.out (fun e => by obtain ⟨cu, hcu⟩ := own_type O7.out e; exact blk_type G7.out hcu (by decide) rfl)
            have gs := hch.blk GS.out (fun e => by obtain ⟨cu, hcu⟩ := own_type O7.out e; exact blk_type GS.out hcu (by decide) rfl)
            have t2 : wr.cell? ⟨N1, 2, none⟩ = some (.slice A1 n1 c1) := by rw [cell_of_row _ _ _ _ _ _ g7]; rfl
            have hl7 : N1 < wr.heap.size := blk_lt g7
            by_cases hlt : k < n1
            · obtain ⟨g, cap, e5, hg1, hg2, hg3, hg4⟩ : ∃ g cap, Value.slice A1 n1 c1 = .slice (some ⟨g, 0, none⟩) n1 cap ∧ w5.heap.size ≤ g ∧ g < wr.heap.size ∧ n1 ≤ cap ∧ cap ≤ maxLen := by
                rcases own_form hown with ⟨_, e⟩ | e
                · omega
                · exact e
              obtain ⟨rfl, rfl⟩ : A1 = some ⟨g, 0, none⟩ ∧ c1 = cap := by injection e5 with a b c; exact ⟨a, c⟩
              have hy : ys[k]? = some (ys[k]'(by have := HYS.out; omega)) := List.getElem?_eq_getElem _
              obtain ⟨y, hye⟩ : ∃ y, ys[k]'(by have := HYS.out; omega) = y := ⟨_, rfl⟩
              rw [hye] at hy
              have hcell := hown.cellAt k (by omega)
              rw [show (u8s ys)[k]? = some (.int .u8 (y.toNat : Int)) from by simp only [u8s, List.getElem?_map, hy]; rfl] at hcell
              have hfr := hown.frozenAt k
              obtain ⟨y2, hy2⟩ := byte_of ((y.toNat : Int) + 1)
              have hst := (hown.stored k (.int .u8 (y2.toNat : Int))).1
              rw [u8s_set] at hst
              have hc2 := hch.setCell (p := ⟨g, k, none⟩) (fun _ => rfl) (.int .u8 (y2.toNat : Int))
              have hy3 : ((y.toNat : Int) + 1) % 256 = (y2.toNat : Int) := hy2.symm
              have hyl := y.toNat_lt
              have i3 : (0 : Int) ≤ (k : Int) := by omega
              have i4 : (k : Int) < (n1 : Int) := by omega
              have HYS2 := Lib.hid (show (ys.set k y2).length = n1 by rw [List.length_set]; exact HYS.out)
              have HST := Lib.hid hst
              have HC2 := Lib.hid hc2
              clear hst hc2 hy hye hown hy2 e5 g7 gs
              go_wp2_with fail
              go_roundw
              case rel => exact ⟨k + 1, ys.set k y2, by omega, by go_num, HYS2.out, HST.out, HC2.out⟩
              case measure => simp [intOf]; omega
            · have B8 := Lib.hid ((B7.out.data hch (fun b e => ⟨(O7.out.lt b e).1, (by have h1 := (O7.out.lt b e).1; have h2 := BF.out.sz; omega), own_type O7.out e⟩)).weak (F' := fun _ => False) (fun _ e => e.elim))
              obtain ⟨wv, rfl⟩ : ∃ wv, wv = wr := ⟨wr, rfl⟩
              have i4 : ¬ (k : Int) < (n1 : Int) := by omega
              have f1 : wv.cell? ⟨so, 1, none⟩ = some (.int .i64 fx) := by rw [cell_of_row _ _ _ _ _ _ gs]; rfl
              have hsl8 : so < wv.heap.size := blk_lt gs
              have HD2 := Lib.hid (at_b2 B8.out SH.out fx)
              rw [HIB.out] at HD2
              clear hown hch O7 B7 g7 gs
              go_wp2_with fail
              refine HD2.out.mono ?_
              rintro e w9 ⟨x2, y2, n2, A2, c2, rfl, hb9⟩
              have B9 := Lib.hid (B8.out.below hb9)
              clear hb9 HD2 f1 t2
              obtain ⟨w10, hw10⟩ : ∃ w10, w9.alloc (.cells #[.int .i64 x2, .int .i64 y2, .slice A2 n2 c2] 32) = w10 := ⟨_, rfl⟩
              have B10 := Lib.hid (B9.out.below (show Below w9.heap.size w9 w10 by rw [← hw10]; exact (Below.refl _ _).alloc (Nat.le_refl _) _))
              have HW10 := Lib.hid hw10
              clear hw10
              have hbb : (ib != ib) = false := by simp
              go_wp2_with (first | (rw [HW10.out]))
              obtain ⟨ls, lc, hslot, hlc1, hlc2⟩ := B10.out.n2.slot
              have hp2 := B10.out.n2.lt
              have q0 := Wb.at_ hslot
              have HLF := Lib.hid (len_x w10.drew H0 r1 P (IsNetF.net B10.out.n1).drew)
              refine wp_region_plan [([0, 2, 3, 4, 5, 6], some (1, false)), ([7], none)] (by kernel_rfl) (by kernel_rfl) ?_
              refine seg_act _ (by dsimp only [pick, at_]) _ (by dsimp only [pick, at_]) ?_
              repeat (go_big_quiet_step (fail))
              refine wpQuiet_nil ?_
              intro K1 h1 h2
              clear q0 h2
              go_wp2_with (fail)
              refine HLF.out.mono ?_
              rintro e wz ⟨rfl, rfl⟩
              go_wp2_with (fail)
              refine h1 _ _ (Below.refl _ _).drew ?_
              clear h1
              refine seg_end _ (by dsimp only [pick, at_]) ?_
              repeat (go_big_quiet_step (fail))
              refine wpQuiet_nil ?_
              refine NoPanic.normal ?_
              go_wp2_with (fail)
              go_roundw
              case rel => exact ⟨j + 1, r1, r2, P, by omega, by go_num, hfull, SH.out, B10.out.below (Below.refl _ _).drew⟩
              case measure => simp [intOf]; omega
        · have BF := Lib.hid (B5.out.weak (F' := fun _ => False) (fun _ e => e.elim))
          clear f0 f1 B5 O5 G5 G4
          obtain ⟨ls, lc, hslot, hlc1, hlc2⟩ := BF.out.n2.slot
          have hp2 := BF.out.n2.lt
          have q0 := Wb.at_ hslot
          have HLF := Lib.hid (len_x w5.drew H0 r1 P (IsNetF.net BF.out.n1).drew)
          refine wp_region_plan [([0, 2, 3, 4, 5, 6], some (1, false)), ([7], none)] (by kernel_rfl) (by kernel_rfl) ?_
          refine seg_act _ (by dsimp only [pick, at_]) _ (by dsimp only [pick, at_]) ?_
          repeat (go_big_quiet_step (fail))
          refine wpQuiet_nil ?_
          intro K1 h1 h2
          clear q0 h2
          go_wp2_with (fail)
          refine HLF.out.mono ?_
          rintro e wz ⟨rfl, rfl⟩
          go_wp2_with (fail)
          refine h1 _ _ (Below.refl _ _).drew ?_
          clear h1
          refine seg_end _ (by dsimp only [pick, at_]) ?_
          repeat (go_big_quiet_step (fail))
          refine wpQuiet_nil ?_
          refine NoPanic.normal ?_
          go_wp2_with (fail)
          go_roundw
          case rel => exact ⟨j + 1, r1, r2, P, by omega, by go_num, hfull, SH.out, BF.out.below (Below.refl _ _).drew⟩
          case measure => simp [intOf]; omega
      · have hjn : n = j := by omega
        subst hjn
        have i2 : ¬ (n : Int) < (n : Int) := by omega
        clear HLI hlt h
        go_wp2_with (fail)
        go_loopw [18] (fun i wz => ∃ (k : Nat), k ≤ P.length ∧ i = .int .i64 k ∧ Aside (Both H0 w wz H0 p2 (fun _ => False) r1 r2 P P)) (fun i _ => P.length - (intOf i).toNat)
        case atStart => exact ⟨0, Nat.zero_le _, rfl, BB.out⟩
        case round =>
          clear BB
          obtain ⟨k, hk, rfl, BB⟩ := hrel
          have hp2 := BB.out.n2.lt
          obtain ⟨ls, lc, hslot, hlc1, hlc2⟩ := BB.out.n2.slot
          by_cases hkl : k < P.length
          · have i3 : (k : Int) < (P.length : Int) := by omega
            have i4 : (0 : Int) ≤ (k : Int) := by omega
            obtain ⟨x, y, bs, hm⟩ : ∃ x y bs, P[k]? = some (x, y, bs) := ⟨P[k].1, P[k].2.1, P[k].2.2, List.getElem?_eq_getElem hkl⟩
            obtain ⟨L, hL⟩ : ∃ L, bs.length = L := ⟨_, rfl⟩
            have hL5 : L ≤ 32768 := hL ▸ SH.out _ (List.mem_of_getElem? hm)
            have HAT := Lib.hid (at_x _ H0 r1 P (IsNetF.net BB.out.n1) k x y bs hm (by omega) L hL)
            have HM := Lib.hid hm
            have HLL := Lib.hid hL
            clear hm hL
            go_wp2_with (fail)
            refine HAT.out.mono ?_
            rintro e w3 ⟨A3, c3, rfl, hown, hb3⟩
            have B3 := Lib.hid (BB.out.below hb3)
            have O3 := Lib.hid (own_bs hown)
            clear hb3 hown HAT BB hslot
            obtain ⟨N, hN⟩ : ∃ N, w3.heap.size = N := ⟨_, rfl⟩
            obtain ⟨w4, hw4⟩ : ∃ w4, w3.alloc (.cells #[.int .i64 x, .int .i64 y, .slice A3 L c3] 32) = w4 := ⟨_, rfl⟩
            have hb4 : Below w3.heap.size w3 w4 := by rw [← hw4]; exact (Below.refl _ _).alloc (Nat.le_refl _) _
            have g4 : w4.heap[N]? = some (.cells #[.int .i64 x, .int .i64 y, .slice A3 L c3] 32 (0, 0)) := by rw [← hw4, ← hN]; exact alloc_new _ _
            have hs4 := hb4.size
            have B4 := Lib.hid (B3.out.below hb4)
            have S4 := Lib.hid (O3.out.below hb4 (Nat.le_refl _))
            have HW := Lib.hid (And.intro hN hw4)
            have G4 := Lib.hid g4
            clear hb4 g4 hN hw4 hp2
            go_wp2_with (fail)
            rw [HW.out.1, HW.out.2]
            obtain ⟨t0, t1, t2⟩ := cells3p G4.out
            obtain ⟨g, d, A, n', dd, hc, c0, c1, c2, hbs, hA, hc1, hc2, hgl, _⟩ := B4.out.n2.at_ HM.out
            obtain rfl : n' = L := hbs.len_.symm.trans HLL.out
            have hNl := blk_lt G4.out
            have hp2 := B4.out.n2.lt
            have hbd : Below w4.heap.size w4 w4.drew := (Below.refl _ _).drew
            have hsm : sameM (x, y, bs) (x, y, bs) = true := (sameM_eq _ _).2 rfl
            have HS := Lib.hid (same_x w4.drew x y x y n' c3 n' dd A3 A bs bs ((S4.out.below hbd hs4).more hs4) (hbs.below hbd (Nat.le_refl _)))
            rw [hsm] at HS
            have q0 := Wb.at_ t0
            have q1 := Wb.at_ t1
            have q2 := Wb.at_ t2
            have q3 := Wb.at_ hc
            have q4 := Wb.at_ c0
            have q5 := Wb.at_ c1
            have q6 := Wb.at_ c2
            clear t0 t1 t2 hc c0 c1 c2 hbs hA hbd hsm S4
            refine wp_region_plan [([0, 1, 2, 3, 4, 5, 6, 7, 8, 9, 10], some (11, false)), ([12, 13], none)] (by kernel_rfl) (by kernel_rfl) ?_
            refine seg_act _ (by dsimp only [pick, at_]) _ (by dsimp only [pick, at_]) ?_
            repeat (go_big_quiet_step (fail))
            refine wpQuiet_nil ?_
            intro K1 h1 h2
            clear q0 q1 q2 q3 q4 q5 q6 h1
            go_wp2_with (fail)
            refine HS.out.mono ?_
            rintro e w5 ⟨rfl, hb5⟩
            have B5 := Lib.hid ((B4.out.below (Below.refl _ _).drew).below hb5)
            go_wp2_with (fail)
            refine h2 _ _ (((Below.refl _ _).drew).trans hb5) ?_
            clear h2
            refine seg_end _ (by dsimp only [pick, at_]) ?_
            repeat (go_big_quiet_step (fail))
            refine wpQuiet_nil ?_
            refine NoPanic.normal ?_
            go_wp2_with (fail)
            go_roundw
            case rel => exact ⟨k + 1, by omega, by go_num, B5.out⟩
            case measure => simp [intOf]; omega
          · have i3 : ¬ (k : Int) < (P.length : Int) := by omega
            go_wp2_with (fail)
            go_ret
            exact ⟨rfl, BB.out.bel⟩
theorem walk_ok (a0 : Option Addr) (len0 cap0 : Nat) (w : World) (w0 : IsSteps w a0 len0 cap0) :
    Calls Try.prog 5 #[.slice a0 len0 cap0] w fun e w' => e = .returned (.bool true) ∧ Below w.heap.size w w' := by
  obtain ⟨st, hst, h1, h2, _⟩ := w0
  unfold maxLen at h2
  exact walk_core a0 len0 cap0 st w hst (by omega)
end Go.Proofs.Ytcebmlcdhapnkaa.lawNetScript
