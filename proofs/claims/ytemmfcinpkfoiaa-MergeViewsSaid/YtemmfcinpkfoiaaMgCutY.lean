/-
  The document's Cut.
-/
import Derived.Test.YtemmfcinpkfoiaaMgCut
namespace Go.Proofs.Ytemmfcinpkfoiaa.mg
open Go.ChangeShapes Go.WideShapes Go.ChangeAt Go.RowKit Go.Shelf plain words ord mem rg

set_option maxRecDepth 100000 in
set_option maxHeartbeats 4000000 in
theorem cut_y (w : World) (B n c : Nat) (A : Option Addr) (l : List Pt) (f t : Int) (h : Ls PE w B A n l) (hB : B ≤ w.heap.size) (hn : n ≤ 90000) :
    Calls Try.prog 23 #[.slice A n c, .agg #[.int .i64 f, .int .i64 t]] w (RetCut w (cut f t l)) := by
  obtain ⟨g, hg⟩ : ∃ g, w.heap.size = g := ⟨_, rfl⟩
  obtain ⟨w0, hw0⟩ : ∃ w0, w.alloc (.cells #[.int .i64 f, .int .i64 t] 34) = w0 := ⟨_, rfl⟩
  have hb0 : Below w.heap.size w w0 := by rw [← hw0]; exact (Below.refl _ _).alloc (Nat.le_refl _) _
  have hr0 : w0.heap[g]? = some (.cells #[.int .i64 f, .int .i64 t] 34 (0, 0)) := by rw [← hw0, ← hg]; exact alloc_new _ _
  have hs0 : w0.heap.size = w.heap.size + 1 := by rw [← hw0]; simp
  have hb01 : Below w0.heap.size w0 (w0.alloc (.cells #[] 24)) := (Below.refl _ _).alloc (Nat.le_refl _) _
  have HS0 := Lib.hid (show HS w (w0.alloc (.cells #[] 24)) (.slice (some ⟨w.heap.size + 1, 0, none⟩) 0 0) (cut f t (l.take 0)) from ⟨by rw [← hs0]; exact Rw.of_ow (Ow.lit w0), fun g hg => (by cases hg; exact Nat.le_succ _), hb0.trans (hb01.mono (by omega))⟩)
  have R1 := Lib.hid (show (w0.alloc (.cells #[] 24)).heap[g]? = _ from blk_below hb01 hr0 (blk_lt hr0))
  have HL := Lib.hid h
  have W0 := Lib.hid hw0
  have HG := Lib.hid hg
  have HLL := Lib.hid h.1
  clear h hb0 hw0 hg hr0 hs0 hb01
  go_enter Try.func23, Try.ntmps23
  go_wp2_with fail
  rw [W0.out]
  go_loopg [5, 6] n (fun gg s5 s6 wr => ∃ (i : Nat), s6 = .int .i64 i ∧ i ≤ n ∧ n - i ≤ gg ∧ Aside (HS w wr s5 (cut f t (l.take i))) ∧ Aside (wr.heap[g]? = some (.cells #[.int .i64 f, .int .i64 t] 34 (0, 0))))
  case atStart => exact ⟨0, rfl, Nat.zero_le _, by omega, HS0.out, R1.out⟩
  case round =>
    clear HS0 R1 W0
    obtain ⟨i, rfl, hi, hgg, S, RG⟩ := hrel
    obtain ⟨wv, rfl⟩ : ∃ wv, wv = wr := ⟨wr, rfl⟩
    obtain ⟨vo, rfl⟩ : ∃ vo, vo = u5 := ⟨u5, rfl⟩
    by_cases hlt : i < n
    · obtain ⟨x, hx⟩ := HL.out.get hlt
      obtain ⟨ba, oa, eA, _, xa0, xa1, xa2⟩ := Ls.pt (HL.out.below S.out.bel hB) hx
      subst eA
      have i1 : (i : Int) < (n : Int) := by omega
      have i0 : (0 : Int) ≤ (i : Int) := by omega
      have hbal : ba < wv.heap.size := World.block_lt_of_cell? wv _ xa0
      have c0 : wv.cell? ⟨w.heap.size, 0, none⟩ = some (.int .i64 f) := by rw [HG.out, cell_of_row _ _ _ _ _ _ RG.out]; rfl
      have c1 : wv.cell? ⟨w.heap.size, 1, none⟩ = some (.int .i64 t) := by rw [HG.out, cell_of_row _ _ _ _ _ _ RG.out]; rfl
      have hgl : g < wv.heap.size := blk_lt RG.out
      have hgl2 : w.heap.size < wv.heap.size := by rw [HG.out]; exact hgl
      have hct : cut f t (l.take (i + 1)) = cut f t (l.take i) ++ (if inR f t x then [x] else []) := by rw [take_succ_at hx, cut_snoc]
      have hcl : (cut f t (l.take i)).length ≤ i := Nat.le_trans (List.length_filter_le _ _) (by rw [List.length_take]; omega)
      have q0 := Wb.at_ xa0
      have q1 := Wb.at_ c0
      have q2 := Wb.at_ c1
      have hbd : Below wv.heap.size wv wv.drew := (Below.refl _ _).drew
      have HCT := Lib.hid hct
      clear hx hct c0 c1
      cases hin : inR f t x with
      | false =>
        have HIN := Lib.hid hin
        have S2 := Lib.hid (S.out.quiet hbd)
        have R2 := Lib.hid (blk_below hbd RG.out hgl)
        clear hin hbd
        have hout : x.1 < f ∨ (f ≤ x.1 ∧ t ≤ x.1) := by
          have := HIN.out
          simp [inR] at this
          omega
        rcases hout with h1 | ⟨h1, h2⟩
        · have h1' : decide (f ≤ x.1) = false := by simp; omega
          go_wp2_with fail
          refine wp_region_plan [([0, 1, 2, 3, 4, 5, 6, 7, 8, 9, 10, 11, 12, 13, 14, 15, 16, 17], none)] (by kernel_rfl) (by kernel_rfl) ?_
          refine seg_end _ (by dsimp only [pick, at_]) ?_
          repeat (go_big_quiet_step (fail))
          refine wpQuiet_nil ?_
          refine NoPanic.normal ?_
          clear q0 q1 q2
          go_wp2_with fail
          go_roundg (n - (i + 1))
          case measure => omega
          case rel =>
            refine ⟨i + 1, by go_num, by omega, by omega, ?_, R2.out⟩
            show HS _ _ _ _
            rw [HCT.out, HIN.out]
            simp only [Bool.false_eq_true, if_false, List.append_nil]
            exact S2.out
        · have h1' : decide (f ≤ x.1) = true := by simpa using h1
          have h2' : decide (x.1 < t) = false := by simp; omega
          go_wp2_with fail
          refine wp_region_plan [([0, 1, 2, 3, 4, 5, 6, 7, 8, 9, 10, 11, 12, 13, 14, 15, 16, 17], none)] (by kernel_rfl) (by kernel_rfl) ?_
          refine seg_end _ (by dsimp only [pick, at_]) ?_
          repeat (go_big_quiet_step (fail))
          refine wpQuiet_nil ?_
          refine NoPanic.normal ?_
          clear q0 q1 q2
          go_wp2_with fail
          go_roundg (n - (i + 1))
          case measure => omega
          case rel =>
            refine ⟨i + 1, by go_num, by omega, by omega, ?_, R2.out⟩
            show HS _ _ _ _
            rw [HCT.out, HIN.out]
            simp only [Bool.false_eq_true, if_false, List.append_nil]
            exact S2.out
      | true =>
        have HIN := Lib.hid hin
        have h1 : f ≤ x.1 := by have := HIN.out; simp [inR] at this; omega
        have h2 : x.1 < t := by have := HIN.out; simp [inR] at this; omega
        have h1' : decide (f ≤ x.1) = true := by simpa using h1
        have h2' : decide (x.1 < t) = true := by simpa using h2
        have hb3 : Below wv.heap.size wv (wv.drew.alloc (.cells #[.int .i64 x.1, .int .u64 x.2.1, .int .u64 x.2.2] 24)) := hbd.alloc (Nat.le_refl _) _
        have hnews : Ls PE (wv.drew.alloc (.cells #[.int .i64 x.1, .int .u64 x.2.1, .int .u64 x.2.2] 24)) (wv.drew.heap.size + 1) (some ⟨wv.drew.heap.size, 0, none⟩) 1 [x] := ls_new (E := PE) (w := wv.drew) _ x
        have S2 := Lib.hid (S.out.quiet hb3)
        have hr3 := blk_below hb3 RG.out hgl
        have hrow2 := S2.out.out
        have R3 := Lib.hid hr3
        clear hin hbd hb3 hr3
        go_wp2_with fail
        refine wp_region_plan [([0, 1, 2, 3, 4, 5, 6, 7, 8, 9, 10, 11, 12, 13, 14, 15, 16, 17], none)] (by kernel_rfl) (by kernel_rfl) ?_
        refine seg_end _ (by dsimp only [pick, at_]) ?_
        repeat (go_big_quiet_step (fail))
        refine wpQuiet_nil ?_
        refine NoPanic.normal ?_
        clear q0 q1 q2
        go_wp2_with (at_builtin; refine append_q rfl (.tmp 32) (.tmp 37) rfl vo _ (cut f t (l.take i)) (by rfl) hrow2 _ _ 1 1 (fun e => by cases e) [x] (by rfl) hnews (by omega) ?_; intro v9 w9 hown9 hgrow9 hat9; have S9 := Lib.hid (S2.out.app hown9 hgrow9 hat9); have R9 := Lib.hid (show w9.heap[g]? = _ from (hgrow9.block g (blk_lt R3.out) (fun e => by obtain ⟨cc, hcc⟩ := hrow2.type e.symm; exact blk_type hcc R3.out (by decide) rfl)).trans R3.out); clear hown9 hgrow9 hat9 hnews hrow2)
        go_roundg (n - (i + 1))
        case measure => omega
        case rel =>
          refine ⟨i + 1, by go_num, by omega, by omega, ?_, R9.out⟩
          show HS _ _ _ _
          rw [HCT.out, HIN.out]
          simp only [if_true]
          exact S9.out
    · have i1 : ¬ (i : Int) < (n : Int) := by omega
      have hs := S.out
      rw [List.take_of_length_le (by rw [HLL.out]; omega)] at hs
      have HSS := Lib.hid hs
      clear hs
      go_wp2_with fail
      go_ret
      obtain ⟨A1, c1, e1, _⟩ := HSS.out.out.form
      subst e1
      exact ⟨A1, c1, rfl, ⟨HSS.out.out, HSS.out.own⟩, HSS.out.bel⟩
end Go.Proofs.Ytemmfcinpkfoiaa.mg
