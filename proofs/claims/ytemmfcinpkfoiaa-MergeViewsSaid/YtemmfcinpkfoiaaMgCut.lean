/-
  merge.Cut.
-/
import Derived.Test.YtemmfcinpkfoiaaMgVw
namespace Go.Proofs.Ytemmfcinpkfoiaa.mg
open Go.ChangeShapes Go.WideShapes Go.ChangeAt Go.RowKit Go.Shelf plain words ord mem rg

/-- in the range -/
def inR (f t : Int) (p : Pt) : Bool := decide (f ≤ p.1) && decide (p.1 < t)
def cut (f t : Int) (l : List Pt) : List Pt := l.filter (inR f t)
theorem cut_snoc (f t : Int) (l : List Pt) (x : Pt) : cut f t (l ++ [x]) = cut f t l ++ (if inR f t x then [x] else []) := by
  simp only [cut, List.filter_append, List.filter_cons, List.filter_nil]
def RetCut (w : World) (o : List Pt) (e : Ending) (w' : World) : Prop :=
  ∃ A c, e = .returned (.slice A o.length c) ∧ OwnP w' w.heap.size (.slice A o.length c) o ∧ Below w.heap.size w w'
set_option maxRecDepth 100000 in
set_option maxHeartbeats 4000000 in
theorem cut_x (w : World) (B n c : Nat) (A : Option Addr) (l : List Pt) (f t : Int) (h : Ls PE w B A n l) (hB : B ≤ w.heap.size) (hn : n ≤ 90000) :
    Calls Try.prog 22 #[.slice A n c, .agg #[.int .i64 f, .int .i64 t]] w (RetCut w (cut f t l)) := by
  obtain ⟨g, hg⟩ : ∃ g, w.heap.size = g := ⟨_, rfl⟩
  obtain ⟨w1, hw1⟩ : ∃ w1, w.alloc (.cells #[.int .i64 f, .int .i64 t] 34) = w1 := ⟨_, rfl⟩
  have hb1 : Below w.heap.size w w1 := by rw [← hw1]; exact (Below.refl _ _).alloc (Nat.le_refl _) _
  have hr1 : w1.heap[g]? = some (.cells #[.int .i64 f, .int .i64 t] 34 (0, 0)) := by rw [← hw1, ← hg]; exact alloc_new _ _
  have HS0 := Lib.hid (show HS w w1 (.slice none 0 0) (cut f t (l.take 0)) from ⟨Rw.nil _, fun g hg => (by cases hg), hb1⟩)
  have HL := Lib.hid h
  have W1 := Lib.hid hw1
  have HG := Lib.hid hg
  have R1 := Lib.hid hr1
  have HLL := Lib.hid h.1
  clear h hb1 hw1 hg hr1
  go_enter Try.func22, Try.ntmps22
  go_wp2_with fail
  rw [W1.out, HG.out]
  go_loopg [5, 7, 10] n (fun gg s5 s7 s10 wr => ∃ (i : Nat), s10 = .int .i64 i ∧ i ≤ n ∧ n - i ≤ gg ∧ Aside (HS w wr s5 (cut f t (l.take i))) ∧ Aside (wr.heap[g]? = some (.cells #[.int .i64 f, .int .i64 t] 34 (0, 0))))
  case atStart => exact ⟨0, rfl, Nat.zero_le _, by omega, HS0.out, R1.out⟩
  case round =>
    clear HS0 R1 W1
    obtain ⟨i, rfl, hi, hgg, S, RG⟩ := hrel
    obtain ⟨wv, rfl⟩ : ∃ wv, wv = wr := ⟨wr, rfl⟩
    obtain ⟨vo, rfl⟩ : ∃ vo, vo = u5 := ⟨u5, rfl⟩
    by_cases hlt : i < n
    · obtain ⟨x, hx⟩ := HL.out.get hlt
      obtain ⟨ba, oa, eA, _, xa0, xa1, xa2⟩ := Ls.pt (HL.out.below S.out.bel hB) hx
      subst eA
      have i1 : (i : Int) < (n : Int) := by omega
      have i0 : (0 : Int) ≤ (i : Int) := by omega
      have hbal : ba < wv.heap.size := World.block_lt_of_cell? wv _ xa0
      have c0 : wv.cell? ⟨g, 0, none⟩ = some (.int .i64 f) := by rw [cell_of_row _ _ _ _ _ _ RG.out]; rfl
      have c1 : wv.cell? ⟨g, 1, none⟩ = some (.int .i64 t) := by rw [cell_of_row _ _ _ _ _ _ RG.out]; rfl
      have hgl : g < wv.heap.size := blk_lt RG.out
      have hsz := S.out.bel.size
      have htk := take_succ_at hx
      have hct : cut f t (l.take (i + 1)) = cut f t (l.take i) ++ (if inR f t x then [x] else []) := by rw [htk, cut_snoc]
      have hcl : (cut f t (l.take i)).length ≤ i := Nat.le_trans (List.length_filter_le _ _) (by rw [List.length_take]; omega)
      have hb2 : Below wv.heap.size wv (wv.alloc (.cells #[.int .i64 x.1, .int .u64 x.2.1, .int .u64 x.2.2] 24)) := (Below.refl _ _).alloc (Nat.le_refl _) _
      have HCT := Lib.hid hct
      clear hx htk hct
      cases hin : inR f t x with
      | false =>
        have HIN := Lib.hid hin
        have S2 := Lib.hid (S.out.quiet hb2)
        have R2 := Lib.hid (blk_below hb2 RG.out hgl)
        clear hin hb2
        have hout : x.1 < f ∨ (f ≤ x.1 ∧ t ≤ x.1) := by
          have := HIN.out
          simp [inR] at this
          omega
        rcases hout with h1 | ⟨h1, h2⟩
        · have h1' : decide (f ≤ x.1) = false := by simp; omega
          go_wp2_with fail
          go_roundg (n - (i + 1))
          case measure => omega
          case rel =>
            refine ⟨i + 1, by go_num, by omega, by omega, ?_, R2.out⟩
            show HS _ _ _ _
            rw [HCT.out, HIN.out]
            simp only [Bool.false_eq_true, if_false, List.append_nil]
            exact S2.out
        · have h1' : decide (f ≤ x.1) = true := by simpa using h1
          have h2' : decide (x.1 < t) = false := by simp; omega
          go_wp2_with fail
          go_roundg (n - (i + 1))
          case measure => omega
          case rel =>
            refine ⟨i + 1, by go_num, by omega, by omega, ?_, R2.out⟩
            show HS _ _ _ _
            rw [HCT.out, HIN.out]
            simp only [Bool.false_eq_true, if_false, List.append_nil]
            exact S2.out
      | true =>
        have HIN := Lib.hid hin
        have h1 : f ≤ x.1 := by have := HIN.out; simp [inR] at this; omega
        have h2 : x.1 < t := by have := HIN.out; simp [inR] at this; omega
        have h1' : decide (f ≤ x.1) = true := by simpa using h1
        have h2' : decide (x.1 < t) = true := by simpa using h2
        have hb3 : Below wv.heap.size wv ((wv.alloc (.cells #[.int .i64 x.1, .int .u64 x.2.1, .int .u64 x.2.2] 24)).alloc (.cells #[.int .i64 x.1, .int .u64 x.2.1, .int .u64 x.2.2] 24)) := hb2.alloc (by simp) _
        have hnews : Ls PE ((wv.alloc (.cells #[.int .i64 x.1, .int .u64 x.2.1, .int .u64 x.2.2] 24)).alloc (.cells #[.int .i64 x.1, .int .u64 x.2.1, .int .u64 x.2.2] 24)) (wv.heap.size + 1 + 1) (some ⟨wv.heap.size + 1, 0, none⟩) 1 [x] := by
          have := ls_new (E := PE) (w := wv.alloc (.cells #[.int .i64 x.1, .int .u64 x.2.1, .int .u64 x.2.2] 24)) 24 x
          rw [show (wv.alloc (.cells #[.int .i64 x.1, .int .u64 x.2.1, .int .u64 x.2.2] 24)).heap.size = wv.heap.size + 1 from by simp] at this
          exact this
        have S2 := Lib.hid (S.out.quiet hb3)
        have hr3 := blk_below hb3 RG.out hgl
        have hrow2 := S2.out.out
        have R3 := Lib.hid hr3
        clear hin hb2 hb3 hr3
        go_wp2_with (at_builtin; refine append_q rfl (.tmp 26) (.tmp 28) rfl vo _ (cut f t (l.take i)) (by rfl) hrow2 _ _ 1 1 (fun e => by cases e) [x] (by rfl) hnews (by omega) ?_; intro v9 w9 hown9 hgrow9 hat9; have S9 := Lib.hid (S2.out.app hown9 hgrow9 hat9); have R9 := Lib.hid (show w9.heap[g]? = _ from (hgrow9.block g (blk_lt R3.out) (fun e => by obtain ⟨cc, hcc⟩ := hrow2.type e.symm; exact blk_type hcc R3.out (by decide) rfl)).trans R3.out); clear hown9 hgrow9 hat9 hnews hrow2)
        go_roundg (n - (i + 1))
        case measure => omega
        case rel =>
          refine ⟨i + 1, by go_num, by omega, by omega, ?_, R9.out⟩
          show HS _ _ _ _
          rw [HCT.out, HIN.out]
          simp only [if_true]
          exact S9.out
    · have i1 : ¬ (i : Int) < (n : Int) := by omega
      have hs := S.out
      rw [List.take_of_length_le (by rw [HLL.out]; omega)] at hs
      have HSS := Lib.hid hs
      clear hs
      go_wp2_with fail
      go_ret
      obtain ⟨A1, c1, e1, _⟩ := HSS.out.out.form
      subst e1
      exact ⟨A1, c1, rfl, ⟨HSS.out.out, HSS.out.own⟩, HSS.out.bel⟩
end Go.Proofs.Ytemmfcinpkfoiaa.mg
