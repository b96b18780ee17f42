/-
  slices.Values at numbers, walked by slices.AppendSeq: the numbers, in a row of the call's own.
-/
import Derived.Test.YtnpkhkhchimcnaaPmMake
import Derived.Test.YtnpkhkhchimcnaaRound
import Derived.Test.YtnpkhkhchimcnaaLstIn
import Derived.RangeFuncBox
import Derived.RangeFuncLeaves
namespace Go.Proofs.Ytnpkhkhchimcnaa.pm
open Go.ChangeShapes Go.WideShapes Go.ChangeAt Go.RowKit Go.Shelf plain words ord mem
attribute [local go_sem] Oper.semAt_some

theorem take_snoc {α : Type} {l : List α} {k : Nat} {x : α} (h : l[k]? = some x) : l.take (k + 1) = l.take k ++ [x] := by rw [List.take_add_one, h]; rfl
theorem grown_below {w w' : World} (h : Below w.heap.size w w') : w.grownBy w' none := ⟨h.os, h.tape, h.output, h.size, fun k hk _ => h.block k hk⟩
set_option maxRecDepth 100000 in
set_option maxHeartbeats 2000000 in
theorem seq_x (m : Nat) (n₀ Bs n c : Nat) (A : Option Addr) (l : List Int) (w : World) (hBs : Bs < w.heap.size) (hn0 : n₀ ≤ w.heap.size) (hc : w.cell? ⟨Bs, 0, none⟩ = some (.slice A n c)) (hl : Ls NE w n₀ A n l) (hn : n ≤ 1099511627776) (hm : 1 ≤ m) :
    SeqStopsK Fence.wide m Try.prog 62 #[.pointer (some ⟨Bs, 0, none⟩)] (fun x : Int => #[.int .i64 x]) (Below n₀) (fun ys => ys = l) (fun pre => pre <+: l) n w := fun lp J Jx W hW _ _ hY h0 => by
  have hc' : W.cell? ⟨Bs, 0, none⟩ = some (.slice A n c) := (hW.cell (p := ⟨Bs, 0, none⟩) hBs).trans hc
  have HL := Lib.hid (hl.below hW hn0)
  have HLL := Lib.hid hl.1
  have hBw : Bs < W.heap.size := Nat.lt_of_lt_of_le hBs hW.size
  clear hl hc
  refine callsIn_of_wp Try.func62 rfl trivial ?_ rfl
  simp only [Try.ntmps62, List.size_toArray, List.length_cons, List.length_nil, Nat.reduceAdd, Nat.reduceSub, Array.replicate_succ, Array.replicate_zero, List.push_toArray, List.append_toArray, List.nil_append, List.cons_append]
  gi_wp2
  gi_loopw [7] (fun i wr => ∃ k : Nat, k ≤ n ∧ i = .int .i64 k ∧ J (l.take k) wr ∧ Below n₀ W wr) (fun i _ => n - (intOf i).toNat)
  case atStart => exact ⟨0, Nat.zero_le _, rfl, by simpa using h0, Below.refl _ _⟩
  case round =>
    obtain ⟨k, hk, rfl, hJs, hnx⟩ := hrel
    by_cases hlt : k < n
    · have hltz : (k : Int) < (n : Int) := by omega
      obtain ⟨x, hx⟩ := HL.out.get hlt
      obtain ⟨b, off, rfl, hb, l0⟩ := num_at (HL.out.below hnx (Nat.le_refl _)) hx
      have HX := Lib.hid hx
      obtain ⟨fn, tmps, assign, body, hy, hR⟩ := hY _ x wr hJs (by rw [List.length_take, HLL.out]; omega)
      clear hx
      gi_wp2
      refine hR.mono ?_
      rintro e W3 (⟨rfl, hJ3, hk3⟩ | ⟨rfl, hJx3⟩)
      · gi_wp2
        go_roundw
        case rel => exact ⟨k + 1, by omega, by go_num, by rw [take_snoc HX.out]; exact hJ3, hnx.trans hk3⟩
        case measure => simp [intOf]; omega
      · gi_wp2
        refine bodyPost_ret (results_none rfl _ _ _) rfl ?_
        exact ⟨⟨_, rfl⟩, .inr ⟨_, by rw [← take_snoc HX.out]; exact List.take_prefix _ _, hJx3⟩⟩
    · obtain rfl : k = n := by omega
      have hltz : ¬ (k : Int) < (k : Int) := by omega
      rw [List.take_of_length_le (by rw [HLL.out]; omega)] at hJs
      have HJ := Lib.hid hJs
      clear hJs
      gi_wp2
      go_end0
      first
        | exact ⟨⟨_, rfl⟩, .inl ⟨_, rfl, HJ.out⟩⟩
        | exact ⟨⟨_, rfl⟩, .inl HJ.out⟩
/-- how AppendSeq stands: what has come is in its row -/
structure AI (w : World) (pre : List Int) (W : World) : Prop where
  row : ∃ A c, W.heap[w.heap.size]? = some (.cells #[.slice A pre.length c] 22 (0, 0)) ∧ Ow NE W (w.heap.size + 1) (.slice A pre.length c) pre.length pre
  bel : Below w.heap.size w W
  big : w.heap.size + 1 ≤ W.heap.size
theorem AI.grown {w W W' : World} {pre : List Int} {row : Option Nat} (h : AI w pre W) (hg : W.grownBy W' row) (hr : ∀ r, row = some r → w.heap.size + 1 ≤ r ∧ ∃ o : Obj, W.heap[r]? = some o ∧ o.isCells = false) : AI w pre W' := by
  have hc : Chg (fun k => row = some k) W W' := (Chg.refl _ W).grown hg (fun k e _ => e)
  obtain ⟨A, c, h1, h2⟩ := h.row
  refine ⟨⟨A, c, hc.blk h1 (fun e => by have := (hr _ e).1; omega), h2.chg hc fun g hk e => ?_⟩, h.bel.trans (hc.below (B := w.heap.size) h.bel.size (fun k e => by have := (hr k e).1; omega)), Nat.le_trans h.big hc.size⟩
  obtain ⟨cu, hcu⟩ := h2.type hk
  obtain ⟨_, o, ho, hw⟩ := hr g e
  rw [hcu] at ho; cases ho; cases hw
theorem AI.from (w : World) : OwnFrom (w.heap.size + 1) (AI w) := fun s W W' row hs hg hr => hs.grown hg hr
theorem AI.step {w W W4 : World} {pre : List Int} {x : Int} {A A4 : Option Addr} {c c4 : Nat} (h : AI w pre W) (h1 : W.heap[w.heap.size]? = some (.cells #[.slice A pre.length c] 22 (0, 0))) (h2 : Ow NE W (w.heap.size + 1) (.slice A pre.length c) pre.length pre)
    (hg : (W.alloc (.cells #[.int .i64 x] 3)).grownBy W4 (Value.slice A pre.length c).ownBlock) (h4 : Ow NE W4 (w.heap.size + 1) (.slice A4 (pre.length + 1) c4) (pre.length + 1) (pre ++ [x])) :
    KeepsOthers W (W4.setCell ⟨w.heap.size, 0, none⟩ (.slice A4 (pre.length + 1) c4)) ∧ Below w.heap.size W (W4.setCell ⟨w.heap.size, 0, none⟩ (.slice A4 (pre.length + 1) c4)) ∧ AI w (pre ++ [x]) (W4.setCell ⟨w.heap.size, 0, none⟩ (.slice A4 (pre.length + 1) c4)) ∧ W4.heap[w.heap.size]? = some (.cells #[.slice A pre.length c] 22 (0, 0)) ∧ w.heap.size < W4.heap.size := by
  have hal := below_al W (.cells #[.int .i64 x] 3)
  have hs := h.bel.size
  have hca : Chg (fun k => (Value.slice A pre.length c).ownBlock = some k) W W4 := ((Chg.refl _ W).alloc _).grown hg (fun k e _ => e)
  have hne : ¬ (Value.slice A pre.length c).ownBlock = some w.heap.size := fun e => by have := (h2.lt _ e).1; omega
  have g4 := hca.blk h1 hne
  have hb4 : Below w.heap.size W W4 := hca.below hs (fun k e => by have := (h2.lt k e).1; omega)
  have hb5 : Below w.heap.size W (W4.setCell ⟨w.heap.size, 0, none⟩ (.slice A4 (pre.length + 1) c4)) := hb4.setCell (p := ⟨w.heap.size, 0, none⟩) (Nat.le_refl _) _
  have hl4 : pre.length + 1 = (pre ++ [x]).length := by simp
  refine ⟨?_, hb5, ⟨⟨A4, c4, ?_, ?_⟩, h.bel.trans hb5, by have := hb5.size; have := h.big; omega⟩, g4, blk_lt g4⟩
  · refine ((KeepsOthers.alloc W _).trans (KeepsOthers.of_grownBy hg fun j o e ho => ?_)).trans (KeepsOthers.setCell _ _ _)
    obtain ⟨cu, hcu⟩ := (h2.below hal (Nat.le_refl _)).type e
    rw [hcu] at ho; cases ho; rfl
  · rw [← hl4]
    simpa using heap_setCell_same W4 w.heap.size 0 _ _ (.slice A4 (pre.length + 1) c4) g4
  · rw [← hl4]
    have hc5 : Chg (fun k => k = w.heap.size) W4 (W4.setCell ⟨w.heap.size, 0, none⟩ (.slice A4 (pre.length + 1) c4)) := (Chg.refl (fun k => k = w.heap.size) W4).setCell (p := ⟨w.heap.size, 0, none⟩) (fun _ => rfl) _
    exact h4.chg hc5 fun g hk e => by have := (h4.lt g hk).1; omega
/-- a new list of numbers, nil perhaps -/
def RetNn (w : World) (l : List Int) (e : Ending) (w' : World) : Prop := ∃ A c, e = .returned (.slice A l.length c) ∧ Ow NE w' w.heap.size (.slice A l.length c) l.length l ∧ Below w.heap.size w w'
theorem AI.putObj {w W : World} {pre : List Int} {D : Nat} (h : AI w pre W) (o' : Obj) (hD : w.heap.size + 1 ≤ D) (hK : W.heap[D]? = some (.deferred (some []))) : AI w pre (W.putObj D o') := by
  have hc : Chg (fun k => k = D) W (W.putObj D o') := ⟨rfl, rfl, rfl, by simp, fun k _ hk => World.putObj_heap_other hk⟩
  obtain ⟨A, c, h1, h2⟩ := h.row
  refine ⟨⟨A, c, hc.blk h1 (by omega), h2.chg hc fun g hk e => ?_⟩, h.bel.trans (hc.below h.bel.size (fun k e => by omega)), Nat.le_trans h.big hc.size⟩
  obtain ⟨cu, hcu⟩ := h2.type hk
  rw [e, hK] at hcu; cases hcu
set_option maxRecDepth 100000 in
set_option maxHeartbeats 4000000 in
theorem appendSeq_x (w : World) (Bs n c : Nat) (A : Option Addr) (l : List Int) (hBs : Bs < w.heap.size) (hc : w.cell? ⟨Bs, 0, none⟩ = some (.slice A n c)) (hl : Ls NE w w.heap.size A n l) (hn : n ≤ 1000000) :
    Calls Try.prog 79 #[.slice none 0 0, .func (.func 62) #[] #[.pointer (some ⟨Bs, 0, none⟩)]] w (RetNn w l) := by
  obtain ⟨W0, hW0⟩ : ∃ W0, w.alloc (.cells #[.slice none 0 0] 22) = W0 := ⟨_, rfl⟩
  have hb0 : Below w.heap.size w W0 := by rw [← hW0]; exact below_al _ _
  have f0 : W0.heap[w.heap.size]? = some (.cells #[.slice none 0 0] 22 (0, 0)) := by rw [← hW0]; exact alloc_new _ _
  have hsz : W0.heap.size = w.heap.size + 1 := by rw [← hW0]; simp
  have HI0 := Lib.hid (show AI w [] W0 from ⟨⟨none, 0, f0, Ow.nil _ _⟩, hb0, by omega⟩)
  have HSQ := Lib.hid (seq_x (3 - 1) w.heap.size Bs n c A l W0 (by omega) (by omega) ((hb0.cell (p := ⟨Bs, 0, none⟩) hBs).trans hc) (hl.below hb0 (Nat.le_refl _)) (by omega) (by omega))
  have HW := Lib.hid hW0
  have HSZ := Lib.hid hsz
  have HLN := Lib.hid hl.1
  obtain ⟨S0, hS0⟩ : ∃ S0, w.heap.size = S0 := ⟨_, rfl⟩
  have HS := Lib.hid hS0
  clear hb0 f0 hW0 hc hl
  refine (callsIn_wide (n := 3)).1 (callsIn_of_wp_marks Try.func79 rfl trivial ?_ rfl)
  simp only [Try.ntmps79, List.size_toArray, List.length_cons, List.length_nil, Nat.reduceAdd, Nat.reduceSub, Array.replicate_succ, Array.replicate_zero, List.push_toArray, List.append_toArray, List.nil_append, List.cons_append]
  gi_wp2
  rw [HW.out]
  refine wpIn_rangeFunc_ownF rfl (by omega) (gf := 62) (lb := #[.pointer (some ⟨Bs, 0, none⟩)]) (by rfl) trivial (enters_of Try.func62 (by kernel_rfl) rfl)
    HSQ.out (fun h k => h.trans k) (fun W lp o o' h1 h2 h3 h4 => ⟨rfl, rfl, rfl, by simp, fun k hk => World.putObj_heap_other (by have := HSZ.out; omega)⟩) (Below.refl _ _) (fun _ => rfl)
    (fun pre W => AI w pre W)
    (fun _ _ _ => False)
    (by rw [HSZ.out]; exact AI.from w)
    (fun _ _ _ _ _ h _ _ => h)
    HI0.out
    (fun x => { tmps := #[.slice none 0 0, .func (.func 62) #[] #[.pointer (some ⟨Bs, 0, none⟩)], .pointer (some ⟨S0, 0, none⟩), undef, .slice none 0 0, .int .i64 x, .func (.func 62) #[] #[.pointer (some ⟨Bs, 0, none⟩)], .int .i64 x, undef, undef, undef, undef, undef], defers := [] }) ?assign ?body ?done ?stop
  case assign =>
    intro lp x W K hK
    gi_wp2
    exact hK
  case stop =>
    rintro D c pre W _ _ h _
    exact h.elim
  case body =>
    rintro lp pre x W hI hlt
    obtain ⟨A1, c1, h1, h2⟩ := hI.row
    have HI := Lib.hid hI
    have H1 := Lib.hid h1
    have H2 := Lib.hid h2
    have hal := below_al W (.cells #[.int .i64 x] 3)
    have HO1 := Lib.hid (h2.below hal (Nat.le_refl _))
    have h9 := ls_new (E := NE) (w := W) 3 x
    have H9 := Lib.hid h9
    have c0 : W.cell? ⟨S0, 0, none⟩ = some (.slice A1 pre.length c1) := by rw [← HS.out, cell_of_row _ _ _ _ _ _ h1]; rfl
    have l0 : S0 < W.heap.size := by rw [← HS.out]; exact blk_lt h1
    have hbig := hI.big
    rw [HS.out] at hbig
    obtain ⟨m, hm⟩ : ∃ m, pre.length = m := ⟨_, rfl⟩
    have HM := Lib.hid hm
    rw [hm] at c0 HO1 hlt
    obtain ⟨i0, hi, hz0, hz1, hz2⟩ := info_of infoN
    have hw1 : w.heap.size + 1 ≤ (W.alloc (.cells #[.int .i64 x] 3)).heap.size := by rw [HS.out]; simp; omega
    clear hI h1 h2 hal h9 hm
    gi_wp2_with (gi_at_builtin; refine wpListIn_append_ow NE (P := Try.prog) Try.underlying22 hi hz0 hz1 hz2 rfl (by decide) rfl (.tmp 8) (.tmp 10) rfl (w.heap.size + 1) _ m pre rfl HO1.out (W.heap.size + 1) (some ⟨W.heap.size, 0, none⟩) 1 1 (fun e => by cases e) [x] (by rfl) H9.out (by omega) hw1 ?_; intro A4 c4 w4 hown4 hg4 _ _ _ hs4; have HST := Lib.hid (HI.out.step (x := x) (A4 := A4) (c4 := c4) H1.out H2.out (by rw [HM.out]; exact hg4) (by rw [HM.out]; exact hown4)); have g4 := HST.out.2.2.2.1; have k4 : w4.cell? ⟨S0, 0, none⟩ = some (.slice A1 m c1) := (by rw [← HS.out, cell_of_row _ _ _ _ _ _ g4, HM.out]; rfl); have f4 : w4.frozen? ⟨S0, 0, none⟩ = false := (by rw [← HS.out]; exact frozen_of_row _ _ 0 _ _ g4); have l4 : S0 < w4.heap.size := (by rw [← HS.out]; exact HST.out.2.2.2.2); clear g4 hown4 hg4)
    have h5 := HST.out
    rw [HM.out, HS.out] at h5
    have h53 := h5.2.2.1
    refine ⟨h5.1, ?_, h53⟩
    rw [HS.out]; exact h5.2.1
  case done =>
    rintro D ys W hD rfl hI hK
    obtain ⟨A1, c1, h1, h2⟩ := hI.row
    have c0 : W.cell? ⟨S0, 0, none⟩ = some (.slice A1 ys.length c1) := by rw [← HS.out, cell_of_row _ _ _ _ _ _ h1]; rfl
    have l0 : S0 < W.heap.size := by rw [← HS.out]; exact blk_lt h1
    have HI := Lib.hid hI
    have HK := Lib.hid hK
    have H2 := Lib.hid h2
    have hD2 : w.heap.size + 1 ≤ D := by rw [← HSZ.out]; exact hD
    clear hI hK h1 h2
    gi_wp2
    refine ⟨by simp, .inl ⟨_, _, rfl, run_takeDeferred HK.out, ?_⟩⟩
    have h3 : AI w ys (W.putObj D (.deferred none)) := HI.out.putObj _ hD2 HK.out
    have hcD : Chg (fun k => k = D) W (W.putObj D (.deferred none)) := ⟨rfl, rfl, rfl, by simp, fun k _ hk => World.putObj_heap_other hk⟩
    have ho3 : Ow NE (W.putObj D (.deferred none)) (w.heap.size + 1) (.slice A1 ys.length c1) ys.length ys := H2.out.chg hcD fun g hk e => by
      obtain ⟨cu, hcu⟩ := H2.out.type hk
      have hK := HK.out
      rw [e, hK] at hcu; cases hcu
    refine ⟨.slice A1 ys.length c1, ?_, A1, c1, rfl, ho3.base (by omega), h3.bel⟩
    simp [results, Try.f79, go_sem]
/-- a box that slices.Values made, and slices.Collect of it -/
theorem collect_x (w : World) (Bs n c : Nat) (A : Option Addr) (l : List Int) (hBs : Bs < w.heap.size) (hc : w.cell? ⟨Bs, 0, none⟩ = some (.slice A n c)) (hl : Ls NE w w.heap.size A n l) (hn : n ≤ 1000000) :
    Calls Try.prog 61 #[.func (.func 62) #[] #[.pointer (some ⟨Bs, 0, none⟩)]] w (RetNn w l) := by
  have HA := Lib.hid (appendSeq_x w Bs n c A l hBs hc hl hn)
  clear hc hl
  go_enter Try.func61, Try.ntmps61
  go_wp2_with (fail)
  refine HA.out.mono ?_
  rintro e w2 ⟨A2, c2, rfl, h2, h3⟩
  have H2 := Lib.hid h2
  have H3 := Lib.hid h3
  clear h2 h3
  go_wp2_with (fail)
  go_ret
  exact ⟨A2, c2, rfl, H2.out, H3.out⟩
theorem values_x (w : World) (n c : Nat) (A : Option Addr) :
    Calls Try.prog 30 #[.slice A n c] w fun e w' => e = .returned (.func (.func 62) #[] #[.pointer (some ⟨w.heap.size, 0, none⟩)]) ∧ w' = w.alloc (.cells #[.slice A n c] 22) := by
  go_enter Try.func30, Try.ntmps30
  go_wp2_with (fail)
  go_ret
  exact ⟨rfl, rfl⟩
end Go.Proofs.Ytnpkhkhchimcnaa.pm
