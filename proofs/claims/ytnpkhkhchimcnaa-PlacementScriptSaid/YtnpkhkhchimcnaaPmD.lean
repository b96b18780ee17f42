/-
  slices.Values at numbers, walked by slices.AppendSeq: the numbers, in a row of the call's own.
-/
import Derived.Test.YtnpkhkhchimcnaaPmA
import Derived.Test.YtnpkhkhchimcnaaRound
import Derived.Test.YtnpkhkhchimcnaaLstIn
import Derived.RangeFuncBox
import Derived.RangeFuncLeaves
import Derived.Shelf.SlIterI.Sorted
import Derived.Shelf.SortM.Plain
import Derived.Shelf.SortM.SortNone
import Derived.Ground.GgzProg
import Derived.Ground.SlgmProg
import Derived.Test.YtnpkhkhchimcnaaProg
import Derived.Test.YtnpkhkhchimcnaaChecked
import Derived.Test.YtnpkhkhchimcnaaPmB
import Derived.Test.YtnpkhkhchimcnaaPmC
namespace Go.Proofs.Ytnpkhkhchimcnaa.pm
open Go.ChangeShapes Go.WideShapes Go.ChangeAt Go.RowKit Go.Shelf plain words ord mem
attribute [local go_sem] Oper.semAt_some

theorem take_snoc {α : Type} {l : List α} {k : Nat} {x : α} (h : l[k]? = some x) : l.take (k + 1) = l.take k ++ [x] := by rw [List.take_add_one, h]; rfl
theorem grown_below {w w' : World} (h : Below w.heap.size w w') : w.grownBy w' none := ⟨h.os, h.tape, h.output, h.size, fun k hk _ => h.block k hk⟩
set_option maxRecDepth 100000 in
set_option maxHeartbeats 2000000 in
theorem seq_x (m : Nat) (n₀ Bs n c : Nat) (A : Option Addr) (l : List Int) (w : World) (hBs : Bs < w.heap.size) (hn0 : n₀ ≤ w.heap.size) (hc : w.cell? ⟨Bs, 0, none⟩ = some (.slice A n c)) (hl : Ls NE w n₀ A n l) (hn : n ≤ 1099511627776) (hm : 1 ≤ m) :
    SeqStopsK Fence.wide m Try.prog 62 #[.pointer (some ⟨Bs, 0, none⟩)] (fun x : Int => #[.int .i64 x]) (Below n₀) (fun ys => ys = l) (fun pre => pre <+: l) n w := fun lp J Jx W hW _ _ hY h0 => by
  have hc' : W.cell? ⟨Bs, 0, none⟩ = some (.slice A n c) := (hW.cell (p := ⟨Bs, 0, none⟩) hBs).trans hc
  have HL := Lib.hid (hl.below hW hn0)
  have HLL := Lib.hid hl.1
  have hBw : Bs < W.heap.size := Nat.lt_of_lt_of_le hBs hW.size
  clear hl hc
  refine callsIn_of_wp Try.func62 rfl trivial ?_ rfl
  simp only [Try.ntmps62, List.size_toArray, List.length_cons, List.length_nil, Nat.reduceAdd, Nat.reduceSub, Array.replicate_succ, Array.replicate_zero, List.push_toArray, List.append_toArray, List.nil_append, List.cons_append]
  gi_wp2
  gi_loopw [7] (fun i wr => ∃ k : Nat, k ≤ n ∧ i = .int .i64 k ∧ J (l.take k) wr ∧ Below n₀ W wr) (fun i _ => n - (intOf i).toNat)
  case atStart => exact ⟨0, Nat.zero_le _, rfl, by simpa using h0, Below.refl _ _⟩
  case round =>
    obtain ⟨k, hk, rfl, hJs, hnx⟩ := hrel
    by_cases hlt : k < n
    · have hltz : (k : Int) < (n : Int) := by omega
      obtain ⟨x, hx⟩ := HL.out.get hlt
      obtain ⟨b, off, rfl, hb, l0⟩ := num_at (HL.out.below hnx (Nat.le_refl _)) hx
      have HX := Lib.hid hx
      obtain ⟨fn, tmps, assign, body, hy, hR⟩ := hY _ x wr hJs (by rw [List.length_take, HLL.out]; omega)
      clear hx
      gi_wp2
      refine hR.mono ?_
      rintro e W3 (⟨rfl, hJ3, hk3⟩ | ⟨rfl, hJx3⟩)
      · gi_wp2
        go_roundw
        case rel => exact ⟨k + 1, by omega, by go_num, by rw [take_snoc HX.out]; exact hJ3, hnx.trans hk3⟩
        case measure => simp [intOf]; omega
      · gi_wp2
        refine bodyPost_ret (results_none rfl _ _ _) rfl ?_
        exact ⟨⟨_, rfl⟩, .inr ⟨_, by rw [← take_snoc HX.out]; exact List.take_prefix _ _, hJx3⟩⟩
    · obtain rfl : k = n := by omega
      have hltz : ¬ (k : Int) < (k : Int) := by omega
      rw [List.take_of_length_le (by rw [HLL.out]; omega)] at hJs
      have HJ := Lib.hid hJs
      clear hJs
      gi_wp2
      go_end0
      first
        | exact ⟨⟨_, rfl⟩, .inl ⟨_, rfl, HJ.out⟩⟩
        | exact ⟨⟨_, rfl⟩, .inl HJ.out⟩
/-- how AppendSeq stands: what has come is in its row -/
structure AI (w : World) (pre : List Int) (W : World) : Prop where
  row : ∃ A c, W.heap[w.heap.size]? = some (.cells #[.slice A pre.length c] 22 (0, 0)) ∧ Ow NE W (w.heap.size + 1) (.slice A pre.length c) pre.length pre
  bel : Below w.heap.size w W
  big : w.heap.size + 1 ≤ W.heap.size
theorem AI.grown {w W W' : World} {pre : List Int} {row : Option Nat} (h : AI w pre W) (hg : W.grownBy W' row) (hr : ∀ r, row = some r → w.heap.size + 1 ≤ r ∧ ∃ o : Obj, W.heap[r]? = some o ∧ o.isCells = false) : AI w pre W' := by
  have hc : Chg (fun k => row = some k) W W' := (Chg.refl _ W).grown hg (fun k e _ => e)
  obtain ⟨A, c, h1, h2⟩ := h.row
  refine ⟨⟨A, c, hc.blk h1 (fun e => by have := (hr _ e).1; omega), h2.chg hc fun g hk e => ?_⟩, h.bel.trans (hc.below (B := w.heap.size) h.bel.size (fun k e => by have := (hr k e).1; omega)), Nat.le_trans h.big hc.size⟩
  obtain ⟨cu, hcu⟩ := h2.type hk
  obtain ⟨_, o, ho, hw⟩ := hr g e
  rw [hcu] at ho; cases ho; cases hw
theorem AI.from (w : World) : OwnFrom (w.heap.size + 1) (AI w) := fun s W W' row hs hg hr => hs.grown hg hr
theorem AI.step {w W W4 : World} {pre : List Int} {x : Int} {A A4 : Option Addr} {c c4 : Nat} (h : AI w pre W) (h1 : W.heap[w.heap.size]? = some (.cells #[.slice A pre.length c] 22 (0, 0))) (h2 : Ow NE W (w.heap.size + 1) (.slice A pre.length c) pre.length pre)
    (hg : (W.alloc (.cells #[.int .i64 x] 3)).grownBy W4 (Value.slice A pre.length c).ownBlock) (h4 : Ow NE W4 (w.heap.size + 1) (.slice A4 (pre.length + 1) c4) (pre.length + 1) (pre ++ [x])) :
    KeepsOthers W (W4.setCell ⟨w.heap.size, 0, none⟩ (.slice A4 (pre.length + 1) c4)) ∧ Below w.heap.size W (W4.setCell ⟨w.heap.size, 0, none⟩ (.slice A4 (pre.length + 1) c4)) ∧ AI w (pre ++ [x]) (W4.setCell ⟨w.heap.size, 0, none⟩ (.slice A4 (pre.length + 1) c4)) ∧ W4.heap[w.heap.size]? = some (.cells #[.slice A pre.length c] 22 (0, 0)) ∧ w.heap.size < W4.heap.size := by
  have hal := below_al W (.cells #[.int .i64 x] 3)
  have hs := h.bel.size
  have hca : Chg (fun k => (Value.slice A pre.length c).ownBlock = some k) W W4 := ((Chg.refl _ W).alloc _).grown hg (fun k e _ => e)
  have hne : ¬ (Value.slice A pre.length c).ownBlock = some w.heap.size := fun e => by have := (h2.lt _ e).1; omega
  have g4 := hca.blk h1 hne
  have hb4 : Below w.heap.size W W4 := hca.below hs (fun k e => by have := (h2.lt k e).1; omega)
  have hb5 : Below w.heap.size W (W4.setCell ⟨w.heap.size, 0, none⟩ (.slice A4 (pre.length + 1) c4)) := hb4.setCell (p := ⟨w.heap.size, 0, none⟩) (Nat.le_refl _) _
  have hl4 : pre.length + 1 = (pre ++ [x]).length := by simp
  refine ⟨?_, hb5, ⟨⟨A4, c4, ?_, ?_⟩, h.bel.trans hb5, by have := hb5.size; have := h.big; omega⟩, g4, blk_lt g4⟩
  · refine ((KeepsOthers.alloc W _).trans (KeepsOthers.of_grownBy hg fun j o e ho => ?_)).trans (KeepsOthers.setCell _ _ _)
    obtain ⟨cu, hcu⟩ := (h2.below hal (Nat.le_refl _)).type e
    rw [hcu] at ho; cases ho; rfl
  · rw [← hl4]
    simpa using heap_setCell_same W4 w.heap.size 0 _ _ (.slice A4 (pre.length + 1) c4) g4
  · rw [← hl4]
    have hc5 : Chg (fun k => k = w.heap.size) W4 (W4.setCell ⟨w.heap.size, 0, none⟩ (.slice A4 (pre.length + 1) c4)) := (Chg.refl (fun k => k = w.heap.size) W4).setCell (p := ⟨w.heap.size, 0, none⟩) (fun _ => rfl) _
    exact h4.chg hc5 fun g hk e => by have := (h4.lt g hk).1; omega
/-- a new list of numbers, nil perhaps -/
def RetNn (w : World) (l : List Int) (e : Ending) (w' : World) : Prop := ∃ A c, e = .returned (.slice A l.length c) ∧ Ow NE w' w.heap.size (.slice A l.length c) l.length l ∧ Below w.heap.size w w'
theorem AI.putObj {w W : World} {pre : List Int} {D : Nat} (h : AI w pre W) (o' : Obj) (hD : w.heap.size + 1 ≤ D) (hK : W.heap[D]? = some (.deferred (some []))) : AI w pre (W.putObj D o') := by
  have hc : Chg (fun k => k = D) W (W.putObj D o') := ⟨rfl, rfl, rfl, by simp, fun k _ hk => World.putObj_heap_other hk⟩
  obtain ⟨A, c, h1, h2⟩ := h.row
  refine ⟨⟨A, c, hc.blk h1 (by omega), h2.chg hc fun g hk e => ?_⟩, h.bel.trans (hc.below h.bel.size (fun k e => by omega)), Nat.le_trans h.big hc.size⟩
  obtain ⟨cu, hcu⟩ := h2.type hk
  rw [e, hK] at hcu; cases hcu
set_option maxRecDepth 100000 in
set_option maxHeartbeats 4000000 in
theorem appendSeq_x (w : World) (Bs n c : Nat) (A : Option Addr) (l : List Int) (hBs : Bs < w.heap.size) (hc : w.cell? ⟨Bs, 0, none⟩ = some (.slice A n c)) (hl : Ls NE w w.heap.size A n l) (hn : n ≤ 1000000) :
    Calls Try.prog 79 #[.slice none 0 0, .func (.func 62) #[] #[.pointer (some ⟨Bs, 0, none⟩)]] w (RetNn w l) := by
  obtain ⟨W0, hW0⟩ : ∃ W0, w.alloc (.cells #[.slice none 0 0] 22) = W0 := ⟨_, rfl⟩
  have hb0 : Below w.heap.size w W0 := by rw [← hW0]; exact below_al _ _
  have f0 : W0.heap[w.heap.size]? = some (.cells #[.slice none 0 0] 22 (0, 0)) := by rw [← hW0]; exact alloc_new _ _
  have hsz : W0.heap.size = w.heap.size + 1 := by rw [← hW0]; simp
  have HI0 := Lib.hid (show AI w [] W0 from ⟨⟨none, 0, f0, Ow.nil _ _⟩, hb0, by omega⟩)
  have HSQ := Lib.hid (seq_x (3 - 1) w.heap.size Bs n c A l W0 (by omega) (by omega) ((hb0.cell (p := ⟨Bs, 0, none⟩) hBs).trans hc) (hl.below hb0 (Nat.le_refl _)) (by omega) (by omega))
  have HW := Lib.hid hW0
  have HSZ := Lib.hid hsz
  have HLN := Lib.hid hl.1
  obtain ⟨S0, hS0⟩ : ∃ S0, w.heap.size = S0 := ⟨_, rfl⟩
  have HS := Lib.hid hS0
  clear hb0 f0 hW0 hc hl
  refine (callsIn_wide (n := 3)).1 (callsIn_of_wp_marks Try.func79 rfl trivial ?_ rfl)
  simp only [Try.ntmps79, List.size_toArray, List.length_cons, List.length_nil, Nat.reduceAdd, Nat.reduceSub, Array.replicate_succ, Array.replicate_zero, List.push_toArray, List.append_toArray, List.nil_append, List.cons_append]
  gi_wp2
  rw [HW.out]
  refine wpIn_rangeFunc_ownF rfl (by omega) (gf := 62) (lb := #[.pointer (some ⟨Bs, 0, none⟩)]) (by rfl) trivial (enters_of Try.func62 (by kernel_rfl) rfl)
    HSQ.out (fun h k => h.trans k) (fun W lp o o' h1 h2 h3 h4 => ⟨rfl, rfl, rfl, by simp, fun k hk => World.putObj_heap_other (by have := HSZ.out; omega)⟩) (Below.refl _ _) (fun _ => rfl)
    (fun pre W => AI w pre W)
    (fun _ _ _ => False)
    (by rw [HSZ.out]; exact AI.from w)
    (fun _ _ _ _ _ h _ _ => h)
    HI0.out
    (fun x => { tmps := #[.slice none 0 0, .func (.func 62) #[] #[.pointer (some ⟨Bs, 0, none⟩)], .pointer (some ⟨S0, 0, none⟩), undef, .slice none 0 0, .int .i64 x, .func (.func 62) #[] #[.pointer (some ⟨Bs, 0, none⟩)], .int .i64 x, undef, undef, undef, undef, undef], defers := [] }) ?assign ?body ?done ?stop
  case assign =>
    intro lp x W K hK
    gi_wp2
    exact hK
  case stop =>
    rintro D c pre W _ _ h _
    exact h.elim
  case body =>
    rintro lp pre x W hI hlt
    obtain ⟨A1, c1, h1, h2⟩ := hI.row
    have HI := Lib.hid hI
    have H1 := Lib.hid h1
    have H2 := Lib.hid h2
    have hal := below_al W (.cells #[.int .i64 x] 3)
    have HO1 := Lib.hid (h2.below hal (Nat.le_refl _))
    have h9 := ls_new (E := NE) (w := W) 3 x
    have H9 := Lib.hid h9
    have c0 : W.cell? ⟨S0, 0, none⟩ = some (.slice A1 pre.length c1) := by rw [← HS.out, cell_of_row _ _ _ _ _ _ h1]; rfl
    have l0 : S0 < W.heap.size := by rw [← HS.out]; exact blk_lt h1
    have hbig := hI.big
    rw [HS.out] at hbig
    obtain ⟨m, hm⟩ : ∃ m, pre.length = m := ⟨_, rfl⟩
    have HM := Lib.hid hm
    rw [hm] at c0 HO1 hlt
    obtain ⟨i0, hi, hz0, hz1, hz2⟩ := info_of infoN
    have hw1 : w.heap.size + 1 ≤ (W.alloc (.cells #[.int .i64 x] 3)).heap.size := by rw [HS.out]; simp; omega
    clear hI h1 h2 hal h9 hm
    gi_wp2_with (gi_at_builtin; refine wpListIn_append_ow NE (P := Try.prog) Try.underlying22 hi hz0 hz1 hz2 rfl (by decide) rfl (.tmp 8) (.tmp 10) rfl (w.heap.size + 1) _ m pre rfl HO1.out (W.heap.size + 1) (some ⟨W.heap.size, 0, none⟩) 1 1 (fun e => by cases e) [x] (by rfl) H9.out (by omega) hw1 ?_; intro A4 c4 w4 hown4 hg4 _ _ _ hs4; have HST := Lib.hid (HI.out.step (x := x) (A4 := A4) (c4 := c4) H1.out H2.out (by rw [HM.out]; exact hg4) (by rw [HM.out]; exact hown4)); have g4 := HST.out.2.2.2.1; have k4 : w4.cell? ⟨S0, 0, none⟩ = some (.slice A1 m c1) := (by rw [← HS.out, cell_of_row _ _ _ _ _ _ g4, HM.out]; rfl); have f4 : w4.frozen? ⟨S0, 0, none⟩ = false := (by rw [← HS.out]; exact frozen_of_row _ _ 0 _ _ g4); have l4 : S0 < w4.heap.size := (by rw [← HS.out]; exact HST.out.2.2.2.2); clear g4 hown4 hg4)
    have h5 := HST.out
    rw [HM.out, HS.out] at h5
    have h53 := h5.2.2.1
    refine ⟨h5.1, ?_, h53⟩
    rw [HS.out]; exact h5.2.1
  case done =>
    rintro D ys W hD rfl hI hK
    obtain ⟨A1, c1, h1, h2⟩ := hI.row
    have c0 : W.cell? ⟨S0, 0, none⟩ = some (.slice A1 ys.length c1) := by rw [← HS.out, cell_of_row _ _ _ _ _ _ h1]; rfl
    have l0 : S0 < W.heap.size := by rw [← HS.out]; exact blk_lt h1
    have HI := Lib.hid hI
    have HK := Lib.hid hK
    have H2 := Lib.hid h2
    have hD2 : w.heap.size + 1 ≤ D := by rw [← HSZ.out]; exact hD
    clear hI hK h1 h2
    gi_wp2
    refine ⟨by simp, .inl ⟨_, _, rfl, run_takeDeferred HK.out, ?_⟩⟩
    have h3 : AI w ys (W.putObj D (.deferred none)) := HI.out.putObj _ hD2 HK.out
    have hcD : Chg (fun k => k = D) W (W.putObj D (.deferred none)) := ⟨rfl, rfl, rfl, by simp, fun k _ hk => World.putObj_heap_other hk⟩
    have ho3 : Ow NE (W.putObj D (.deferred none)) (w.heap.size + 1) (.slice A1 ys.length c1) ys.length ys := H2.out.chg hcD fun g hk e => by
      obtain ⟨cu, hcu⟩ := H2.out.type hk
      have hK := HK.out
      rw [e, hK] at hcu; cases hcu
    refine ⟨.slice A1 ys.length c1, ?_, A1, c1, rfl, ho3.base (by omega), h3.bel⟩
    simp [results, Try.f79, go_sem]
/-- a box that slices.Values made, and slices.Collect of it -/
theorem collect_x (w : World) (Bs n c : Nat) (A : Option Addr) (l : List Int) (hBs : Bs < w.heap.size) (hc : w.cell? ⟨Bs, 0, none⟩ = some (.slice A n c)) (hl : Ls NE w w.heap.size A n l) (hn : n ≤ 1000000) :
    Calls Try.prog 61 #[.func (.func 62) #[] #[.pointer (some ⟨Bs, 0, none⟩)]] w (RetNn w l) := by
  have HA := Lib.hid (appendSeq_x w Bs n c A l hBs hc hl hn)
  clear hc hl
  go_enter Try.func61, Try.ntmps61
  go_wp2_with (fail)
  refine HA.out.mono ?_
  rintro e w2 ⟨A2, c2, rfl, h2, h3⟩
  have H2 := Lib.hid h2
  have H3 := Lib.hid h3
  clear h2 h3
  go_wp2_with (fail)
  go_ret
  exact ⟨A2, c2, rfl, H2.out, H3.out⟩
theorem values_x (w : World) (n c : Nat) (A : Option Addr) :
    Calls Try.prog 30 #[.slice A n c] w fun e w' => e = .returned (.func (.func 62) #[] #[.pointer (some ⟨w.heap.size, 0, none⟩)]) ∧ w' = w.alloc (.cells #[.slice A n c] 22) := by
  go_enter Try.func30, Try.ntmps30
  go_wp2_with (fail)
  go_ret
  exact ⟨rfl, rfl⟩
end Go.Proofs.Ytnpkhkhchimcnaa.pm
/-
  The library's contracts laid at this program (printed by the kit's tool, by names).
-/
namespace Go.Proofs.Ytnpkhkhchimcnaa.pm
open Go.Shelf
def sortedA_ren : Go.Shelf.Ren := ⟨fun | 6 => 29 | 8 => 61 | 9 => 42 | 11 => 79 | 13 => 69 | 12 => 68 | 23 => 89 | 24 => 90 | 14 => 80 | 15 => 81 | 16 => 82 | 17 => 83 | 18 => 84 | 19 => 85 | 20 => 86 | 21 => 87 | 22 => 88 | 25 => 94 | 26 => 95 | 27 => 96 | 28 => 97 | 29 => 98 | 30 => 99 | 31 => 100 | n => n, fun | 26 => 3 | 28 => 56 | 24 => 22 | 0 => 0 | 3 => 3 | 37 => 83 | 48 => 98 | 50 => 100 | 4 => 4 | 40 => 91 | 39 => 90 | 45 => 95 | 5 => 5 | 9 => 9 | 51 => 103 | 55 => 107 | 57 => 109 | 58 => 33 | 33 => 61 | n => n, fun | n => n⟩
theorem sortedA : Go.Proofs.SlLaysZI.n6 Try.prog sortedA_ren := {
  mixed := by kernel_rfl
  f6 := ⟨Try.f29.name, by decide, Try.func29.trans (congrArg some (by kernel_rfl))⟩
  f8 := ⟨Try.f61.name, by decide, Try.func61.trans (congrArg some (by kernel_rfl))⟩
  f11 := ⟨Try.f79.name, by decide, Try.func79.trans (congrArg some (by kernel_rfl))⟩
  t0 := Try.underlying0
  a0 := Try.isAgg0
  z0 := Try.sizeOf0
  v0 := Try.zeroValue0
  t24 := Try.underlying22
  a24 := Try.isAgg22
  z24 := Try.sizeOf22
  v24 := Try.zeroValue22
  t26 := Try.underlying3
  a26 := Try.isAgg3
  z26 := Try.sizeOf3
  v26 := Try.zeroValue3
  t28 := Try.underlying56
  a28 := Try.isAgg56
  z28 := Try.sizeOf56
  v28 := Try.zeroValue56
  i26 := by kernel_rfl }
def sortA_ren : Go.Shelf.Ren := ⟨fun | 5 => 42 | 8 => 69 | 7 => 68 | 19 => 89 | 20 => 90 | 10 => 80 | 11 => 81 | 12 => 82 | 13 => 83 | 14 => 84 | 15 => 85 | 16 => 86 | 17 => 87 | 18 => 88 | 30 => 94 | 31 => 95 | 32 => 96 | 33 => 97 | 34 => 98 | 35 => 99 | 40 => 100 | n => n, fun | 23 => 22 | 25 => 3 | 3 => 3 | 32 => 83 | 22 => 22 | 0 => 0 | 44 => 98 | 46 => 100 | 4 => 4 | 36 => 91 | 35 => 90 | 41 => 95 | 5 => 5 | 9 => 9 | 53 => 103 | 57 => 107 | 63 => 109 | 64 => 33 | n => n, fun | n => n⟩
theorem sortA : Go.Proofs.SlLaysM.n5 Try.prog sortA_ren := {
  mixed := by kernel_rfl
  f5 := ⟨Try.f42.name, by decide, Try.func42.trans (congrArg some (by kernel_rfl))⟩
  f7 := ⟨Try.f68.name, by decide, Try.func68.trans (congrArg some (by kernel_rfl))⟩
  f8 := Try.func69.trans (congrArg some (by kernel_rfl))
  f10 := ⟨Try.f80.name, by decide, Try.func80.trans (congrArg some (by kernel_rfl))⟩
  f11 := ⟨Try.f81.name, by decide, Try.func81.trans (congrArg some (by kernel_rfl))⟩
  f12 := ⟨Try.f82.name, by decide, Try.func82.trans (congrArg some (by kernel_rfl))⟩
  f13 := ⟨Try.f83.name, by decide, Try.func83.trans (congrArg some (by kernel_rfl))⟩
  f14 := ⟨Try.f84.name, by decide, Try.func84.trans (congrArg some (by kernel_rfl))⟩
  f15 := ⟨Try.f85.name, by decide, Try.func85.trans (congrArg some (by kernel_rfl))⟩
  f16 := ⟨Try.f86.name, by decide, Try.func86.trans (congrArg some (by kernel_rfl))⟩
  f17 := ⟨Try.f87.name, by decide, Try.func87.trans (congrArg some (by kernel_rfl))⟩
  f18 := ⟨Try.f88.name, by decide, Try.func88.trans (congrArg some (by kernel_rfl))⟩
  f19 := Try.func89.trans (congrArg some (by kernel_rfl))
  f20 := Try.func90.trans (congrArg some (by kernel_rfl))
  f30 := ⟨Try.f94.name, by decide, Try.func94.trans (congrArg some (by kernel_rfl))⟩
  f31 := Try.func95.trans (congrArg some (by kernel_rfl))
  f32 := Try.func96.trans (congrArg some (by kernel_rfl))
  f33 := ⟨Try.f97.name, by decide, Try.func97.trans (congrArg some (by kernel_rfl))⟩
  f34 := ⟨Try.f98.name, by decide, Try.func98.trans (congrArg some (by kernel_rfl))⟩
  f35 := ⟨Try.f99.name, by decide, Try.func99.trans (congrArg some (by kernel_rfl))⟩
  f40 := ⟨Try.f100.name, by decide, Try.func100.trans (congrArg some (by kernel_rfl))⟩
  t0 := Try.underlying0
  a0 := Try.isAgg0
  z0 := Try.sizeOf0
  v0 := Try.zeroValue0
  t3 := Try.underlying3
  a3 := Try.isAgg3
  z3 := Try.sizeOf3
  v3 := Try.zeroValue3
  t4 := Try.underlying4
  a4 := Try.isAgg4
  z4 := Try.sizeOf4
  v4 := Try.zeroValue4
  t5 := Try.underlying5
  a5 := Try.isAgg5
  z5 := Try.sizeOf5
  v5 := Try.zeroValue5
  t9 := Try.underlying9
  a9 := Try.isAgg9
  z9 := Try.sizeOf9
  v9 := Try.zeroValue9
  t22 := Try.underlying22
  a22 := Try.isAgg22
  z22 := Try.sizeOf22
  v22 := Try.zeroValue22
  t23 := Try.underlying22
  a23 := Try.isAgg22
  z23 := Try.sizeOf22
  v23 := Try.zeroValue22
  t25 := Try.underlying3
  a25 := Try.isAgg3
  z25 := Try.sizeOf3
  v25 := Try.zeroValue3
  t32 := Try.underlying83
  a32 := Try.isAgg83
  z32 := Try.sizeOf83
  v32 := Try.zeroValue83
  t35 := Try.underlying90
  a35 := Try.isAgg90
  z35 := Try.sizeOf90
  v35 := Try.zeroValue90
  t36 := Try.underlying91
  a36 := Try.isAgg91
  z36 := Try.sizeOf91
  v36 := Try.zeroValue91
  t41 := Try.underlying95
  a41 := Try.isAgg95
  z41 := Try.sizeOf95
  v41 := Try.zeroValue95
  t44 := Try.underlying98
  a44 := Try.isAgg98
  z44 := Try.sizeOf98
  v44 := Try.zeroValue98
  t46 := Try.underlying100
  a46 := Try.isAgg100
  z46 := Try.sizeOf100
  v46 := Try.zeroValue100
  t53 := Try.underlying103
  a53 := Try.isAgg103
  z53 := Try.sizeOf103
  v53 := Try.zeroValue103
  t57 := Try.underlying107
  a57 := Try.isAgg107
  z57 := Try.sizeOf107
  v57 := Try.zeroValue107
  t63 := Try.underlying109
  a63 := Try.isAgg109
  z63 := Try.sizeOf109
  v63 := Try.zeroValue109
  t64 := Try.underlying33
  a64 := Try.isAgg33
  z64 := Try.sizeOf33
  v64 := Try.zeroValue33 }
end Go.Proofs.Ytnpkhkhchimcnaa.pm
/-
  slices.Sort and slices.Sorted at numbers.
-/
namespace Go.Proofs.Ytnpkhkhchimcnaa.pm
open Go.ChangeShapes Go.WideShapes Go.ChangeAt Go.RowKit Go.Shelf Go.Sort plain words ord mem

theorem holds_i {w : World} {g : Nat} {cur : Array Value} {e : TypeId} {zs : List Int} (hb : w.heap[g]? = some (.cells cur e (0, 0))) (ht : cur.toList.take zs.length = zs.map (Value.int .i64)) : Holds (Value.int .i64) w g 0 zs.toArray := by
  intro j hj
  have hj' : j < zs.length := by simpa using hj
  refine ⟨?_, by simp [World.frozen?, hb]⟩
  have h1 : (cur.toList.take zs.length)[j]? = (zs.map (Value.int .i64))[j]? := by rw [ht]
  rw [List.getElem?_take_of_lt hj'] at h1
  simp only [World.cell?, hb, Nat.zero_add]
  simp only [Option.isSome_none, Bool.false_eq_true, if_false]
  rw [← Array.getElem?_toList, h1]
  simp [hj']
theorem heap_i {w : World} {g n : Nat} {os : Array Obj} {cur : Array Value} {e : TypeId} {fr : Nat × Nat} (d : Array Int) (hb : w.heap[g]? = some (.cells cur e fr)) :
    (grow (putRow (Value.int .i64) (Sort.ahead w n) g 0 d) os).heap[g]? = some (.cells (putCells (Value.int .i64) 0 d cur) e fr) := by
  have hg : g < w.heap.size := (Array.getElem?_eq_some_iff.1 hb).1
  rw [heap_grow_old _ _ (by simpa using hg)]
  simp [putRow, mapBlock, Sort.ahead, Array.getElem?_modify, hb, onCells]
theorem grown_i {w : World} {g n : Nat} {os : Array Obj} (d : Array Int) : w.grownBy (grow (putRow (Value.int .i64) (Sort.ahead w n) g 0 d) os) (some g) := by
  refine ⟨rfl, rfl, rfl, by simp, fun k hk hne => ?_⟩
  rw [heap_grow_old _ _ (by simpa using hk)]
  have : g ≠ k := fun e => hne (by rw [e])
  simp [putRow, mapBlock, Sort.ahead, Array.getElem?_modify, this]
theorem take_i (cur : Array Value) (ts : List Int) (h : ts.length ≤ cur.size) : (putCells (Value.int .i64) 0 ts.toArray cur).toList.take ts.length = ts.map (Value.int .i64) := by
  apply List.ext_getElem?
  intro j
  by_cases hj : j < ts.length
  · rw [List.getElem?_take_of_lt hj, Array.getElem?_toList]
    simp [putCells, hj, show j < cur.size by omega]
  · rw [List.getElem?_take_eq_none (by omega), List.getElem?_eq_none (by simp; omega)]
def srt (l : List Int) : List Int := l.mergeSort fun x y => decide (x ≤ y)
theorem srt_len (l : List Int) : (srt l).length = l.length := by unfold srt; rw [List.length_mergeSort]
theorem srt_perm (l : List Int) : (srt l).Perm l := List.mergeSort_perm _ _
theorem srt_le (l : List Int) : (srt l).Pairwise fun a b => a ≤ b := by
  have := List.pairwise_mergeSort (le := fun x y : Int => decide (x ≤ y)) (fun a b c h1 h2 => by simp at *; omega) (fun a b => by simp; omega) l
  exact this.imp (fun h => by simpa using h)
theorem NE_cs (l : List Int) : cs NE.enc l = l.map (Value.int .i64) := by
  induction l with
  | nil => rfl
  | cons x l ih => rw [cs_cons, ih]; rfl
theorem sort_x (w : World) (B n c : Nat) (A : Option Addr) (l : List Int) (h : Ow NE w B (.slice A n c) n l) (hn : n < 4611686018427387904) :
    Calls Try.prog 42 #[.slice A n c] w fun e w' => e = .returned (.tuple #[]) ∧ Ow NE w' B (.slice A n c) n (srt l) ∧ ∃ o, (∀ g, o = some g → B ≤ g ∧ ∃ cu, w.heap[g]? = some (.cells cu 3 (0, 0))) ∧ w.grownBy w' o := by
  obtain ⟨hl, hrow⟩ := h
  rw [NE_cs] at hrow
  rcases Nat.eq_zero_or_pos n with h0 | h0
  · subst h0
    obtain rfl := List.eq_nil_of_length_eq_zero hl
    have := AnyM.slices_Sort_int_none sortA A c w
    rw [show sortA_ren.f 5 = 42 by rfl] at this
    refine this.mono ?_
    rintro e w' ⟨rfl, rfl⟩
    exact ⟨rfl, ⟨by simp [srt], by rw [NE_cs]; simpa [srt] using hrow⟩, none, fun g e => (by cases e), World.grownBy.refl _ _⟩
  · rcases hrow.2 with ⟨_, h1⟩ | ⟨g, cap, cur, e0, hbase, hb, h1, h2, h3, h4⟩
    · omega
    · injection e0 with e1 e2 e3
      subst e1 e3
      have hH := holds_i (zs := l) hb (by rw [hl]; rw [show n * NE.k = n from Nat.mul_one n] at h4; exact h4)
      have := AnyM.slices_Sort_int sortA g 0 c l w hH ((Array.getElem?_eq_some_iff.1 hb).1) (by rw [hl]; exact hn)
      rw [show sortA_ren.f 5 = 42 by rfl, hl] at this
      refine this.mono ?_
      rintro e w' ⟨rfl, k, os, rfl⟩
      have hl2 : (srt l).length = n := by rw [srt_len, hl]
      refine ⟨rfl, ⟨hl2, ?_⟩, some g, fun g' e => by cases e; exact ⟨hbase, cur, hb⟩, grown_i _⟩
      rw [NE_cs]
      refine ⟨by rw [List.length_map, hl2]; exact (Nat.mul_one n).symm, .inr ⟨g, c, _, rfl, hbase, heap_i _ hb, h1, h2, by simp [putCells, h3], ?_⟩⟩
      rw [show n * NE.k = n from Nat.mul_one n]
      have hck : c * NE.k = c := Nat.mul_one c
      have := take_i cur (srt l) (by rw [hl2]; omega)
      rw [hl2] at this
      exact this
theorem sorted_x (w : World) (Bs n c : Nat) (A : Option Addr) (l : List Int) (hBs : Bs < w.heap.size) (hc : w.cell? ⟨Bs, 0, none⟩ = some (.slice A n c)) (hl : Ls NE w w.heap.size A n l) (hn : n ≤ 1000000) :
    Calls Try.prog 29 #[.func (.func 62) #[] #[.pointer (some ⟨Bs, 0, none⟩)]] w (RetNn w (srt l)) := by
  have HA := Lib.hid (collect_x w Bs n c A l hBs hc hl hn)
  have HL := Lib.hid hl.1
  clear hc hl
  go_enter Try.func29, Try.ntmps29
  go_wp2_with (fail)
  refine HA.out.mono ?_
  rintro e w2 ⟨A2, c2, rfl, h2, h3⟩
  have H3 := Lib.hid h3
  have HS := Lib.hid (sort_x w2 w.heap.size l.length c2 A2 l h2 (by rw [HL.out]; omega))
  obtain ⟨m, hm⟩ : ∃ m, l.length = m := ⟨_, rfl⟩
  rw [hm] at HS
  have HM := Lib.hid hm
  rw [hm]
  clear h2 h3 HA hm
  go_wp2_with (fail)
  refine HS.out.mono ?_
  rintro e w3 ⟨rfl, h4, o, h5, h6⟩
  have H4 := Lib.hid h4
  have H6 := Lib.hid (show Below w.heap.size w w3 from H3.out.trans (((Chg.refl (fun k => o = some k) w2).grown h6 (fun k e _ => e)).below H3.out.size (fun k e => (h5 k e).1)))
  clear h4 h5 h6 HS
  go_wp2_with (fail)
  go_ret
  have e1 : (srt l).length = m := by rw [srt_len, HM.out]
  exact ⟨A2, c2, by rw [e1]; rfl, by rw [e1]; exact H4.out, H6.out⟩
end Go.Proofs.Ytnpkhkhchimcnaa.pm
/-
  Placements: the program's Init.
-/
namespace Go.Proofs.Ytnpkhkhchimcnaa.pm
open Go.ChangeShapes Go.WideShapes Go.ChangeAt Go.RowKit Go.Shelf plain words ord mem

def at_ (ss : List (List O)) (i : Nat) : List O := (ss[i]?).getD []
def stepO (nodes : List Int) (ss : List (List O)) (i : Nat) : List (List O) := ss.set i (own (at_ ss i) (least nodes ss (at_ ss i), 2, -1))
def steps (nodes : List Int) (i : Nat) : Nat → List (List O) → List (List O)
  | 0, ss => ss
  | j + 1, ss => stepO nodes (steps nodes i j ss) i
def initAt (nodes : List Int) (S : Nat) : Nat → List (List O)
  | 0 => List.replicate S []
  | i + 1 => steps nodes i 3 (initAt nodes S i)
theorem stepO_len (nodes : List Int) (ss : List (List O)) (i : Nat) : (stepO nodes ss i).length = ss.length := by simp [stepO]
theorem steps_len (nodes : List Int) (i j : Nat) (ss : List (List O)) : (steps nodes i j ss).length = ss.length := by
  induction j with
  | zero => rfl
  | succ j ih => rw [steps, stepO_len, ih]
theorem initAt_len (nodes : List Int) (S i : Nat) : (initAt nodes S i).length = S := by
  induction i with
  | zero => simp [initAt]
  | succ i ih => rw [initAt, steps_len, ih]
noncomputable def initErr (l : List Int) (s : Int) : Int := if tb (NodesOk (srt l)) = true then (if s < 1 ∨ 8 < s then 1 else 0) else 140
noncomputable def initPl (l : List Int) (s : Int) : Pl := if initErr l s = 0 then ⟨1, srt l, initAt (srt l) s.toNat s.toNat⟩ else ⟨0, [], []⟩
/-- a placement and an error behind a call -/
def RetPl (w : World) (p : Pl) (er : Int) (e : Ending) (w' : World) : Prop := ∃ v : PV, e = .returned (.tuple #[v.val, .int .i64 er]) ∧ v.pl = p ∧ PVok w' w'.heap.size v ∧ Below w.heap.size w w'
def noPV : PV := ⟨0, none, 0, [], none, 0, []⟩
theorem noPV_ok (w : World) : PVok w w.heap.size noPV := ⟨Ls.nil _ _ _, Nat.le_refl _, by simp [noPV], fun _ => rfl, ⟨Ls.nil _ _ _, fun r hr => by simp [noPV] at hr⟩, Nat.le_refl _, by simp [noPV], fun _ => rfl⟩
theorem sizeP : (Try.prog.info? 25).map (·.size) = some 3 := by kernel_rfl
theorem RetPl.none {w w' : World} {er : Int} (hb : Below w.heap.size w w') : RetPl w ⟨0, [], []⟩ er (.returned (.tuple #[.agg #[.int .i64 0, .slice none 0 0, .slice none 0 0], .int .i64 er])) w' := ⟨noPV, rfl, rfl, noPV_ok _, hb⟩
/-- a placement that only blocks from B on bear -/
structure OP (w : World) (B : Nat) (v : PV) : Prop where
  n : Ow NE w B (.slice v.nA v.nodes.length v.nc) v.nodes.length v.nodes
  s : Ow SE w B (.slice v.sA v.rs.length v.sc) v.rs.length v.rs
  each : ∀ r ∈ v.rs, Ow OE w B r.val r.l.length r.l
theorem WP.op {w : World} {B C pb : Nat} {v : PV} (h : WP w B pb v) (hC : C ≤ B) : OP w C v := ⟨h.n.base hC, h.s.base hC, fun r hr => (h.each r hr).base hC⟩
theorem OP.ok {w : World} {B : Nat} {v : PV} (h : OP w B v) : PVok w w.heap.size v := by
  obtain ⟨_, _, he, h1, h2, h3⟩ := h.n.form
  cases he
  obtain ⟨_, _, he, k1, k2, k3⟩ := h.s.form
  cases he
  exact ⟨h.n.ls, h2, h3, h1, ⟨h.s.ls, fun r hr => Ow.rwok (h.each r hr) rfl rfl⟩, k2, k3, k1⟩
theorem OP.chg {S : Nat → Prop} {w w' : World} {B : Nat} {v : PV} (h : OP w B v) (hc : Chg S w w') (hS : ∀ k, S k → k < B) : OP w' B v :=
  ⟨h.n.chg hc fun g hg e => by have := (h.n.lt g hg).1; have := hS g e; omega, h.s.chg hc fun g hg e => by have := (h.s.lt g hg).1; have := hS g e; omega,
   fun r hr => (h.each r hr).chg hc fun g hg e => by have := ((h.each r hr).lt g hg).1; have := hS g e; omega⟩
theorem OP.below {w w' : World} {B C : Nat} {v : PV} (h : OP w B v) (hb : Below C w w') (hC : w.heap.size ≤ C) : OP w' B v :=
  ⟨h.n.below hb hC, h.s.below hb hC, fun r hr => (h.each r hr).below hb hC⟩
theorem OP.base {w : World} {B C : Nat} {v : PV} (h : OP w B v) (hC : C ≤ B) : OP w C v := ⟨h.n.base hC, h.s.base hC, fun r hr => (h.each r hr).base hC⟩
theorem noPV_op (w : World) (B : Nat) : OP w B noPV := ⟨Ow.nil _ _, Ow.nil _ _, fun r hr => by simp [noPV] at hr⟩
/-- a placement of the call's own and an error behind it -/
def RetPl2 (w : World) (p : Pl) (er : Int) (e : Ending) (w' : World) : Prop := ∃ v : PV, e = .returned (.tuple #[v.val, .int .i64 er]) ∧ v.pl = p ∧ OP w' w.heap.size v ∧ Below w.heap.size w w'
theorem RetPl2.weak {w : World} {p : Pl} {er : Int} {e : Ending} {w' : World} (h : RetPl2 w p er e w') : RetPl w p er e w' := by
  obtain ⟨v, h1, h2, h3, h4⟩ := h
  exact ⟨v, h1, h2, h3.ok, h4⟩
theorem RetPl2.none {w w' : World} {er : Int} (hb : Below w.heap.size w w') : RetPl2 w ⟨0, [], []⟩ er (.returned (.tuple #[.agg #[.int .i64 0, .slice none 0 0, .slice none 0 0], .int .i64 er])) w' := ⟨noPV, rfl, rfl, noPV_op _ _, hb⟩
theorem stepO_small {nodes : List Int} {X : List (List O)} {i K : Nat} (h : ∀ l ∈ X, l.length ≤ K) : ∀ l ∈ stepO nodes X i, l.length ≤ K + 1 := fun l hl => by
  unfold stepO at hl
  rcases List.mem_or_eq_of_mem_set hl with hl | rfl
  · have := h l hl; omega
  · rw [own_len]
    unfold at_
    cases hx : X[i]? with
    | none => simp
    | some q => have := h q (List.mem_of_getElem? hx); simp; omega
theorem steps_small {nodes : List Int} {X : List (List O)} {i K : Nat} (h : ∀ l ∈ X, l.length ≤ K) (j : Nat) : ∀ l ∈ steps nodes i j X, l.length ≤ K + j := by
  induction j with
  | zero => exact h
  | succ j ih => exact stepO_small ih
theorem initAt_small (nodes : List Int) (S i : Nat) : ∀ l ∈ initAt nodes S i, l.length ≤ 3 * i := by
  induction i with
  | zero => intro l hl; simp [initAt] at hl; simp [hl.2]
  | succ i ih => intro l hl; have := steps_small (nodes := nodes) (i := i) ih 3 l hl; omega
theorem chg_set3 {w : World} {g : Nat} (v0 v1 v2 : Value) : Chg (fun k => k = g) w (((w.setCell ⟨g, 0, none⟩ v0).setCell ⟨g, 1, none⟩ v1).setCell ⟨g, 2, none⟩ v2) :=
  (((Chg.refl (fun k => k = g) w).setCell (p := ⟨g, 0, none⟩) (fun _ => rfl) v0).setCell (p := ⟨g, 1, none⟩) (fun _ => rfl) v1).setCell (p := ⟨g, 2, none⟩) (fun _ => rfl) v2
/-- a variable of another placement may change -/
theorem WP.apart {w w' : World} {B pb g : Nat} {v : PV} {cur : Array Value} (h : WP w B pb v) (hc : Chg (fun k => k = g) w w') (hg : w.heap[g]? = some (.cells cur 25 (0, 0))) (hne : g ≠ pb) : WP w' B pb v :=
  ⟨h.le, hc.blk h.var (fun e => hne e.symm), ow_other h.n hc hg (by decide), ow_other h.s hc hg (by decide), fun r hr => ow_other (h.each r hr) hc hg (by decide)⟩
theorem nils_cs (S : Nat) : cs SE.enc (List.replicate S (⟨none, 0, []⟩ : Rw3)) = List.replicate S (Value.slice none 0 0) := by
  induction S with
  | zero => rfl
  | succ k ih => rw [List.replicate_succ, cs_cons, ih]; rfl
/-- how Init stands: what is laid so far -/
structure PI (w wr : World) (pb sb : Nat) (nodes : List Int) (X : List (List O)) (v : PV) : Prop where
  wp : WP wr w.heap.size pb v
  ver : v.ver = 1
  nodes : v.nodes = nodes
  sA : v.sA = some ⟨sb, 0, none⟩
  ss : v.pl.ss = X
  bel : Below w.heap.size w wr
  res : IsV3 25 wr w.heap.size (.int .i64 0) (.slice none 0 0) (.slice none 0 0)
theorem PI.len {w wr : World} {pb sb : Nat} {nodes : List Int} {X : List (List O)} {v : PV} (h : PI w wr pb sb nodes X v) : v.rs.length = X.length := by rw [← h.ss]; simp [PV.pl]
theorem PI.step {w wr w7 w8 : World} {pb sb : Nat} {nodes : List Int} {X : List (List O)} {v : PV} {i : Nat} {e : Ending} {q : List O} {x : Int} (h : PI w wr pb sb nodes X v) (hsb : w.heap.size < sb) (hb7 : Below wr.heap.size wr w7) (hq : at_ X i = q) (hx : least nodes X q = x) (hr : RetOwn w7 w.heap.size pb i v sb (own q (x, 2, -1)) e w8) :
    e = .returned (.tuple #[]) ∧ ∃ v', PI w w8 pb sb nodes (stepO nodes X i) v' := by
  obtain ⟨he, r', hl, hwp, hch⟩ := hr
  refine ⟨he, { v with rs := v.rs.set i r' }, hwp, h.ver, h.nodes, h.sA, ?_, ?_, ?_⟩
  · unfold stepO
    rw [hq, hx, ← h.ss, ← hl]
    simp [PV.pl, List.map_set]
  · exact (h.bel.trans (hb7.mono h.bel.size)).trans (hch.below (Nat.le_trans h.bel.size hb7.size) (fun k e => by omega))
  · exact hch.blk (blk_below hb7 h.res (blk_lt h.res)) (by omega)
set_option maxHeartbeats 4000000 in
theorem pinit_sx (w : World) (B n c : Nat) (A : Option Addr) (l : List Int) (h : Ls NE w B A n l) (hB : B ≤ w.heap.size) (hn : n ≤ 1000000) (s : Int) :
    Calls Try.prog 11 #[.slice A n c, .int .i64 s] w (RetPl2 w (initPl l s) (initErr l s)) := by
  obtain ⟨w1, hw1⟩ : ∃ w1, w.alloc (.cells #[.int .i64 0, .slice none 0 0, .slice none 0 0] 25) = w1 := ⟨_, rfl⟩
  have hb1 : Below w.heap.size w w1 := by rw [← hw1]; exact below_al _ _
  have g1 : IsV3 25 w1 w.heap.size (.int .i64 0) (.slice none 0 0) (.slice none 0 0) := by rw [← hw1]; exact alloc_new _ _
  have hs1 : w.heap.size < w1.heap.size := blk_lt g1
  obtain ⟨w2, hw2⟩ : ∃ w2, w1.alloc (.cells #[.slice A n c] 22) = w2 := ⟨_, rfl⟩
  have hb2 : Below w1.heap.size w1 w2 := by rw [← hw2]; exact below_al _ _
  have g2 : w2.heap[w1.heap.size]? = some (.cells #[.slice A n c] 22 (0, 0)) := by rw [← hw2]; exact alloc_new _ _
  have hs2 : w1.heap.size < w2.heap.size := blk_lt g2
  have HV := Lib.hid (values_x w1 n c A)
  have HSO := Lib.hid (sorted_x w2 w1.heap.size n c A l hs2 (by rw [cell_of_row _ _ _ _ _ _ g2]; rfl) (((h.below hb1 hB).below hb2 (by omega)).more (by omega)) hn)
  have HW1 := Lib.hid hw1
  have HW2 := Lib.hid hw2
  have HB2 := Lib.hid (hb1.trans (hb2.mono (by omega)))
  have G2 := Lib.hid (blk_below hb2 g1 hs1)
  have HLN := Lib.hid h.1
  clear hw1 hw2 hb1 hb2 g1 g2 h
  go_enter Try.func11, Try.ntmps11
  go_wp2_with (fail)
  rw [HW1.out]
  refine HV.out.mono ?_
  rintro e w0 ⟨rfl, rfl⟩
  go_wp2_with (fail)
  rw [HW2.out]
  refine HSO.out.mono ?_
  rintro e w3 ⟨A3, c3, rfl, how3, hb3⟩
  have e3 : (srt l).length = n := by rw [srt_len, HLN.out]
  rw [e3] at how3 ⊢
  have HO3 := Lib.hid how3
  have G3 := Lib.hid (blk_below hb3 G2.out (by omega))
  have HB3 := Lib.hid (HB2.out.trans (hb3.mono (by omega)))
  have HNV := Lib.hid (nodesValid_x w3 w3.heap.size n c3 A3 (srt l) how3.ls (Nat.le_refl _) (by omega))
  have hs3 := HB3.out.size
  have E3 := Lib.hid e3
  clear how3 hb3 HSO HV e3
  go_wp2_with (fail)
  refine HNV.out.mono ?_
  rintro e w4 ⟨rfl, hb4⟩
  have HO4 := Lib.hid (HO3.out.below hb4 (Nat.le_refl _))
  have G4 := Lib.hid (blk_below hb4 G3.out (blk_lt G3.out))
  have HB4 := Lib.hid (HB3.out.trans (hb4.mono hs3))
  have hs4 := HB4.out.size
  have hg4 : w.heap.size < w4.heap.size := blk_lt G4.out
  obtain ⟨⟨d0, d1, d2⟩, f0, f1, f2⟩ := isv3_cells G4.out
  clear hb4 HNV
  by_cases hno : NodesOk (srt l)
  · rw [tb_true hno]
    have hie : initErr l s = if s < 1 ∨ 8 < s then 1 else 0 := by unfold initErr; rw [tb_true hno, if_pos rfl]
    by_cases q1 : s < 1
    · have t1 : decide (s < 1) = true := decide_eq_true q1
      have HE := Lib.hid (show initErr l s = 1 by rw [hie, if_pos (.inl q1)])
      have HP := Lib.hid (show initPl l s = ⟨0, [], []⟩ by unfold initPl; rw [HE.out]; rfl)
      clear hie
      go_wp2_with (fail)
      (try simp only [Exit.inBlock, Exit.then])
      refine bodyPost_ret (ret_cell rfl _ _ w.heap.size 25 _ _ _ rfl (set3 G4.out) Try.underlying25 rfl sizeP) rfl ?_
      rw [HE.out, HP.out]
      exact RetPl2.none (below_set3 HB4.out (Nat.le_refl _) _ _ _)
    · have t1 : decide (s < 1) = false := decide_eq_false q1
      by_cases q2 : (8 : Int) < s
      · have t2 : decide ((8 : Int) < s) = true := decide_eq_true q2
        have HE := Lib.hid (show initErr l s = 1 by rw [hie, if_pos (.inr q2)])
        have HP := Lib.hid (show initPl l s = ⟨0, [], []⟩ by unfold initPl; rw [HE.out]; rfl)
        clear hie
        go_wp2_with (fail)
        (try simp only [Exit.inBlock, Exit.then])
        refine bodyPost_ret (ret_cell rfl _ _ w.heap.size 25 _ _ _ rfl (set3 G4.out) Try.underlying25 rfl sizeP) rfl ?_
        rw [HE.out, HP.out]
        exact RetPl2.none (below_set3 HB4.out (Nat.le_refl _) _ _ _)
      · have t2 : decide ((8 : Int) < s) = false := decide_eq_false q2
        obtain ⟨S, rfl⟩ : ∃ S : Nat, s = (S : Int) := ⟨s.toNat, by omega⟩
        have HE := Lib.hid (show initErr l (S : Int) = 0 by rw [hie, if_neg (by omega)])
        have HP := Lib.hid (show initPl l (S : Int) = ⟨1, srt l, initAt (srt l) S S⟩ by unfold initPl; rw [HE.out]; rfl)
        clear hie
        have hS8 : S ≤ 8 := by omega
        obtain ⟨i0, hi, hz0, hz1, hz2⟩ := info_of infoS
        have hmk : (Instr.makeSlice 23 (.int .i64 (S : Int)) (.int .i64 (S : Int))).run Try.prog w4 = .ok (.slice (some ⟨w4.heap.size, 0, none⟩) S S) (w4.alloc (.cells (List.replicate S (Value.slice none 0 0)).toArray 42)) := by
          have h := run_make (P := Try.prog) w4 23 42 i0 (.slice none 0 0) Try.underlying23 hi hz0 .i64 .i64 (S : Int) (S : Int) (by omega) (by omega) (by rw [hz2]; omega) (by omega)
          rw [show ((S : Int)).toNat = S from by omega, hz1, Nat.mul_one] at h
          have e : madeCells (Value.slice none 0 0).cells S = (List.replicate S (Value.slice none 0 0)).toArray := by
            apply Array.ext'
            rw [show (Value.slice none 0 0).cells = #[Value.slice none 0 0] from rfl, toList_madeCells_one]
          rw [h, e]
        obtain ⟨w5, hw5⟩ : ∃ w5, w4.alloc (.cells (List.replicate S (Value.slice none 0 0)).toArray 42) = w5 := ⟨_, rfl⟩
        have hb5 : Below w4.heap.size w4 w5 := by rw [← hw5]; exact below_al _ _
        have how5 : Ow SE w5 w.heap.size (.slice (some ⟨w4.heap.size, 0, none⟩) S S) S (List.replicate S ⟨none, 0, []⟩) := by
          have e5 := nils_cs S
          refine ⟨by simp, ?_⟩
          rw [e5, ← hw5]
          change World.ownsRow _ w.heap.size 42 1 _ S _
          have := World.ownsRow_lit (w := w4) (base := w.heap.size) (e := 42) (size := 1) (List.replicate S (Value.slice none 0 0)).toArray S hs4 (by unfold maxLen; omega) (by simp)
          simpa using this
        obtain ⟨w6, hw6⟩ : ∃ w6, w5.alloc (.cells #[.int .i64 1, .slice A3 n c3, .slice (some ⟨w4.heap.size, 0, none⟩) S S] 25) = w6 := ⟨_, rfl⟩
        have hb6 : Below w5.heap.size w5 w6 := by rw [← hw6]; exact below_al _ _
        have hs5 : w5.heap.size = w4.heap.size + 1 := by rw [← hw5]; simp
        have gp6 : IsV3 25 w6 w5.heap.size (.int .i64 1) (.slice A3 n c3) (.slice (some ⟨w4.heap.size, 0, none⟩) S S) := by rw [← hw6]; exact alloc_new _ _
        have HPI := Lib.hid (show PI w w6 w5.heap.size w4.heap.size (srt l) (initAt (srt l) S 0) ⟨1, A3, c3, srt l, some ⟨w4.heap.size, 0, none⟩, S, List.replicate S ⟨none, 0, []⟩⟩ from by
          refine ⟨⟨by omega, ?_, ?_, ?_, ?_⟩, rfl, rfl, rfl, by simp [PV.pl, initAt], HB4.out.trans ((hb5.trans (hb6.mono (by omega))).mono hs4), blk_below hb6 (blk_below hb5 G4.out hg4) (by omega)⟩
          · simp only [Boxed, List.length_replicate, E3.out]; exact gp6
          · simp only [E3.out]; exact ((HO4.out.below hb5 (Nat.le_refl _)).below hb6 (Nat.le_refl _)).base (by have := HB2.out.size; omega)
          · simp only [List.length_replicate]; exact how5.below hb6 (Nat.le_refl _)
          · intro r hr
            rw [List.mem_replicate] at hr
            rw [hr.2]
            exact Ow.nil _ _)
        have HW5 := Lib.hid hw5
        have HW6 := Lib.hid hw6
        rw [hw5] at hmk
        obtain ⟨P0, hP0⟩ : ∃ P0, w4.heap.size = P0 := ⟨_, rfl⟩
        have HP0 := Lib.hid hP0
        clear hw5 hw6 hb5 hb6 how5 gp6 d0 d1 d2 f0 f1 f2 hi hz0 hz1 hz2
        rw [hP0] at HPI hmk HW6
        have hg5 : w.heap.size < P0 := by omega
        have hg6 : w.heap.size < w5.heap.size := by omega
        clear hs5
        go_wp2_with (fail)
        rw [HW6.out]
        clear hmk
        go_loopg [8, 30, 33] S (fun gg s8 s30 s33 wr => ∃ i : Nat, s30 = .int .i64 i ∧ i ≤ S ∧ S - i ≤ gg ∧ Aside (∃ v, PI w wr w5.heap.size P0 (srt l) (initAt (srt l) S i) v))
        case atStart => exact ⟨0, rfl, by omega, by omega, ⟨_, HPI.out⟩⟩
        case round =>
          obtain ⟨i, rfl, hi, hg, HV0⟩ := hrel
          clear HPI
          by_cases hlt : i < S
          · have hltz : (i : Int) < (S : Int) := by omega
            go_wp2_with (fail)
            go_loopg [33] 3 (fun gg2 s33 wr => ∃ j : Nat, s33 = .int .i64 j ∧ j ≤ 3 ∧ 3 - j ≤ gg2 ∧ Aside (∃ v, PI w wr w5.heap.size P0 (srt l) (steps (srt l) i j (initAt (srt l) S i)) v))
            case atStart => exact ⟨0, rfl, by omega, by omega, HV0.out⟩
            case round =>
              obtain ⟨j, rfl, hj, hg2, HV1⟩ := hrel
              clear HV0
              by_cases hlt2 : j < 3
              · have hltz2 : (j : Int) < 3 := by omega
                obtain ⟨v, hv⟩ := HV1.out
                have hsm := steps_small (nodes := srt l) (i := i) (initAt_small (srt l) S i) j
                obtain ⟨X, hX⟩ : ∃ X, steps (srt l) i j (initAt (srt l) S i) = X := ⟨_, rfl⟩
                have hXl : X.length = S := by rw [← hX, steps_len, initAt_len]
                rw [hX] at hv hsm
                obtain ⟨q, hq⟩ : ∃ q, X[i]? = some q := ⟨_, List.getElem?_eq_getElem (by omega)⟩
                have hqs : v.pl.ss[i]? = some q := by rw [hv.ss]; exact hq
                obtain ⟨r, hr⟩ : ∃ r, v.rs[i]? = some r := ⟨_, List.getElem?_eq_getElem (by rw [hv.len]; omega)⟩
                have hrq : r.l = q := by have := pl_at hr; rw [hqs] at this; exact (Option.some.inj this).symm
                have hql := hsm q (List.mem_of_getElem? hq)
                have hat : at_ X i = q := by unfold at_; rw [hq]; rfl
                obtain ⟨x, hx⟩ : ∃ x, least (srt l) X q = x := ⟨_, rfl⟩
                have hle := pleast_x wr wr.heap.size v hv.wp.ok (Nat.le_refl _) i q hqs
                rw [hv.nodes, hv.ss, hx] at hle
                have HLE := Lib.hid hle
                have HOW := Lib.hid (fun (u : World) (hu : Below wr.heap.size wr u) => own_x u w.heap.size w5.heap.size P0 v (hv.wp.below hu (Nat.le_refl _)) hv.sA i r hr (by rw [hrq]; omega) (x, 2, -1))
                rw [hrq] at HOW
                obtain ⟨⟨c0, c1, c2⟩, _⟩ := isv3_cells hv.wp.var
                have hpl := hv.wp.lt
                have HVV := Lib.hid hv
                have HX := Lib.hid (show steps (srt l) i (j + 1) (initAt (srt l) S i) = stepO (srt l) X i by rw [← hX]; rfl)
                have HXX := Lib.hid (And.intro hat hx)
                clear hv hsm hX hq hqs hr hat hx hle HV1
                go_wp2_with (fail)
                refine HLE.out.mono ?_
                rintro e w7 ⟨rfl, hb7⟩
                have HB7 := Lib.hid hb7
                clear hb7 c0 c1 c2
                go_wp2_with (fail)
                refine (HOW.out w7 HB7.out).mono ?_
                rintro e w8 hret
                obtain ⟨rfl, v', hv'⟩ := HVV.out.step hg5 HB7.out HXX.out.1 HXX.out.2 hret
                rw [← HX.out] at hv'
                have HV2 := Lib.hid hv'
                clear hret hv' HOW HLE
                go_wp2_with (fail)
                go_roundg (3 - (j + 1))
                case measure => omega
                case rel => exact ⟨j + 1, by go_num, by omega, by omega, ⟨v', HV2.out⟩⟩
              · obtain rfl : j = 3 := by omega
                have hltz2 : ¬ ((3 : Nat) : Int) < 3 := by omega
                go_wp2_with (fail)
                go_roundg (S - (i + 1))
                case measure => omega
                case rel => exact ⟨i + 1, by go_num, by omega, by omega, HV1.out⟩
          · obtain rfl : i = S := by omega
            have hltz : ¬ (i : Int) < (i : Int) := by omega
            obtain ⟨v, hv⟩ := HV0.out
            obtain ⟨⟨c0, c1, c2⟩, _⟩ := isv3_cells hv.wp.var
            obtain ⟨⟨d0, d1, d2⟩, f0, f1, f2⟩ := isv3_cells hv.res
            have hpl := hv.wp.lt
            have hrl := blk_lt hv.res
            have HVV := Lib.hid hv
            clear hv HV0
            go_wp2_with (fail)
            (try simp only [Exit.inBlock, Exit.then])
            refine bodyPost_ret (ret_cell rfl _ _ w.heap.size 25 _ _ _ rfl (set3 HVV.out.res) Try.underlying25 rfl sizeP) rfl ?_
            rw [HE.out, HP.out]
            refine ⟨v, rfl, ?_, ?_, ?_⟩
            · have h9 := HVV.out.ss
              unfold PV.pl at h9 ⊢
              simp only at h9
              rw [HVV.out.ver, HVV.out.nodes, h9]
            · exact (HVV.out.wp.apart (chg_set3 _ _ _) HVV.out.res (by omega)).op (by omega)
            · exact below_set3 HVV.out.bel (Nat.le_refl _) _ _ _
  · rw [tb_false hno]
    have HE := Lib.hid (show initErr l s = 140 by unfold initErr; rw [tb_false hno]; rfl)
    have HP := Lib.hid (show initPl l s = ⟨0, [], []⟩ by unfold initPl; rw [HE.out]; rfl)
    clear hno
    go_wp2_with (fail)
    (try simp only [Exit.inBlock, Exit.then])
    refine bodyPost_ret (ret_cell rfl _ _ w.heap.size 25 _ _ _ rfl (set3 G4.out) Try.underlying25 rfl sizeP) rfl ?_
    rw [HE.out, HP.out]
    exact RetPl2.none (below_set3 HB4.out (Nat.le_refl _) _ _ _)
theorem pinit_x (w : World) (B n c : Nat) (A : Option Addr) (l : List Int) (h : Ls NE w B A n l) (hB : B ≤ w.heap.size) (hn : n ≤ 1000000) (s : Int) :
    Calls Try.prog 11 #[.slice A n c, .int .i64 s] w (RetPl w (initPl l s) (initErr l s)) :=
  (pinit_sx w B n c A l h hB hn s).mono fun _ _ h => h.weak
end Go.Proofs.Ytnpkhkhchimcnaa.pm
