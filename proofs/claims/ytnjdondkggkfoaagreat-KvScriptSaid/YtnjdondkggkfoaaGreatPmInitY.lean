/-
  Placements: the document's Init.
-/
import Derived.Test.YtnjdondkggkfoaaGreatPmG
import Derived.Test.YtnjdondkggkfoaaGreatPmLeastY
namespace Go.Proofs.YtnjdondkggkfoaaGreat.pm
open Go.ChangeShapes Go.WideShapes Go.ChangeAt Go.RowKit Go.Shelf plain words ord mem

theorem var_set1 {w : World} {pb : Nat} {v : PV} (h : Boxed w pb v) (x : Value) : IsV3 25 (w.setCell ⟨pb, 1, none⟩ x) pb (.int .i64 v.ver) x (.slice v.sA v.rs.length v.sc) := by simpa using heap_setCell_same w pb 1 _ _ x h
theorem var_set2 {w : World} {pb : Nat} {v : PV} (h : Boxed w pb v) (x : Value) : IsV3 25 (w.setCell ⟨pb, 2, none⟩ x) pb (.int .i64 v.ver) (.slice v.nA v.nodes.length v.nc) x := by simpa using heap_setCell_same w pb 2 _ _ x h
theorem WP.putNodes {w : World} {B pb : Nat} {v : PV} (h : WP w B pb v) {A' : Option Addr} {c' : Nat} {l' : List Int} (hr : Ow NE w B (.slice A' l'.length c') l'.length l') :
    WP (w.setCell ⟨pb, 1, none⟩ (.slice A' l'.length c')) B pb { v with nA := A', nc := c', nodes := l' } := by
  have hc : Chg (fun k => k = pb) w (w.setCell ⟨pb, 1, none⟩ (.slice A' l'.length c')) := (Chg.refl (fun k => k = pb) w).setCell (p := ⟨pb, 1, none⟩) (fun _ => rfl) _
  exact ⟨h.le, var_set1 h.var _, ow_other hr hc h.var (by decide), ow_other h.s hc h.var (by decide), fun r hq => ow_other (h.each r hq) hc h.var (by decide)⟩
theorem ow_grownY {α : Type} {E : El α} {w w' : World} {B n : Nat} {v u : Value} {l : List α} {e : TypeId} (h : Ow E w B v n l) (hg : w.grownBy w' u.ownBlock) (hu : ∀ g, u.ownBlock = some g → ∃ cur, w.heap[g]? = some (.cells cur e (0, 0))) (hne : E.e ≠ e) : Ow E w' B v n l := by
  have hc : Chg (fun k => u.ownBlock = some k) w w' := (Chg.refl _ w).grown hg (fun k e _ => e)
  refine h.chg hc fun k hk he => ?_
  obtain ⟨c, hcur⟩ := h.type hk
  obtain ⟨c2, hcur2⟩ := hu k he
  exact blk_type hcur hcur2 hne rfl
noncomputable def rinitErr (l : List Int) (s : Int) : Int := if tb (RNodes l) = true then (if s < 1 ∨ 8 < s then 1 else 0) else 140
noncomputable def rinitPl (l : List Int) (s : Int) : Pl := if rinitErr l s = 0 then ⟨1, setOf l, rinitAt (setOf l) s.toNat⟩ else ⟨0, [], []⟩
/-- nodes gathered so far -/
structure NI (l : List Int) (i : Nat) : Prop where
  each : ∀ x ∈ l.take i, isNode x
  once : (l.take i).Nodup
theorem NI.succ {l : List Int} {i : Nat} {x : Int} (h : NI l i) (hx : l[i]? = some x) (hn : isNode x) (ho : x ∉ l.take i) : NI l (i + 1) := by
  have e := take_snoc hx
  refine ⟨fun y hy => ?_, ?_⟩
  · rw [e] at hy
    rcases List.mem_append.1 hy with hy | hy
    · exact h.each y hy
    · simp at hy; subst hy; exact hn
  · rw [e, List.nodup_append]
    refine ⟨h.once, by simp, fun a ha b hb => ?_⟩
    simp at hb; subst hb
    intro e2; subst e2; exact ho ha
/-- how the document's Init stands -/
structure RI (w wr : World) (pb : Nat) (nodes : List Int) (X : List (List O)) (v : PV) : Prop where
  wp : WP wr w.heap.size pb v
  ver : v.ver = 1
  nodes : v.nodes = nodes
  ss : v.pl.ss = X
  bel : Below w.heap.size w wr
  res : IsV3 25 wr w.heap.size (.int .i64 0) (.slice none 0 0) (.slice none 0 0)
theorem RI.len {w wr : World} {pb : Nat} {nodes : List Int} {X : List (List O)} {v : PV} (h : RI w wr pb nodes X v) : v.rs.length = X.length := by rw [← h.ss]; simp [PV.pl]
theorem RI.quiet {w wr w' : World} {pb : Nat} {nodes : List Int} {X : List (List O)} {v : PV} (h : RI w wr pb nodes X v) (hb : Below wr.heap.size wr w') : RI w w' pb nodes X v :=
  ⟨h.wp.below hb (Nat.le_refl _), h.ver, h.nodes, h.ss, h.bel.trans (hb.mono h.bel.size), blk_below hb h.res (blk_lt h.res)⟩
theorem RI.app {w wr w4 : World} {pb : Nat} {nodes : List Int} {X : List (List O)} {v : PV} {ob : Obj} {A4 : Option Addr} {c4 N : Nat} (h : RI w wr pb nodes X v) (hN : v.rs.length = N) (hg : (wr.alloc ob).grownBy w4 (Value.slice v.sA N v.sc).ownBlock)
    (ho : Ow SE w4 w.heap.size (.slice A4 (N + 1) c4) (N + 1) (v.rs ++ [⟨none, 0, []⟩])) (hne : w.heap.size ≠ pb) :
    Boxed w4 pb v ∧ ∃ v', RI w (w4.setCell ⟨pb, 2, none⟩ (.slice A4 (N + 1) c4)) pb nodes (X ++ [[]]) v' := by
  subst hN
  have h0 := h.quiet (below_al wr ob)
  have hu : ∀ g, (Value.slice v.sA v.rs.length v.sc).ownBlock = some g → ∃ cur, (wr.alloc ob).heap[g]? = some (.cells cur 64 (0, 0)) := fun g e => h0.wp.s.type e
  have hc : Chg (fun k => (Value.slice v.sA v.rs.length v.sc).ownBlock = some k) (wr.alloc ob) w4 := (Chg.refl _ _).grown hg (fun k e _ => e)
  have hn : ∀ {k : Nat} {cur : Array Value}, (wr.alloc ob).heap[k]? = some (.cells cur 25 (0, 0)) → ¬ (Value.slice v.sA v.rs.length v.sc).ownBlock = some k := fun hk e => by
    obtain ⟨c2, hc2⟩ := hu _ e
    exact blk_type hc2 hk (by decide) rfl
  have hp4 : Boxed w4 pb v := hc.blk h0.wp.var (hn h0.wp.var)
  have hw4 : WP w4 w.heap.size pb { v with sA := A4, sc := c4, rs := v.rs ++ [⟨none, 0, []⟩] } → True := fun _ => trivial
  have hl : (v.rs ++ [(⟨none, 0, []⟩ : Rw3)]).length = v.rs.length + 1 := by simp
  have hcp : Chg (fun k => k = pb) w4 (w4.setCell ⟨pb, 2, none⟩ (.slice A4 (v.rs.length + 1) c4)) := (Chg.refl (fun k => k = pb) w4).setCell (p := ⟨pb, 2, none⟩) (fun _ => rfl) _
  have each4 : ∀ r ∈ v.rs ++ [(⟨none, 0, []⟩ : Rw3)], Ow OE w4 w.heap.size r.val r.l.length r.l := fun r hr => by
    rcases List.mem_append.1 hr with hr | hr
    · exact ow_grownY (h0.wp.each r hr) hg hu (by decide)
    · simp at hr; subst hr; exact Ow.nil _ _
  refine ⟨hp4, { v with sA := A4, sc := c4, rs := v.rs ++ [⟨none, 0, []⟩] }, ⟨h.wp.le, ?_, ?_, ?_, ?_⟩, h.ver, h.nodes, ?_, ?_, ?_⟩
  · have := var_set2 hp4 (.slice A4 (v.rs.length + 1) c4)
    simp only [Boxed, hl]
    exact this
  · exact ow_other (ow_grownY h0.wp.n hg hu (by decide)) hcp hp4 (by decide)
  · simp only [hl]
    exact ow_other ho hcp hp4 (by decide)
  · intro r hr
    exact ow_other (each4 r hr) hcp hp4 (by decide)
  · have := h.ss
    simp only [PV.pl, List.map_append] at this ⊢
    rw [this]; rfl
  · have hlt := h0.wp.s.lt
    refine (h0.bel.trans (hc.below (B := w.heap.size) h0.bel.size (fun k e => (hlt k e).1))).trans (hcp.below (B := w.heap.size) ?_ (fun k e => by have := h.wp.le; omega))
    exact Nat.le_trans h0.bel.size hc.size
  · exact hcp.blk (hc.blk h0.res (hn h0.res)) hne
theorem RI.put {w wr : World} {pb sb i : Nat} {nodes : List Int} {X : List (List O)} {v : PV} (h : RI w wr pb nodes X v) (hsA : v.sA = some ⟨sb, 0, none⟩) (hi : i < v.rs.length) (r : Rw3) (hr : Ow OE wr w.heap.size r.val r.l.length r.l) :
    ∃ v', RI w (wr.setCell ⟨sb, i, none⟩ r.val) pb nodes (X.set i r.l) v' := by
  obtain ⟨sb', cur, hsA', hB, hlt, hcur, hne⟩ := h.wp.srow hi
  obtain rfl : sb' = sb := by rw [hsA'] at hsA; cases hsA; rfl
  have hc : Chg (fun k => k = sb') wr (wr.setCell ⟨sb', i, none⟩ r.val) := (Chg.refl (fun k => k = sb') wr).setCell (p := ⟨sb', i, none⟩) (fun _ => rfl) _
  refine ⟨_, h.wp.put hsA hi r hr, h.ver, h.nodes, ?_, h.bel.trans (hc.below h.bel.size (fun k e => by omega)), hc.blk h.res (fun e => blk_type hcur h.res (by decide) e.symm)⟩
  have := h.ss
  simp only [PV.pl] at this ⊢
  rw [List.map_set, this]
set_option maxHeartbeats 4000000 in
set_option maxRecDepth 100000 in
theorem rinit_sy (w : World) (B n c : Nat) (A : Option Addr) (l : List Int) (h : Ls NE w B A n l) (hB : B ≤ w.heap.size) (hn : n ≤ 1000000) (hnc : n ≤ c) (hcm : c ≤ 9223372036854775807) (s : Int) :
    Calls Tryz.prog 5 #[.slice A n c, .int .i64 s] w (RetPl2 w (rinitPl l s) (rinitErr l s)) := by
  obtain ⟨w1, hw1⟩ : ∃ w1, w.alloc (.cells #[.int .i64 0, .slice none 0 0, .slice none 0 0] 25) = w1 := ⟨_, rfl⟩
  have hb1 : Below w.heap.size w w1 := by rw [← hw1]; exact below_al _ _
  have g1 : IsV3 25 w1 w.heap.size (.int .i64 0) (.slice none 0 0) (.slice none 0 0) := by rw [← hw1]; exact alloc_new _ _
  have hs1 : w.heap.size < w1.heap.size := blk_lt g1
  obtain ⟨w2, hw2⟩ : ∃ w2, w1.alloc (.cells #[.int .i64 1, .slice none 0 0, .slice none 0 0] 25) = w2 := ⟨_, rfl⟩
  have hb2 : Below w1.heap.size w1 w2 := by rw [← hw2]; exact below_al _ _
  have g2 : IsV3 25 w2 w1.heap.size (.int .i64 1) (.slice none 0 0) (.slice none 0 0) := by rw [← hw2]; exact alloc_new _ _
  have HRI := Lib.hid (show RI w w2 w1.heap.size (setOf (l.take 0)) [] ⟨1, none, 0, [], none, 0, []⟩ from
    ⟨⟨by omega, g2, Ow.nil _ _, Ow.nil _ _, fun r hr => by simp at hr⟩, rfl, by simp [setOf_nil], rfl, hb1.trans (hb2.mono (by omega)), blk_below hb2 g1 hs1⟩)
  have hz1 : w1.heap.size = w.heap.size + 1 := by rw [← hw1]; simp
  rw [hz1] at HRI
  have HW1 := Lib.hid hw1
  have HW2 := Lib.hid hw2
  have G1 := Lib.hid g1
  have HB1 := Lib.hid hb1
  have HL := Lib.hid h
  have HLN := Lib.hid h.1
  clear hw1 hw2 hb1 hb2 g1 g2 h
  by_cases h3 : n < 3
  · have h3z : (n : Int) < 3 := by omega
    have HE := Lib.hid (show rinitErr l s = 140 by unfold rinitErr; rw [tb_false (fun h => by have := h.many; have := HLN.out; omega)]; rfl)
    have HP := Lib.hid (show rinitPl l s = ⟨0, [], []⟩ by unfold rinitPl; rw [HE.out]; rfl)
    obtain ⟨⟨a0, a1, a2⟩, b0, b1, b2⟩ := isv3_cells G1.out
    go_enter Tryz.func5, Tryz.ntmps5
    go_wp2_with (fail)
    (try simp only [Exit.inBlock, Exit.then])
    rw [HW1.out]
    refine bodyPost_ret (ret_cell rfl _ _ w.heap.size 25 _ _ _ rfl G1.out Tryz.underlying25 rfl sizeP) rfl ?_
    rw [HE.out, HP.out]
    exact RetPl2.none HB1.out
  · have h3z : ¬ (n : Int) < 3 := by omega
    go_enter Tryz.func5, Tryz.ntmps5
    go_wp2_with (fail)
    rw [HW1.out, HW2.out]
    clear hz1
    go_loopg [5, 7] n (fun gg s5 s7 wr => ∃ i : Nat, s7 = .int .i64 i ∧ i ≤ n ∧ n - i ≤ gg ∧ s5 = .int .i64 0 ∧ Aside (NI l i) ∧ Aside (∃ v, RI w wr (w.heap.size + 1) (setOf (l.take i)) [] v))
    case atStart => exact ⟨0, rfl, by omega, by omega, rfl, ⟨by simp, by simp⟩, ⟨_, HRI.out⟩⟩
    case round =>
      obtain ⟨i, rfl, hi, hg, rfl, HNI, HV0⟩ := hrel
      clear HRI
      by_cases hlt : i < n
      · have hltz : (i : Int) < (n : Int) := by omega
        obtain ⟨v, hv⟩ := HV0.out
        obtain ⟨x, hx⟩ := HL.out.get hlt
        obtain ⟨b, off, rfl, hb, l0⟩ := num_at (HL.out.below hv.bel hB) hx
        have hbw : b < w.heap.size := by omega
        have hs := hv.bel.size
        obtain ⟨⟨c0, c1, c2⟩, _⟩ := isv3_cells hv.wp.var
        have HX := Lib.hid hx
        have HVV := Lib.hid hv
        have hpw := hv.wp.lt
        clear hv hx HV0
        go_wp2_with (fail)
        have q0 := Wb.at_ l0
        have q1 := Wb.at_ c1
        clear l0 c0 c1 c2
        refine wp_region_plan [([0, 1, 2, 3], some (4, false)), ([5, 6, 7, 8, 9, 10, 11, 12], some (13, false)), ([14], none)] (by kernel_rfl) (by kernel_rfl) ?_
        refine seg_act _ (by dsimp only [pick, ord.at_]) _ (by dsimp only [pick, ord.at_]) ?_
        repeat (go_big_quiet_step (fail))
        refine wpQuiet_nil ?_
        intro K h1 h2
        clear h2
        go_wp2_with (fail)
        refine (node_y wr.drew x).mono ?_
        rintro e w3 ⟨rfl, hb3⟩
        have HB3 := Lib.hid (show Below wr.heap.size wr w3 from (Below.refl _ _).drew.trans hb3)
        clear hb3
        by_cases hnd : isNode x
        · rw [(isNodeB_iff x).2 hnd]
          have HND := Lib.hid hnd
          clear hnd
          go_wp2_with (fail)
          refine h1 _ _ HB3.out ?_
          clear h1
          refine seg_act _ (by dsimp only [pick, ord.at_]) _ (by dsimp only [pick, ord.at_]) ?_
          repeat (go_big_quiet_step (fail))
          refine wpQuiet_nil ?_
          intro K h1 h2
          clear h2
          have HV3 := Lib.hid (HVV.out.quiet HB3.out)
          have HHAS := Lib.hid (has_y w3 w3.heap.size v.nodes.length v.nc v.nA v.nodes HV3.out.wp.ok.n (Nat.le_refl _) HV3.out.wp.ok.len.2 x)
          go_wp2_with (fail)
          refine HHAS.out.mono ?_
          rintro e w4 ⟨rfl, hb4⟩
          have HB4 := Lib.hid (HB3.out.trans (hb4.mono HB3.out.size))
          have HV4 := Lib.hid (HV3.out.quiet hb4)
          clear hb4 HHAS
          cases hh : has v.nodes x with
          | true =>
            have HQ := Lib.hid (show ¬ RNodes l from fun h => by
              have h2 := (has_iff _ _).1 hh
              rw [HVV.out.nodes, setOf_mem] at h2
              have h3 := List.Nodup.sublist (List.take_sublist (i + 1) l) h.once
              rw [take_snoc HX.out, List.nodup_append] at h3
              exact h3.2.2 x h2.2 x (by simp) rfl)
            have HE := Lib.hid (show rinitErr l s = 140 by unfold rinitErr; rw [tb_false HQ.out]; rfl)
            have HP := Lib.hid (show rinitPl l s = ⟨0, [], []⟩ by unfold rinitPl; rw [HE.out]; rfl)
            obtain ⟨⟨a0, a1, a2⟩, b0, b1, b2⟩ := isv3_cells HV4.out.res
            have hrl := blk_lt HV4.out.res
            go_wp2_with (fail)
            refine h1 _ _ HB4.out ?_
            clear h1
            refine seg_end _ (by dsimp only [pick, ord.at_]) ?_
            repeat (go_big_quiet_step (fail))
            refine wpQuiet_nil ?_
            refine NoPanic.normal ?_
            clear q0 q1
            go_wp2_with (fail)
            (try simp only [Exit.inBlock, Exit.then])
            refine bodyPost_ret (ret_cell rfl _ _ w.heap.size 25 _ _ _ rfl (set3 HV4.out.res) Tryz.underlying25 rfl sizeP) rfl ?_
            rw [HE.out, HP.out]
            exact RetPl2.none (below_set3 HV4.out.bel (Nat.le_refl _) _ _ _)
          | false =>
            have HNI2 := Lib.hid (HNI.out.succ HX.out HND.out (fun h => by
              have h2 : has v.nodes x = true := (has_iff _ _).2 (by rw [HVV.out.nodes, setOf_mem]; exact ⟨HND.out, h⟩)
              rw [hh] at h2; cases h2))
            have HWI := Lib.hid (fun (u : World) (hu : Below w4.heap.size w4 u) => with_y u w4.heap.size v.nodes.length v.nc v.nA v.nodes (HV4.out.wp.ok.n.below hu (Nat.le_refl _)) hu.size (by rw [HVV.out.nodes]; have := setOf_len (l.take i); omega) x)
            have HWX := Lib.hid (show with_ v.nodes x 8 = setOf (l.take (i + 1)) by rw [HVV.out.nodes, with_setOf, take_snoc HX.out])
            have HL4 := Lib.hid (num_at (HL.out.below HV4.out.bel hB) HX.out)
            go_wp2_with (fail)
            refine h1 _ _ HB4.out ?_
            clear h1
            refine seg_end _ (by dsimp only [pick, ord.at_]) ?_
            repeat (go_big_quiet_step (fail))
            refine wpQuiet_nil ?_
            refine NoPanic.normal ?_
            clear q0 q1
            go_wp2_with (fail)
            obtain ⟨⟨c0, c1, c2⟩, _⟩ := isv3_cells HV4.out.wp.var
            obtain ⟨_, _, he, _, l4⟩ := HL4.out
            cases he
            have q0 := Wb.at_ l4
            have q1 := Wb.at_ c1
            clear c0 c2 l4
            refine wp_region_plan [([0, 1, 2, 3, 4, 5], some (6, false)), ([7], some (8, true)), ([], none)] (by kernel_rfl) (by kernel_rfl) ?_
            refine seg_act _ (by dsimp only [pick, ord.at_]) _ (by dsimp only [pick, ord.at_]) ?_
            repeat (go_big_quiet_step (fail))
            refine wpQuiet_nil ?_
            intro K h1 h2
            clear h2
            go_wp2_with (fail)
            refine (HWI.out w4.drew (Below.refl _ _).drew).mono ?_
            rintro e w5 ⟨g5, c5, rfl, how5, hb5⟩
            have HB5 := Lib.hid (show Below w4.heap.size w4 w5 from (Below.refl _ _).drew.trans hb5)
            have HV5 := Lib.hid (HV4.out.quiet HB5.out)
            rw [HWX.out] at how5 ⊢
            have HRI6 := Lib.hid (show ∃ v', RI w (w5.setCell ⟨w.heap.size + 1, 1, none⟩ (.slice (some ⟨g5, 0, none⟩) (setOf (l.take (i + 1))).length c5)) (w.heap.size + 1) (setOf (l.take (i + 1))) [] v' from by
              have hp := HV5.out.wp.putNodes (how5.base (by have := HV4.out.bel.size; exact this))
              have hc : Chg (fun k => k = w.heap.size + 1) w5 (w5.setCell ⟨w.heap.size + 1, 1, none⟩ (.slice (some ⟨g5, 0, none⟩) (setOf (l.take (i + 1))).length c5)) := (Chg.refl (fun k => k = w.heap.size + 1) w5).setCell (p := ⟨w.heap.size + 1, 1, none⟩) (fun _ => rfl) _
              exact ⟨_, hp, HV5.out.ver, rfl, HV5.out.ss, HV5.out.bel.trans (hc.below HV5.out.bel.size (fun k e => by omega)), hc.blk HV5.out.res (by omega)⟩)
            obtain ⟨⟨e0, e1, e2⟩, k0, k1, k2⟩ := isv3_cells HV5.out.wp.var
            have hp5 := HV5.out.wp.lt
            clear hb5 how5
            go_wp2_with (fail)
            refine h1 _ _ HB5.out ?_
            clear h1
            refine seg_write _ (by dsimp only [pick, ord.at_]) _ (by dsimp only [pick, ord.at_]) ?_
            repeat (go_big_quiet_step (fail))
            refine wpQuiet_nil ?_
            intro K4 h4
            go_wp2_with (fail)
            refine seg_end _ (by dsimp only [pick, ord.at_]) ?_
            refine wpQuiet_nil (NoPanic.normal ?_)
            clear q0 q1 e0 e1 e2 k0 k1 k2
            go_wp2_with (fail)
            go_roundg (n - (i + 1))
            case measure => omega
            case rel => exact ⟨i + 1, by go_num, by omega, by omega, rfl, HNI2.out, HRI6.out⟩
        · have hnb : isNodeB x = false := by
            cases hq : isNodeB x with
            | false => rfl
            | true => exact absurd ((isNodeB_iff x).1 hq) hnd
          rw [hnb]
          have HQ := Lib.hid (show ¬ RNodes l from fun h => hnd (h.each x (List.mem_of_getElem? HX.out)))
          have HE := Lib.hid (show rinitErr l s = 140 by unfold rinitErr; rw [tb_false HQ.out]; rfl)
          have HP := Lib.hid (show rinitPl l s = ⟨0, [], []⟩ by unfold rinitPl; rw [HE.out]; rfl)
          have HV3 := Lib.hid (HVV.out.quiet HB3.out)
          obtain ⟨⟨a0, a1, a2⟩, b0, b1, b2⟩ := isv3_cells HV3.out.res
          have hrl := blk_lt HV3.out.res
          clear hnd hnb
          go_wp2_with (fail)
          refine h1 _ _ HB3.out ?_
          clear h1
          refine seg_act _ (by dsimp only [pick, ord.at_]) _ (by dsimp only [pick, ord.at_]) ?_
          repeat (go_big_quiet_step (fail))
          refine wpQuiet_nil ?_
          intro K h1 h2
          clear h2
          go_wp2_with (fail)
          refine h1 _ _ HB3.out ?_
          clear h1
          refine seg_end _ (by dsimp only [pick, ord.at_]) ?_
          repeat (go_big_quiet_step (fail))
          refine wpQuiet_nil ?_
          refine NoPanic.normal ?_
          clear q0 q1
          go_wp2_with (fail)
          (try simp only [Exit.inBlock, Exit.then])
          refine bodyPost_ret (ret_cell rfl _ _ w.heap.size 25 _ _ _ rfl (set3 HV3.out.res) Tryz.underlying25 rfl sizeP) rfl ?_
          rw [HE.out, HP.out]
          exact RetPl2.none (below_set3 HV3.out.bel (Nat.le_refl _) _ _ _)
      · obtain rfl : i = n := by omega
        have hltz : ¬ (i : Int) < (i : Int) := by omega
        have hrn : RNodes l := by
          have e := List.take_of_length_le (l := l) (i := i) (by rw [HLN.out]; exact Nat.le_refl _)
          have h1 := HNI.out.each
          have h2 := HNI.out.once
          rw [e] at h1 h2
          exact ⟨by rw [HLN.out]; omega, h1, h2⟩
        have HRN := Lib.hid hrn
        have hie : rinitErr l s = if s < 1 ∨ 8 < s then 1 else 0 := by unfold rinitErr; rw [tb_true hrn, if_pos rfl]
        obtain ⟨v, hv⟩ := HV0.out
        rw [List.take_of_length_le (by rw [HLN.out]; exact Nat.le_refl _)] at hv
        have HVV := Lib.hid hv
        have hrl := blk_lt hv.res
        obtain ⟨⟨a0, a1, a2⟩, b0, b1, b2⟩ := isv3_cells hv.res
        clear hv HV0 hrn
        by_cases q1 : s < 1
        · have t1 : decide (s < 1) = true := decide_eq_true q1
          have HE := Lib.hid (show rinitErr l s = 1 by rw [hie, if_pos (.inl q1)])
          have HP := Lib.hid (show rinitPl l s = ⟨0, [], []⟩ by unfold rinitPl; rw [HE.out]; rfl)
          clear hie
          go_wp2_with (fail)
          (try simp only [Exit.inBlock, Exit.then])
          refine bodyPost_ret (ret_cell rfl _ _ w.heap.size 25 _ _ _ rfl (set3 HVV.out.res) Tryz.underlying25 rfl sizeP) rfl ?_
          rw [HE.out, HP.out]
          exact RetPl2.none (below_set3 HVV.out.bel (Nat.le_refl _) _ _ _)
        · have t1 : decide (s < 1) = false := decide_eq_false q1
          by_cases q2 : (8 : Int) < s
          · have t2 : decide ((8 : Int) < s) = true := decide_eq_true q2
            have HE := Lib.hid (show rinitErr l s = 1 by rw [hie, if_pos (.inr q2)])
            have HP := Lib.hid (show rinitPl l s = ⟨0, [], []⟩ by unfold rinitPl; rw [HE.out]; rfl)
            clear hie
            go_wp2_with (fail)
            (try simp only [Exit.inBlock, Exit.then])
            refine bodyPost_ret (ret_cell rfl _ _ w.heap.size 25 _ _ _ rfl (set3 HVV.out.res) Tryz.underlying25 rfl sizeP) rfl ?_
            rw [HE.out, HP.out]
            exact RetPl2.none (below_set3 HVV.out.bel (Nat.le_refl _) _ _ _)
          · have t2 : decide ((8 : Int) < s) = false := decide_eq_false q2
            obtain ⟨S, rfl⟩ : ∃ S : Nat, s = (S : Int) := ⟨s.toNat, by omega⟩
            have HE := Lib.hid (show rinitErr l (S : Int) = 0 by rw [hie, if_neg (by omega)])
            have HP := Lib.hid (show rinitPl l (S : Int) = ⟨1, setOf l, rinitAt (setOf l) S⟩ by unfold rinitPl; rw [HE.out]; rfl)
            have hS8 : S ≤ 8 := by omega
            clear hie a0 a1 a2 b0 b1 b2 hrl
            go_wp2_with (fail)
            go_loopg [8, 9] S (fun gg s8 s9 wr => ∃ i : Nat, s8 = .int .i64 i ∧ i ≤ S ∧ S - i ≤ gg ∧ Aside (∃ v, RI w wr (w.heap.size + 1) (setOf l) (rinitAt (setOf l) i) v))
            case atStart => exact ⟨0, rfl, by omega, by omega, ⟨v, HVV.out⟩⟩
            case round =>
              obtain ⟨k, rfl, hk, hg3, HV0⟩ := hrel
              by_cases hlt3 : k < S
              · have hltz3 : (k : Int) < (S : Int) := by omega
                obtain ⟨v1, hv⟩ := HV0.out
                have hvl := hv.len
                rw [rinitAt_len] at hvl
                obtain ⟨⟨c0, c1, c2⟩, f0, f1, f2⟩ := isv3_cells hv.wp.var
                rw [hvl] at c2
                have hos := hv.wp.s
                rw [hvl] at hos
                have hpw := hv.wp.lt
                have HV1 := Lib.hid hv
                have HVL := Lib.hid hvl
                have HOS := Lib.hid (hos.below (below_al wr (.cells #[.slice none 0 0] 64)) (Nat.le_refl _))
                have H9 := Lib.hid (ls_new (E := SE) (w := wr) 64 (⟨none, 0, []⟩ : Rw3))
                have hsw := hv.bel.size
                clear hv hvl hos HV0
                go_wp2_with (at_builtin; refine app_s rfl (.tmp 58) (.tmp 59) rfl w.heap.size _ k v1.rs rfl HOS.out (wr.heap.size + 1) (some ⟨wr.heap.size, 0, none⟩) 1 1 (fun e => by cases e) [⟨none, 0, []⟩] (by rfl) H9.out (by omega) (by simp; omega) ?_; intro A4 c4 w4 hown4 hg4 _ _ _ hs4; have HA4 := Lib.hid (HV1.out.app HVL.out hg4 hown4 (by omega)); have hv4 := HA4.out.1; obtain ⟨⟨y0, y1, y2⟩, x0, x1, x2⟩ := isv3_cells hv4; have hp4 := blk_lt hv4; clear hown4 hg4 hv4)
                obtain ⟨v2, hv2⟩ := HA4.out.2
                have HV2 := Lib.hid hv2
                clear hv2 HA4
                go_loopg [9] 3 (fun gg2 s9 wr => ∃ j : Nat, s9 = .int .i64 j ∧ j ≤ 3 ∧ 3 - j ≤ gg2 ∧ Aside (∃ v, RI w wr (w.heap.size + 1) (setOf l) (rsteps (setOf l) k j (rinitAt (setOf l) k ++ [[]])) v))
                case atStart => exact ⟨0, rfl, by omega, by omega, ⟨v2, HV2.out⟩⟩
                case round =>
                  obtain ⟨j, rfl, hj, hg4, HV3⟩ := hrel
                  by_cases hlt4 : j < 3
                  · have hltz4 : (j : Int) < 3 := by omega
                    obtain ⟨v3, hv⟩ := HV3.out
                    have hX0 : Rises (rinitAt (setOf l) k ++ [[]]) := fun q hq => (List.mem_append.1 hq).elim (rinitAt_rises _ _ q) (fun e => by simp at e; subst e; exact Rise.nil _)
                    have hXr := rsteps_rises (nodes := setOf l) hX0 k j
                    have hsm : ∀ q ∈ rsteps (setOf l) k j (rinitAt (setOf l) k ++ [[]]), q.length ≤ 3 * k + j := rsteps_small (fun q hq => (List.mem_append.1 hq).elim (rinitAt_small _ _ q) (fun e => by simp at e; subst e; simp)) j
                    obtain ⟨X, hX⟩ : ∃ X, rsteps (setOf l) k j (rinitAt (setOf l) k ++ [[]]) = X := ⟨_, rfl⟩
                    have hXl : X.length = k + 1 := by rw [← hX, rsteps_len, List.length_append, rinitAt_len]; rfl
                    rw [hX] at hv hsm hXr
                    obtain ⟨q, hq⟩ : ∃ q, X[k]? = some q := ⟨_, List.getElem?_eq_getElem (by omega)⟩
                    have hqs : v3.pl.ss[k]? = some q := by rw [hv.ss]; exact hq
                    have hvl := hv.len
                    rw [hXl] at hvl
                    obtain ⟨r, hr⟩ : ∃ r, v3.rs[k]? = some r := ⟨_, List.getElem?_eq_getElem (by omega)⟩
                    have hrq : r.l = q := by have := pl_at hr; rw [hqs] at this; exact (Option.some.inj this).symm
                    have hql := hsm q (List.mem_of_getElem? hq)
                    have hat : at_ X k = q := by unfold at_; rw [hq]; rfl
                    obtain ⟨x, hx⟩ : ∃ x, least (setOf l) X q = x := ⟨_, rfl⟩
                    obtain ⟨sb, cur, hsA, hBs, hsl, hcur, hnp⟩ := hv.wp.srow (i := k) (by omega)
                    obtain ⟨⟨c0, c1, c2⟩, _⟩ := isv3_cells hv.wp.var
                    rw [hsA, hvl] at c2
                    have hcell : wr.cell? ⟨sb, k, none⟩ = some (.slice r.A q.length r.c) := by
                      obtain ⟨b, off, e1, _, e2, _⟩ := hv.wp.ok.s.at_ hr
                      rw [hsA] at e1; cases e1
                      rw [← hrq]
                      simpa [Rw3.val] using e2
                    have hpl := hv.wp.lt
                    have HLE := Lib.hid (fun (u : World) (hu : Below wr.heap.size wr u) => rleast_y u wr.heap.size v3 (hv.wp.ok.below hu (Nat.le_refl _)) hu.size (by rw [hv.ss]; exact hXr) k q hqs)
                    rw [hv.nodes, hv.ss, hx] at HLE
                    have hlo : Ls OE wr wr.heap.size r.A q.length q := by have := (hv.wp.ok.s.each r (List.mem_of_getElem? hr)).ls; rw [hrq] at this; exact this
                    have HST := Lib.hid (fun (u : World) (hu : Below wr.heap.size wr u) => set_y u wr.heap.size q.length r.c r.A q (hlo.below hu (Nat.le_refl _)) hu.size (by omega) (x, 2, -1))
                    have HVV3 := Lib.hid hv
                    have HX := Lib.hid (show rsteps (setOf l) k (j + 1) (rinitAt (setOf l) k ++ [[]]) = X.set k (own (disown q x) (x, 2, -1)) by rw [rsteps, hX, rstepO, hat, hx])
                    have HSA := Lib.hid hsA
                    have HVL := Lib.hid hvl
                    obtain ⟨m, hm⟩ : ∃ m, q.length = m := ⟨_, rfl⟩
                    rw [hm] at hcell HST
                    have hval : v3.val = .agg #[.int .i64 v3.ver, .slice v3.nA v3.nodes.length v3.nc, .slice (some ⟨sb, 0, none⟩) (k + 1) v3.sc] := by unfold PV.val; rw [hsA, hvl]
                    rw [hval] at HLE
                    have q0 := Wb.at_ c0
                    have q1 := Wb.at_ c1
                    have q2 := Wb.at_ c2
                    have q3 := Wb.at_ hcell
                    have hkz : (k : Int) < (k : Int) + 1 := by omega
                    clear hv hX0 hXr hsm hX hq hqs hr hat hx hcur hlo hval hsA hvl HV3 hm hrq
                    go_wp2_with (fail)
                    refine wp_region_plan [([0, 1, 2, 3, 4, 5, 6, 7, 8, 9], some (10, false)), ([11], some (12, false)), ([13], some (14, true)), ([], none)] (by kernel_rfl) (by kernel_rfl) ?_
                    refine seg_act _ (by dsimp only [pick, ord.at_]) _ (by dsimp only [pick, ord.at_]) ?_
                    repeat (go_big_quiet_step (fail))
                    refine wpQuiet_nil ?_
                    intro K h1 h2
                    clear h2
                    go_wp2_with (fail)
                    refine (HLE.out wr.drew (Below.refl _ _).drew).mono ?_
                    rintro e w5 ⟨rfl, hb5⟩
                    have HB5 := Lib.hid (show Below wr.heap.size wr w5 from (Below.refl _ _).drew.trans hb5)
                    clear hb5
                    go_wp2_with (fail)
                    refine h1 _ _ HB5.out ?_
                    clear h1
                    refine seg_act _ (by dsimp only [pick, ord.at_]) _ (by dsimp only [pick, ord.at_]) ?_
                    repeat (go_big_quiet_step (fail))
                    refine wpQuiet_nil ?_
                    intro K h1 h2
                    clear h2
                    go_wp2_with (fail)
                    refine (HST.out w5 HB5.out).mono ?_
                    rintro e w6 ⟨g6, c6, rfl, how6, hb6⟩
                    have HB6 := Lib.hid (HB5.out.trans (hb6.mono HB5.out.size))
                    have HV6 := Lib.hid (HVV3.out.quiet HB6.out)
                    have HPUT := Lib.hid (HV6.out.put HSA.out (i := k) (by have := HVL.out; omega) ⟨some ⟨g6, 0, none⟩, c6, own (disown q x) (x, 2, -1)⟩ (how6.base (by have := HV6.out.bel.size; have := HB5.out.size; have := HVV3.out.bel.size; omega)))
                    have hk6 : w6.cell? ⟨sb, k, none⟩ = some (.slice r.A m r.c) := (HB6.out.cell (p := ⟨sb, k, none⟩) hsl).trans hcell
                    have hf6 : w6.frozen? ⟨sb, k, none⟩ = false := by
                      obtain ⟨_, cur2, e2, _, _, hcur2, _⟩ := HV6.out.wp.srow (i := k) (by have := HVL.out; omega)
                      have e3 := HSA.out
                      rw [e2] at e3; cases e3
                      exact frozen_of_row _ _ _ _ _ hcur2
                    have hl6 : sb < w6.heap.size := by have := HB6.out.size; omega
                    clear how6 hb6
                    go_wp2_with (fail)
                    refine h1 _ _ HB6.out ?_
                    clear h1
                    refine seg_write _ (by dsimp only [pick, ord.at_]) _ (by dsimp only [pick, ord.at_]) ?_
                    repeat (go_big_quiet_step (fail))
                    refine wpQuiet_nil ?_
                    intro K4 h4
                    go_wp2_with (fail)
                    refine seg_end _ (by dsimp only [pick, ord.at_]) ?_
                    refine wpQuiet_nil (NoPanic.normal ?_)
                    clear q0 q1 q2 q3 c0 c1 c2 hk6 hf6 hcell
                    go_wp2_with (fail)
                    go_roundg (3 - (j + 1))
                    case measure => omega
                    case rel => exact ⟨j + 1, by go_num, by omega, by omega, by rw [HX.out]; exact HPUT.out⟩
                  · obtain rfl : j = 3 := by omega
                    have hltz4 : ¬ ((3 : Nat) : Int) < 3 := by omega
                    go_wp2_with (fail)
                    go_roundg (S - (k + 1))
                    case measure => omega
                    case rel => exact ⟨k + 1, by go_num, by omega, by omega, HV3.out⟩
              · obtain rfl : k = S := by omega
                have hltz3 : ¬ (k : Int) < (k : Int) := by omega
                obtain ⟨v9, hv⟩ := HV0.out
                obtain ⟨⟨c0, c1, c2⟩, _⟩ := isv3_cells hv.wp.var
                obtain ⟨⟨d0, d1, d2⟩, f0, f1, f2⟩ := isv3_cells hv.res
                have hpl := hv.wp.lt
                have hrl := blk_lt hv.res
                have HV9 := Lib.hid hv
                clear hv HV0
                go_wp2_with (fail)
                (try simp only [Exit.inBlock, Exit.then])
                refine bodyPost_ret (ret_cell rfl _ _ w.heap.size 25 _ _ _ rfl (set3 HV9.out.res) Tryz.underlying25 rfl sizeP) rfl ?_
                rw [HE.out, HP.out]
                refine ⟨v9, rfl, ?_, ?_, ?_⟩
                · have h9 := HV9.out.ss
                  unfold PV.pl at h9 ⊢
                  simp only at h9
                  rw [HV9.out.ver, HV9.out.nodes, h9]
                · exact (HV9.out.wp.apart (chg_set3 _ _ _) HV9.out.res (by omega)).op (by omega)
                · exact below_set3 HV9.out.bel (Nat.le_refl _) _ _ _
end Go.Proofs.YtnjdondkggkfoaaGreat.pm
