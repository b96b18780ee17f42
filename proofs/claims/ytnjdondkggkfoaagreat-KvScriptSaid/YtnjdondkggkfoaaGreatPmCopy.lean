/-
  Placements: a copy of one, by the document and by the law.
-/
import Derived.Test.YtnjdondkggkfoaaGreatPmDE
namespace Go.Proofs.YtnjdondkggkfoaaGreat.pm
open Go.ChangeShapes Go.WideShapes Go.ChangeAt Go.RowKit Go.Shelf plain words ord mem

def RetCopy (w : World) (p : Pl) (e : Ending) (w' : World) : Prop := ∃ v : PV, e = .returned v.val ∧ v.pl = p ∧ OD w' w.heap.size v ∧ Below w.heap.size w w'
set_option maxHeartbeats 4000000 in
theorem copied_y (w : World) (B : Nat) (v : PV) (h : PVok w B v) (hB : B ≤ w.heap.size) (hn0 : 0 < v.nodes.length) (hn1 : v.nodes.length ≤ 1000000) (hs0 : 0 < v.rs.length) (hs1 : v.rs.length ≤ 1000000)
    (hrs : ∀ r ∈ v.rs, 0 < r.l.length ∧ r.l.length ≤ 1000000) :
    Calls Tryz.prog 73 #[v.val] w (RetCopy w v.pl) := by
  obtain ⟨ver, nA, nc, nodes, sA, sc, rs⟩ := v
  obtain ⟨w2, hw2⟩ : ∃ w2, (w.alloc (.cells #[.int .i64 ver, .slice nA nodes.length nc, .slice sA rs.length sc] 25)).alloc (.cells #[.int .i64 0, .slice none 0 0, .slice none 0 0] 25) = w2 := ⟨_, rfl⟩
  have hb2 : Below w.heap.size w w2 := by rw [← hw2]; exact (below_al _ _).trans ((below_al _ _).mono (by simp))
  have gp : w2.heap[w.heap.size]? = some (.cells #[.int .i64 ver, .slice nA nodes.length nc, .slice sA rs.length sc] 25 (0, 0)) := by rw [← hw2]; exact alloc_old _ (alloc_new _ _)
  have g2 : IsV3 25 w2 (w.heap.size + 1) (.int .i64 0) (.slice none 0 0) (.slice none 0 0) := by rw [← hw2]; have := alloc_new (w.alloc (.cells #[.int .i64 ver, .slice nA nodes.length nc, .slice sA rs.length sc] 25)) (.cells #[.int .i64 0, .slice none 0 0, .slice none 0 0] 25); rwa [World.size_alloc] at this
  have hs2 : w.heap.size + 1 < w2.heap.size := blk_lt g2
  have HS2E := Lib.hid (show w2.heap.size = w.heap.size + 1 + 1 by rw [← hw2, World.size_alloc, World.size_alloc])
  obtain ⟨n, hn⟩ : ∃ n, nodes.length = n := ⟨_, rfl⟩
  rw [hn] at hw2 gp
  have HB2 := Lib.hid hb2
  have HP := Lib.hid (h.below hb2 hB)
  have HW2 := Lib.hid hw2
  have G2 := Lib.hid g2
  have GP := Lib.hid gp
  obtain ⟨⟨e0, e1, e2⟩, _⟩ := isv3_cells gp
  obtain ⟨⟨d0, d1, d2⟩, f0, f1, f2⟩ := isv3_cells g2
  have hcn := h.nc
  have hcs := h.sc
  have hcm := h.nm
  simp only at hn0 hn1 hs0 hs1 hrs hcn hcs hcm
  have hA : ∃ b off, nA = some ⟨b, off, none⟩ := by
    obtain ⟨x, hx⟩ := HP.out.n.get hn0
    obtain ⟨b, off, e, _⟩ := HP.out.n.at_ hx
    exact ⟨b, off, e⟩
  obtain ⟨nb, no, rfl⟩ := hA
  rw [hn] at hn0 hn1 hcn
  have HN := Lib.hid hn
  have HNL := Lib.hid (show Ls NE w2 B (some ⟨nb, no, none⟩) n nodes by have := HP.out.n; simp only at this; rw [hn] at this; exact this)
  obtain ⟨w3, hw3⟩ : ∃ w3, w2.alloc (.cells #[.int .i64 ver, .slice none 0 0, .slice none 0 0] 25) = w3 := ⟨_, rfl⟩
  have hb3 : Below w2.heap.size w2 w3 := by rw [← hw3]; exact below_al _ _
  have g3 : IsV3 25 w3 (w.heap.size + 1 + 1) (.int .i64 ver) (.slice none 0 0) (.slice none 0 0) := by rw [← HS2E.out, ← hw3]; exact alloc_new _ _
  have hl3 : w.heap.size + 1 + 1 < w3.heap.size := blk_lt g3
  obtain ⟨⟨c0, c1, c2⟩, k0, k1, k2⟩ := isv3_cells g3
  have x1 := (hb3.cell (p := ⟨w.heap.size, 1, none⟩) (by show w.heap.size < w2.heap.size; omega)).trans e1
  have hs23 := hb3.size
  have HB3 := Lib.hid hb3
  have G3 := Lib.hid g3
  have HW3 := Lib.hid hw3
  have HNL3 := Lib.hid (HNL.out.below hb3 (by omega))
  clear h hw2 hb2 gp g2 g3 hb3
  go_enter Tryz.func73, Tryz.ntmps73
  go_wp2_with (at_builtin; (rw [HW2.out, HW3.out]; (refine app_new_n rfl (.tmp 10) (.tmp 12) rfl w.heap.size none 0 0 (fun _ => rfl) [] (by rfl) (Ls.nil _ _ _) B (some ⟨nb, no, none⟩) n nc nodes (by rfl) HNL3.out (by omega) (by omega) (by omega) ?_); intro c5 w5 hown5 hb5 hs5; have HO5 := Lib.hid hown5; have HB5 := Lib.hid (show Below w2.heap.size w2 w5 from HB3.out.trans (hb5.mono (by omega))); have hg5 := blk_below hb5 G3.out hl3; obtain ⟨⟨v0, v1, v2⟩, u0, u1, u2⟩ := isv3_cells hg5; have G5 := Lib.hid hg5; clear hown5 hb5 hg5))
  have hz5 := HB5.out.size
  simp only [Nat.zero_add, List.nil_append] at HO5 ⊢
  obtain ⟨w6, hw6⟩ : ∃ w6, w5.setCell ⟨w.heap.size + 1 + 1, 1, none⟩ (.slice (some ⟨w3.heap.size, 0, none⟩) n c5) = w6 := ⟨_, rfl⟩
  have g6 : IsV3 25 w6 (w.heap.size + 1 + 1) (.int .i64 ver) (.slice (some ⟨w3.heap.size, 0, none⟩) n c5) (.slice none 0 0) := by
    rw [← hw6]
    have := heap_setCell_same w5 (w.heap.size + 1 + 1) 1 _ _ (.slice (some ⟨w3.heap.size, 0, none⟩) n c5) G5.out
    simpa [IsV3] using this
  have HV6 := Lib.hid (show WD w6 (w.heap.size + 2) (w.heap.size + 1 + 1) ⟨ver, some ⟨w3.heap.size, 0, none⟩, c5, nodes, none, 0, []⟩ from by
    refine ⟨⟨by have := HS2E.out; omega, ?_, ?_, Ow.nil _ _, fun r hr => (by simp at hr)⟩, fun i j r s _ hr => (by simp at hr)⟩
    · simp only [Boxed, List.length_nil, HN.out]; exact g6
    · simp only [HN.out]
      rw [← hw6]
      exact ow_other (HO5.out.base (by have := HS2E.out; omega)) (chg_set1 _) G5.out (by decide))
  have HB6 := Lib.hid (show Below w2.heap.size w2 w6 by rw [← hw6]; exact HB5.out.setCell (p := ⟨w.heap.size + 1 + 1, 1, none⟩) (by show w2.heap.size ≤ w.heap.size + 1 + 1; have := HS2E.out; omega) _)
  rw [hw6]
  have z2 := (HB6.out.cell (p := ⟨w.heap.size, 2, none⟩) (show w.heap.size < w2.heap.size by omega)).trans e2
  have HS2 := Lib.hid HP.out.s
  obtain ⟨N, hN⟩ : ∃ N, rs.length = N := ⟨_, rfl⟩
  have HNS := Lib.hid hN
  rw [hN] at z2 hcs hs0 hs1
  have HNx := Lib.hid hN
  clear hN e0 e1 e2 d0 d1 d2 f0 f1 f2 hn c0 c1 c2 k0 k1 k2 x1 v0 v1 v2 u0 u1 u2 g6 hw6 hw3
  go_wp2_with (fail)
  go_loopg [4, 5] N (fun gg s4 s5 wr => ∃ i : Nat, s4 = .int .i64 i ∧ i ≤ N ∧ N - i ≤ gg ∧ Aside (Below w2.heap.size w2 wr) ∧ Aside (∃ (X : List Rw3) (A' : Option Addr) (c' : Nat), WD wr (w.heap.size + 2) (w.heap.size + 1 + 1) ⟨ver, some ⟨w3.heap.size, 0, none⟩, c5, nodes, A', c', X⟩ ∧ X.map (·.l) = (rs.take i).map (·.l)))
  case atStart => exact ⟨0, rfl, by omega, by omega, HB6.out, ⟨[], none, 0, HV6.out, rfl⟩⟩
  case round =>
    obtain ⟨i, rfl, hi, hg, HBR, HX⟩ := hrel
    clear HB6 HV6 z2
    have hsr := HBR.out.size
    obtain ⟨X, A', c', hwd, hXl⟩ := HX.out
    obtain ⟨b, off, hsAe, hbB⟩ : ∃ b off, sA = some ⟨b, off, none⟩ ∧ b < B := by
      obtain ⟨r, hr⟩ : ∃ r, rs[0]? = some r := ⟨_, List.getElem?_eq_getElem (by have := HNx.out; omega)⟩
      obtain ⟨b, off, e, hb, _⟩ := (HS2.out).at_ hr
      exact ⟨b, off, e, hb⟩
    subst hsAe
    have z2 : wr.cell? ⟨w.heap.size, 2, none⟩ = some (.slice (some ⟨b, off, none⟩) N sc) := (HBR.out.cell (p := ⟨w.heap.size, 2, none⟩) (show w.heap.size < w2.heap.size by omega)).trans (by
      have := (isv3_cells GP.out).1.2.2
      rw [HNx.out] at this
      exact this)
    have hwr : w.heap.size < wr.heap.size := by omega
    by_cases hlt : i < N
    · have hltz : (i : Int) < (N : Int) := by omega
      have i0' : (0 : Int) ≤ (i : Int) := by omega
      obtain ⟨r, hr⟩ : ∃ r, rs[i]? = some r := ⟨_, List.getElem?_eq_getElem (by have := HNx.out; omega)⟩
      obtain ⟨_, _, hsAe, _, l0, hrok⟩ := (HS2.out).at_ hr
      cases hsAe
      obtain ⟨hm0, hm1⟩ := hrs r (List.mem_of_getElem? hr)
      have hrl : X.length = i := by have := congrArg List.length hXl; simp only [List.length_map, List.length_take] at this; have := HNx.out; omega
      have hbw : b < w2.heap.size := by have := hB; omega
      obtain ⟨wl, hwl⟩ : ∃ wl, wr.alloc (.cells #[] 68) = wl := ⟨_, rfl⟩
      have hbl : Below wr.heap.size wr wl := by rw [← hwl]; exact below_al _ _
      have hsl := hbl.size
      have l1 := ((HBR.out.trans (hbl.mono hsr)).cell (p := ⟨b, off + i, none⟩) hbw).trans l0
      obtain ⟨ra, rc, L⟩ := r
      have hrok' := hrok.below (HBR.out.trans (hbl.mono hsr)) (by omega)
      have hc1 := hrok.cap
      have hc2 := hrok.most
      have hRls := hrok'.ls
      simp only [Rw3.val] at l1 hm0 hm1 hc1 hc2 hRls
      obtain ⟨rb, ro, hra⟩ : ∃ rb ro, ra = some ⟨rb, ro, none⟩ := by
        obtain ⟨x, hx⟩ := hRls.get hm0
        obtain ⟨rb, ro, e, _⟩ := hRls.at_ hx
        exact ⟨rb, ro, e⟩
      subst hra
      obtain ⟨m, hm⟩ : ∃ m, L.length = m := ⟨_, rfl⟩
      rw [hm] at l1 hm0 hm1 hc1 hRls
      have hwdl := hwd.below hbl (Nat.le_refl _)
      have HM := Lib.hid hm
      have HR := Lib.hid hr
      have HRL := Lib.hid hRls
      have HXL := Lib.hid hXl
      have HWD := Lib.hid hwdl
      have HRLx := Lib.hid hrl
      have HBL := Lib.hid hbl
      have HWL := Lib.hid hwl
      obtain ⟨⟨_, _, c2⟩, _, _, f2⟩ := isv3_cells hwdl.wp.var
      have hpl := hwdl.wp.lt
      have hle := hwdl.wp.le
      have hown := hwdl.wp.s
      simp only [hrl] at c2 hown
      have HOW := Lib.hid hown
      have z2l := (hbl.cell (p := ⟨w.heap.size, 2, none⟩) hwr).trans z2
      have q1 := Wf.at_ (F := fun _ => False) c2 (fun e => e)
      have q2 := Wf.at_ (F := fun _ => False) l1 (fun e => e)
      have q3 := Wf.at_ (F := fun _ => False) z2l (fun e => e)
      have i1 : (0 : Int) ≤ (rc : Int) := by omega
      have hbwl : b < wl.heap.size := by omega
      have hwwl : w.heap.size < wl.heap.size := by omega
      clear l0 hrok hrok' hr hm hRls hXl hwd hwdl hrl hown HX hbl hwl z2l
      go_wp2_with (fail)
      rw [HWL.out]
      clear z2
      refine fr.wp_region_tree (F := fun _ => False) (.reads [0, 1, 2, 3, 4, 5, 6, 7] (.one 8 false (.one 9 false (.one 10 true (.reads [11] (.one 12 true .stop)))))) (by kernel_rfl) (by kernel_rfl) ?_
      refine fr.tr_reads _ (by dsimp only [pick, ord.at_]) ?_
      repeat (go_big_quiet_step (fail))
      refine wpQuiet_nil ?_
      refine fr.tr_one _ (by dsimp only [pick, ord.at_]) ?_
      intro K1 g1 g2
      clear g1
      go_wp2_with (at_builtin; refine app_new_o rfl (.tmp 25) (.tmp 30) rfl w.heap.size (some ⟨wr.heap.size, 0, none⟩) 0 0 (fun e => by cases e) [] (by rfl) (Ls.nil _ _ _) B (some ⟨rb, ro, none⟩) m rc L (by rfl) HRL.out.drew (by omega) (by omega) (by omega) ?_; intro c7 w7 hown7 hb7 hs7; have HO7 := Lib.hid hown7; have HB7 := Lib.hid (show Below wl.heap.size wl w7 from (Below.refl _ wl).drew.trans hb7); clear hown7 hb7)
      simp only [Nat.zero_add, List.nil_append] at HO7 ⊢
      refine g2 _ _ (Chg.of_below HB7.out) ?_
      clear g2
      have hs7 := HB7.out.size
      refine fr.tr_one _ (by dsimp only [pick, ord.at_]) ?_
      intro K1 g1 g2
      clear g1
      go_wp2_with (fail)
      refine g2 _ _ (Chg.of_below (below_al _ _)) ?_
      clear g2
      obtain ⟨w8, hw8⟩ : ∃ w8, w7.alloc (.cells #[.slice (some ⟨wl.heap.size, 0, none⟩) m c7] 64) = w8 := ⟨_, rfl⟩
      have HB8 := Lib.hid (show Below wl.heap.size wl w8 by rw [← hw8]; exact HB7.out.trans ((below_al _ _).mono hs7))
      have HB78 := Lib.hid (show Below w7.heap.size w7 w8 by rw [← hw8]; exact below_al _ _)
      have H8 := Lib.hid (show Ls SE w8 (w7.heap.size + 1) (some ⟨w7.heap.size, 0, none⟩) 1 [⟨some ⟨wl.heap.size, 0, none⟩, c7, L⟩] by rw [← hw8, ← HM.out]; exact ls_new (E := SE) (w := w7) 64 (⟨some ⟨wl.heap.size, 0, none⟩, c7, L⟩ : Rw3))
      rw [hw8]
      clear hw8
      have hs8 := HB8.out.size
      have hO8 := HOW.out.below HB8.out (Nat.le_refl _)
      refine fr.tr_write _ (by dsimp only [pick, ord.at_]) ?_
      intro K2 g3
      go_wp2_with (at_builtin; refine app_s rfl (.tmp 24) (.tmp 32) rfl (w.heap.size + 2) _ i X rfl hO8 (w7.heap.size + 1) (some ⟨w7.heap.size, 0, none⟩) 1 1 (fun e => by cases e) [⟨some ⟨wl.heap.size, 0, none⟩, c7, L⟩] (by rfl) H8.out (by omega) (by omega) ?_; intro A9 c9 w9 hown9 hg9 _ h9a h9b hs9; have HO9 := Lib.hid hown9; have HG9 := Lib.hid hg9; clear hown9 hg9)
      have hwd2 := HWD.out.push (r' := ⟨some ⟨wl.heap.size, 0, none⟩, c7, L⟩) HB8.out (A' := A9) (c2 := c9) (by unfold Rw3.val; simp only [HM.out]; exact HO7.out.below HB78.out (Nat.le_refl _)) (by simp only [HRLx.out]; exact HO9.out) (by simp only [HRLx.out]; exact HG9.out)
      simp only [HRLx.out] at hwd2
      have HW9 := Lib.hid hwd2
      have hB9 : Below w2.heap.size w2 (w9.setCell ⟨w.heap.size + 1 + 1, 2, none⟩ (.slice A9 (i + 1) c9)) := by
        have h1 : Below (w.heap.size + 2) w2 w8 := (HBR.out.trans ((HBL.out.trans (HB8.out.mono hsl)).mono hsr)).mono (by omega)
        have h2 := own_below h1 hO8.2 (by omega) HG9.out
        have h3 := h2.setCell (p := ⟨w.heap.size + 1 + 1, 2, none⟩) (show w.heap.size + 2 ≤ w.heap.size + 1 + 1 from hle) (.slice A9 (i + 1) c9)
        exact h3.mono (by have := HS2E.out; omega)
      have HB9 := Lib.hid hB9
      obtain ⟨⟨_, _, hk9⟩, _, _, hf9⟩ := isv3_cells (var_grown (HWD.out.below HB8.out (Nat.le_refl _)) (by simp only [HRLx.out]; exact HG9.out))
      clear hwd2 hB9 hO8
      refine fr.tr_reads _ (by dsimp only [pick, ord.at_]) ?_
      repeat (go_big_quiet_step (fail))
      refine wpQuiet_nil ?_
      refine fr.tr_write _ (by dsimp only [pick, ord.at_]) ?_
      intro K2 g3
      go_wp2_with (fail)
      refine fr.tr_stop ?_
      refine NoPanic.normal ?_
      clear c2 f2 q1 q2 q3 l1
      go_wp2_with (fail)
      go_roundg (N - (i + 1))
      case measure => omega
      case rel =>
        refine ⟨i + 1, by go_num, by omega, by omega, HB9.out, ⟨X ++ [⟨some ⟨wl.heap.size, 0, none⟩, c7, L⟩], A9, c9, ?_, ?_⟩⟩
        · exact HW9.out
        · rw [List.take_add_one, HR.out]
          simp [HXL.out]
    · obtain rfl : i = N := by omega
      have hltz : ¬ (i : Int) < (i : Int) := by omega
      have hgr := blk_below HBR.out G2.out hs2
      obtain ⟨⟨c0, c1, c2⟩, _⟩ := isv3_cells hwd.wp.var
      obtain ⟨⟨d0, d1, d2⟩, f0, f1, f2⟩ := isv3_cells hgr
      have hpl := hwd.wp.lt
      have hle := hwd.wp.le
      have hXe : X.map (·.l) = rs.map (·.l) := by rw [hXl, List.take_of_length_le (by have := HNx.out; omega)]
      have HXE := Lib.hid hXe
      have HWD := Lib.hid hwd
      have HGR := Lib.hid hgr
      clear hwd hXl hXe hgr HX
      go_wp2_with (fail)
      (try simp only [Exit.inBlock, Exit.then])
      refine bodyPost_ret (results_cell_row rfl _ _ (w.heap.size + 1) 25 _ _ _ rfl (set3 HGR.out) Tryz.underlying25 rfl sizeP) rfl ?_
      refine ⟨⟨ver, some ⟨w3.heap.size, 0, none⟩, c5, nodes, A', c', X⟩, rfl, ?_, ?_, ?_⟩
      · unfold PV.pl
        simp only [HXE.out]
      · exact (HWD.out.od.other (chg_set3 _ _ _) HGR.out).base (by omega)
      · exact below_set3 (HB2.out.trans (HBR.out.mono (by omega))) (by omega) _ _ _
end Go.Proofs.YtnjdondkggkfoaaGreat.pm
