/-
  The walk of the law BootstrapNever: for all inputs it returns true.
-/
import Derived.Test.YtheanpcbjjogfaaBtL
import Derived.Test.YtheanpcbjjogfaaBtS
import Derived.Test.YtheanpcbjjogfaaBtNY
import Derived.Test.YtheanpcbjjogfaaBtLaw
import Derived.Test.YtheanpcbjjogfaaPmOp
namespace Go.Proofs.Ytheanpcbjjogfaa.lawBootstrapNever
open Go.ChangeShapes Go.WideShapes Go.ChangeAt Go.RowKit Go.Shelf plain words ord mem pm bt

set_option maxHeartbeats 4000000 in
set_option maxRecDepth 100000 in
theorem walk_ok (a0 : PV) (a1 a2 f t : Int) (A : Option Addr) (n c : Nat) (w : World) (h0 : PVok w w.heap.size a0) (w1 : (Lit.int .i64 a1).wf = true) (w2 : (Lit.int .i64 a2).wf = true) {p3 p4 : Prop} (_ : p3) (_ : p4) (h4 : IsSers w A n c) :
    Calls Try.prog 3 #[a0.val, .int .i64 a1, .int .i64 a2, .agg #[.int .i64 f, .int .i64 t], .slice A n c] w fun e w' => e = .returned (.bool true) ∧ Below w.heap.size w w' := by
  clear w1
  obtain ⟨l, hl, hnc, hcm, hnl⟩ := h4
  unfold maxLen at hcm
  have hln := hl.row.1
  obtain ⟨w3, hw3⟩ : ∃ w3, ((w.alloc (boxO a0)).alloc (.cells #[.int .i64 f, .int .i64 t] 27)).alloc (.cells #[.int .i64 0, .int .i64 0, .int .i64 0, .int .i64 0, .int .i64 0, .slice A n c] 30) = w3 := ⟨_, rfl⟩
  have hb3 : Below w.heap.size w w3 := by rw [← hw3]; exact ((below_al _ _).trans ((below_al _ _).mono (by simp))).trans ((below_al _ _).mono (by simp only [World.size_alloc]; omega))
  have hs3 : w3.heap.size = w.heap.size + 3 := by rw [← hw3]; simp
  have gp : pm.Boxed w3 w.heap.size a0 := by rw [← hw3]; exact alloc_old _ (alloc_old _ (alloc_new _ _))
  have gr : w3.heap[w.heap.size + 1]? = some (.cells #[.int .i64 f, .int .i64 t] 27 (0, 0)) := by
    rw [← hw3]; have := alloc_new (w.alloc (boxO a0)) (.cells #[.int .i64 f, .int .i64 t] 27); rw [World.size_alloc] at this; exact alloc_old _ this
  have HLT : Stps w3 w3.heap.size 1 (some ⟨w.heap.size + 2, 0, none⟩) [⟨0, 0, 0, 0, 0, A, c, l⟩] := by
    have h1 := ls_new (E := BTE) (w := (w.alloc (boxO a0)).alloc (.cells #[.int .i64 f, .int .i64 t] 27)) 30 (⟨0, 0, 0, 0, 0, A, c, l⟩ : StV)
    simp only [World.size_alloc] at h1
    refine ⟨?_, fun s hs => ?_⟩
    · rw [hs3, ← hw3, ← hln]; exact h1
    · simp only [List.mem_singleton] at hs
      subst hs
      have h2 := hl.below hb3 (Nat.le_refl _)
      refine ⟨?_, fun s hs => (h2.pts s hs).more (by omega), h2.ids, h2.few⟩
      rw [hln]; exact h2.row.more (by omega)
  obtain ⟨hv, hhv⟩ : ∃ hv, decide (2048 < hoN 1 [⟨0, 0, 0, 0, 0, A, c, l⟩]) = hv := ⟨_, rfl⟩
  have HHV := Lib.hid (fun (u : World) (hu : Below w3.heap.size w3 u) => bheavy_x u w3.heap.size 1 1 (some ⟨w.heap.size + 2, 0, none⟩) [⟨0, 0, 0, 0, 0, A, c, l⟩] (HLT.below hu (Nat.le_refl _)) hu.size (by omega) (fun s hs => by
    simp only [List.mem_singleton] at hs
    subst hs
    exact ⟨by show l.length ≤ _; omega, fun x hx => ⟨hl.few x hx, hl.ids x hx⟩⟩))
  rw [hhv] at HHV
  have HHE := Lib.hid hhv
  have HOK := Lib.hid (fun (u : World) (hu : Below w3.heap.size w3 u) => ((h0.below hb3 (Nat.le_refl _)).below hu (by omega)))
  have HLG := Lib.hid (large_l w3 w.heap.size a0 (HOK.out w3 (Below.refl _ _)) (by omega))
  have HNX := Lib.hid (fun (u : World) (hu : Below w3.heap.size w3 u) => new_x u w.heap.size a0 (HOK.out u hu) (by have := hu.size; omega) a1 a2 f t)
  have HNY := Lib.hid (fun (u : World) (hu : Below w3.heap.size w3 u) => new_y u w.heap.size a0 (HOK.out u hu) (by have := hu.size; omega) a1 a2 f t)
  have HFD := Lib.hid (fun (u : World) (hu : Below w3.heap.size w3 u) => rfind_y u w.heap.size a0 (HOK.out u hu) (by have := hu.size; omega) a1 a2)
  have HSE := Lib.hid (fun (u : World) (hu : Below w3.heap.size w3 u) => ((hl.below hb3 (Nat.le_refl _)).below hu (by omega)))
  have HB3 := Lib.hid hb3
  have HGP := Lib.hid gp
  have HGR := Lib.hid gr
  have HW3 := Lib.hid hw3
  have HLN := Lib.hid hln
  obtain ⟨p, hp⟩ : ∃ p, a0.pl = p := ⟨_, rfl⟩
  rw [hp] at HNX HNY HFD
  have HPV := Lib.hid hp
  obtain ⟨lv, hlv⟩ : ∃ lv, largeB a0 = lv := ⟨_, rfl⟩
  rw [hlv] at HLG
  obtain ⟨ne, hne⟩ : ∃ ne, newE p a1 a2 = ne := ⟨_, rfl⟩
  have HNE := Lib.hid hne
  obtain ⟨ver, nA, nc, nodes, sA, sc, rs⟩ := a0
  obtain ⟨N, hN⟩ : ∃ N, rs.length = N := ⟨_, rfl⟩
  have HN := Lib.hid hN
  simp only [PV.val, boxO, pm.Boxed, hN] at HLG HNX HNY HFD HW3 HGP ⊢
  have HVC := Lib.hid (fun (u : World) (hu : Below w3.heap.size w3 u) => (isv3_cells (blk_below hu HGP.out (by omega))).1)
  have HRC := Lib.hid (fun (u : World) (hu : Below w3.heap.size w3 u) => (show u.cell? ⟨w.heap.size + 1, 0, none⟩ = some (.int .i64 f) ∧ u.cell? ⟨w.heap.size + 1, 1, none⟩ = some (.int .i64 t) from ⟨by rw [cell_of_row _ _ _ _ _ _ (blk_below hu HGR.out (by omega))]; rfl, by rw [cell_of_row _ _ _ _ _ _ (blk_below hu HGR.out (by omega))]; rfl⟩))
  obtain ⟨c0, c1, c2⟩ := HVC.out w3 (Below.refl _ _)
  have HR3 := Lib.hid (Below.refl w3.heap.size w3)
  clear h0 hw3 hb3 gp gr hp hlv hne hN hl HLT hhv hln hnl
  go_enter Try.func3, Try.ntmps3
  go_wp2_with (fail)
  rw [HW3.out]
  go_wp2_with (fail)
  refine HLG.out.mono ?_
  rintro e w4 ⟨rfl, hb4⟩
  have HB4 := Lib.hid hb4
  have hs4 := hb4.size
  clear hb4 c0 c1 c2
  cases lv with
  | true =>
    have HBW := Lib.hid (HB3.out.trans (HB4.out.mono (by omega)))
    go_wp2_with (fail)
    go_ret
    exact ⟨by simp, HBW.out⟩
  | false =>
    go_wp2_with (fail)
    refine (HHV.out w4 HB4.out).mono ?_
    rintro e w5 ⟨rfl, hb5⟩
    have HB5 := Lib.hid (HB4.out.trans (hb5.mono hs4))
    have hs5 := HB5.out.size
    clear hb5
    cases hv with
    | true =>
      have HBW := Lib.hid (HB3.out.trans (HB5.out.mono (by omega)))
      go_wp2_with (fail)
      go_ret
      exact ⟨by simp, HBW.out⟩
    | false =>
      obtain ⟨c0, c1, c2⟩ := HVC.out w5 HB5.out
      obtain ⟨d0, d1⟩ := HRC.out w5 HB5.out
      have hl5 : w.heap.size < w5.heap.size := by omega
      have hl51 : w.heap.size + 1 < w5.heap.size := by omega
      go_wp2_with (fail)
      refine (HNX.out w5 HB5.out).mono ?_
      intro e w6 hr
      rcases hr with ⟨hz, g, st, rfl, hbt, hns, hb6, hnp⟩ | ⟨hz, rfl, hb6⟩
      · rw [HNE.out] at hz
        subst hz
        have hs6 := hb6.size
        have HB6 := Lib.hid (HB5.out.trans (hb6.mono (by omega)))
        have HBP := Lib.hid (hnp.bp hbt)
        have HNS := Lib.hid hns
        have hl6 : w.heap.size < w6.heap.size := by omega
        have hl61 : w.heap.size + 1 < w6.heap.size := by omega
        clear c0 c1 c2 d0 d1 hb6 hbt hns hnp
        obtain ⟨c0, c1, c2⟩ := HVC.out w6 HB6.out
        obtain ⟨d0, d1⟩ := HRC.out w6 HB6.out
        go_wp2_with (fail)
        refine (HNY.out w6 HB6.out).mono ?_
        rintro e w7 ⟨q, rfl, hb7⟩
        rw [HNE.out]
        have hs7 := hb7.size
        have HB7 := Lib.hid (HB6.out.trans (hb7.mono (by omega)))
        have HBP7 := Lib.hid (HBP.out.below hb7 (Nat.le_refl _))
        have hl7 : w.heap.size < w7.heap.size := by omega
        have hl71 : w.heap.size + 1 < w7.heap.size := by omega
        clear c0 c1 c2 d0 d1 hb7
        obtain ⟨c0, c1, c2⟩ := HVC.out w7 HB7.out
        obtain ⟨d0, d1⟩ := HRC.out w7 HB7.out
        go_wp2_with (fail)
        refine (HFD.out w7 HB7.out).mono ?_
        rintro e w8 ⟨rfl, hb8⟩
        obtain ⟨o, ho⟩ : ∃ o, fnd (byNode a2) (shardAt p.ss a1) = o := ⟨_, rfl⟩
        obtain ⟨qf, hqf⟩ : ∃ qf, fis (byNode a2) (shardAt p.ss a1) = qf := ⟨_, rfl⟩
        rw [ho, hqf]
        have HST := Lib.hid (show st.f = f ∧ st.t = t ∧ st.av = (o.2.1 == 2) ∧ st.src = o.2.2 ∧ st.gs = [] ∧ st.un = rg.normR [(f, t)] from ⟨HNS.out.f_, HNS.out.t_, by rw [HNS.out.av_, ho], by rw [HNS.out.src_, ho], HNS.out.gs_, HNS.out.un_⟩)
        obtain ⟨o1, o2, o3⟩ := o
        have hs8 := hb8.size
        obtain ⟨w9, hw9⟩ : ∃ w9, w8.alloc (.cells #[.int .i64 o1, .int .i64 o2, .int .i64 o3] 42) = w9 := ⟨_, rfl⟩
        have hb9 : Below w8.heap.size w8 w9 := by rw [← hw9]; exact below_al _ _
        have g9 : IsV3 42 w9 w8.heap.size (.int .i64 o1) (.int .i64 o2) (.int .i64 o3) := by rw [← hw9]; exact alloc_new _ _
        have hs9 := hb9.size
        have HB9 := Lib.hid (HB7.out.trans ((hb8.trans (hb9.mono hs8)).mono (by omega)))
        have HBP9 := Lib.hid (HBP7.out.below (hb8.trans (hb9.mono hs8)) (Nat.le_refl _))
        have HG9 := Lib.hid g9
        have hl98 : w8.heap.size < w9.heap.size := blk_lt g9
        obtain ⟨⟨e0, e1, e2⟩, _⟩ := isv3_cells g9
        have HW9 := Lib.hid hw9
        have HS56 := Lib.hid (show w5.heap.size ≤ w6.heap.size from hs6)
        clear c0 c1 c2 d0 d1 hb8 hb9 g9 ho hqf HNE
        obtain ⟨d0, d1⟩ := HRC.out w9 HB9.out
        have hl91 : w.heap.size + 1 < w9.heap.size := by omega
        go_wp2_with (fail)
        have hpkl := HBP.out.pts.map_lt
        have hpkg := HBP.out.pts.lo
        have hgl6 := blk_lt HBP.out.bt.box
        have hglo := HBP.out.bt.lo
        have hfew := hoN_few [⟨0, 0, 0, 0, 0, A, c, l⟩] 1 (by have := HHE.out; simpa using this) _ (List.mem_singleton.2 rfl)
        simp only at hfew
        have HLC := Lib.hid (local_x w9 g w5.heap.size st (fun k => k = st.pk) [] HBP9.out (by omega) f t w.heap.size n c A l (HSE.out w9 HB9.out) (fun k e => by omega) (by omega) (by have := HLN.out; omega) (fun s hs => (hfew.2 s hs).1) (fun r => by show (0 : Nat) ≤ _; omega) (by show (0 : Nat) ≤ _; omega) (by rw [HST.out.2.2.2.2.2, sub_self]; exact Nat.zero_le _))
        refine HLC.out.mono ?_
        rintro e w10 ⟨rfl, F', es', A', c', hbp10, hc10, _, _, _⟩
        have hs10 := hc10.size
        have g10 := hc10.blk HG9.out (fun e => by rcases e with e | e <;> omega)
        obtain ⟨⟨e0, e1, e2⟩, _⟩ := isv3_cells g10
        have r10 := hc10.blk (blk_below HB9.out HGR.out (by omega)) (fun e => by rcases e with e | e <;> omega)
        have d0 : w10.cell? ⟨w.heap.size + 1, 0, none⟩ = some (.int .i64 f) := by rw [cell_of_row _ _ _ _ _ _ r10]; rfl
        have d1 : w10.cell? ⟨w.heap.size + 1, 1, none⟩ = some (.int .i64 t) := by rw [cell_of_row _ _ _ _ _ _ r10]; rfl
        have HBW := Lib.hid (show Below w.heap.size w w10 from HB3.out.trans ((HB9.out.mono (by omega)).trans (hc10.below (B := w.heap.size) (by omega) (fun k e => by rcases e with e | e <;> omega))))
        obtain ⟨un', hun'⟩ : ∃ un', (if st.av = true then rg.subP (rg.normR st.un) (f, t) else st.un) = un' := ⟨_, rfl⟩
        rw [hun'] at hbp10
        have HBT := Lib.hid hbp10.bt
        obtain ⟨st', hst'⟩ : ∃ st', st.setU A' c' un' = st' := ⟨_, rfl⟩
        rw [hst'] at HBT
        have hq : st'.av = (o2 == 2) ∧ st'.src = o3 ∧ st'.gs = [] ∧ st'.un = un' := by rw [← hst']; exact ⟨HST.out.2.2.1, HST.out.2.2.2.1, HST.out.2.2.2.2.1, rfl⟩
        have hl10 : w8.heap.size < w10.heap.size := by omega
        have hl101 : w.heap.size + 1 < w10.heap.size := by omega
        have hHW := HBW.out.size
        have HG10 := Lib.hid g10
        have HR10 := Lib.hid r10
        have h510 : w5.heap.size ≤ w10.heap.size := by omega
        clear hbp10 hc10 g10 r10 hpkl hpkg hgl6 hglo hfew hst'
        by_cases h2 : o2 = 2
        · subst h2
          have hav : st'.av = true := by rw [hq.1]; rfl
          have hun0 : un' = [] := by rw [← hun', HST.out.2.2.1]; show (if (true = true) then _ else _) = _; rw [if_pos rfl, HST.out.2.2.2.2.2, sub_self]
          have hleft : st'.left = [] := by unfold BS.left; rw [hq.2.2.2, hun0]; split <;> rfl
          have hwant : st'.wants = [] := by unfold BS.wants; rw [hav]; simp
          have HD := Lib.hid (done_x w10 g w5.heap.size st' HBT.out h510)
          rw [hleft] at HD
          have HWN := Lib.hid (fun (u : World) (hu : Below w10.heap.size w10 u) => wants_x u g w5.heap.size st' (HBT.out.below hu (Nat.le_refl _)) (by have := hu.size; omega))
          rw [hwant] at HWN
          have HGA := Lib.hid (fun (u : World) (hu : Below w10.heap.size w10 u) => got_av u g w5.heap.size st' (HBT.out.below hu (Nat.le_refl _)) hav o1 (.slice A n c))
          clear hun' hq hun0 hleft hwant hav
          go_wp2_with (fail)
          refine HD.out.mono ?_
          rintro e w11 ⟨rfl, hb11⟩
          have HB11 := Lib.hid hb11
          have hs11 := hb11.size
          clear hb11
          go_wp2_with (fail)
          refine (HWN.out w11 HB11.out).mono ?_
          rintro e w12 ⟨A12, c12, rfl, _, hb12⟩
          have HB12 := Lib.hid (HB11.out.trans (hb12.mono hs11))
          have hs12 := HB12.out.size
          have g12 := blk_below HB12.out HG10.out (by omega)
          clear e0 e1 e2 hb12
          obtain ⟨⟨e0, e1, e2⟩, _⟩ := isv3_cells g12
          have hl12 : w8.heap.size < w12.heap.size := by omega
          clear g12
          go_wp2_with (fail)
          refine (HGA.out w12 HB12.out).mono ?_
          rintro e w13 ⟨rfl, rfl⟩
          have HFW := Lib.hid (HBW.out.trans (HB12.out.mono hHW))
          go_wp2_with (fail)
          go_ret
          exact ⟨by simp, HFW.out⟩
        · have h2z : (o2 == 2) = false := by simp [h2]
          have hav : st'.av = false := by rw [hq.1]; exact h2z
          have hun0 : un' = rg.normR [(f, t)] := by rw [← hun', HST.out.2.2.1, HST.out.2.2.2.2.2]; show (if ((o2 == 2) = true) then _ else _) = _; rw [h2z]; rfl
          have hfull : ∀ ot : List Int, full [] ot = false := fun ot => by unfold full; split <;> rfl
          have hmet : st'.met = false := by unfold BS.met; rw [hq.2.2.1, hfull]; simp [pm.has]
          have hleft : decide (st'.left.length = 0) = decide (t ≤ f) := by
            unfold BS.left
            rw [hmet, hq.2.2.2, hun0, norm_one]
            by_cases h : t ≤ f
            · simp [h]
            · simp [h]
          obtain ⟨dn, hdn⟩ : ∃ dn, decide (t ≤ f) = dn := ⟨_, rfl⟩
          rw [hdn] at hleft
          have hwant : dn = false → ∃ r, st'.wants = o3 :: r := fun e => by
            unfold BS.wants
            rw [hleft, e, hav, hq.2.2.1, hq.2.1]
            exact ⟨st'.ot, by simp [notGot, pm.has]⟩
          have HD := Lib.hid (fun (u : World) (hu : Below w10.heap.size w10 u) => done_x u g w5.heap.size st' (HBT.out.below hu (Nat.le_refl _)) (by have := hu.size; omega))
          rw [hleft] at HD
          have HWN := Lib.hid (wants_x w10 g w5.heap.size st' HBT.out h510)
          obtain ⟨wl, hwl⟩ : ∃ wl, st'.wants = wl := ⟨_, rfl⟩
          rw [hwl] at HWN hwant
          have HWA := Lib.hid hwant
          have HDN := Lib.hid hdn
          clear hun' hq hun0 hleft hwant hav hmet hwl hdn
          go_wp2_with (fail)
          refine HWN.out.mono ?_
          rintro e w11 ⟨A11, c11, rfl, ho11, hb11⟩
          have HB11 := Lib.hid hb11
          have hs11 := hb11.size
          have g11 := blk_below hb11 HG10.out (by omega)
          have r11 := blk_below hb11 HR10.out (by omega)
          clear e0 e1 e2 d0 d1
          obtain ⟨⟨e0, e1, e2⟩, _⟩ := isv3_cells g11
          have d0 : w11.cell? ⟨w.heap.size + 1, 0, none⟩ = some (.int .i64 f) := by rw [cell_of_row _ _ _ _ _ _ r11]; rfl
          have d1 : w11.cell? ⟨w.heap.size + 1, 1, none⟩ = some (.int .i64 t) := by rw [cell_of_row _ _ _ _ _ _ r11]; rfl
          have q0 := Wb.at_ d0
          have q1 := Wb.at_ d1
          have hl11 : w8.heap.size < w11.heap.size := by omega
          have hl111 : w.heap.size + 1 < w11.heap.size := by omega
          have HO11 := Lib.hid ho11
          have HG11 := Lib.hid g11
          obtain ⟨WL, hWL⟩ : ∃ WL, wl.length = WL := ⟨_, rfl⟩
          rw [hWL]
          have HWL := Lib.hid hWL
          clear ho11 g11 r11 hWL hb11
          cases dn with
          | true =>
            have ht : t ≤ f := of_decide_eq_true HDN.out
            go_wp2_with (fail)
            refine wp_region_plan [([0, 2, 3, 4, 5, 6], some (1, false)), ([7, 8, 9], some (10, false)), ([11, 12, 13, 14, 15, 16, 17, 18, 19, 20, 21, 22, 23, 24, 25], none)] (by kernel_rfl) (by kernel_rfl) ?_
            refine seg_act _ (by dsimp only [pick, ord.at_]) _ (by dsimp only [pick, ord.at_]) ?_
            repeat (go_big_quiet_step (fail))
            refine wpQuiet_nil ?_
            intro K1 h1 h2
            clear h1 q0 q1
            go_wp2_with (fail)
            refine (HD.out w11.drew HB11.out.drew).mono ?_
            rintro e w12 ⟨rfl, hb12⟩
            have HB12 := Lib.hid (show Below w11.heap.size w11 w12 from (Below.refl w11.heap.size w11).drew.trans hb12)
            have hs12 := HB12.out.size
            clear hb12
            go_wp2_with (fail)
            refine h2 _ _ HB12.out ?_
            clear h2
            refine seg_act _ (by dsimp only [pick, ord.at_]) _ (by dsimp only [pick, ord.at_]) ?_
            repeat (go_big_quiet_step (fail))
            refine wpQuiet_nil ?_
            intro K2 h1 h2
            clear h1
            go_wp2_with (fail)
            refine (HD.out w12 (HB11.out.trans (HB12.out.mono hs11))).mono ?_
            rintro e w13 ⟨rfl, hb13⟩
            have HB13 := Lib.hid hb13
            have hs13 := hb13.size
            clear hb13
            go_wp2_with (fail)
            refine h2 _ _ HB13.out ?_
            clear h2
            refine seg_end _ (by dsimp only [pick, ord.at_]) ?_
            repeat (go_big_quiet_step (fail))
            refine wpQuiet_nil ?_
            refine NoPanic.normal ?_
            have HFW := Lib.hid (HBW.out.trans ((HB11.out.trans ((HB12.out.trans (HB13.out.mono hs12)).mono hs11)).mono hHW))
            go_wp2_with (fail)
            go_ret
            exact ⟨by simp, HFW.out⟩
          | false =>
            have ht : decide (t ≤ f) = false := HDN.out
            obtain ⟨r, hr⟩ := HWA.out rfl
            subst hr
            obtain ⟨b, off, hA, hb, z0⟩ := num_at (i := 0) (x := o3) (HO11.out.ls) rfl
            have hW1 : 1 ≤ WL := by rw [← HWL.out]; simp
            have i1 : (1 : Int) ≤ (WL : Int) := by omega
            have i0 : (0 : Int) < (WL : Int) := by omega
            have hbw : b < w11.heap.size := by omega
            simp only [Nat.add_zero] at z0
            subst hA
            have HZ0 := Lib.hid z0
            clear z0
            go_wp2_with (fail)
            refine wp_region_plan [([0, 2, 3, 4, 5, 6], some (1, false)), ([7, 8, 9], some (10, false)), ([11, 12, 13, 14, 15, 16, 17, 18, 19, 20, 21, 22, 23, 24, 25], none)] (by kernel_rfl) (by kernel_rfl) ?_
            refine seg_act _ (by dsimp only [pick, ord.at_]) _ (by dsimp only [pick, ord.at_]) ?_
            repeat (go_big_quiet_step (fail))
            refine wpQuiet_nil ?_
            intro K1 h1 h2
            clear h1 q0 q1
            go_wp2_with (fail)
            refine (HD.out w11.drew HB11.out.drew).mono ?_
            rintro e w12 ⟨rfl, hb12⟩
            have HB12 := Lib.hid (show Below w11.heap.size w11 w12 from (Below.refl w11.heap.size w11).drew.trans hb12)
            have hs12 := HB12.out.size
            clear hb12
            go_wp2_with (fail)
            refine h2 _ _ HB12.out ?_
            clear h2
            refine seg_act _ (by dsimp only [pick, ord.at_]) _ (by dsimp only [pick, ord.at_]) ?_
            repeat (go_big_quiet_step (fail))
            refine wpQuiet_nil ?_
            intro K2 h1 h2
            clear h1
            go_wp2_with (fail)
            refine (HD.out w12 (HB11.out.trans (HB12.out.mono hs11))).mono ?_
            rintro e w13 ⟨rfl, hb13⟩
            have HB13 := Lib.hid hb13
            have hs13 := hb13.size
            have HB3w := Lib.hid (HB12.out.trans (hb13.mono hs12))
            clear hb13 e0 e1 e2 d0 d1
            obtain ⟨⟨e0, e1, e2⟩, _⟩ := isv3_cells (blk_below HB3w.out HG11.out hl11)
            have z0 := (HB3w.out.cell (p := ⟨b, off, none⟩) hbw).trans HZ0.out
            have p2 := Wb.at_ e2
            have p3 := Wb.at_ z0
            have l13 : w8.heap.size < w13.heap.size := by omega
            have b13 : b < w13.heap.size := by omega
            go_wp2_with (fail)
            refine h2 _ _ HB13.out ?_
            clear h2
            refine seg_end _ (by dsimp only [pick, ord.at_]) ?_
            repeat (go_big_quiet_step (fail))
            refine wpQuiet_nil ?_
            refine NoPanic.normal ?_
            have HFW := Lib.hid (HBW.out.trans ((HB11.out.trans (HB3w.out.mono hs11)).mono hHW))
            clear p2 p3
            go_wp2_with (fail)
            go_ret
            exact ⟨by simp, HFW.out⟩
      · have hs6 := hb6.size
        have HB6 := Lib.hid (HB5.out.trans (hb6.mono (by omega)))
        have hl6 : w.heap.size < w6.heap.size := by omega
        have hl61 : w.heap.size + 1 < w6.heap.size := by omega
        rw [HNE.out] at hz ⊢
        have hnz : (ne != 0) = true := by simp [hz]
        clear c0 c1 c2 d0 d1 hb6 hz
        obtain ⟨c0, c1, c2⟩ := HVC.out w6 HB6.out
        obtain ⟨d0, d1⟩ := HRC.out w6 HB6.out
        go_wp2_with (fail)
        refine (HNY.out w6 HB6.out).mono ?_
        rintro e w7 ⟨q, rfl, hb7⟩
        rw [HNE.out]
        have HFW := Lib.hid (HB3.out.trans ((HB6.out.trans (hb7.mono (by omega))).mono (by omega)))
        clear hb7
        go_wp2_with (fail)
        go_ret
        exact ⟨by simp, HFW.out⟩
end Go.Proofs.Ytheanpcbjjogfaa.lawBootstrapNever
