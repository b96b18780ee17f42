/-
  The walk of the law BootstrapEnough: for all inputs it returns true.
-/
import Derived.Test.YtkajdfflolilhaaBtEn
namespace Go.Proofs.Ytkajdfflolilhaa.lawBootstrapEnough
open Go.ChangeShapes Go.WideShapes Go.ChangeAt Go.RowKit Go.Shelf plain words ord mem pm bt

theorem norm550 : rg.normR [((5 : Int), (50 : Int))] = [(5, 50)] := by decide
theorem stAt_gb (s : BS) (gv : Nat → Bool) (ot : List Int) (i : Nat) : (stAt s gv ot i).gb = s.gb := by
  induction i with
  | zero => unfold stAt; split <;> rfl
  | succ i ih =>
    unfold stAt
    split
    · exact ih
    · exact ih
theorem cnt_le (gv : Nat → Bool) (i : Nat) : cnt gv i ≤ i := by
  induction i with
  | zero => exact Nat.le_refl _
  | succ i ih => unfold cnt; split <;> omega
set_option maxHeartbeats 4000000 in
set_option maxRecDepth 100000 in
theorem walk_ok (a0 : PV) (a1 a2 : Int) (A : Option Addr) (n c : Nat) (w : World) (h0 : PVok w w.heap.size a0) (w1 : (Lit.int .i64 a1).wf = true) (w2 : (Lit.int .i64 a2).wf = true) (h3 : IsLs BE (fun _ => True) w A n c) :
    Calls Try.prog 3 #[a0.val, .int .i64 a1, .int .i64 a2, .slice A n c] w fun e w' => e = .returned (.bool true) ∧ Below w.heap.size w w' := by
  clear w1 w2
  obtain ⟨gl, hgl, _, hnc, hcm, _⟩ := h3
  unfold maxLen at hcm
  obtain ⟨w3, hw3⟩ : ∃ w3, w.alloc (boxO a0) = w3 := ⟨_, rfl⟩
  have hb3 : Below w.heap.size w w3 := by rw [← hw3]; exact below_al _ _
  have gp : pm.Boxed w3 w.heap.size a0 := by rw [← hw3]; exact alloc_new _ _
  have hl3 : w.heap.size < w3.heap.size := blk_lt gp
  have HOK := Lib.hid (fun (u : World) (hu : Below w3.heap.size w3 u) => ((h0.below hb3 (Nat.le_refl _)).below hu (by omega)))
  have HLG := Lib.hid (large_l w3 w.heap.size a0 (HOK.out w3 (Below.refl _ _)) (by omega))
  have HNX := Lib.hid (fun (u : World) (hu : Below w3.heap.size w3 u) => new_x u w.heap.size a0 (HOK.out u hu) (by have := hu.size; omega) a1 a2 5 50)
  have HNY := Lib.hid (fun (u : World) (hu : Below w3.heap.size w3 u) => new_y u w.heap.size a0 (HOK.out u hu) (by have := hu.size; omega) a1 a2 5 50)
  have HFD := Lib.hid (fun (u : World) (hu : Below w3.heap.size w3 u) => rfind_y u w.heap.size a0 (HOK.out u hu) (by have := hu.size; omega) a1 a2)
  have HGL := Lib.hid (fun (u : World) (hu : Below w3.heap.size w3 u) => ((hgl.below hb3 (Nat.le_refl _)).below hu (by omega)))
  have HB3 := Lib.hid hb3
  have HGP := Lib.hid gp
  have HW3 := Lib.hid hw3
  obtain ⟨p, hp⟩ : ∃ p, a0.pl = p := ⟨_, rfl⟩
  rw [hp] at HNX HNY HFD
  have HPV := Lib.hid hp
  obtain ⟨lv, hlv⟩ : ∃ lv, largeB a0 = lv := ⟨_, rfl⟩
  rw [hlv] at HLG
  obtain ⟨ne, hne⟩ : ∃ ne, newE p a1 a2 = ne := ⟨_, rfl⟩
  have HNE := Lib.hid hne
  obtain ⟨ver, nA, nc, nodes, sA, sc, rs⟩ := a0
  obtain ⟨N, hN⟩ : ∃ N, rs.length = N := ⟨_, rfl⟩
  have HN := Lib.hid hN
  simp only [PV.val, boxO, pm.Boxed, hN] at HLG HNX HNY HFD HW3 HGP ⊢
  have HVC := Lib.hid (fun (u : World) (hu : Below w3.heap.size w3 u) => (isv3_cells (blk_below hu HGP.out (by omega))).1)
  obtain ⟨c0, c1, c2⟩ := HVC.out w3 (Below.refl _ _)
  have HR3 := Lib.hid (Below.refl w3.heap.size w3)
  clear h0 hw3 hb3 gp hp hlv hne hgl hN
  go_enter Try.func3, Try.ntmps3
  go_wp2_with (fail)
  rw [HW3.out]
  go_wp2_with (fail)
  refine HLG.out.mono ?_
  rintro e w4 ⟨rfl, hb4⟩
  have HB4 := Lib.hid hb4
  have hs4 := hb4.size
  clear hb4 c0 c1 c2
  obtain ⟨c0, c1, c2⟩ := HVC.out w4 HB4.out
  have hl4 : w.heap.size < w4.heap.size := by omega
  cases lv with
  | true =>
    have HBW := Lib.hid (HB3.out.trans (HB4.out.mono (by omega)))
    go_wp2_with (fail)
    go_ret
    exact ⟨by simp, HBW.out⟩
  | false =>
    by_cases hn3 : n < 3
    · have hnz : (n : Int) < 3 := by omega
      have HBW := Lib.hid (HB3.out.trans (HB4.out.mono (by omega)))
      clear hn3
      go_wp2_with (fail)
      go_ret
      exact ⟨by simp, HBW.out⟩
    have hnz : ¬ (n : Int) < 3 := by omega
    obtain ⟨w5, hw5⟩ : ∃ w5, w4.alloc (.cells #[.int .i64 5, .int .i64 50] 29) = w5 := ⟨_, rfl⟩
    have hb5 : Below w4.heap.size w4 w5 := by rw [← hw5]; exact below_al _ _
    have g5 : w5.heap[w4.heap.size]? = some (.cells #[.int .i64 5, .int .i64 50] 29 (0, 0)) := by rw [← hw5]; exact alloc_new _ _
    have hs5 := hb5.size
    have HB5 := Lib.hid (HB4.out.trans (hb5.mono hs4))
    have HW5 := Lib.hid hw5
    have hl5 : w.heap.size < w5.heap.size := by omega
    clear c0 c1 c2
    obtain ⟨c0, c1, c2⟩ := HVC.out w5 HB5.out
    have d0 : w5.cell? ⟨w4.heap.size, 0, none⟩ = some (.int .i64 5) := by rw [cell_of_row _ _ _ _ _ _ g5]; rfl
    have d1 : w5.cell? ⟨w4.heap.size, 1, none⟩ = some (.int .i64 50) := by rw [cell_of_row _ _ _ _ _ _ g5]; rfl
    have HG5 := Lib.hid g5
    have hl54 : w4.heap.size < w5.heap.size := blk_lt g5
    clear hb5 g5
    go_wp2_with (fail)
    refine (HNX.out w5 HB5.out).mono ?_
    intro e w6 hr
    rcases hr with ⟨hz, g, st, rfl, hbt, hns, hb6⟩ | ⟨hz, rfl, hb6⟩
    · rw [HNE.out] at hz
      subst hz
      have hs6 := hb6.size
      have HB6 := Lib.hid (HB5.out.trans (hb6.mono (by omega)))
      have HB56 := Lib.hid hb6
      have HBT := Lib.hid hbt
      have HNS := Lib.hid hns
      have hl6 : w.heap.size < w6.heap.size := by omega
      have hl64 : w4.heap.size < w6.heap.size := by omega
      have g6 := blk_below hb6 HG5.out (by omega)
      clear c0 c1 c2 d0 d1 hb6 hbt hns
      obtain ⟨c0, c1, c2⟩ := HVC.out w6 HB6.out
      have d0 : w6.cell? ⟨w4.heap.size, 0, none⟩ = some (.int .i64 5) := by rw [cell_of_row _ _ _ _ _ _ g6]; rfl
      have d1 : w6.cell? ⟨w4.heap.size, 1, none⟩ = some (.int .i64 50) := by rw [cell_of_row _ _ _ _ _ _ g6]; rfl
      clear g6
      go_wp2_with (fail)
      refine (HNY.out w6 HB6.out).mono ?_
      rintro e w7 ⟨q, rfl, hb7⟩
      rw [HNE.out]
      have hs7 := hb7.size
      have HB7 := Lib.hid (HB6.out.trans (hb7.mono (by omega)))
      have HBT7 := Lib.hid (HBT.out.below hb7 (Nat.le_refl _))
      have hl7 : w.heap.size < w7.heap.size := by omega
      clear c0 c1 c2 d0 d1 hb7
      obtain ⟨c0, c1, c2⟩ := HVC.out w7 HB7.out
      go_wp2_with (fail)
      refine (HFD.out w7 HB7.out).mono ?_
      rintro e w8 ⟨rfl, hb8⟩
      obtain ⟨o, ho⟩ : ∃ o, fnd (byNode a2) (shardAt p.ss a1) = o := ⟨_, rfl⟩
      obtain ⟨qf, hqf⟩ : ∃ qf, fis (byNode a2) (shardAt p.ss a1) = qf := ⟨_, rfl⟩
      rw [ho, hqf]
      have HFO := Lib.hid ho
      have hnewE := HNE.out
      unfold newE at hnewE
      have hck : chk p = 0 := by
        rcases Classical.em (chk p = 0) with h | h
        · exact h
        · rw [if_pos h] at hnewE; omega
      rw [if_neg (by rw [hck]; decide)] at hnewE
      have hpar : qf = true ∧ o.2.1 ≠ 3 := by
        rw [ho, hqf] at hnewE
        cases qf with
        | false => simp at hnewE
        | true =>
          refine ⟨rfl, fun e => ?_⟩
          rw [e] at hnewE; simp at hnewE
      obtain ⟨rfl, ho3⟩ := hpar
      obtain ⟨k, hk, hkl⟩ := shard_idx hqf
      obtain ⟨L, hL⟩ : ∃ L, p.ss[k]? = some L := ⟨_, List.getElem?_eq_getElem hkl⟩
      have hsh : shardAt p.ss a1 = L := by rw [hk]; exact shardAt_in hL
      have hok : ShardOk p.nodes L := (chk_iff.1 hck).each L (List.mem_of_getElem? hL)
      have hmem := fnd_mem hqf
      rw [ho, hsh] at hmem
      have hfs := from_small hok hmem.1
      have HOKL := Lib.hid hok
      have HMEM := Lib.hid hmem
      have HST := Lib.hid (show st.av = (o.2.1 == 2) ∧ st.src = o.2.2 ∧ st.ot = othersOf a2 L ∧ st.gs = [] ∧ st.un = [(5, 50)] ∧ st.n = 0 from ⟨by rw [HNS.out.av_, ho], by rw [HNS.out.src_, ho], by rw [HNS.out.ot_, hsh], HNS.out.gs_, by rw [HNS.out.un_]; exact norm550, HNS.out.n_⟩)
      have HLk := Lib.hid hL
      have hpv := (hok.each o hmem.1).2.1
      obtain ⟨o1, o2, o3⟩ := o
      simp only at ho3 hfs hpv
      have hs8 := hb8.size
      obtain ⟨w9, hw9⟩ : ∃ w9, w8.alloc (.cells #[.int .i64 o1, .int .i64 o2, .int .i64 o3] 38) = w9 := ⟨_, rfl⟩
      have hb9 : Below w8.heap.size w8 w9 := by rw [← hw9]; exact below_al _ _
      have g9 : IsV3 38 w9 w8.heap.size (.int .i64 o1) (.int .i64 o2) (.int .i64 o3) := by rw [← hw9]; exact alloc_new _ _
      have hs9 := hb9.size
      have HB9 := Lib.hid (HB7.out.trans ((hb8.trans (hb9.mono hs8)).mono (by omega)))
      have HBT9 := Lib.hid (HBT7.out.below (hb8.trans (hb9.mono hs8)) (Nat.le_refl _))
      have HG9 := Lib.hid g9
      have hl98 : w8.heap.size < w9.heap.size := blk_lt g9
      obtain ⟨⟨e0, e1, e2⟩, _⟩ := isv3_cells g9
      have hl9 : w.heap.size < w9.heap.size := by omega
      have hs59 : w5.heap.size ≤ w9.heap.size := by omega
      have hkN2 : k < N := by rw [← HPV.out] at hkl; rw [← HN.out]; simpa [PV.pl] using hkl
      obtain ⟨r, hr⟩ : ∃ r, rs[k]? = some r := ⟨_, List.getElem?_eq_getElem (by rw [HN.out]; exact hkN2)⟩
      have hrl : r.l = L := by
        have h1 : p.ss[k]? = some r.l := by rw [← HPV.out]; simp [PV.pl, hr]
        rw [hL] at h1; exact (Option.some.inj h1).symm
      have HKA := Lib.hid hk
      have HRR := Lib.hid hr
      have HRL := Lib.hid hrl
      have hm8 : L.length ≤ 8 := ok_ll hok
      clear hnewE hck hqf ho hk hkl hL hsh hok hmem hb8 hb9 g9 c0 c1 c2 HNE hr hrl
      by_cases hs1 : o2 = 1
      · subst hs1
        clear hpv ho3
        have hk := HKA.out
        subst hk
        obtain ⟨b, off, hA, hb, l0, ho⟩ := ((HOK.out w9 HB9.out).s).at_ HRR.out
        simp only at hA
        subst hA
        have HO := Lib.hid ho.ls
        obtain ⟨rA, rc, L'⟩ := r
        have hLL : L' = L := HRL.out
        subst hLL
        obtain ⟨m, hm⟩ : ∃ m, L'.length = m := ⟨_, rfl⟩
        simp only [Rw3.val, hm] at l0 HO hm8
        have HM := Lib.hid hm
        have HL0 := Lib.hid l0
        have HLb := Lib.hid (show b < w9.heap.size by omega)
        have i0 : (0 : Int) ≤ (k : Int) := by omega
        have hltz : (k : Int) < (N : Int) := by omega
        obtain ⟨w10, hw10⟩ : ∃ w10, w9.alloc (.cells #[] 3) = w10 := ⟨_, rfl⟩
        have HOL := Lib.hid (show Ow NE w10 w9.heap.size (.slice (some ⟨w9.heap.size, 0, none⟩) 0 0) 0 [] by rw [← hw10]; exact Ow.lit (E := NE) w9)
        have HB10 := Lib.hid (show Below w9.heap.size w9 w10 by rw [← hw10]; exact below_al _ _)
        have HW10 := Lib.hid hw10
        have HS9 := Lib.hid (show w3.heap.size ≤ w9.heap.size from HB9.out.size)
        clear l0 hm ho
        go_wp2_with (fail)
        clear e0 e1 e2 hw10 hw9
        go_loopg [16, 17, 18] m (fun gg s16 s17 s18 wr => ∃ (i : Nat) (A' : Option Addr) (c' M : Nat), s17 = .int .i64 i ∧ s16 = .slice A' M c' ∧ i ≤ m ∧ m - i ≤ gg ∧ M ≤ i ∧ Aside (Ow NE wr w9.heap.size (.slice A' M c') M (avs (L'.take i))) ∧ Aside (Below w9.heap.size w9 wr))
        case atStart => exact ⟨0, _, 0, 0, rfl, rfl, by omega, by omega, by omega, HOL.out, HB10.out⟩
        case round =>
          obtain ⟨i, A', c', M, rfl, rfl, hi, hgk, hMi, HOW, HBR⟩ := hrel
          obtain ⟨wv, hwv⟩ : ∃ wv, wv = wr := ⟨wr, rfl⟩
          obtain rfl := hwv
          have hsv := HBR.out.size
          have HB3v := Lib.hid (HB9.out.trans (HBR.out.mono HS9.out))
          obtain ⟨c0, c1, c2⟩ := HVC.out wv HB3v.out
          have l1 := (HBR.out.cell (p := ⟨b, off + k, none⟩) HLb.out).trans HL0.out
          have hlv : w.heap.size < wv.heap.size := by omega
          have hbv : b < wv.heap.size := by have := HLb.out; omega
          by_cases hlt : i < m
          · have hltm : (i : Int) < (m : Int) := by omega
            have j0 : (0 : Int) ≤ (i : Int) := by omega
            obtain ⟨x, hx⟩ : ∃ x, L'[i]? = some x := ⟨_, List.getElem?_eq_getElem (by rw [HM.out]; exact hlt)⟩
            obtain ⟨b3, off3, hA3, hb3, y0, y1, y2⟩ := own_at (HO.out.below HBR.out (by omega)) hx
            subst hA3
            have HSN := Lib.hid (avs_snoc hx)
            obtain ⟨x1, x2, x3⟩ := x
            simp only at y0 y1 y2 HSN
            have hbw3 : b3 < wv.heap.size := by omega
            obtain ⟨wa, hwa⟩ : ∃ wa, wv.alloc (.cells #[.int .i64 x1, .int .i64 x2, .int .i64 x3] 38) = wa := ⟨_, rfl⟩
            have hba : Below wv.heap.size wv wa := by rw [← hwa]; exact below_al _ _
            have ga : IsV3 38 wa wv.heap.size (.int .i64 x1) (.int .i64 x2) (.int .i64 x3) := by rw [← hwa]; exact alloc_new _ _
            have hla : wv.heap.size < wa.heap.size := blk_lt ga
            obtain ⟨⟨a0, a1, a2⟩, _⟩ := isv3_cells ga
            have HOA := Lib.hid (HOW.out.below hba (Nat.le_refl _))
            have HBa := Lib.hid (HBR.out.trans (hba.mono hsv))
            have hsa := hba.size
            clear hx hba ga
            cases hb2 : (x2 == 2) with
            | false =>
              rw [hb2] at HSN
              go_wp2_with (fail)
              go_roundg (m - (i + 1))
              case measure => omega
              case rel => exact ⟨i + 1, A', c', M, by go_num, rfl, by omega, by omega, by omega, (show Ow NE wa w9.heap.size (.slice A' M c') M (avs (L'.take (i + 1))) by rw [HSN.out]; simpa using HOA.out), HBa.out⟩
            | true =>
              rw [hb2] at HSN
              obtain ⟨wb, hwb⟩ : ∃ wb, wa.alloc (.cells #[.int .i64 x1] 3) = wb := ⟨_, rfl⟩
              have hbb : Below wa.heap.size wa wb := by rw [← hwb]; exact below_al _ _
              have HLB := Lib.hid (show Ls NE wb (wa.heap.size + 1) (some ⟨wa.heap.size, 0, none⟩) 1 [x1] by rw [← hwb]; exact ls_new (E := NE) (w := wa) 3 x1)
              have HOB := Lib.hid (HOA.out.below hbb (Nat.le_refl _))
              have HBb := Lib.hid (HBa.out.trans (hbb.mono (by omega)))
              have hsb := hbb.size
              clear hbb
              go_wp2_with (at_builtin; refine app_n rfl (.tmp 97) (.tmp 100) rfl w9.heap.size _ M _ rfl HOB.out (wa.heap.size + 1) (some ⟨wa.heap.size, 0, none⟩) 1 1 (fun e => by cases e) [x1] (by rfl) HLB.out (by omega) (by omega) ?_; intro A9 c9 w19 hown9 hg9 _ h9a h9b hs9; have HO9 := Lib.hid hown9; have HB19 := Lib.hid (HOB.out.below_grown HBb.out hg9 (by omega)); clear hown9 hg9)
              go_roundg (m - (i + 1))
              case measure => omega
              case rel => exact ⟨i + 1, A9, c9, M + 1, by go_num, rfl, by omega, by omega, by omega, (show Ow NE w19 w9.heap.size (.slice A9 (M + 1) c9) (M + 1) (avs (L'.take (i + 1))) by rw [HSN.out]; exact HO9.out), HB19.out⟩
          · obtain rfl : i = m := by omega
            have hltm : ¬ (i : Int) < (i : Int) := by omega
            have HOTM := Lib.hid (show avs (L'.take i) = avs L' by rw [List.take_of_length_le (by rw [HM.out]; exact Nat.le_refl _)])
            obtain ⟨ot, hot⟩ : ∃ ot, avs L' = ot := ⟨_, rfl⟩
            have hML : ot.length = M := by rw [← hot, ← HOTM.out]; exact HOW.out.1
            have hotn : o1 = a2 := HMEM.out.2
            have hoth : othersOf a2 L' = ot := by rw [← hot, ← hotn]; exact avs_others HOKL.out HMEM.out.1 rfl
            have hM2 : M ≤ 2 := by rw [← hML, ← hot]; exact avs_few HOKL.out HMEM.out.1 rfl
            have hnd : ot.Nodup := by rw [← hot]; exact avs_nodup HOKL.out
            have hns : o3 ∉ ot := by rw [← hot]; exact avs_src HOKL.out HMEM.out.1 rfl
            have hwfo : ∀ x ∈ ot, (Lit.int .i64 x).wf = true := fun x hx => by
              have hx2 : x ∈ othersOf a2 L' := by rw [hoth]; exact hx
              have := others_node HOKL.out hx2
              exact wf_small (by omega) this.2
            have hav : st.av = false := by rw [HST.out.1]; rfl
            have hsrc : st.src = o3 := HST.out.2.1
            have hstot : st.ot = ot := by rw [HST.out.2.2.1, hoth]
            have hgs : st.gs = [] := HST.out.2.2.2.1
            have hun : st.un.length = 1 := by rw [HST.out.2.2.2.2.1]; rfl
            have hn0 : st.n = 0 := HST.out.2.2.2.2.2
            have HSAV := Lib.hid hav
            have HSRC := Lib.hid hsrc
            have HSOT := Lib.hid hstot
            have HN0 := Lib.hid hn0
            have HML := Lib.hid hML
            have HWFO := Lib.hid hwfo
            obtain ⟨gv, hgv⟩ : ∃ gv : Nat → Bool, (fun j => gl.getD j false) = gv := ⟨_, rfl⟩
            have HGV := Lib.hid (fun (j : Nat) (hj : j < n) => (show gl[j]? = some (gv j) by rw [← hgv]; have h1 := (HGL.out wv HB3v.out).get hj; obtain ⟨x, hx⟩ := h1; simp [List.getD, hx]))
            have HEN := Lib.hid (enough (gv := gv) hav hstot hgs hun hnd (by rw [hsrc]; exact hns) (by rw [hML]; exact hM2))
            have HBTV := Lib.hid (HBT9.out.below HBR.out (Nat.le_refl _))
            have HGB := Lib.hid HBT9.out.m.lt
            have HWF3 := Lib.hid (wf_small hfs.1 hfs.2)
            have HOV := Lib.hid (show Ow NE wv w9.heap.size (.slice A' M c') M ot by have := HOW.out; rw [HOTM.out, hot] at this; exact this)
            have g9v := blk_below HBR.out HG9.out (by omega)
            obtain ⟨⟨e0, e1, e2⟩, _⟩ := isv3_cells g9v
            have hl89 : w8.heap.size < wv.heap.size := by omega
            obtain ⟨bo, off2, hA2, hbo, z0⟩ := bool_at (HGL.out wv HB3v.out) (HGV.out 0 (by omega))
            subst hA2
            simp only [Nat.add_zero] at z0
            have hbo3 : bo < wv.heap.size := by omega
            have n0z : (0 : Int) < (n : Int) := by omega
            have HG20 := Lib.hid (got_nil wv g w5.heap.size st HBTV.out (by omega) (by omega) o3 HWF3.out)
            have hok3 : st.ok o3 = true := by unfold BS.ok; rw [hav, hsrc]; simp
            rw [hok3] at HG20
            have HGB9 := Lib.hid (show ∀ k, k = st.gb → k < w9.heap.size from fun k e => by rw [e]; exact HGB.out)
            have hlvw := HB3v.out.size
            clear hot hML hotn hoth hnd hns hwfo hav hsrc hstot hgs hun hn0 hgv g9v hok3 hfs
            obtain ⟨b0, hb0⟩ : ∃ b0, gv 0 = b0 := ⟨_, rfl⟩
            rw [hb0] at z0
            have HB0 := Lib.hid hb0
            go_upto_region 18 with (fail)
            go_cut [111] (fun s111 wx => s111 = .bool false ∧ Aside (Bt wx g w5.heap.size (stAt st gv ot 0)) ∧ Aside (Chg (fun k => k = st.gb) wv wx))
            case first =>
              cases b0 with
              | true =>
                have HS0 := Lib.hid (show stAt st gv ot 0 = st.got o3 by unfold stAt; rw [if_pos HB0.out, HSRC.out])
                go_wp2_with (fail)
                refine HG20.out.mono ?_
                rintro e w20 ⟨rfl, hbt20, hc20⟩
                have HBT20 := Lib.hid hbt20
                have HC20 := Lib.hid hc20
                clear hbt20 hc20
                go_wp2_with (fail)
                go_meet
                exact ⟨rfl, (show Bt w20 g w5.heap.size (stAt st gv ot 0) by rw [HS0.out]; exact HBT20.out), HC20.out⟩
              | false =>
                have HS0 := Lib.hid (show stAt st gv ot 0 = st by unfold stAt; rw [if_neg (by rw [HB0.out]; decide)])
                go_wp2_with (fail)
                go_meet
                exact ⟨rfl, (show Bt wv g w5.heap.size (stAt st gv ot 0) by rw [HS0.out]; exact HBTV.out), Chg.refl _ _⟩
            case rest =>
              obtain ⟨rfl, HBT20, HC20⟩ := hcut
              clear e0 e1 e2 z0 c0 c1 c2 l1
              go_wp2_with (fail)
              go_loopg [19, 20] M (fun gg s19 s20 wr => ∃ (j : Nat), s20 = .int .i64 j ∧ s19 = .int .i64 (cnt gv j : Nat) ∧ j ≤ M ∧ M - j ≤ gg ∧ Aside (Bt wr g w5.heap.size (stAt st gv ot j)) ∧ Aside (Chg (fun k => k = st.gb) wv wr))
              case atStart => exact ⟨0, rfl, rfl, by omega, by omega, HBT20.out, HC20.out⟩
              case round =>
                obtain ⟨j, rfl, rfl, hj, hgj, HBTj, HCj⟩ := hrel
                obtain ⟨wy, hwy⟩ : ∃ wy, wy = wr := ⟨wr, rfl⟩
                obtain rfl := hwy
                have hsy := HCj.out.size
                have HB5y := Lib.hid (show Below w5.heap.size wv wy from HCj.out.below (B := w5.heap.size) (by omega) (fun k e => by rw [e]; exact HBT9.out.lg))
                have HB3y := Lib.hid (HB3v.out.trans (HB5y.out.mono (by have := HB5.out.size; omega)))
                have HOY := Lib.hid (HOV.out.chg HCj.out (fun k hk e => by have := (HOV.out.lt k hk).1; have := HGB9.out k e; omega))
                by_cases hlj : j < M
                · have hltM : (j : Int) < (M : Int) := by omega
                  have hlt2 : (j : Int) < 2 := by omega
                  have hj0 : (0 : Int) ≤ (j : Int) := by omega
                  have hj1 : IntKind.i64.wrap ((j : Int) + 1) = ((j + 1 : Nat) : Int) := by rw [IntWalk.i64_in _ (by omega)]; omega
                  have hj2 : ((j + 1 : Nat) : Int) < (n : Int) := by omega
                  have hj3 : (0 : Int) ≤ ((j + 1 : Nat) : Int) := by omega
                  have hj4 : j + 1 < n := by omega
                  obtain ⟨b1, hb1⟩ : ∃ b1, gv (j + 1) = b1 := ⟨_, rfl⟩
                  obtain ⟨bo1, off1, ee1, hbo1, z1⟩ := bool_at (HGL.out wy HB3y.out) (HGV.out (j + 1) hj4)
                  cases ee1
                  rw [hb1] at z1
                  obtain ⟨C, hC⟩ : ∃ C, cnt gv j = C := ⟨_, rfl⟩
                  have hCj : C ≤ j := by rw [← hC]; exact cnt_le gv j
                  have HCN := Lib.hid (show cnt gv (j + 1) = if b1 = true then C + 1 else C by rw [← hC, ← hb1]; rfl)
                  have HSS := Lib.hid (show stAt st gv ot (j + 1) = if b1 = true then (stAt st gv ot j).got (ot.getD j 0) else stAt st gv ot j by rw [← hb1]; rfl)
                  obtain ⟨sj, hsj⟩ : ∃ sj, stAt st gv ot j = sj := ⟨_, rfl⟩
                  obtain ⟨q1, q2, q3, q4, q5⟩ := stAt_same st gv ot j
                  have q6 := stAt_gb st gv ot j
                  rw [hsj] at HBTj HSS q1 q2 q3 q4 q5 q6
                  obtain ⟨x, hx⟩ : ∃ x, ot[j]? = some x := ⟨_, List.getElem?_eq_getElem (by rw [HML.out]; exact hlj)⟩
                  have hxm := List.mem_of_getElem? hx
                  have HGD := Lib.hid (show ot.getD j 0 = x by simp [List.getD, hx])
                  have hokx : sj.ok x = true := by
                    unfold BS.ok
                    rw [q1, HSAV.out, q3, HSOT.out]
                    have : pm.has ot x = true := by unfold pm.has; exact List.any_eq_true.2 ⟨x, hxm, by simp⟩
                    rw [this]; simp
                  have HGX := Lib.hid (got_nil wy g w5.heap.size sj HBTj.out (by omega) (by have := HN0.out; omega) x (HWFO.out x hxm))
                  rw [hokx] at HGX
                  have HQ6 := Lib.hid q6
                  obtain ⟨b5, off5, ee5, hb5', z5⟩ := num_at (HOY.out.ls) hx
                  have hb5w : b5 < wy.heap.size := hb5'
                  have wC : IntKind.i64.wrap ((C : Int) + 1) = ((C + 1 : Nat) : Int) := by rw [IntWalk.i64_in _ (by omega)]; omega
                  rw [hC]
                  clear hb1 hC hsj q1 q2 q3 q4 q5 q6 hx hxm hokx
                  subst ee5
                  cases b1 with
                  | false =>
                    go_wp2_with (fail)
                    go_roundg (M - (j + 1))
                    case measure => omega
                    case rel => exact ⟨j + 1, by go_num, by rw [HCN.out]; rfl, by omega, by omega, (show Bt wy g w5.heap.size (stAt st gv ot (j + 1)) by rw [HSS.out]; exact HBTj.out), HCj.out⟩
                  | true =>
                    go_wp2_with (fail)
                    refine HGX.out.mono ?_
                    rintro e wz ⟨rfl, hbtz, hcz⟩
                    have HBTZ := Lib.hid hbtz
                    have HCZ := Lib.hid (HCj.out.trans hcz (fun k _ e => by rw [e]; exact HQ6.out))
                    clear hbtz hcz
                    go_wp2_with (fail)
                    go_roundg (M - (j + 1))
                    case measure => omega
                    case rel => exact ⟨j + 1, by go_num, by rw [HCN.out]; rfl, by omega, by omega, (show Bt wz g w5.heap.size (stAt st gv ot (j + 1)) by rw [HSS.out, HGD.out]; exact HBTZ.out), HCZ.out⟩
                · obtain rfl : j = M := by omega
                  have hltM : ¬ (j : Int) < (j : Int) := by omega
                  obtain ⟨en1, en2⟩ := HEN.out
                  rw [HML.out] at en1 en2
                  obtain ⟨sM, hsM⟩ : ∃ sM, stAt st gv ot j = sM := ⟨_, rfl⟩
                  rw [hsM] at en1 en2 HBTj
                  obtain ⟨dn, hdn⟩ : ∃ dn, decide (sM.left.length = 0) = dn := ⟨_, rfl⟩
                  have HDN := Lib.hid (fun (u : World) (hu : Below wy.heap.size wy u) => done_x u g w5.heap.size sM (HBTj.out.below hu (Nat.le_refl _)) (by have := hu.size; omega))
                  rw [hdn] at HDN en1 en2
                  have HWT := Lib.hid (fun (u : World) (hu : Below wy.heap.size wy u) => wants_x u g w5.heap.size sM (HBTj.out.below hu (Nat.le_refl _)) (by have := hu.size; omega))
                  have hsB3 := HB3y.out.size
                  have HFIN := Lib.hid (fun (u : World) (hu : Below wy.heap.size wy u) => HB3.out.trans ((HB3y.out.trans (hu.mono hsB3)).mono (by omega)))
                  obtain ⟨bo1, off1, ee1, hbo1, z0⟩ := bool_at (HGL.out wy HB3y.out) (HGV.out 0 (by omega))
                  cases ee1
                  rw [HB0.out] at z0 en1
                  simp only [Nat.add_zero] at z0
                  have hbow : bo < wy.heap.size := by omega
                  obtain ⟨C, hC⟩ : ∃ C, cnt gv j = C := ⟨_, rfl⟩
                  rw [hC] at en1 ⊢
                  obtain ⟨WL, hWL⟩ : ∃ WL, sM.wants = WL := ⟨_, rfl⟩
                  rw [hWL] at en2 HWT
                  obtain ⟨wn, hwn⟩ : ∃ wn, WL.length = wn := ⟨_, rfl⟩
                  rw [hwn] at en2
                  have HWN := Lib.hid hwn
                  have q0 := Wb.at_ z0
                  clear hsM hdn hC hWL hwn
                  cases b0 with
                  | true =>
                    have hd : dn = true := by rw [en1]; rfl
                    subst hd
                    clear en1 en2
                    go_wp2_with (fail)
                    refine wp_region_plan [([0, 2, 3, 4], some (1, false)), ([5, 6, 7, 8, 9, 10, 11], some (12, false)), ([13, 14], some (15, false)), ([16, 17, 18, 19, 20], none)] (by kernel_rfl) (by kernel_rfl) ?_
                    refine seg_act _ (by dsimp only [pick, ord.at_]) _ (by dsimp only [pick, ord.at_]) ?_
                    repeat (go_big_quiet_step (fail))
                    refine wpQuiet_nil ?_
                    intro K1 h1 h2
                    clear h1
                    go_wp2_with (fail)
                    refine (HDN.out wy.drew (Below.refl wy.heap.size wy).drew).mono ?_
                    rintro e wd1 ⟨rfl, hd1⟩
                    have HD1 := Lib.hid ((Below.refl wy.heap.size wy).drew.trans hd1)
                    have hsd1 := HD1.out.size
                    clear hd1
                    go_wp2_with (fail)
                    refine h2 _ _ HD1.out ?_
                    clear h2
                    refine seg_act _ (by dsimp only [pick, ord.at_]) _ (by dsimp only [pick, ord.at_]) ?_
                    repeat (go_big_quiet_step (fail))
                    refine wpQuiet_nil ?_
                    intro K2 h1 h2
                    clear h1
                    go_wp2_with (fail)
                    refine (HDN.out wd1 HD1.out).mono ?_
                    rintro e wd2 ⟨rfl, hd2⟩
                    have HD2 := Lib.hid (HD1.out.trans (hd2.mono hsd1))
                    have hsd2 := HD2.out.size
                    have HD12 := Lib.hid hd2
                    clear hd2
                    go_wp2_with (fail)
                    refine h2 _ _ (by first | exact HD12.out | exact HD2.out) ?_
                    clear h2
                    refine seg_act _ (by dsimp only [pick, ord.at_]) _ (by dsimp only [pick, ord.at_]) ?_
                    repeat (go_big_quiet_step (fail))
                    refine wpQuiet_nil ?_
                    intro K3 h1 h2
                    clear h1
                    go_wp2_with (fail)
                    refine h2 _ _ (by first | exact Below.refl _ _ | exact HD12.out | exact HD2.out) ?_
                    refine seg_end _ (by dsimp only [pick, ord.at_]) ?_
                    repeat (go_big_quiet_step (fail))
                    refine wpQuiet_nil ?_
                    refine NoPanic.normal ?_
                    go_wp2_with (fail)
                    go_ret
                    exact ⟨by simp, HFIN.out wd2 HD2.out⟩
                  | false =>
                    by_cases hc2 : C = 2
                    · subst hc2
                      have hd : dn = true := by rw [en1]; rfl
                      subst hd
                      have hcz : (((2 : Nat) : Int) == 2) = true := rfl
                      clear en1 en2
                      go_wp2_with (fail)
                      refine wp_region_plan [([0, 2, 3, 4], some (1, false)), ([5, 6, 7, 8, 9, 10, 11], some (12, false)), ([13, 14], some (15, false)), ([16, 17, 18, 19, 20], none)] (by kernel_rfl) (by kernel_rfl) ?_
                      refine seg_act _ (by dsimp only [pick, ord.at_]) _ (by dsimp only [pick, ord.at_]) ?_
                      repeat (go_big_quiet_step (fail))
                      refine wpQuiet_nil ?_
                      intro K1 h1 h2
                      clear h1
                      go_wp2_with (fail)
                      refine (HDN.out wy.drew (Below.refl wy.heap.size wy).drew).mono ?_
                      rintro e wd1 ⟨rfl, hd1⟩
                      have HD1 := Lib.hid ((Below.refl wy.heap.size wy).drew.trans hd1)
                      have hsd1 := HD1.out.size
                      clear hd1
                      go_wp2_with (fail)
                      refine h2 _ _ HD1.out ?_
                      clear h2
                      refine seg_act _ (by dsimp only [pick, ord.at_]) _ (by dsimp only [pick, ord.at_]) ?_
                      repeat (go_big_quiet_step (fail))
                      refine wpQuiet_nil ?_
                      intro K2 h1 h2
                      clear h1
                      go_wp2_with (fail)
                      refine (HDN.out wd1 HD1.out).mono ?_
                      rintro e wd2 ⟨rfl, hd2⟩
                      have HD2 := Lib.hid (HD1.out.trans (hd2.mono hsd1))
                      have hsd2 := HD2.out.size
                      have HD12 := Lib.hid hd2
                      clear hd2
                      go_wp2_with (fail)
                      refine h2 _ _ (by first | exact HD12.out | exact HD2.out) ?_
                      clear h2
                      refine seg_act _ (by dsimp only [pick, ord.at_]) _ (by dsimp only [pick, ord.at_]) ?_
                      repeat (go_big_quiet_step (fail))
                      refine wpQuiet_nil ?_
                      intro K3 h1 h2
                      clear h1
                      go_wp2_with (fail)
                      refine h2 _ _ (by first | exact Below.refl _ _ | exact HD12.out | exact HD2.out) ?_
                      refine seg_end _ (by dsimp only [pick, ord.at_]) ?_
                      repeat (go_big_quiet_step (fail))
                      refine wpQuiet_nil ?_
                      refine NoPanic.normal ?_
                      go_wp2_with (fail)
                      go_ret
                      exact ⟨by simp, HFIN.out wd2 HD2.out⟩
                    · have hcz : ((C : Int) == 2) = false := by simp; omega
                      have hd : dn = false := by rw [en1]; simp; omega
                      subst hd
                      have hwp : 0 < wn := by have := en2 rfl; omega
                      have hwpz : (0 : Int) < (wn : Int) := by omega
                      clear en1 en2 hc2
                      go_wp2_with (fail)
                      refine wp_region_plan [([0, 2, 3, 4], some (1, false)), ([5, 6, 7, 8, 9, 10, 11], some (12, false)), ([13, 14], some (15, false)), ([16, 17, 18, 19, 20], none)] (by kernel_rfl) (by kernel_rfl) ?_
                      refine seg_act _ (by dsimp only [pick, ord.at_]) _ (by dsimp only [pick, ord.at_]) ?_
                      repeat (go_big_quiet_step (fail))
                      refine wpQuiet_nil ?_
                      intro K1 h1 h2
                      clear h1
                      go_wp2_with (fail)
                      refine (HDN.out wy.drew (Below.refl wy.heap.size wy).drew).mono ?_
                      rintro e wd1 ⟨rfl, hd1⟩
                      have HD1 := Lib.hid ((Below.refl wy.heap.size wy).drew.trans hd1)
                      have hsd1 := HD1.out.size
                      clear hd1
                      go_wp2_with (fail)
                      refine h2 _ _ HD1.out ?_
                      clear h2
                      refine seg_act _ (by dsimp only [pick, ord.at_]) _ (by dsimp only [pick, ord.at_]) ?_
                      repeat (go_big_quiet_step (fail))
                      refine wpQuiet_nil ?_
                      intro K2 h1 h2
                      clear h1
                      go_wp2_with (fail)
                      refine (HDN.out wd1 HD1.out).mono ?_
                      rintro e wd2 ⟨rfl, hd2⟩
                      have HD2 := Lib.hid (HD1.out.trans (hd2.mono hsd1))
                      have hsd2 := HD2.out.size
                      have HD12 := Lib.hid hd2
                      clear hd2
                      go_wp2_with (fail)
                      refine h2 _ _ (by first | exact HD12.out | exact HD2.out) ?_
                      clear h2
                      refine seg_act _ (by dsimp only [pick, ord.at_]) _ (by dsimp only [pick, ord.at_]) ?_
                      repeat (go_big_quiet_step (fail))
                      refine wpQuiet_nil ?_
                      intro K3 h1 h2
                      clear h1
                      go_wp2_with (fail)
                      refine (HWT.out wd2 HD2.out).mono ?_
                      rintro e wd3 ⟨A8, c8, rfl, _, hd3⟩
                      rw [HWN.out]
                      have HD3 := Lib.hid (HD2.out.trans (hd3.mono hsd2))
                      have HD23 := Lib.hid hd3
                      clear hd3
                      go_wp2_with (fail)
                      refine h2 _ _ (by first | exact HD23.out | exact HD12.out.trans (HD23.out.mono (by omega)) | exact HD3.out) ?_
                      refine seg_end _ (by dsimp only [pick, ord.at_]) ?_
                      repeat (go_big_quiet_step (fail))
                      refine wpQuiet_nil ?_
                      refine NoPanic.normal ?_
                      go_wp2_with (fail)
                      go_ret
                      exact ⟨by simp, HFIN.out wd3 HD3.out⟩
      · have hs1z : (o2 != 1) = true := by simp [hs1]
        have ho22 : o2 = 2 := by
          rcases hpv with ⟨h, _⟩ | ⟨h, _⟩ | ⟨h, _⟩
          · exact h
          · exact absurd h hs1
          · exact absurd h ho3
        subst ho22
        have HW := Lib.hid (wants_x w9 g w5.heap.size st HBT9.out hs59)
        have HWN := Lib.hid (show st.wants = [] by unfold BS.wants; rw [HST.out.1]; simp)
        rw [HWN.out] at HW
        clear hpv ho3 hs1
        go_wp2_with (fail)
        refine HW.out.mono ?_
        rintro e wA ⟨A9, c9, rfl, _, hbA⟩
        have HBA := Lib.hid (HB9.out.trans (hbA.mono (by have := HB9.out.size; omega)))
        have HL := Lib.hid (left_x wA g w5.heap.size st (HBT9.out.below hbA (Nat.le_refl _)) (by have := hbA.size; omega))
        have HLN := Lib.hid (show st.left = [(5, 50)] by unfold BS.left BS.met; rw [HST.out.1, HST.out.2.2.2.2.1]; rfl)
        rw [HLN.out] at HL
        clear hbA
        simp only [List.length_nil]
        go_wp2_with (fail)
        refine HL.out.mono ?_
        rintro e wB ⟨vB, rfl, hvB, hbB⟩
        obtain ⟨AB, cB, rfl⟩ : ∃ A c, vB = .slice A 1 c := by
          rcases own_form hvB.2 with ⟨_, e⟩ | ⟨gg, cap, rfl, _⟩
          · exact absurd e (by decide)
          · exact ⟨_, _, rfl⟩
        have HBB := Lib.hid (HB3.out.trans ((HBA.out.trans (hbB.mono (by have := HBA.out.size; omega))).mono (by omega)))
        clear hvB hbB
        go_wp2_with (fail)
        go_ret
        exact ⟨by simp, HBB.out⟩
    · rw [HNE.out] at hz ⊢
      have hs6 := hb6.size
      have HB6 := Lib.hid (HB5.out.trans (hb6.mono (by omega)))
      have hl6 : w.heap.size < w6.heap.size := by omega
      have hl64 : w4.heap.size < w6.heap.size := by omega
      have g6 := blk_below hb6 HG5.out (by omega)
      clear c0 c1 c2 d0 d1 hb6
      obtain ⟨c0, c1, c2⟩ := HVC.out w6 HB6.out
      have d0 : w6.cell? ⟨w4.heap.size, 0, none⟩ = some (.int .i64 5) := by rw [cell_of_row _ _ _ _ _ _ g6]; rfl
      have d1 : w6.cell? ⟨w4.heap.size, 1, none⟩ = some (.int .i64 50) := by rw [cell_of_row _ _ _ _ _ _ g6]; rfl
      have hnz0 : (ne != 0) = true := by simp [hz]
      clear g6 hz
      go_wp2_with (fail)
      refine (HNY.out w6 HB6.out).mono ?_
      rintro e w7 ⟨q, rfl, hb7⟩
      rw [HNE.out]
      have HBW := Lib.hid (HB3.out.trans ((HB6.out.trans (hb7.mono (by omega))).mono (by omega)))
      clear hb7
      go_wp2_with (fail)
      go_ret
      exact ⟨by simp, HBW.out⟩
end Go.Proofs.Ytkajdfflolilhaa.lawBootstrapEnough
