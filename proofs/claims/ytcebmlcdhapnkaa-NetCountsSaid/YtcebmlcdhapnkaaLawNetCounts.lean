/-
  The walk of the law NetCounts.
-/
import Derived.Test.YtcebmlcdhapnkaaNetHeavy
import Derived.Test.YtcebmlcdhapnkaaCallQ
namespace Go.Proofs.Ytcebmlcdhapnkaa.lawNetCounts
open Go.ChangeShapes Go.WideShapes Go.ChangeAt Go.RowKit plain words ord mem net Go.Maps

theorem sent_ok {P : List Msg} {m : Msg} (h1 : m.2.2.length ≤ 32768) (h2 : P.length < 256) : sent P m = (0, P ++ [m]) := by
  unfold sent
  rw [if_neg (by omega), if_neg (by omega)]
theorem sent_no {P : List Msg} {m : Msg} (h : ¬ (m.2.2.length ≤ 32768 ∧ P.length < 256)) : ∃ e, sent P m = (e, P) ∧ (e == 0) = false := by
  unfold sent
  by_cases h1 : 32768 < m.2.2.length
  · exact ⟨1, by rw [if_pos h1], by decide⟩
  · exact ⟨12, by rw [if_neg h1, if_pos (by omega)], by decide⟩
theorem wf_small {c : Int} (h1 : -9223372036854775808 ≤ c) (h2 : c ≤ 9223372036854775807) : (Lit.int .i64 c).wf = true := by
  simp [Lit.wf, IntKind.min, IntKind.max, IntKind.signed, IntKind.bits]; omega
/-- what a call on the net leaves of the rest -/
theorem net_step {w w' : World} {H0 M : Nat} {r r' : Option Nat} (hch : Chg (fun b => b = H0 ∨ some b = r) w w') (hr' : r' = r ∨ ∃ g, r' = some g ∧ w.heap.size ≤ g) (hr : ∀ g, r = some g → H0 ≤ g ∧ g ≠ M) (hM : M < w.heap.size) (hHM : H0 < M) :
    (∀ g, r' = some g → H0 ≤ g ∧ g ≠ M) ∧ Below H0 w w' ∧ ¬ (M = H0 ∨ some M = r) :=
  ⟨fun g hg => by
    rcases hr' with e | ⟨q, e, e2⟩
    · exact hr g (e ▸ hg)
    · rw [hg] at e; cases e; omega, hch.below (by omega) (fun b e => by
      rcases e with e | e
      · omega
      · exact (hr _ e.symm).1), by
    rintro (e | e)
    · omega
    · exact (hr _ e.symm).2 rfl⟩

set_option maxHeartbeats 8000000 in
set_option maxRecDepth 100000 in
theorem walk_core (a0 : Option Addr) (n c : Nat) (st : List St) (w : World) (h : Scr w w.heap.size a0 n st) (hn : n ≤ 9223372036854775807) :
    Calls Try.prog 6 #[.slice a0 n c] w fun e w' => e = .returned (.bool true) ∧ Below w.heap.size w w' := by
  have hmm := @run_makeMap Try.prog
  have hhv := heavy_x w w.heap.size n c a0 st h hn
  obtain ⟨H0, hH0⟩ : ∃ H0, w.heap.size = H0 := ⟨_, rfl⟩
  rw [hH0] at h ⊢
  have HH0 := Lib.hid hH0
  clear hH0
  go_enter Try.func6, Try.ntmps6
  go_wp2_with (fail)
  refine hhv.mono ?_
  rintro e wh ⟨hb, rfl, hhb, rfl⟩
  clear hhv
  cases hb with
  | true =>
    go_wp2_with (fail)
    go_ret
    exact ⟨rfl, Below.refl _ _⟩
  | false =>
    have hn2 : n ≤ 2048 := hhb rfl
    clear hhb
    go_wp2_with (fail)
    refine (new_x _).mono ?_
    rintro e w1 ⟨rfl, hN, hb⟩
    rw [HH0.out] at hN hb ⊢
    obtain ⟨M, hM⟩ : ∃ M, w1.heap.size = M := ⟨_, rfl⟩
    have hHM : H0 < M := by have := hN.lt; omega
    have hbm : Below w1.heap.size w1 (w1.alloc (.map #[] 0)) := (Below.refl _ _).alloc (Nat.le_refl _) _
    have HOM := Lib.hid (show OwnMap (w1.alloc (.map #[] 0)) M 0 (.map []) by rw [← hM]; exact World.ownsMap_made _ _ _ _)
    have HN := Lib.hid (hN.below hbm)
    have HB := Lib.hid (hb.trans (hbm.mono (by omega)))
    have hMs : M < (w1.alloc (.map #[] 0)).heap.size := by simp; omega
    clear hN hb hbm
    go_wp2_with (fail)
    go_loopw [5] (fun i wr => ∃ (j : Nat) (r : Option Nat) (P : List Msg) (D : Dt), j ≤ n ∧ i = .int .i64 j ∧ Aside (IsNet wr H0 r P) ∧ Aside (∀ g, r = some g → H0 ≤ g ∧ g ≠ M) ∧ Aside (OwnMap wr M j D) ∧ Aside (Cnt j st P D) ∧ M < wr.heap.size ∧ Aside (Below H0 w wr)) (fun i _ => n - (intOf i).toNat)
    case atStart => exact ⟨0, none, [], .map [], Nat.zero_le _, rfl, HN.out, (fun _ e => by cases e), HOM.out, Cnt.init st, hMs, HB.out⟩
    case round =>
      clear HN HOM HB hMs
      obtain ⟨j, r, P, D, hj, rfl, ON, OR, OM, CN, hMw, BW⟩ := hrel
      have hsw := BW.out.size
      have hh0 := HH0.out
      have hfull := CN.out.full
      by_cases hlt : j < n
      · obtain ⟨b, off, A, L, C, kd, fx, fy, bs, rfl, hbB, hst, c0, c1, c2, c3, hbs, hA, hLC, hC, hfx⟩ := h.at_ j hlt
        unfold maxLen at hC
        have hl := hbs.len_
        have i1 : (0 : Int) ≤ (j : Int) := by omega
        have i2 : (j : Int) < (n : Int) := by omega
        have d0 : wr.cell? ⟨b, off + j * 4, none⟩ = some (.int .i64 kd) := (BW.out.cell (p := ⟨b, off + j * 4, none⟩) hbB).trans c0
        have d1 : wr.cell? ⟨b, off + j * 4 + 1, none⟩ = some (.int .i64 fx) := (BW.out.cell (p := ⟨b, off + j * 4 + 1, none⟩) hbB).trans c1
        have d2 : wr.cell? ⟨b, off + j * 4 + 2, none⟩ = some (.int .i64 fy) := (BW.out.cell (p := ⟨b, off + j * 4 + 2, none⟩) hbB).trans c2
        have d3 : wr.cell? ⟨b, off + j * 4 + 3, none⟩ = some (.slice A L C) := (BW.out.cell (p := ⟨b, off + j * 4 + 3, none⟩) hbB).trans c3
        have hbw : b < wr.heap.size := by omega
        obtain ⟨so, hso⟩ : ∃ so, wr.heap.size = so := ⟨_, rfl⟩
        obtain ⟨w2, hw2⟩ : ∃ w2, wr.alloc (.cells #[.int .i64 kd, .int .i64 fx, .int .i64 fy, .slice A L C] 48) = w2 := ⟨_, rfl⟩
        have hb2 : Below wr.heap.size wr w2 := by rw [← hw2]; exact (Below.refl _ _).alloc (Nat.le_refl _) _
        have g2 : w2.heap[so]? = some (.cells #[.int .i64 kd, .int .i64 fx, .int .i64 fy, .slice A L C] 48 (0, 0)) := by rw [← hw2, ← hso]; exact alloc_new _ _
        have hs2 := hb2.size
        have hsl : so < w2.heap.size := blk_lt g2
        have HN2 := Lib.hid (ON.out.below hb2)
        have HOM2 := Lib.hid (OM.out.below hb2 hMw)
        have HB2 := Lib.hid (BW.out.trans (hb2.mono (by omega)))
        have HST := Lib.hid hst
        have HBS := Lib.hid (hbs.below HB2.out (Nat.le_refl _))
        have e0 : w2.cell? ⟨so, 0, none⟩ = some (.int .i64 kd) := by rw [cell_of_row _ _ _ _ _ _ g2]; rfl
        have e1 : w2.cell? ⟨so, 1, none⟩ = some (.int .i64 fx) := by rw [cell_of_row _ _ _ _ _ _ g2]; rfl
        have e2 : w2.cell? ⟨so, 2, none⟩ = some (.int .i64 fy) := by rw [cell_of_row _ _ _ _ _ _ g2]; rfl
        have e3 : w2.cell? ⟨so, 3, none⟩ = some (.slice A L C) := by rw [cell_of_row _ _ _ _ _ _ g2]; rfl
        have HL := Lib.hid (len_x w2 H0 r P HN2.out)
        have G2 := Lib.hid g2
        clear c0 c1 c2 c3 hst hbs g2 ON OM BW hb2
        go_wp2_with (fail)
        refine HL.out.mono ?_
        rintro e w3 ⟨rfl, rfl⟩
        by_cases hk0 : kd = 0
        · subst hk0
          by_cases hok : bs.length ≤ 32768 ∧ P.length < 256
          · have hsend := send_x w2 H0 r P HN2.out (j : Int) 7 H0 L C A bs HBS.out hA (by omega) (by omega)
            rw [sent_ok (m := ((j : Int), 7, bs)) hok.1 hok.2] at hsend
            have HSEND := Lib.hid hsend
            obtain ⟨cc, hcc⟩ : ∃ cc, (P.countP fun q => q.1 == (j : Int)) = cc := ⟨_, rfl⟩
            have HC := Lib.hid (fun c0 (hat : D.atKey (.int .i64 (j : Int)) (.lit (.int .i64 0)) = .lit (.int .i64 c0)) => show c0 = (cc : Int) by rw [CN.out.count hat, hcc])
            have hcl := CN.out.count_le (j : Int)
            rw [hcc] at hcl
            have hcf := CN.out.more (World.ownsMap.isMap HOM2.out) (m := ((j : Int), 7, bs)) ⟨j, by omega, rfl, rfl, _, _, _, HST.out⟩ hok.2 hok.1
            simp only [hcc] at hcf
            rw [show ((cc + 1 : Nat) : Int) = (cc : Int) + 1 from by omega] at hcf
            have CF := Lib.hid hcf
            clear hsend hcf hcc
            go_wp2_with (fail)
            refine HSEND.out.mono ?_
            rintro e wU ⟨rf, rfl, hNU, hch, hr'⟩
            have hsU := hch.size
            obtain ⟨RF, hb4, hnM⟩ := net_step hch hr' OR.out (by omega) hHM
            have hOMU := HOM2.out.chg hch hnM
            have hBU := HB2.out.trans hb4
            have hkw : (Lit.int .i64 (j : Int)).wf = true := wf_small (by omega) (by omega)
            have hkey : keyOf Try.prog 3 (.int .i64 (j : Int)) = some (.int .i64 (j : Int)) := keyOf_int_mk Try.underlying3 hkw
            have hwr : IntKind.i64.wrap ((cc : Int) + 1) = (cc : Int) + 1 := IntWalk.i64_in _ (by omega)
            clear hch hr' hb4 HSEND e0 e1 e2 e3 d0 d1 d2 d3
            go_wp2_with (first | (at_lookup; refine wpList_lookup_own_int _ rfl _ _ 29 rfl 3 3 .i64 law_int Try.underlying29 Try.underlying3 (zero_int _) M j D rfl hOMU _ _ rfl hkey ?_; intro c0 hat hwc; have ec := HC.out c0 hat; subst ec; clear hat hwc) | (at_mapUpdate; refine wpList_mapUpdate_own _ rfl _ _ _ 29 rfl 3 3 law_int Try.underlying29 _ M j D rfl hOMU (by unfold maxLen; omega) _ (.int .i64 ((cc : Int) + 1)) _ rfl rfl hkey _ [] (plainElem_int Try.underlying3 (wf_small (by omega) (by omega))) ?_; intro wf hOMf hgf))
            have hchf : Chg (fun b => b = M) wU wf := (Chg.refl _ _).grown hgf (fun k0 e _ => by injection e with e; exact e.symm)
            have hsf := hchf.size
            have hMf : M < wf.heap.size := by omega
            have NF := Lib.hid (hNU.chg hchf (fun e => by omega) (fun g hg e => (RF g hg).2 e) (fun b cur e => by subst e; exact hOMU.not_row _ _ _))
            have OMF := Lib.hid hOMf
            have BF := Lib.hid (hBU.trans (hchf.below (by omega) (fun b e => by omega)))
            obtain ⟨Pf, hPf⟩ : ∃ Pf, P ++ [((j : Int), 7, bs)] = Pf := ⟨_, rfl⟩
            obtain ⟨Df, hDf⟩ : ∃ Df, D.put (.int .i64 (j : Int)) (.lit (.int .i64 ((cc : Int) + 1))) = Df := ⟨_, rfl⟩
            rw [hPf] at CF NF
            rw [hDf] at CF OMF
            clear hPf hDf hNU hOMU hBU hchf hgf hOMf
            try simp only [Act.put]
            have hle : ¬ (256 : Int) < (Pf.length : Int) := by have := CF.out.full; omega
            have hge : ¬ (Pf.length : Int) < 0 := by omega
            have HLF := Lib.hid (len_x wf H0 rf Pf NF.out)
            go_wp2_with (fail)
            refine HLF.out.mono ?_
            rintro e wz ⟨rfl, rfl⟩
            go_wp2_with (fail)
            refine HLF.out.mono ?_
            rintro e wz ⟨rfl, rfl⟩
            go_wp2_with (fail)
            go_roundw
            case rel => exact ⟨j + 1, rf, Pf, Df, by omega, by go_num, NF.out, RF, OMF.out, CF.out, hMf, BF.out⟩
            case measure => simp [intOf]; omega
          · obtain ⟨ee, hee, hez⟩ := sent_no (m := ((j : Int), 7, bs)) hok
            have hsend := send_x w2 H0 r P HN2.out (j : Int) 7 H0 L C A bs HBS.out hA (by omega) (by omega)
            rw [hee] at hsend
            have HSEND := Lib.hid hsend
            clear hsend hee
            go_wp2_with (fail)
            refine HSEND.out.mono ?_
            rintro e wf ⟨rf, rfl, hNU, hch, hr'⟩
            have hsU := hch.size
            obtain ⟨RF, hb4, hnM⟩ := net_step hch hr' OR.out (by omega) hHM
            have OMF := Lib.hid (World.ownsMap.mono (HOM2.out.chg hch hnM) (Nat.le_succ j))
            have BF := Lib.hid (HB2.out.trans hb4)
            have NF := Lib.hid hNU
            have CF := Lib.hid CN.out.next
            have hMf : M < wf.heap.size := by omega
            obtain ⟨Pf, rfl⟩ : ∃ Pf, Pf = P := ⟨_, rfl⟩
            obtain ⟨Df, rfl⟩ : ∃ Df, Df = D := ⟨_, rfl⟩
            clear hch hr' hb4 HSEND hNU e0 e1 e2 e3 d0 d1 d2 d3
            have hle : ¬ (256 : Int) < (Pf.length : Int) := by have := CF.out.full; omega
            have hge : ¬ (Pf.length : Int) < 0 := by omega
            have HLF := Lib.hid (len_x wf H0 rf Pf NF.out)
            go_wp2_with (fail)
            refine HLF.out.mono ?_
            rintro e wz ⟨rfl, rfl⟩
            go_wp2_with (fail)
            refine HLF.out.mono ?_
            rintro e wz ⟨rfl, rfl⟩
            go_wp2_with (fail)
            go_roundw
            case rel => exact ⟨j + 1, rf, Pf, Df, by omega, by go_num, NF.out, RF, OMF.out, CF.out, hMf, BF.out⟩
            case measure => simp [intOf]; omega
        · have hk0b : (kd == 0) = false := by simpa using hk0
          by_cases hk3 : kd = 3
          · subst hk3
            by_cases hin : 0 ≤ fx ∧ fx < (P.length : Int)
            · obtain ⟨q, rfl⟩ : ∃ q : Nat, fx = q := ⟨fx.toNat, by omega⟩
              have hq : q < P.length := by omega
              obtain ⟨x, y, ps, hm⟩ : ∃ x y ps, P[q]? = some (x, y, ps) := ⟨P[q].1, P[q].2.1, P[q].2.2, List.getElem?_eq_getElem hq⟩
              have hmem := List.mem_of_getElem? hm
              have hps : ps.length ≤ 32768 := CN.out.short _ hmem
              obtain ⟨kk, hkk, hx, hy, sa, sb, sc, hsk⟩ := CN.out.from_ _ hmem
              simp only at hx hy hsk
              subst hx hy
              have HAT := Lib.hid (at_x w2 H0 r P HN2.out q (kk : Int) 7 ps hm (by omega) ps.length rfl)
              have HM := Lib.hid hm
              have HSK := Lib.hid hsk
              clear hm hmem hsk
              go_wp2_with (fail)
              refine HAT.out.mono ?_
              rintro e w4 ⟨A', c', rfl, hown4, hb4⟩
              have hs4 := hb4.size
              obtain ⟨pk, hpk⟩ : ∃ pk, w4.heap.size = pk := ⟨_, rfl⟩
              obtain ⟨w5, hw5⟩ : ∃ w5, w4.alloc (.cells #[.int .i64 (kk : Int), .int .i64 7, .slice A' ps.length c'] 32) = w5 := ⟨_, rfl⟩
              have hb5 : Below w4.heap.size w4 w5 := by rw [← hw5]; exact (Below.refl _ _).alloc (Nat.le_refl _) _
              have g5 : w5.heap[pk]? = some (.cells #[.int .i64 (kk : Int), .int .i64 7, .slice A' ps.length c'] 32 (0, 0)) := by rw [← hw5, ← hpk]; exact alloc_new _ _
              have hs5 := hb5.size
              have hb25 := hb4.trans (hb5.mono hs4)
              have hN5 := HN2.out.below hb25
              have hOM5 := HOM2.out.below hb25 (by omega)
              have hB5 := HB2.out.trans (hb25.mono (by omega))
              have hpkl : pk < w5.heap.size := blk_lt g5
              have f1 : w5.cell? ⟨so, 1, none⟩ = some (.int .i64 (q : Int)) := (hb25.cell (p := ⟨so, 1, none⟩) hsl).trans e1
              have hrp : ∀ g, r = some g → g < w2.heap.size := fun g hg => by
                have h0 := HN2.out
                subst hg
                exact h0.row_lt
              by_cases hf : P.length < 256
              · have HDB := Lib.hid (double_x w5 H0 r P hN5 hf q (kk : Int) 7 ps HM.out (by omega))
                obtain ⟨cc, hcc⟩ : ∃ cc, (P.countP fun q => q.1 == (kk : Int)) = cc := ⟨_, rfl⟩
                have HC := Lib.hid (fun c0 (hat : D.atKey (.int .i64 (kk : Int)) (.lit (.int .i64 0)) = .lit (.int .i64 c0)) => show c0 = (cc : Int) by rw [CN.out.count hat, hcc])
                have hcl := CN.out.count_le (kk : Int)
                rw [hcc] at hcl
                have hcf := CN.out.more (World.ownsMap.isMap HOM2.out) (m := ((kk : Int), 7, ps)) ⟨kk, by omega, rfl, rfl, _, _, _, HSK.out⟩ hf hps
                simp only [hcc] at hcf
                rw [show ((cc + 1 : Nat) : Int) = (cc : Int) + 1 from by omega] at hcf
                have CF := Lib.hid hcf
                have hwas : (P.length : Int) < 256 := by omega
                have G5 := Lib.hid g5
                have HOM5 := Lib.hid hOM5
                have HB5 := Lib.hid hB5
                clear hcf hcc hown4 hb4 hb5 hb25 hN5 hOM5 hB5 g5 HAT e0 e1 e2 e3 d0 d1 d2 d3
                go_wp2_with (fail)
                refine HDB.out.mono ?_
                rintro e wU ⟨rf, rfl, hNU, hch, hr'⟩
                have hsU := hch.size
                obtain ⟨RF, hb6, hnM⟩ := net_step hch hr' OR.out (by omega) hHM
                have hOMU := HOM5.out.chg hch hnM
                have hBU := HB5.out.trans hb6
                have hkw : (Lit.int .i64 (kk : Int)).wf = true := wf_small (by omega) (by omega)
                have hkey : keyOf Try.prog 3 (.int .i64 (kk : Int)) = some (.int .i64 (kk : Int)) := keyOf_int_mk Try.underlying3 hkw
                have hwr : IntKind.i64.wrap ((cc : Int) + 1) = (cc : Int) + 1 := IntWalk.i64_in _ (by omega)
                have g6 := hch.blk G5.out (by
                  rintro (e | e)
                  · omega
                  · have := hrp _ e.symm; omega)
                have p0 : wU.cell? ⟨pk, 0, none⟩ = some (.int .i64 (kk : Int)) := by rw [cell_of_row _ _ _ _ _ _ g6]; rfl
                have hpU : pk < wU.heap.size := blk_lt g6
                clear hch hr' hb6 HDB g6 f1
                go_wp2_with (first | (at_lookup; refine wpList_lookup_own_int _ rfl _ _ 29 rfl 3 3 .i64 law_int Try.underlying29 Try.underlying3 (zero_int _) M j D rfl hOMU _ _ rfl hkey ?_; intro c0 hat hwc; have ec := HC.out c0 hat; subst ec; clear hat hwc) | (at_mapUpdate; refine wpList_mapUpdate_own _ rfl _ _ _ 29 rfl 3 3 law_int Try.underlying29 _ M j D rfl hOMU (by unfold maxLen; omega) _ (.int .i64 ((cc : Int) + 1)) _ rfl rfl hkey _ [] (plainElem_int Try.underlying3 (wf_small (by omega) (by omega))) ?_; intro wf hOMf hgf))
                have hchf : Chg (fun b => b = M) wU wf := (Chg.refl _ _).grown hgf (fun k0 e _ => by injection e with e; exact e.symm)
                have hsf := hchf.size
                have hMf : M < wf.heap.size := by omega
                have NF := Lib.hid (hNU.chg hchf (fun e => by omega) (fun g hg e => (RF g hg).2 e) (fun b cur e => by subst e; exact hOMU.not_row _ _ _))
                have OMF := Lib.hid hOMf
                have BF := Lib.hid (hBU.trans (hchf.below (by omega) (fun b e => by omega)))
                obtain ⟨Pf, hPf⟩ : ∃ Pf, P ++ [((kk : Int), 7, ps)] = Pf := ⟨_, rfl⟩
                obtain ⟨Df, hDf⟩ : ∃ Df, D.put (.int .i64 (kk : Int)) (.lit (.int .i64 ((cc : Int) + 1))) = Df := ⟨_, rfl⟩
                rw [hPf] at CF NF
                rw [hDf] at CF OMF
                clear hPf hDf hNU hOMU hBU hchf hgf hOMf p0
                try simp only [Act.put]
                have hle : ¬ (256 : Int) < (Pf.length : Int) := by have := CF.out.full; omega
                have hge : ¬ (Pf.length : Int) < 0 := by omega
                have HLF := Lib.hid (len_x wf H0 rf Pf NF.out)
                go_wp2_with (fail)
                refine HLF.out.mono ?_
                rintro e wz ⟨rfl, rfl⟩
                go_wp2_with (fail)
                refine HLF.out.mono ?_
                rintro e wz ⟨rfl, rfl⟩
                go_wp2_with (fail)
                go_roundw
                case rel => exact ⟨j + 1, rf, Pf, Df, by omega, by go_num, NF.out, RF, OMF.out, CF.out, hMf, BF.out⟩
                case measure => simp [intOf]; omega
              · have HDB := Lib.hid (double_full w5 H0 r P hN5 (by omega) q hq)
                have hwas : ¬ (P.length : Int) < 256 := by omega
                have hN5' := Lib.hid hN5
                have HOM5 := Lib.hid hOM5
                have HB5 := Lib.hid hB5
                clear hown4 hb4 hb5 hb25 hN5 hOM5 hB5 g5 HAT e0 e1 e2 e3 d0 d1 d2 d3
                go_wp2_with (fail)
                refine HDB.out.mono ?_
                rintro e wf ⟨rfl, hb6⟩
                have hs6 := hb6.size
                have NF := Lib.hid (hN5'.out.below hb6)
                have OMF := Lib.hid (World.ownsMap.mono (HOM5.out.below hb6 (by omega)) (Nat.le_succ j))
                have BF := Lib.hid (HB5.out.trans (hb6.mono (by omega)))
                have CF := Lib.hid CN.out.next
                have hMf : M < wf.heap.size := by omega
                have RF := OR.out
                obtain ⟨rf, rfl⟩ : ∃ rf, rf = r := ⟨_, rfl⟩
                obtain ⟨Pf, rfl⟩ : ∃ Pf, Pf = P := ⟨_, rfl⟩
                obtain ⟨Df, rfl⟩ : ∃ Df, Df = D := ⟨_, rfl⟩
                clear hb6 HDB f1
                have hle : ¬ (256 : Int) < (Pf.length : Int) := by have := CF.out.full; omega
                have hge : ¬ (Pf.length : Int) < 0 := by omega
                have HLF := Lib.hid (len_x wf H0 rf Pf NF.out)
                go_wp2_with (fail)
                refine HLF.out.mono ?_
                rintro e wz ⟨rfl, rfl⟩
                go_wp2_with (fail)
                refine HLF.out.mono ?_
                rintro e wz ⟨rfl, rfl⟩
                go_wp2_with (fail)
                go_roundw
                case rel => exact ⟨j + 1, rf, Pf, Df, by omega, by go_num, NF.out, RF, OMF.out, CF.out, hMf, BF.out⟩
                case measure => simp [intOf]; omega
            · have hin' : inP P fx = false := by
                simp only [inP]
                simp
                omega
              have HAT := Lib.hid (at_no w2 H0 r P HN2.out fx hin')
              have HDN := Lib.hid (fun (u : World) (hu : Below w2.heap.size w2 u) => double_no u H0 r P (HN2.out.below hu) fx hin')
              clear hin hin'
              go_wp2_with (fail)
              refine HAT.out.mono ?_
              rintro e w4 ⟨rfl, hb4⟩
              have hs4 := hb4.size
              have f1 : w4.cell? ⟨so, 1, none⟩ = some (.int .i64 fx) := (hb4.cell (p := ⟨so, 1, none⟩) hsl).trans e1
              have hso4 : so < w4.heap.size := by omega
              have HB4 := Lib.hid hb4
              clear hb4 HAT e0 e1 e2 e3 d0 d1 d2 d3
              go_wp2_with (fail)
              obtain ⟨wf, hwf⟩ : ∃ wf, w4.alloc (.cells #[.int .i64 0, .int .i64 0, .slice none 0 0] 32) = wf := ⟨_, rfl⟩
              rw [hwf]
              have hb5 : Below w4.heap.size w4 wf := by rw [← hwf]; exact (Below.refl _ _).alloc (Nat.le_refl _) _
              have hs5 := hb5.size
              have hb25 := HB4.out.trans (hb5.mono hs4)
              have HB25 := Lib.hid hb25
              have NF := Lib.hid (HN2.out.below hb25)
              have OMF := Lib.hid (World.ownsMap.mono (HOM2.out.below hb25 (by omega)) (Nat.le_succ j))
              have BF := Lib.hid (HB2.out.trans (hb25.mono (by omega)))
              have CF := Lib.hid CN.out.next
              have hMf : M < wf.heap.size := by omega
              have RF := OR.out
              clear hb5 hb25 hwf f1
              refine (HDN.out _ HB25.out).mono ?_
              rintro e w6 ⟨rfl, rfl⟩
              obtain ⟨rf, rfl⟩ : ∃ rf, rf = r := ⟨_, rfl⟩
              obtain ⟨Pf, rfl⟩ : ∃ Pf, Pf = P := ⟨_, rfl⟩
              obtain ⟨Df, rfl⟩ : ∃ Df, Df = D := ⟨_, rfl⟩
              clear HDN
              have hle : ¬ (256 : Int) < (Pf.length : Int) := by have := CF.out.full; omega
              have hge : ¬ (Pf.length : Int) < 0 := by omega
              have HLF := Lib.hid (len_x wf H0 rf Pf NF.out)
              go_wp2_with (fail)
              refine HLF.out.mono ?_
              rintro e wz ⟨rfl, rfl⟩
              go_wp2_with (fail)
              refine HLF.out.mono ?_
              rintro e wz ⟨rfl, rfl⟩
              go_wp2_with (fail)
              go_roundw
              case rel => exact ⟨j + 1, rf, Pf, Df, by omega, by go_num, NF.out, RF, OMF.out, CF.out, hMf, BF.out⟩
              case measure => simp [intOf]; omega
          · have hk3b : (kd == 3) = false := by simpa using hk3
            by_cases hin : 0 ≤ fx ∧ fx < (P.length : Int)
            · obtain ⟨q, rfl⟩ : ∃ q : Nat, fx = q := ⟨fx.toNat, by omega⟩
              have hq : q < P.length := by omega
              obtain ⟨x, y, ps, hm⟩ : ∃ x y ps, P[q]? = some (x, y, ps) := ⟨P[q].1, P[q].2.1, P[q].2.2, List.getElem?_eq_getElem hq⟩
              have hmem := List.mem_of_getElem? hm
              obtain ⟨kk, hkk, hx, hy, sa, sb, sc, hsk⟩ := CN.out.from_ _ hmem
              simp only at hx hy hsk
              subst hx hy
              have HTK := Lib.hid (take_x w2 H0 r P HN2.out (by omega) q (kk : Int) 7 ps hm ps.length rfl)
              obtain ⟨hc1, hcf⟩ := CN.out.less (World.ownsMap.isMap HOM2.out) hm
              obtain ⟨cc, hcc⟩ : ∃ cc, (P.countP fun q => q.1 == (kk : Int)) = cc := ⟨_, rfl⟩
              have HC := Lib.hid (fun c0 (hat : D.atKey (.int .i64 (kk : Int)) (.lit (.int .i64 0)) = .lit (.int .i64 c0)) => show c0 = (cc : Int) by rw [CN.out.count hat, hcc])
              have hcl := CN.out.count_le (kk : Int)
              simp only [hcc] at hcl hc1 hcf
              rw [show ((cc - 1 : Nat) : Int) = (cc : Int) - 1 from by omega] at hcf
              have CF := Lib.hid hcf
              have HSK := Lib.hid hsk
              have hrp : ∀ g, r = some g → g < w2.heap.size := fun g hg => by
                have h0 := HN2.out
                subst hg
                exact h0.row_lt
              clear hm hmem hsk hcf hcc
              go_wp2_with (fail)
              refine HTK.out.mono ?_
              rintro e w4 ⟨rf, A', c', rfl, hown4, hN4, hch, hr'⟩
              have hs4 := hch.size
              obtain ⟨RF, hb6, hnM⟩ := net_step hch hr' OR.out (by omega) hHM
              have hOM4 := HOM2.out.chg hch hnM
              obtain ⟨pk, hpk⟩ : ∃ pk, w4.heap.size = pk := ⟨_, rfl⟩
              obtain ⟨wU, hwU⟩ : ∃ w5, w4.alloc (.cells #[.int .i64 (kk : Int), .int .i64 7, .slice A' ps.length c'] 32) = w5 := ⟨_, rfl⟩
              have hb5 : Below w4.heap.size w4 wU := by rw [← hwU]; exact (Below.refl _ _).alloc (Nat.le_refl _) _
              have g5 : wU.heap[pk]? = some (.cells #[.int .i64 (kk : Int), .int .i64 7, .slice A' ps.length c'] 32 (0, 0)) := by rw [← hwU, ← hpk]; exact alloc_new _ _
              have hs5 := hb5.size
              have hNU := hN4.below hb5
              have hOU := own_keep hown4 hb5 (Nat.le_refl _)
              have hOMU := hOM4.below hb5 (by omega)
              have hBU := (HB2.out.trans hb6).trans (hb5.mono (by omega))
              have hpU : pk < wU.heap.size := blk_lt g5
              have hkw : (Lit.int .i64 (kk : Int)).wf = true := wf_small (by omega) (by omega)
              have hkey : keyOf Try.prog 3 (.int .i64 (kk : Int)) = some (.int .i64 (kk : Int)) := keyOf_int_mk Try.underlying3 hkw
              have hwr : IntKind.i64.wrap ((cc : Int) - 1) = (cc : Int) - 1 := IntWalk.i64_in _ (by omega)
              have p0 : wU.cell? ⟨pk, 0, none⟩ = some (.int .i64 (kk : Int)) := by rw [cell_of_row _ _ _ _ _ _ g5]; rfl
              have p1 : wU.cell? ⟨pk, 1, none⟩ = some (.int .i64 7) := by rw [cell_of_row _ _ _ _ _ _ g5]; rfl
              have p2 : wU.cell? ⟨pk, 2, none⟩ = some (.slice A' ps.length c') := by rw [cell_of_row _ _ _ _ _ _ g5]; rfl
              have hpkM : pk ≠ M := by omega
              have hHMn : H0 ≠ M := by omega
              clear hown4 hN4 hch hr' hb6 hOM4 hb5 g5 HTK e0 e1 e2 e3 d0 d1 d2 d3
              go_wp2_with (first | (at_lookup; refine wpList_lookup_own_int _ rfl _ _ 29 rfl 3 3 .i64 law_int Try.underlying29 Try.underlying3 (zero_int _) M j D rfl hOMU _ _ rfl hkey ?_; intro c0 hat hwc; have ec := HC.out c0 hat; subst ec; clear hat hwc) | (at_mapUpdate; refine wpList_mapUpdate_own _ rfl _ _ _ 29 rfl 3 3 law_int Try.underlying29 _ M j D rfl hOMU (by unfold maxLen; omega) _ (.int .i64 ((cc : Int) - 1)) _ rfl rfl hkey _ [] (plainElem_int Try.underlying3 (wf_small (by omega) (by omega))) ?_; intro wf hOMf hgf))
              have hchf : Chg (fun b => b = M) wU wf := (Chg.refl _ _).grown hgf (fun k0 e _ => by injection e with e; exact e.symm)
              have hsf := hchf.size
              have hMf : M < wf.heap.size := by omega
              have NF := Lib.hid (hNU.chg hchf (fun e => by omega) (fun g hg e => (RF g hg).2 e) (fun b cur e => by subst e; exact hOMU.not_row _ _ _))
              have OMF := Lib.hid hOMf
              have BF := Lib.hid (hBU.trans (hchf.below (by omega) (fun b e => by omega)))
              have hOf := own_chg hOU hchf (fun g hg e => by
                subst e
                obtain ⟨cur, hcur⟩ := own_type hOU hg
                exact hOMU.not_row _ _ _ hcur)
              have q0 := Wb.at_ (chg_cell hchf p0 (by simp only; omega))
              have q1 := Wb.at_ (chg_cell hchf p1 (by simp only; omega))
              have q2 := Wb.at_ (chg_cell hchf p2 (by simp only; omega))
              have hlk : ∀ u : Wb wf, (Instr.lookup 29 (.map (some M)) (.int .i64 (kk : Int)) false).run Try.prog u.w = .ok (.int .i64 ((cc : Int) - 1)) u.w := fun u => OwnMap.look (OwnMap.below hOMf u.h (by omega)) hkw (atKey_put_same (World.ownsMap.isMap hOMU) (show WideAt.IsKeyLit (.int .i64 (kk : Int)) from trivial) _ _)
              obtain ⟨b', off', A2, L2, C2, kd2, fx2, fy2, bs2, hAe, hbB2, hst2, m0, m1, m2, m3, hbs2, _, _, _, _⟩ := h.at_ kk (by omega)
              cases hAe
              obtain rfl : bs2 = ps := by have := HSK.out; rw [hst2] at this; injection this with this; injection this with _ this; injection this with _ this; injection this
              have q3 := Wb.at_ ((BF.out.cell (p := ⟨b, off + kk * 4 + 3, none⟩) hbB).trans m3)
              have k0 : ∀ u : Wb wf, (convert 28 9 (.slice A' bs2.length c')).run Try.prog u.w = .ok (.string ⟨bs2.toArray⟩) u.w := fun u => conv_string (own_bs (own_keep hOf u.h (Nat.le_refl _))) 28 9 5 Try.underlying28 Try.underlying9 Try.underlying5
              have k1 : ∀ u : Wb wf, (convert 28 9 (.slice A2 L2 C2)).run Try.prog u.w = .ok (.string ⟨bs2.toArray⟩) u.w := fun u => conv_string (hbs2.below (BF.out.trans (u.h.mono (by omega))) (Nat.le_refl _)) 28 9 5 Try.underlying28 Try.underlying9 Try.underlying5
              have j1 : (0 : Int) ≤ (kk : Int) := by omega
              have j2 : (kk : Int) < (n : Int) := by omega
              have j3 : ¬ (cc : Int) - 1 < 0 := by omega
              clear hOU hOf hNU hOMU hBU hchf hgf hOMf p0 p1 p2 m0 m1 m2 m3 hbs2 hst2
              try simp only [Act.put]
              refine wp_region_plan [([0, 1, 2, 3, 4, 5, 6, 7, 8, 9, 10, 11, 12, 13, 14, 15, 16, 17, 18, 19, 20, 21, 22], none)] (by kernel_rfl) (by kernel_rfl) ?_
              refine seg_end _ (by dsimp only [pick, at_]) ?_
              repeat (go_big_quiet_step (fail))
              refine wpQuiet_nil ?_
              refine NoPanic.normal ?_
              clear q0 q1 q2 q3 k0 k1 hlk
              obtain ⟨Pf, hPf⟩ : ∃ Pf, P.eraseIdx q = Pf := ⟨_, rfl⟩
              obtain ⟨Df, hDf⟩ : ∃ Df, D.put (.int .i64 (kk : Int)) (.lit (.int .i64 ((cc : Int) - 1))) = Df := ⟨_, rfl⟩
              rw [hPf] at CF NF
              rw [hDf] at CF OMF
              obtain ⟨wq, hwq⟩ : ∃ wq, wf.drew = wq := ⟨_, rfl⟩
              have NF := Lib.hid (show IsNet wq H0 rf Pf by rw [← hwq]; exact NF.out.drew)
              have OMF := Lib.hid (show OwnMap wq M (j + 1) Df by rw [← hwq]; exact World.ownsMap.drew OMF.out)
              have BF := Lib.hid (show Below H0 w wq by rw [← hwq]; exact BF.out.drew)
              have hMf : M < wq.heap.size := by rw [← hwq]; exact hMf
              rw [hwq]
              clear hPf hDf hwq hsf
              obtain ⟨wf, rfl⟩ : ∃ wf, wf = wq := ⟨_, rfl⟩
              have hle : ¬ (256 : Int) < (Pf.length : Int) := by have := CF.out.full; omega
              have hge : ¬ (Pf.length : Int) < 0 := by omega
              have HLF := Lib.hid (len_x wf H0 rf Pf NF.out)
              go_wp2_with (fail)
              refine HLF.out.mono ?_
              rintro e wz ⟨rfl, rfl⟩
              go_wp2_with (fail)
              refine HLF.out.mono ?_
              rintro e wz ⟨rfl, rfl⟩
              go_wp2_with (fail)
              go_roundw
              case rel => exact ⟨j + 1, rf, Pf, Df, by omega, by go_num, NF.out, RF, OMF.out, CF.out, hMf, BF.out⟩
              case measure => simp [intOf]; omega
            · have hin' : inP P fx = false := by
                simp only [inP]
                simp
                omega
              have HTK := Lib.hid (take_no w2 H0 r P HN2.out fx hin')
              clear hin hin'
              go_wp2_with (fail)
              refine HTK.out.mono ?_
              rintro e w4 ⟨rfl, hb4⟩
              have hs4 := hb4.size
              have HB4 := Lib.hid hb4
              clear hb4 HTK e0 e1 e2 e3 d0 d1 d2 d3
              go_wp2_with (fail)
              obtain ⟨wf, hwf⟩ : ∃ wf, w4.alloc (.cells #[.int .i64 0, .int .i64 0, .slice none 0 0] 32) = wf := ⟨_, rfl⟩
              rw [hwf]
              have hb5 : Below w4.heap.size w4 wf := by rw [← hwf]; exact (Below.refl _ _).alloc (Nat.le_refl _) _
              have hs5 := hb5.size
              have hb25 := HB4.out.trans (hb5.mono hs4)
              have NF := Lib.hid (HN2.out.below hb25)
              have OMF := Lib.hid (World.ownsMap.mono (HOM2.out.below hb25 (by omega)) (Nat.le_succ j))
              have BF := Lib.hid (HB2.out.trans (hb25.mono (by omega)))
              have CF := Lib.hid CN.out.next
              have hMf : M < wf.heap.size := by omega
              have RF := OR.out
              obtain ⟨rf, rfl⟩ : ∃ rf, rf = r := ⟨_, rfl⟩
              obtain ⟨Pf, rfl⟩ : ∃ Pf, Pf = P := ⟨_, rfl⟩
              obtain ⟨Df, rfl⟩ : ∃ Df, Df = D := ⟨_, rfl⟩
              clear hb5 hb25 hwf
              have hle : ¬ (256 : Int) < (Pf.length : Int) := by have := CF.out.full; omega
              have hge : ¬ (Pf.length : Int) < 0 := by omega
              have HLF := Lib.hid (len_x wf H0 rf Pf NF.out)
              refine HLF.out.mono ?_
              rintro e wz ⟨rfl, rfl⟩
              go_wp2_with (fail)
              refine HLF.out.mono ?_
              rintro e wz ⟨rfl, rfl⟩
              go_wp2_with (fail)
              go_roundw
              case rel => exact ⟨j + 1, rf, Pf, Df, by omega, by go_num, NF.out, RF, OMF.out, CF.out, hMf, BF.out⟩
              case measure => simp [intOf]; omega
      · have hjn : j = n := by omega
        subst hjn
        have i2 : ¬ (j : Int) < (j : Int) := by omega
        have hle : ((P.length : Nat) : Int) ≤ 256 := by omega
        have HL := Lib.hid (len_x wr H0 r P ON.out)
        go_wp2_with (fail)
        refine HL.out.mono ?_
        rintro e w3 ⟨rfl, rfl⟩
        go_wp2_with (fail)
        go_ret
        exact ⟨rfl, BW.out⟩

set_option maxRecDepth 100000 in
theorem walk_ok (a0 : Option Addr) (len0 cap0 : Nat) (w : World) (w0 : IsSteps w a0 len0 cap0) :
    Calls Try.prog 6 #[.slice a0 len0 cap0] w fun e w' => e = .returned (.bool true) ∧ Below w.heap.size w w' := by
  obtain ⟨st, hst, h1, h2, _⟩ := w0
  unfold maxLen at h2
  exact walk_core a0 len0 cap0 st w hst (by omega)
end Go.Proofs.Ytcebmlcdhapnkaa.lawNetCounts
