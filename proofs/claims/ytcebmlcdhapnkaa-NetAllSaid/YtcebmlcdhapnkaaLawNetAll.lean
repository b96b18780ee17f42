/-
  The walk of the law NetAll.
-/
import Derived.Test.YtcebmlcdhapnkaaNetSeen
import Derived.Test.YtcebmlcdhapnkaaCallQ
import Derived.Shelf.Abstract
namespace Go.Proofs.Ytcebmlcdhapnkaa.lawNetAll
open Go.ChangeShapes Go.WideShapes Go.ChangeAt Go.RowKit plain words ord mem net Go.Maps

theorem net_old {w w' : World} {H0 p : Nat} {r r' : Option Nat} (hch : Chg (fun b => b = p ∨ some b = r) w w') (hp : H0 ≤ p) (hr : ∀ g, r = some g → H0 ≤ g) (hr' : r' = r ∨ ∃ g, r' = some g ∧ w.heap.size ≤ g) (hH : H0 ≤ w.heap.size) : Below H0 w w' ∧ ∀ g, r' = some g → H0 ≤ g :=
  ⟨hch.below hH (fun q hq => by
    rcases hq with e | e
    · omega
    · exact hr q e.symm), fun g hg => by
    rcases hr' with e | ⟨q, e, e2⟩
    · exact hr g (e ▸ hg)
    · rw [hg] at e; cases e; omega⟩
theorem eg_len : ∀ args w, (callFunc 15 args).run Try.prog w = .ok (.enter 15 args) w := enters_of Try.func15 (by kernel_rfl) rfl

set_option maxHeartbeats 8000000 in
set_option maxRecDepth 100000 in
theorem walk_core (a0 : Option Addr) (n c : Nat) (ls : List (List UInt8)) (a1 : Option Addr) (n1 c1 : Nat) (zs : List Int) (w : World) (h : BRows w w.heap.size a0 n ls) (hp : IsRow .i64 w a1 n1 c1 zs) (hn : n ≤ 256) (hn1 : n ≤ n1) :
    Calls Try.prog 3 #[.slice a0 n c, .slice a1 n1 c1] w fun e w' => e = .returned (.bool true) ∧ Below w.heap.size w w' := by
  have HLEN := Lib.hid h.len
  have hmm := @run_makeMap Try.prog
  obtain ⟨H0, hH0⟩ : ∃ H0, w.heap.size = H0 := ⟨_, rfl⟩
  have HPK := Lib.hid (fun j (hj : j < n1) => row_at hp hj)
  rw [hH0] at h HPK ⊢
  have HH0 := Lib.hid hH0
  have hn0 : ¬ (256 : Int) < (n : Int) := by omega
  have hn2 : ¬ (n1 : Int) < (n : Int) := by omega
  clear hH0 hp
  go_enter Try.func3, Try.ntmps3
  go_wp2_with (fail)
  refine (new_x _).mono ?_
  rintro e w1 ⟨rfl, hN, hb⟩
  rw [HH0.out] at hN hb ⊢
  have HN := Lib.hid hN
  have HB := Lib.hid hb
  have HS := Lib.hid hN.lt
  clear hN hb
  go_wp2_with (fail)
  go_loopw [6, 7] (fun v6 i wr => ∃ (k : Nat) (r : Option Nat), k ≤ n ∧ i = .int .i64 k ∧ v6 = .int .i64 ((pendz 0 (ls.take k)).length : Int) ∧ IsNet wr H0 r (pendz 0 (ls.take k)) ∧ (∀ g, r = some g → H0 ≤ g) ∧ Below H0 w wr) (fun _ i _ => n - (intOf i).toNat)
  case atStart => exact ⟨0, none, Nat.zero_le _, rfl, rfl, HN.out, (fun _ e => by cases e), HB.out⟩
  case round =>
    clear HN HB HS
    obtain ⟨k, r, hk, rfl, rfl, hN, hr, hbel⟩ := hrel
    have hsz := hbel.size
    by_cases hlt : k < n
    · obtain ⟨b, off, A, L, C, bs, rfl, hbB, hls, hcw, hbs, hA, hLC, hC⟩ := h.at_ k hlt
      unfold maxLen at hC
      have hc0 : wr.cell? ⟨b, off + k, none⟩ = some (.slice A L C) := (hbel.cell (p := ⟨b, off + k, none⟩) hbB).trans hcw
      have i1 : (0 : Int) ≤ (k : Int) := by omega
      have i2 : (k : Int) < (n : Int) := by omega
      have hl := hbs.len_
      have hsend := send_x wr H0 r _ hN (k : Int) 0 H0 L C A bs (hbs.below hbel (Nat.le_refl _)) hA (by have := HH0.out; omega) (by omega)
      rw [pendz_send hn hlt hls] at hsend
      have hpt := pendz_take hls
      have hple := pendz_len 0 (ls.take k)
      have hpl2 : (ls.take k).length ≤ k := List.length_take_le _ _
      by_cases hbig : 32768 < L
      · have hbig' : ¬ (L : Int) ≤ (32768 : Int) := by omega
        rw [if_pos (by omega)] at hsend hpt
        rw [hpt] at hsend
        have HSEND := Lib.hid hsend
        have HPT := Lib.hid hpt
        clear hsend hN hls hbs hl hpt
        go_wp2_with (fail)
        refine HSEND.out.mono ?_
        rintro e w2 ⟨r', rfl, hN', hch, hr'⟩
        obtain ⟨hb2, hr2⟩ := net_old hch (Nat.le_refl _) hr hr' (by have := HH0.out; omega)
        have HN' := Lib.hid hN'
        have hc2 : w2.cell? ⟨b, off + k, none⟩ = some (.slice A L C) := (hb2.cell (p := ⟨b, off + k, none⟩) hbB).trans hc0
        clear HSEND hN' hch hr' hc0 hcw
        go_wp2_with (fail)
        go_roundw
        case rel => exact ⟨k + 1, r', by omega, by go_num, by rw [HPT.out], by rw [HPT.out]; exact HN'.out, hr2, hbel.trans hb2⟩
        case measure => simp [intOf]; omega
      · rw [if_neg (by omega)] at hsend hpt
        have HSEND := Lib.hid hsend
        have HPT := Lib.hid (show (pendz 0 (ls.take (k + 1))).length = (pendz 0 (ls.take k)).length + 1 by rw [hpt]; simp)
        clear hsend hN hls hbs hl hpt
        generalize pendz 0 (ls.take k) = Pk at HPT hple
        go_wp2_with (fail)
        refine HSEND.out.mono ?_
        rintro e w2 ⟨r', rfl, hN', hch, hr'⟩
        obtain ⟨hb2, hr2⟩ := net_old hch (Nat.le_refl _) hr hr' (by have := HH0.out; omega)
        have HN' := Lib.hid hN'
        clear HSEND hN' hch hr' hc0 hcw
        go_wp2_with (fail)
        go_roundw
        case rel => exact ⟨k + 1, r', by omega, by go_num, by rw [HPT.out]; go_num, HN'.out, hr2, hbel.trans hb2⟩
        case measure => simp [intOf]; omega
    · have hkn : k = n := by omega
      subst hkn
      rw [take_all (by rw [HLEN.out]; exact Nat.le_refl _)] at hN ⊢
      have hPl := pendz_len 0 ls
      rw [HLEN.out] at hPl
      have SI := Lib.hid (Seen.init k ls HLEN.out)
      obtain ⟨P0, hP0⟩ : ∃ P, pendz 0 ls = P := ⟨_, rfl⟩
      rw [hP0] at hN hPl SI ⊢
      have HN := Lib.hid hN
      have hrl : ∀ g, r = some g → g < wr.heap.size := fun g hg => by subst hg; exact hN.row_lt
      have hpl := hN.lt
      clear hN hP0
      obtain ⟨want, hwant⟩ : ∃ q, P0.length = q := ⟨_, rfl⟩
      rw [hwant] at SI hPl ⊢
      have HW := Lib.hid hwant
      clear hwant
      obtain ⟨wo, rfl⟩ : ∃ wo : World, wo = wr := ⟨_, rfl⟩
      obtain ⟨M, hM⟩ : ∃ M, wo.heap.size = M := ⟨_, rfl⟩
      have HOM := Lib.hid (show OwnMap (wo.alloc (.map #[] 0)) M 0 (.map []) by rw [← hM]; exact World.ownsMap_made _ _ _ _)
      have hbm : Below wo.heap.size wo (wo.alloc (.map #[] 0)) := (Below.refl _ _).alloc (Nat.le_refl _) _
      have HNM := Lib.hid (HN.out.below hbm)
      have HBM := Lib.hid (hbel.trans (hbm.mono (by have := HH0.out; omega)))
      rw [hM] at hrl hpl hsz
      have hMs : M < (wo.alloc (.map #[] 0)).heap.size := by simp; omega
      go_wp2_with (fail)
      go_loopw [9] (fun i wr => ∃ (j : Nat) (r : Option Nat) (P : List Msg) (D : Dt), j ≤ k ∧ i = .int .i64 j ∧ P.length + j = want ∧ Aside (IsNet wr H0 r P) ∧ Aside (∀ g, r = some g → H0 ≤ g ∧ g ≠ M) ∧ Aside (OwnMap wr M j D) ∧ Aside (Seen k want ls P D) ∧ M < wr.heap.size ∧ Aside (Below H0 w wr)) (fun i _ => k - (intOf i).toNat)
      case atStart => exact ⟨0, r, P0, .map [], Nat.zero_le _, rfl, by have := HW.out; omega, HNM.out, (fun g hg => ⟨hr g hg, by have := hrl g hg; omega⟩), HOM.out, SI.out, hMs, HBM.out⟩
      case round =>
        clear HOM HNM HBM HN hbm hMs HW SI
        obtain ⟨j, r, P, D, hj, rfl, hcnt, ON, OR, OM, SE, hMw, BW⟩ := hrel
        have hsw := BW.out.size
        have hh0 := HH0.out
        have hHM : H0 ≠ M := by omega
        have HL := Lib.hid (len_x wr H0 r P ON.out)
        by_cases hgo : j < k ∧ P ≠ []
        · obtain ⟨hjk, hPne⟩ := hgo
          have hP1 : 0 < P.length := List.length_pos_iff.2 hPne
          obtain ⟨pb, po, pz, rfl, hpb, hpc, hpz1, hpz2⟩ := HPK.out j (by omega)
          have hpcr : wr.cell? ⟨pb, po + j, none⟩ = some (.int .i64 pz) := (BW.out.cell (p := ⟨pb, po + j, none⟩) hpb).trans hpc
          have i1 : (0 : Int) ≤ (j : Int) := by omega
          have i2 : (j : Int) < (k : Int) := by omega
          have i3 : (j : Int) < (n1 : Int) := by omega
          have i4 : (0 : Int) < (P.length : Int) := by omega
          obtain ⟨⟨t1, t2⟩, q, hq, hqm⟩ := at_mod pz P.length hP1 (by omega)
          have hv1 : IntKind.i64.wrap (pz.tmod (P.length : Int)) = pz.tmod (P.length : Int) := IntWalk.i64_in _ (by omega)
          have hv2 : IntKind.i64.wrap (pz.tmod (P.length : Int) + (P.length : Int)) = pz.tmod (P.length : Int) + (P.length : Int) := IntWalk.i64_in _ (by omega)
          have hv3 : IntKind.i64.wrap (q : Int) = (q : Int) := IntWalk.i64_in _ (by omega)
          have hnz : ((P.length : Int) == 0) = false := by simp; omega
          obtain ⟨x, y, bs, hm⟩ : ∃ x y bs, P[q]? = some (x, y, bs) := ⟨P[q].1, P[q].2.1, P[q].2.2, List.getElem?_eq_getElem hq⟩
          obtain ⟨kk, hkk, hx, hlk⟩ := SE.out.from_ _ (List.mem_of_getElem? hm)
          simp only at hx hlk
          subst hx
          have HT := Lib.hid (fun (u : World) (hu : Below wr.heap.size wr u) => take_x u H0 r P (ON.out.below hu) (by omega) q (kk : Int) y bs hm bs.length rfl)
          have hun := SE.out.unseen _ (List.mem_of_getElem? hm)
          have HST := Lib.hid (SE.out.step (World.ownsMap.tidy OM.out law_int) hm (.lit (.int .i64 1)))
          have hel : (P.eraseIdx q).length + (j + 1) = want := by rw [List.length_eraseIdx, if_pos hq]; omega
          have HUN := Lib.hid hun
          have HLK := Lib.hid hlk
          have HLX := Lib.hid (fun (u : World) (hu : Below wr.heap.size wr u) => len_x u H0 r P (ON.out.below hu))
          clear hun hlk hm hPne SE
          go_wp2_with (fail)
          refine HL.out.mono ?_
          rintro e w2 ⟨rfl, rfl⟩
          go_wp2_with (fail)
          have q0 := Wb.at_ hpcr
          refine wp_region_tree (.reads [0, 1, 2, 3, 4, 5, 8, 11] (.same 6 (.reads [7] (.same 9 (.reads [10] (.same 12 (.reads [13] (.two 14 true (.reads [15, 16, 17] (.one 18 false (.one 19 false (.reads [20] .stop)))) 18 false (.one 14 true (.reads [15, 16, 17] (.one 19 true (.reads [20] .stop)))))))))))) (by kernel_rfl) (by kernel_rfl) ?_
          refine tr_reads _ (by dsimp only [pick, at_]) ?_
          repeat (go_big_quiet_step (fail))
          refine wpQuiet_nil ?_
          refine tr_same (.int .i64 (P.length : Int)) (by rfl) eg_len #[.pointer (some ⟨H0, 0, none⟩)] (by simp only [List.map_toArray, List.map_cons, List.map_nil]; rfl) (fun x => HLX.out x.w x.h) ?_
          simp only [Act.put, List.setIfInBounds_toArray, List.set_cons_succ, List.set_cons_zero]
          refine tr_reads _ (by dsimp only [pick, at_]) ?_
          repeat (go_big_quiet_step (fail))
          refine wpQuiet_nil ?_
          refine tr_same (.int .i64 (P.length : Int)) (by rfl) eg_len #[.pointer (some ⟨H0, 0, none⟩)] (by simp only [List.map_toArray, List.map_cons, List.map_nil]; rfl) (fun x => HLX.out x.w x.h) ?_
          simp only [Act.put, List.setIfInBounds_toArray, List.set_cons_succ, List.set_cons_zero]
          refine tr_reads _ (by dsimp only [pick, at_]) ?_
          repeat (go_big_quiet_step (fail))
          refine wpQuiet_nil ?_
          refine tr_same (.int .i64 (P.length : Int)) (by rfl) eg_len #[.pointer (some ⟨H0, 0, none⟩)] (by simp only [List.map_toArray, List.map_cons, List.map_nil]; rfl) (fun x => HLX.out x.w x.h) ?_
          simp only [Act.put, List.setIfInBounds_toArray, List.set_cons_succ, List.set_cons_zero]
          refine tr_reads _ (by dsimp only [pick, at_]) ?_
          repeat (go_big_quiet_step (fail))
          refine wpQuiet_nil ?_
          have hmt : Chg (fun b => b = H0 ∨ some b = r) wr wr.drew := (Chg.refl _ _).drew
          refine tr_two ?c1 ?c2
          case' c1 =>
            refine act_w _ (by dsimp only [pick, at_]) ?_
            intro K1 g1
            go_wp2_with (fail)
            refine (HT.out wr.drew (Below.refl _ _).drew).mono ?_
            rintro e w2 ⟨r', A', c', rfl, hown, hN', hch, hr'⟩
            have hr'2 : ∀ g, r' = some g → H0 ≤ g ∧ g ≠ M := fun g hg => by
              rcases hr' with e | ⟨q', e, e2⟩
              · exact OR.out g (e ▸ hg)
              · rw [hg] at e; cases e
                have : wr.heap.size ≤ g := e2
                omega
            have hch2 : Chg (fun b => b = H0 ∨ some b = r) wr w2 := hmt.trans hch (fun _ _ e => e)
            have hs2 := hch2.size
            have hOM2 := OM.out.chg hch2 (by
              rintro (e | e)
              · exact hHM e.symm
              · exact (OR.out _ e.symm).2 rfl)
            have hB2 : Below H0 w w2 := BW.out.trans (hch2.below (by omega) (fun b e => by
              rcases e with e | e
              · omega
              · exact (OR.out _ e.symm).1))
            obtain ⟨pk, hpk⟩ : ∃ pk, w2.heap.size = pk := ⟨_, rfl⟩
            obtain ⟨w3, hw3⟩ : ∃ w3, w2.alloc (.cells #[.int .i64 0, .int .i64 0, .slice none 0 0] 32) = w3 := ⟨_, rfl⟩
            have hb3 : Below w2.heap.size w2 w3 := by rw [← hw3]; exact (Below.refl _ _).alloc (Nat.le_refl _) _
            have g3 : w3.heap[pk]? = some (.cells #[.int .i64 0, .int .i64 0, .slice none 0 0] 32 (0, 0)) := by rw [← hw3, ← hpk]; exact alloc_new _ _
            have hs3 := hb3.size
            have hN3 := hN'.below hb3
            have hO3 := own_keep hown hb3 (Nat.le_refl _)
            have hOM3 := hOM2.below hb3 (by omega)
            have hB3 : Below H0 w w3 := hB2.trans (hb3.mono (by omega))
            have hpkM : pk ≠ M := by omega
            have hpkH : H0 < pk := by omega
            have d0 : w3.cell? ⟨pk, 0, none⟩ = some (.int .i64 0) := by rw [cell_of_row _ _ _ _ _ _ g3]; rfl
            have d1 : w3.cell? ⟨pk, 1, none⟩ = some (.int .i64 0) := by rw [cell_of_row _ _ _ _ _ _ g3]; rfl
            have d2 : w3.cell? ⟨pk, 2, none⟩ = some (.slice none 0 0) := by rw [cell_of_row _ _ _ _ _ _ g3]; rfl
            have f0 : w3.frozen? ⟨pk, 0, none⟩ = false := frozen_of_row _ _ _ _ _ g3
            have f1 : w3.frozen? ⟨pk, 1, none⟩ = false := frozen_of_row _ _ _ _ _ g3
            have f2 : w3.frozen? ⟨pk, 2, none⟩ = false := frozen_of_row _ _ _ _ _ g3
            have hr3 : ∀ g, r' = some g → g ≠ pk := fun g hg => by
              have : g < w2.heap.size := by subst hg; exact hN'.row_lt
              omega
            clear hown hN' hch hr' hOM2 hB2 hch2
            go_wp2_with (fail)
            refine tr_reads _ (by dsimp only [pick, at_]) ?_
            repeat (go_big_quiet_step (fail))
            refine wpQuiet_nil ?_
            refine tr_one _ (by dsimp only [pick, at_]) ?_
            intro K2 g1 g2
            clear g2
            go_wp2_with (fail)
            refine g1 _ _ hb3 ?_
            clear g1
            refine tr_one _ (by dsimp only [pick, at_]) ?_
            intro K2 g1 g2
            clear g2
            go_wp2_with (fail)
            obtain ⟨ws, hws⟩ : ∃ ws, ((w3.setCell ⟨pk, 0, none⟩ (.int .i64 (kk : Int))).setCell ⟨pk, 1, none⟩ (.int .i64 y)).setCell ⟨pk, 2, none⟩ (.slice A' bs.length c') = ws := ⟨_, rfl⟩
            obtain ⟨hcs, e0, e1, e2⟩ := stored3 g3 _ _ _ hws
            rw [hws]
            have hss := hcs.size
            refine g1 _ _ (hb3.trans (hcs.below (by omega) (fun b e => by omega))) ?_
            clear g1
            have hNs := hN3.chg hcs (by omega) (fun g hg e => hr3 g hg e) (fun b cur e => by subst e; rw [g3]; intro e; injection e with e; injection e with _ e; cases e)
            have hOs := own_chg hO3 hcs (fun g hg e => by
              subst e
              obtain ⟨cur, hcur⟩ := own_type hO3 hg
              rw [g3] at hcur
              injection hcur with e; injection e with _ e; cases e)
            have hOMs := hOM3.chg hcs (fun e => hpkM e.symm)
            have hBs : Below H0 w ws := hB3.trans (hcs.below (by omega) (fun b e => by omega))
            refine tr_reads _ (by dsimp only [pick, at_]) ?_
            repeat (go_big_quiet_step (fail))
            refine wpQuiet_nil ?_
            refine tr_stop ?_
            refine NoPanic.normal ?_
            have hMs : M < ws.heap.size := by omega
            have HNS := Lib.hid hNs
            have HOS := Lib.hid hOs
            have HOMS := Lib.hid hOMs
            have HBS := Lib.hid hBs
            clear hN3 hO3 hOM3 hB3 g3 d0 d1 d2 f0 f1 f2 hcs hb3 hw3 hws hNs hOs hOMs hBs
          case' c2 =>
            obtain ⟨pk, hpk⟩ : ∃ pk, wr.heap.size = pk := ⟨_, rfl⟩
            obtain ⟨wa, hwa⟩ : ∃ wa, (wr.alloc (.cells #[.int .i64 0, .int .i64 0, .slice none 0 0] 32)).drew = wa := ⟨_, rfl⟩
            have hba : Below wr.heap.size wr wa := by rw [← hwa]; exact ((Below.refl _ _).alloc (Nat.le_refl _) _).drew
            have ga : wa.heap[pk]? = some (.cells #[.int .i64 0, .int .i64 0, .slice none 0 0] 32 (0, 0)) := by rw [← hwa, ← hpk]; exact alloc_new _ _
            have hsa : pk < wa.heap.size := blk_lt ga
            have hrp : ∀ g, r = some g → g < pk := fun g hg => by
              have h0 := ON.out
              subst hg
              have := h0.row_lt
              omega
            have HBA := Lib.hid hba
            have GA := Lib.hid ga
            refine act_s _ (by dsimp only [pick, at_]) ?_
            intro K1 g1 g2
            clear g2 hba ga
            go_wp2_with (fail)
            refine g1 _ _ HBA.out ?_
            clear g1
            refine tr_write _ (by dsimp only [pick, at_]) ?_
            intro K2 g1
            go_wp2_with (fail)
            refine (HT.out wa HBA.out).mono ?_
            rintro e w3 ⟨r', A', c', rfl, hown, hN', hch, hr'⟩
            have hs3 := hch.size
            have hr'2 : ∀ g, r' = some g → H0 ≤ g ∧ g ≠ M := fun g hg => by
              rcases hr' with e | ⟨q', e, e2⟩
              · exact OR.out g (e ▸ hg)
              · rw [hg] at e; cases e
                omega
            have hpkM : pk ≠ M := by omega
            have hpkH : H0 < pk := by omega
            have g3 := hch.blk GA.out (by
              rintro (e | e)
              · omega
              · have := hrp _ e.symm; omega)
            have hOM3 := (OM.out.below HBA.out (by omega)).chg hch (by
              rintro (e | e)
              · exact hHM e.symm
              · exact (OR.out _ e.symm).2 rfl)
            have hB3 : Below H0 w w3 := (BW.out.trans (HBA.out.mono (by omega))).trans (hch.below (by omega) (fun b e => by
              rcases e with e | e
              · omega
              · exact (OR.out _ e.symm).1))
            have hr3 : ∀ g, r' = some g → g ≠ pk := fun g hg => by
              rcases hr' with e | ⟨q', e, e2⟩
              · have := hrp g (e ▸ hg); omega
              · rw [hg] at e; cases e
                omega
            have d0 : w3.cell? ⟨pk, 0, none⟩ = some (.int .i64 0) := by rw [cell_of_row _ _ _ _ _ _ g3]; rfl
            have d1 : w3.cell? ⟨pk, 1, none⟩ = some (.int .i64 0) := by rw [cell_of_row _ _ _ _ _ _ g3]; rfl
            have d2 : w3.cell? ⟨pk, 2, none⟩ = some (.slice none 0 0) := by rw [cell_of_row _ _ _ _ _ _ g3]; rfl
            have f0 : w3.frozen? ⟨pk, 0, none⟩ = false := frozen_of_row _ _ _ _ _ g3
            have f1 : w3.frozen? ⟨pk, 1, none⟩ = false := frozen_of_row _ _ _ _ _ g3
            have f2 : w3.frozen? ⟨pk, 2, none⟩ = false := frozen_of_row _ _ _ _ _ g3
            obtain ⟨ws, hws⟩ : ∃ ws, ((w3.setCell ⟨pk, 0, none⟩ (.int .i64 (kk : Int))).setCell ⟨pk, 1, none⟩ (.int .i64 y)).setCell ⟨pk, 2, none⟩ (.slice A' bs.length c') = ws := ⟨_, rfl⟩
            obtain ⟨hcs, e0, e1, e2⟩ := stored3 g3 _ _ _ hws
            have hss := hcs.size
            have hNs := hN'.chg hcs (by omega) (fun g hg e => hr3 g hg e) (fun b cur e => by subst e; rw [g3]; intro e; injection e with e; injection e with _ e; cases e)
            have hOs := own_chg hown hcs (fun g hg e => by
              subst e
              obtain ⟨cur, hcur⟩ := own_type hown hg
              rw [g3] at hcur
              injection hcur with e; injection e with _ e; cases e)
            have hOMs := hOM3.chg hcs (fun e => hpkM e.symm)
            have hBs : Below H0 w ws := hB3.trans (hcs.below (by omega) (fun b e => by omega))
            have HNS := Lib.hid hNs
            have HOS := Lib.hid hOs
            have HOMS := Lib.hid hOMs
            have HBS := Lib.hid hBs
            clear hown hN' hch hr' hOM3 hB3 hNs hOs hOMs hBs g3
            go_wp2_with (fail)
            refine tr_reads _ (by dsimp only [pick, at_]) ?_
            repeat (go_big_quiet_step (fail))
            refine wpQuiet_nil ?_
            refine tr_write _ (by dsimp only [pick, at_]) ?_
            intro K3 g1
            go_wp2_with (fail)
            refine tr_reads _ (by dsimp only [pick, at_]) ?_
            repeat (go_big_quiet_step (fail))
            refine wpQuiet_nil ?_
            refine tr_stop ?_
            refine NoPanic.normal ?_
            have hMs : M < ws.heap.size := by omega
            clear d0 d1 d2 f0 f1 f2 hcs hwa hws HBA GA
          all_goals
            have i5 : (0 : Int) ≤ (kk : Int) := by omega
            have i6 : (kk : Int) < (k : Int) := by omega
            have hkw : (Lit.int .i64 (kk : Int)).wf = true := by simp [Lit.wf, IntKind.min, IntKind.max, IntKind.signed, IntKind.bits]; omega
            have hkey : keyOf Try.prog 3 (.int .i64 (kk : Int)) = some (.int .i64 (kk : Int)) := keyOf_int_mk Try.underlying3 hkw
            have hOMs := HOMS.out
            clear q0 HT HLX HL ON OR OM
            go_wp2_with (first
              | (at_lookup; refine wpList_lookup_own_int _ rfl _ _ 29 rfl 3 3 .i64 law_int Try.underlying29 Try.underlying3 (zero_int _) M j D rfl hOMs _ _ rfl hkey ?_; intro c0 hat hwc; obtain rfl := seen_zero HUN.out hat; clear hat hwc)
              | (at_mapUpdate; refine wpList_mapUpdate_own _ rfl _ _ _ 29 rfl 3 3 law_int Try.underlying29 _ M j D rfl hOMs (by unfold maxLen; omega) _ (.int .i64 1) _ rfl rfl hkey _ [] (plainElem_int Try.underlying3 (by decide)) ?_; intro w5 hOM5 hg5))
            have hch5 : Chg (fun b => b = M) ws w5 := (Chg.refl _ _).grown hg5 (fun k0 e _ => by injection e with e; exact e.symm)
            have hs5 := hch5.size
            have hN5 := HNS.out.chg hch5 hHM (fun g hg e => (hr'2 g hg).2 e) (fun b cur e => by subst e; exact hOMs.not_row _ _ _)
            have hO5 := own_chg HOS.out hch5 (fun g hg e => by
              subst e
              obtain ⟨cur, hcur⟩ := own_type HOS.out hg
              exact hOMs.not_row _ _ _ hcur)
            have hB5 : Below H0 w w5 := HBS.out.trans (hch5.below (by omega) (fun b e => by omega))
            have q0 := Wb.at_ (chg_cell hch5 e0 (by simp only; omega))
            have q2 := Wb.at_ (chg_cell hch5 e2 (by simp only; omega))
            have hlk : ∀ u : Wb w5, (Instr.lookup 29 (.map (some M)) (.int .i64 (kk : Int)) false).run Try.prog u.w = .ok (.int .i64 1) u.w := fun u => OwnMap.look (OwnMap.below hOM5 u.h (by omega)) hkw (atKey_put_same (World.ownsMap.isMap hOMs) (show WideAt.IsKeyLit (.int .i64 (kk : Int)) from trivial) _ _)
            obtain ⟨b, off, A, L, C, bs', rfl, hbB, hls, hcw, hbs, hA, hLC, hC⟩ := h.at_ kk hkk
            obtain rfl : bs' = bs := by have := HLK.out; rw [hls] at this; injection this
            have q3 := Wb.at_ ((hB5.cell (p := ⟨b, off + kk, none⟩) hbB).trans hcw)
            have k0 : ∀ u : Wb w5, (convert 28 9 (.slice A' bs'.length c')).run Try.prog u.w = .ok (.string ⟨bs'.toArray⟩) u.w := fun u => conv_string (own_bs (own_keep hO5 u.h (Nat.le_refl _))) 28 9 5 Try.underlying28 Try.underlying9 Try.underlying5
            have k1 : ∀ u : Wb w5, (convert 28 9 (.slice A L C)).run Try.prog u.w = .ok (.string ⟨bs'.toArray⟩) u.w := fun u => conv_string (hbs.below (hB5.trans (u.h.mono (by omega))) (Nat.le_refl _)) 28 9 5 Try.underlying28 Try.underlying9 Try.underlying5
            have HN5 := Lib.hid hN5
            have HOM5 := Lib.hid hOM5
            have HB5 := Lib.hid hB5
            clear hN5 hOM5 hB5 hO5 hch5 hOMs hcw hbs hls e0 e1 e2 hg5 HNS HOS HOMS HBS hkey
            simp only [Act.put]
            refine wp_region_plan [([0, 1, 2, 3, 4, 5, 6, 7, 8, 9, 10, 11, 12, 13, 14, 15, 16, 17, 18, 19, 20], none)] (by kernel_rfl) (by kernel_rfl) ?_
            refine seg_end _ (by dsimp only [pick, at_]) ?_
            repeat (go_big_quiet_step (fail))
            refine wpQuiet_nil ?_
            refine NoPanic.normal ?_
            clear q0 q2 q3 k0 k1 hlk
            go_wp2_with (fail)
            go_roundw
            case rel => exact ⟨j + 1, r', P.eraseIdx q, _, by omega, by go_num, hel, HN5.out.drew, hr'2, World.ownsMap.drew HOM5.out, HST.out, by show M < w5.drew.heap.size; show M < w5.heap.size; omega, HB5.out.drew⟩
            case measure => simp [intOf]; omega
        · have hP0 : P = [] := by
            by_cases hjk : j < k
            · exact Classical.byContradiction fun e => hgo ⟨hjk, e⟩
            · exact List.eq_nil_of_length_eq_zero (by omega)
          subst hP0
          have hcnt2 : Maps.size D = want := by have := SE.out.count; simpa using this
          have hno := take_no wr H0 r [] ON.out 0 (by simp [inP])
          have HT := Lib.hid hno
          have HLX := Lib.hid (fun (u : World) (hu : Below wr.heap.size wr u) => len_x u H0 r [] (ON.out.below hu))
          clear hno hgo SE
          by_cases hjk : j < k
          case' pos =>
            have i2 : (j : Int) < (k : Int) := by omega
            go_wp2_with (fail)
            refine HL.out.mono ?_
            rintro e w2 ⟨rfl, rfl⟩
          case' neg =>
            have i2 : ¬ (j : Int) < (k : Int) := by omega
          all_goals
            go_wp2_with (fail)
            refine HT.out.mono ?_
            rintro e w2 ⟨rfl, hb2⟩
            have hs2 := hb2.size
            go_wp2_with (at_len; refine wpList_len_own _ rfl _ 29 rfl 3 3 Try.underlying29 (plainElem Try.prog 3) M j D rfl ((OM.out.below hb2 hMw).alloc _) ?_)
            refine (HLX.out _ (hb2.alloc hs2 _)).mono ?_
            rintro e w3 ⟨rfl, rfl⟩
            go_wp2_with (fail)
            go_ret
            exact ⟨rfl, BW.out.trans ((hb2.mono (by omega)).alloc (by omega) _)⟩

set_option maxRecDepth 100000 in
theorem walk_ok (a0 : Option Addr) (len0 cap0 : Nat) (a1 : Option Addr) (len1 cap1 : Nat) (zs : List Int) (w : World) (w0 : IsBRows w a0 len0 cap0) (w1 : IsRow .i64 w a1 len1 cap1 zs) :
    Calls Try.prog 3 #[.slice a0 len0 cap0, .slice a1 len1 cap1] w fun e w' => e = .returned (.bool true) ∧ Below w.heap.size w w' := by
  obtain ⟨ls, hls, hc, hm, _⟩ := w0
  unfold maxLen at hm
  by_cases h1 : len0 ≤ 256
  · by_cases h2 : len0 ≤ len1
    · exact walk_core a0 len0 cap0 ls a1 len1 cap1 zs w hls w1 h1 h2
    · have h1' : ¬ (256 : Int) < (len0 : Int) := by omega
      have h2' : (len1 : Int) < (len0 : Int) := by omega
      clear w1
      go_enter Try.func3, Try.ntmps3
      go_wp2_with (fail)
      go_ret
      exact ⟨rfl, Below.refl _ _⟩
  · have h1' : (256 : Int) < (len0 : Int) := by omega
    clear w1
    go_enter Try.func3, Try.ntmps3
    go_wp2_with (fail)
    go_ret
    exact ⟨rfl, Below.refl _ _⟩
end Go.Proofs.Ytcebmlcdhapnkaa.lawNetAll
