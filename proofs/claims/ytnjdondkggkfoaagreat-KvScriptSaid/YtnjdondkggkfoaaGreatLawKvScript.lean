/-
  The walk of the law KvScript: for all inputs it returns true.
-/
import Derived.Test.YtnjdondkggkfoaaGreatKsR
import Derived.Test.YtnjdondkggkfoaaGreatKvLaw
import Derived.Deep.CutBlock
namespace Go.Proofs.YtnjdondkggkfoaaGreat.lawKvScript
open Go.ChangeShapes Go.WideShapes Go.ChangeAt Go.RowKit Go.Shelf plain words ord mem pm ks

/-- steps as a list -/
def VE : El SV := ⟨SV.cells, 7, 27, fun _ => rfl, fun x v hv => by
  simp only [SV.cells, List.mem_cons, List.not_mem_nil, or_false] at hv
  rcases hv with rfl | rfl | rfl | rfl | rfl | rfl | rfl <;> rfl, by decide⟩
def FitS (W : World) (x : SV) : Prop := PVok W W.heap.size x.u ∧ x.n ≤ 9223372036854775807
set_option maxRecDepth 100000 in
set_option maxHeartbeats 1000000 in
theorem sv_fit {H : Type} {enc : TypeId × Value → H} {W : World} {cs : List Value} {n : Nat} {y : DataW H × List MemPlace}
    (h : DataW.trod enc Tryz.prog W 0 (fun _ => true) true n 27 cs = some y) : ∃ a : SV, a.cells = cs ∧ FitS W a := by
  obtain ⟨xs, k, _, rfl, hl, hlen, hf⟩ := DataW.trod_struct Tryz.underlying27 h
  rw [show Tryz.prog.cellsOf 27 = 7 by kernel_rfl] at hl
  obtain ⟨c0, c1, c2, c3, c4, c5, c6, rfl⟩ : ∃ c0 c1 c2 c3 c4 c5 c6, cs = [c0, c1, c2, c3, c4, c5, c6] := by
    match cs, hl with
    | [c0, c1, c2, c3, c4, c5, c6], _ => exact ⟨_, _, _, _, _, _, _, rfl⟩
  obtain ⟨x0, x1, x2, x3, x4, rfl⟩ : ∃ x0 x1 x2 x3 x4, xs = [x0, x1, x2, x3, x4] := by
    match xs, hlen with
    | [x0, x1, x2, x3, x4], _ => exact ⟨_, _, _, _, _, rfl⟩
  obtain ⟨v0, rfl, _⟩ := words.reads_int (k := .i64) (v := c0) Tryz.underlying3 ⟨_, _, hf 0 _ rfl⟩
  obtain ⟨v1, rfl, w1⟩ := words.reads_int (k := .i64) (v := c1) Tryz.underlying3 ⟨_, _, hf 1 _ rfl⟩
  obtain ⟨v2, rfl, _⟩ := words.reads_int (k := .i64) (v := c2) Tryz.underlying3 ⟨_, _, hf 2 _ rfl⟩
  obtain ⟨v3, rfl, _⟩ := words.reads_int (k := .i64) (v := c3) Tryz.underlying3 ⟨_, _, hf 3 _ rfl⟩
  obtain ⟨a, ha, hp⟩ := pl_reads (cs := [c4, c5, c6]) ⟨_, _, hf 4 _ rfl⟩
  have h9 := (Bool.and_eq_true _ _ ▸ w1 : decide (IntKind.i64.min ≤ v1) = true ∧ decide (v1 ≤ IntKind.i64.max) = true).2
  refine ⟨⟨v0, v1, v2, v3, a⟩, ?_, hp, of_decide_eq_true h9⟩
  show _ :: _ :: _ :: _ :: plE a = _
  rw [ha]
theorem svs_of {H : Type} {enc : TypeId × Value → H} {W : World} {a : Option Addr} {len cap : Nat} {d : DataW H} {p : List MemPlace}
    (h0 : DataW.Trod enc Tryz.prog W 0 (fun _ => true) true 48 (.slice a len cap) d p) : IsLs VE (FitS W) W a len cap :=
  lists_of VE (FitS W) Tryz.underlying48 (by kernel_rfl) (fun cs _ h => by
    obtain ⟨n, y, h⟩ := h
    exact sv_fit h) h0
/-- next, whatever is there -/
noncomputable def nextQ (b : Bool) (p : Pl) (k a c : Int) : Pl := if b then nextP p k a c else rinitPl [0, 1, 2] 2
theorem next_a (w : World) (B : Nat) (v : PV) (x : SV) (b : Bool) (h : PVok w B v) (hB : B ≤ w.heap.size) :
    Calls Tryz.prog 10 #[v.val, .bool b, x.val] w (RetN w (nextQ b v.pl x.a x.n x.b)) := by
  cases b with
  | true => exact next_l w B v x.u x.k x.n x.a x.b h hB
  | false => exact next0_l w v x.u x.k x.n x.a x.b
theorem op_other {w w' : World} {B g : Nat} {v : PV} {cur : Array Value} (h : OP w B v) (hc : Chg (fun k => k = g) w w') (hg : w.heap[g]? = some (.cells cur 25 (0, 0))) : OP w' B v :=
  ⟨ow_other h.n hc hg (by decide), ow_other h.s hc hg (by decide), fun r hr => ow_other (h.each r hr) hc hg (by decide)⟩
theorem bd_new {R : Int} (hR : 0 ≤ R) : Bd (dk.newSt R) R 0 0 0 :=
  ⟨Nat.le_refl _, Nat.le_refl _, Int.le_refl _, Int.le_refl _, by show max R 0 = R; omega, (fun x hx => by cases hx), .nil, (fun x hx => by cases hx), (fun x hx => by cases hx)⟩
/-- what holds ahead of a step -/
def At (w0 wr : World) (s p t r : Nat) (R : Int) (i : Nat) : Prop :=
  ∃ X st tx, BS X w0 wr s p t r st tx st tx ∧ Bd st R (300 * (i + 1)) (10 * (i + 1)) (10 * ((i : Int) + 1)) ∧ tx.length ≤ 300 * (i + 1)
set_option maxHeartbeats 8000000 in
set_option maxRecDepth 100000 in
theorem walk (ρ : Int) (a1 : Option Addr) (len1 cap1 : Nat) (w : World) (hρ0 : 0 ≤ ρ) (hρ1 : ρ ≤ 65535) (ws : IsLs VE (FitS w) w a1 len1 cap1) :
    Calls Tryz.prog 4 #[.int .u16 ρ, .slice a1 len1 cap1] w fun e w' => e = .returned (.bool true) ∧ Below w.heap.size w w' := by
  obtain ⟨sv, hsv, hfit, hcap1, hmost1, hnil1⟩ := ws
  have HST := Lib.hid hsv
  have HFIT := Lib.hid hfit
  clear hsv hfit
  by_cases hbig : 128 < len1
  · have hbz : (128 : Int) < (len1 : Int) := by omega
    clear hbig
    go_enter Tryz.func4, Tryz.ntmps4
    go_wp2_with (fail)
    go_ret
    exact ⟨rfl, Below.refl _ _⟩
  have hbz : ¬ (128 : Int) < (len1 : Int) := by omega
  have HNEW := Lib.hid (dk.new_d w ρ)
  go_enter Tryz.func4, Tryz.ntmps4
  go_wp2_with (fail)
  refine HNEW.out.mono ?_
  rintro e w1 ⟨p, rfl, hp, hd, hb1⟩
  have HD := Lib.hid (And.intro hd hb1)
  have HNR := Lib.hid (dk.new_r w1 ρ)
  have s01 := hb1.size
  clear hp hd hb1 HNEW
  go_wp2_with (fail)
  refine HNR.out.mono ?_
  rintro e w2 ⟨rfl, hm2, hb2, hs2⟩
  obtain ⟨r, hr⟩ : ∃ r, w1.heap.size = r := ⟨_, rfl⟩
  have hone2 : dk.One (fun k => k = r) w w2 p (dk.newSt ρ) := (dk.One.new HD.out.1 HD.out.2).mark hb2 (fun k hk => .inr (by rw [hk, hr]; exact Nat.le_refl _)) (fun k hk => by rw [hk, ← hr, hs2]; exact Nat.lt_succ_self _)
  rw [hr] at hm2
  have HM2 := Lib.hid hm2
  have HOP := Lib.hid (open_x _ w w2 p _ hone2)
  have hr2 : r < w2.heap.size := by rw [← hr, hs2]; exact Nat.lt_succ_self _
  have hwr : w.heap.size ≤ r := by omega
  clear hm2 hb2 hs2 hone2 HNR
  go_wp2_with (fail)
  refine HOP.out.mono ?_
  rintro e w3 ⟨s, rfl, hk3, hc3⟩
  have hm3 : dk.RM w3 r (fun k => k = r) (dk.newSt ρ) := HM2.out.chg hc3 (fun k hk e => e hk)
  have s23 := hc3.size
  have HK3 := Lib.hid hk3
  have HRO := Lib.hid (ropen_y w3 r _ _ hm3 ((bd_new hρ0).small (by decide) (by decide) (by decide)) (fun k hk => by rw [hk]; omega))
  clear hk3 hc3 hm3 HOP
  go_wp2_with (fail)
  refine HRO.out.mono ?_
  rintro e w4 ⟨t, rfl, hrs4, hb4, ht4⟩
  have s34 := hb4.size
  have hk4 := HK3.out.mark hb4 (Y := dk.Ext (fun k => k = r) w3 w4) (fun k hk => hk.imp id (fun e => e.1)) hrs4.lt
  have HAT := Lib.hid (show At w w4 s p t r ρ 0 from ⟨_, _, [], ⟨hk4, hrs4, hwr, by omega⟩, (bd_new hρ0).mono (by omega) (by omega) (by omega), by show 0 ≤ _; omega⟩)
  clear hrs4 hb4 hk4 HRO ht4
  go_wp2_with (fail)
  go_loopg [4, 7, 8, 9, 10, 11, 12, 13, 14, 15] len1 (fun gg s4 s7 s8 s9 s10 s11 s12 s13 s14 s15 wr => ∃ (i s t : Nat), s4 = .bool false ∧ s7 = dk.ptr s ∧ s8 = dk.ptr t ∧ s9 = .int .i64 i ∧ i ≤ len1 ∧ len1 - i ≤ gg ∧ Aside (At w wr s p t r ρ i))
  case atStart => exact ⟨0, s, t, rfl, rfl, rfl, rfl, Nat.zero_le _, by omega, HAT.out⟩
  case round =>
    clear HAT
    obtain ⟨i, s, t, rfl, rfl, rfl, rfl, hi, hg, HA⟩ := hrel
    obtain ⟨X, st, tx, hbs, hbd, htl⟩ := HA
    have HBS := Lib.hid hbs
    have HBD := Lib.hid (And.intro hbd htl)
    have hb0r := hbs.below0
    have s0r := hb0r.size
    by_cases hlt : i < len1
    · have hltz : (i : Int) < (len1 : Int) := by omega
      have i0 : (0 : Int) ≤ (i : Int) := by omega
      obtain ⟨⟨K, xn, xa, xb, xu⟩, hx⟩ := HST.out.get hlt
      have hfx := HFIT.out _ (List.mem_of_getElem? hx)
      have HFX := Lib.hid (show PVok w w.heap.size xu from hfx.1)
      obtain ⟨bs, os, hAs, hbsl, hcs⟩ := HST.out.at_ hx
      subst hAs
      have hk (j : Nat) (hj : j < 7) := (hb0r.cell (p := ⟨bs, os + (i * 7 + j), none⟩) hbsl).trans (hcs j hj)
      have k0 : wr.cell? ⟨bs, os + i * 7, none⟩ = some (.int .i64 K) := hk 0 (by decide)
      have k1 : wr.cell? ⟨bs, os + i * 7 + 1, none⟩ = some (.int .i64 xn) := hk 1 (by decide)
      have k2 : wr.cell? ⟨bs, os + i * 7 + 2, none⟩ = some (.int .i64 xa) := hk 2 (by decide)
      have k3 : wr.cell? ⟨bs, os + i * 7 + 3, none⟩ = some (.int .i64 xb) := hk 3 (by decide)
      have k4 : wr.cell? ⟨bs, os + i * 7 + 4, none⟩ = some (.int .i64 xu.ver) := hk 4 (by decide)
      have k5 : wr.cell? ⟨bs, os + i * 7 + 5, none⟩ = some (.slice xu.nA xu.nodes.length xu.nc) := hk 5 (by decide)
      have k6 : wr.cell? ⟨bs, os + i * 7 + 6, none⟩ = some (.slice xu.sA xu.rs.length xu.sc) := hk 6 (by decide)
      have hbsw : bs < wr.heap.size := by omega
      obtain ⟨wa, hwa⟩ : ∃ wa, wr.alloc (stepO K xn xa xb xu) = wa := ⟨_, rfl⟩
      have hba : Below wr.heap.size wr wa := by rw [← hwa]; exact (Below.refl _ _).alloc (Nat.le_refl _) _
      have ga : wa.heap[wr.heap.size]? = some (stepO K xn xa xb xu) := by rw [← hwa]; exact alloc_new _ _
      obtain ⟨O, hO⟩ : ∃ O, wr.heap.size = O := ⟨_, rfl⟩
      have sra := hba.size
      have HXU := Lib.hid (And.intro (hfx.1.below (hb0r.trans (hba.mono s0r)) (Nat.le_refl _)) hfx.2)
      have HHV := Lib.hid (kv.heavy_kl wa w.heap.size xu HXU.out.1 (by omega))
      obtain ⟨hvb, hhv⟩ : ∃ z, kv.heavyKB xu = z := ⟨_, rfl⟩
      rw [hhv] at HHV
      have HBA := Lib.hid (And.intro hba hb0r)
      rw [hO] at ga
      have HGA := Lib.hid ga
      obtain ⟨d0, d1, d2, d3, d4, d5, d6⟩ : wa.cell? ⟨O, 0, none⟩ = some (.int .i64 K) ∧ wa.cell? ⟨O, 1, none⟩ = some (.int .i64 xn) ∧ wa.cell? ⟨O, 2, none⟩ = some (.int .i64 xa) ∧ wa.cell? ⟨O, 3, none⟩ = some (.int .i64 xb) ∧ wa.cell? ⟨O, 4, none⟩ = some (.int .i64 xu.ver) ∧ wa.cell? ⟨O, 5, none⟩ = some (.slice xu.nA xu.nodes.length xu.nc) ∧ wa.cell? ⟨O, 6, none⟩ = some (.slice xu.sA xu.rs.length xu.sc) := by
        refine ⟨?_, ?_, ?_, ?_, ?_, ?_, ?_⟩ <;> (rw [cell_of_row _ _ _ _ _ _ ga]; rfl)
      have la := blk_lt ga
      clear hx hfx hk hcs hhv hba ga hbs hbd htl hb0r
      go_wp2_with (fail)
      refine HHV.out.mono ?_
      rintro e wh ⟨rfl, hbh⟩
      clear hwa
      have sah := hbh.size
      have hbrh : Below wr.heap.size wr wh := HBA.out.1.trans (hbh.mono sra)
      have hbsh := HBS.out.mark hbrh
      have gh := blk_below hbh HGA.out la
      have HH := Lib.hid (And.intro hbsh (And.intro gh (And.intro hbrh (HXU.out.1.below hbh (by omega)))))
      clear k0 k1 k2 k3 k4 k5 k6 d0 d1 d2 d3 d4 d5 d6 HHV
      by_cases hv : hvb = true
      · subst hv
        have HF := Lib.hid (HBA.out.2.trans (hbrh.mono s0r))
        clear hbh hbrh hbsh gh
        go_wp2_with (fail)
        go_ret
        exact ⟨rfl, HF.out⟩
      obtain rfl : hvb = false := by simpa using hv
      obtain ⟨d0, d1, d2, d3, d4, d5, d6⟩ : wh.cell? ⟨O, 0, none⟩ = some (.int .i64 K) ∧ wh.cell? ⟨O, 1, none⟩ = some (.int .i64 xn) ∧ wh.cell? ⟨O, 2, none⟩ = some (.int .i64 xa) ∧ wh.cell? ⟨O, 3, none⟩ = some (.int .i64 xb) ∧ wh.cell? ⟨O, 4, none⟩ = some (.int .i64 xu.ver) ∧ wh.cell? ⟨O, 5, none⟩ = some (.slice xu.nA xu.nodes.length xu.nc) ∧ wh.cell? ⟨O, 6, none⟩ = some (.slice xu.sA xu.rs.length xu.sc) := by
        refine ⟨?_, ?_, ?_, ?_, ?_, ?_, ?_⟩ <;> (rw [cell_of_row _ _ _ _ _ _ gh]; rfl)
      have lh := blk_lt gh
      have srh := hbrh.size
      clear hv hbh hbrh hbsh gh
      go_upto_block 2 with (fail)
      go_cut [4, 7, 8, 11] (fun s4 s7 s8 s11 wx => s4 = .bool false ∧ ∃ (s' t' : Nat), s7 = dk.ptr s' ∧ s8 = dk.ptr t' ∧ At w wx s' p t' r ρ (i + 1) ∧ wx.heap[O]? = some (stepO K xn xa xb xu) ∧ wh.heap.size ≤ wx.heap.size)
      case first =>
        by_cases e0 : K = 0
        · as_aux_lemma =>
            subst e0
            obtain ⟨v0, y1, y2, y3, y4, hvp, hvok, ltt⟩ := HH.out.1.2.1.view
            obtain ⟨isb, hisb⟩ : ∃ b, decide (kv.decE tx = 0) = b := ⟨_, rfl⟩
            rw [hisb] at y4
            have HNX := Lib.hid (fun (u : World) (hu : Below wh.heap.size wh u) => (show Calls Tryz.prog 10 #[v0.val, .bool isb, stepV 0 xn xa xb xu] u (RetN u (nextQ isb v0.pl xa xn xb)) from next_a u wh.heap.size v0 ⟨0, xn, xa, xb, xu⟩ isb (hvok.below hu (Nat.le_refl _)) hu.size))
            obtain ⟨Q, hQ⟩ : ∃ Q, nextQ isb v0.pl xa xn xb = Q := ⟨_, rfl⟩
            rw [hQ] at HNX
            clear hQ hisb hvok
            have HVP := Lib.hid hvp
            go_upto_region 17 with (fail)
            have q0 := Wf.at_ (F := fun _ => False) y1 (fun e => e)
            have q1 := Wf.at_ (F := fun _ => False) y2 (fun e => e)
            have q2 := Wf.at_ (F := fun _ => False) y3 (fun e => e)
            have q3 := Wf.at_ (F := fun _ => False) y4 (fun e => e)
            have j0 := Wf.at_ (F := fun _ => False) d0 (fun e => e)
            have j1 := Wf.at_ (F := fun _ => False) d1 (fun e => e)
            have j2 := Wf.at_ (F := fun _ => False) d2 (fun e => e)
            have j3 := Wf.at_ (F := fun _ => False) d3 (fun e => e)
            have j4 := Wf.at_ (F := fun _ => False) d4 (fun e => e)
            have j5 := Wf.at_ (F := fun _ => False) d5 (fun e => e)
            have j6 := Wf.at_ (F := fun _ => False) d6 (fun e => e)
            go_cut [11] (fun s11 wx => ∃ (ga : Nat) (q : PV), s11 = .pointer (some ⟨ga, 0, none⟩) ∧ pm.Boxed wx ga q ∧ q.pl = Q ∧ OP wx wh.heap.size q ∧ wh.heap.size ≤ ga ∧ Below wh.heap.size wh wx)
            case first =>
              refine fr.wp_region_tree (F := fun _ => False) (.reads [0, 1, 2, 3, 4, 5, 6, 7, 8] (.two 9 false (.one 10 false (.one 11 true .stop)) 10 false (.one 9 false (.one 11 true .stop)))) (by kernel_rfl) (by kernel_rfl) ?_
              refine fr.tr_reads _ (by dsimp only [pick, ord.at_]) ?_
              repeat (go_big_quiet_step (fail))
              refine wpQuiet_nil ?_
              refine fr.tr_two ?_ ?_
              · refine fr.act_s _ (by dsimp only [pick, ord.at_]) ?_
                intro K1 g1 g2
                clear g1
                go_wp2_with (fail)
                refine (HNX.out wh.drew (Below.refl _ _).drew).mono ?_
                rintro e w1 ⟨q, rfl, hqp, hqo, hqb⟩
                have hb1 : Below wh.heap.size wh w1 := (Below.refl _ _).drew.trans hqb
                have HQ1 := Lib.hid (And.intro hqp (And.intro hqo hb1))
                have z1 := hb1.size
                clear hqp hqo hqb
                go_wp2_with (fail)
                refine g2 _ _ (Chg.of_below hb1) ?_
                clear g2 hb1
                refine fr.tr_one _ (by dsimp only [pick, ord.at_]) ?_
                intro K1 g1 g2
                clear g1
                go_wp2_with (fail)
                refine g2 _ _ (Chg.of_below (below_al _ _)) ?_
                clear g2
                obtain ⟨w2, hw2⟩ : ∃ w2, w1.alloc (.cells #[.int .i64 0, .slice none 0 0, .slice none 0 0] 25) = w2 := ⟨_, rfl⟩
                have hb2 : Below w1.heap.size w1 w2 := by rw [← hw2]; exact below_al _ _
                have GA := Lib.hid (show IsV3 25 w2 w1.heap.size (.int .i64 0) (.slice none 0 0) (.slice none 0 0) by rw [← hw2]; exact alloc_new w1 _)
                rw [hw2]
                clear hw2
                have z2 := hb2.size
                have hb02 : Below wh.heap.size wh w2 := HQ1.out.2.2.trans (hb2.mono z1)
                have HB2 := Lib.hid hb02
                have HQ2 := Lib.hid ((HQ1.out.2.1.below hb2 (Nat.le_refl _)).base (C := wh.heap.size) (Nat.le_refl _))
                obtain ⟨ga, hga⟩ : ∃ ga, w1.heap.size = ga := ⟨_, rfl⟩
                have hgz : wh.heap.size ≤ ga := by rw [← hga]; exact z1
                have GB := Lib.hid (show IsV3 25 w2 ga (.int .i64 0) (.slice none 0 0) (.slice none 0 0) by rw [← hga]; exact GA.out)
                simp only [hga]
                clear hga hb2 hb02 GA z2
                obtain ⟨⟨d0', d1', d2'⟩, df0, df1, df2⟩ := isv3_cells GB.out
                have hlA : ga < w2.heap.size := blk_lt GB.out
                refine fr.tr_write _ (by dsimp only [pick, ord.at_]) ?_
                intro K2 g3
                go_wp2_with (fail)
                refine fr.tr_stop ?_
                refine NoPanic.normal ?_
                go_wp2_with (fail)
                go_meet
                refine ⟨ga, q, rfl, set3 GB.out, HQ1.out.1, op_other HQ2.out (chg_set3 _ _ _) GB.out, hgz, ?_⟩
                exact below_set3 HB2.out hgz _ _ _
              · refine fr.act_s _ (by dsimp only [pick, ord.at_]) ?_
                intro K1 g1 g2
                clear g1
                go_wp2_with (fail)
                refine g2 _ _ (Chg.of_below (below_al wh _).drew) ?_
                clear g2
                obtain ⟨w1, hw1⟩ : ∃ w1, (wh.alloc (.cells #[.int .i64 0, .slice none 0 0, .slice none 0 0] 25)).drew = w1 := ⟨_, rfl⟩
                have hb1 : Below wh.heap.size wh w1 := by rw [← hw1]; exact (below_al wh _).drew
                have GA := Lib.hid (show IsV3 25 w1 wh.heap.size (.int .i64 0) (.slice none 0 0) (.slice none 0 0) by rw [← hw1]; exact alloc_new wh _)
                rw [hw1]
                clear hw1
                have z1 := hb1.size
                have HB1 := Lib.hid hb1
                have HN1 := Lib.hid (HNX.out w1 hb1)
                clear hb1
                refine fr.tr_one _ (by dsimp only [pick, ord.at_]) ?_
                intro K1 g1 g2
                clear g1
                go_wp2_with (fail)
                refine HN1.out.mono ?_
                rintro e w2 ⟨q, rfl, hqp, hqo, hqb⟩
                have HQ1 := Lib.hid (And.intro hqp (And.intro hqo hqb))
                go_wp2_with (fail)
                refine g2 _ _ (Chg.of_below hqb) ?_
                clear g2
                have hb02 : Below wh.heap.size wh w2 := HB1.out.trans (hqb.mono z1)
                have HB2 := Lib.hid hb02
                have hgl1 := blk_lt GA.out
                have HQ2 := Lib.hid (hqo.base (C := wh.heap.size) z1)
                have GA2 := Lib.hid (blk_below hqb GA.out hgl1)
                obtain ⟨ga, hga⟩ : ∃ ga, wh.heap.size = ga := ⟨_, rfl⟩
                have hgz : wh.heap.size ≤ ga := by rw [← hga]; exact Nat.le_refl _
                have GB := Lib.hid (show IsV3 25 w2 ga (.int .i64 0) (.slice none 0 0) (.slice none 0 0) by rw [← hga]; exact GA2.out)
                clear hqp hqo hqb hb02 GA GA2 hgl1
                simp only [hga]
                clear hga
                obtain ⟨⟨d0', d1', d2'⟩, df0, df1, df2⟩ := isv3_cells GB.out
                have hlA : ga < w2.heap.size := blk_lt GB.out
                refine fr.tr_write _ (by dsimp only [pick, ord.at_]) ?_
                intro K2 g3
                go_wp2_with (fail)
                refine fr.tr_stop ?_
                refine NoPanic.normal ?_
                go_wp2_with (fail)
                go_meet
                refine ⟨ga, q, rfl, set3 GB.out, HQ1.out.1, op_other HQ2.out (chg_set3 _ _ _) GB.out, hgz, ?_⟩
                exact below_set3 HB2.out hgz _ _ _
            case rest =>
              clear q0 q1 q2 q3 j0 j1 j2 j3 j4 j5 j6 y1 y2 y3 y4 d0 d1 d2 d3 d4 d5 d6 HNX
              obtain ⟨ga, q, rfl, hgq, hqp, hqo, hgz, hbc⟩ := hcut
              obtain ⟨wc, hwc⟩ : ∃ x, x = wc := ⟨wc, rfl⟩
              obtain rfl := hwc
              have sbc := hbc.size
              have hbsc := HH.out.1.mark hbc
              have HBC := Lib.hid hbsc
              obtain ⟨v0', y1, _, _, _, hvp', _, ltt'⟩ := hbsc.2.1.view
              have hver : v0'.ver = (kv.decP tx).ver := by have : v0'.pl.ver = v0'.ver := rfl; rw [← this, hvp']
              obtain ⟨vr, hvr⟩ : ∃ x, v0'.ver = x := ⟨_, rfl⟩
              rw [hvr] at y1
              have gOc := blk_below hbc HH.out.2.1 lh
              have INO : (dk.Ext (dk.Ext X wr wh) wh wc) O := .inl (.inr ⟨by omega, lh⟩)
              have NOR : O ≠ r := fun e => by have := HBS.out.2.1.ne; omega
              have NOT : O ≠ t := fun e => by have := HBS.out.2.1.ne; omega
              have INT : (dk.Ext (dk.Ext X wr wh) wh wc) t := hbsc.2.1.own.2
              have INA : (dk.Ext (dk.Ext X wr wh) wh wc) ga := .inr ⟨hgz, blk_lt hgq⟩
              obtain ⟨⟨c0, c1, c2⟩, _, _, _⟩ := isv3_cells hgq
              have lga := blk_lt hgq
              have HQC := Lib.hid (And.intro hqp (And.intro hqo hgq))
              have HIN := Lib.hid (And.intro INO (And.intro NOR NOT))
              have GOC := Lib.hid gOc
              have r0 := Wf.at_ (F := fun b => ¬ (dk.Ext (dk.Ext X wr wh) wh wc) b) y1 (fun e => e INT)
              have r1 := Wf.at_ (F := fun b => ¬ (dk.Ext (dk.Ext X wr wh) wh wc) b) c0 (fun e => e INA)
              have r2 := Wf.at_ (F := fun b => ¬ (dk.Ext (dk.Ext X wr wh) wh wc) b) c1 (fun e => e INA)
              have r3 := Wf.at_ (F := fun b => ¬ (dk.Ext (dk.Ext X wr wh) wh wc) b) c2 (fun e => e INA)
              clear hgq hqp hqo hbc hbsc gOc hvp' hver hvr INO NOR NOT INT INA
              have hset := set_k (dk.Ext (dk.Ext X wr wh) wh wc) w wc.drew s p st tx vr wc.heap.size q (HBC.out.quiet (Below.refl _ _).drew).1 (by have := HBD.out.2; omega) (HQC.out.2.1.ok.drew) (Nat.le_refl _) (fun hc => HBD.out.1.can (by omega) (by omega) (by omega) hρ0 (by omega) _ hc)
              have HSET := Lib.hid hset
              clear hset
              go_wp2_with (fail)
              refine fr.wp_region_tree (F := fun b => ¬ (dk.Ext (dk.Ext X wr wh) wh wc) b) (.reads [0, 1, 2, 3, 4, 5, 6, 8, 9, 10, 11, 12, 13, 14] (.one 7 false (.one 15 true (.reads [16] .stop)))) (by kernel_rfl) (by kernel_rfl) ?_
              refine fr.tr_reads _ (by dsimp only [pick, ord.at_]) ?_
              repeat (go_big_quiet_step (fail))
              refine wpQuiet_nil ?_
              clear r0 r1 r2 r3 y1 c0 c1 c2
              refine fr.tr_one _ (by dsimp only [pick, ord.at_]) ?_
              intro K1 g1 g2
              clear g2
              go_wp2_with (fail)
              refine HSET.out.mono ?_
              rintro e wm ⟨rfl, hkm, hcm⟩
              have hcm2 : Chg (fun k => ¬ (dk.Ext (dk.Ext X wr wh) wh wc) k) wc wm := (Chg.refl _ _).drew.trans hcm (fun _ _ e => e)
              have hbm := (HBC.out.quiet (Below.refl _ _).drew).prog (v := .int .i64 0) (e := .returned (.int .i64 0)) ⟨rfl, hkm, hcm⟩
              have HBM := Lib.hid (And.intro hbm hcm2)
              have hrs := rset_y (dk.Ext (dk.Ext X wr wh) wh wc) wm t r st tx vr wm.heap.size q hbm.2.1 ((op_keep HQC.out.2.1 hcm2 (fun k a b e => e (.inr ⟨a, b⟩))).ok) (Nat.le_refl _) (fun hc => HBD.out.1.can (by omega) (by omega) (by omega) hρ0 (by omega) _ hc)
              have HRS := Lib.hid hrs
              clear hkm hcm hcm2 hbm hrs HSET
              go_wp2_with (fail)
              refine g1 _ _ HBM.out.2 ?_
              clear g1
              refine fr.tr_write _ (by dsimp only [pick, ord.at_]) ?_
              intro K2 g3
              go_wp2_with (fail)
              refine HRS.out.mono ?_
              rintro e wn ⟨rfl, hrw⟩
              obtain ⟨f, hf⟩ : ∃ f, (setS st tx vr (q).pl).2.2 = f := ⟨_, rfl⟩
              have hbd9 := HBD.out.1.set tx vr (q).pl
              have htl9 : (setS st tx vr (q).pl).2.1.length ≤ 300 * (i + 1 + 1) := by
                have h1 := HBD.out.2
                have h2 : (setS st tx vr (q).pl).2.1 = tx ∨ ((setS st tx vr (q).pl).2.1 = kv.encP (q).pl ∧ chk (q).pl = 0) := by
                  unfold setS
                  split
                  · rename_i hc
                    split
                    · show (if (wrS st (kv.encP (q).pl)).2 = 0 then kv.encP (q).pl else tx) = tx ∨ ((if (wrS st (kv.encP (q).pl)).2 = 0 then kv.encP (q).pl else tx) = kv.encP (q).pl ∧ _)
                      split
                      · exact .inr ⟨rfl, hc⟩
                      · exact .inl rfl
                    · exact .inl rfl
                  · exact .inl rfl
                rcases h2 with e | ⟨e, hc⟩
                · rw [e]; omega
                · rw [e]; have := encP_small (chk_iff.1 hc); omega
              have gOn : wn.heap[O]? = some (stepO 0 xn xa xb xu) := hrw.2.blk (HBM.out.2.blk GOC.out (fun e => e HIN.out.1)) (fun e => by rcases e with e | e; exact HIN.out.2.1 e; exact HIN.out.2.2 e)
              have HAT := Lib.hid (show At w wn s p t r ρ (i + 1) from ⟨_, _, _, HBM.out.1.ref hrw, hbd9.mono (by omega) (by omega) (by push_cast; omega), htl9⟩)
              have HGO := Lib.hid (And.intro gOn (show wh.heap.size ≤ wn.heap.size from by have := HBM.out.2.size; have := hrw.2.size; have := sbc; omega))
              have hff : (f != f) = false := by simp
              clear hrw hbd9 htl9 gOn HRS
              rw [hf]
              clear hf
              go_wp2_with (fail)
              refine fr.tr_reads _ (by dsimp only [pick, ord.at_]) ?_
              repeat (go_big_quiet_step (fail))
              refine wpQuiet_nil ?_
              refine fr.tr_stop ?_
              refine NoPanic.normal ?_
              go_wp2_with (fail)
              go_meet
              exact ⟨rfl, s, t, rfl, rfl, HAT.out, HGO.out.1, HGO.out.2⟩
        by_cases e1 : K = 1
        · as_aux_lemma =>
            subst e1
            have INO : (dk.Ext X wr wh) O := .inr ⟨by omega, lh⟩
            have NOR : O ≠ r := fun e => by have := HBS.out.2.1.ne; omega
            have NOT : O ≠ t := fun e => by have := HBS.out.2.1.ne; omega
            have HIN := Lib.hid (And.intro INO (And.intro NOR NOT))
            have HBC := Lib.hid HH.out.1
            have j1 := Wf.at_ (F := fun b => ¬ (dk.Ext X wr wh) b) d1 (fun e => e INO)
            have j4 := Wf.at_ (F := fun b => ¬ (dk.Ext X wr wh) b) d4 (fun e => e INO)
            have j5 := Wf.at_ (F := fun b => ¬ (dk.Ext X wr wh) b) d5 (fun e => e INO)
            have j6 := Wf.at_ (F := fun b => ¬ (dk.Ext X wr wh) b) d6 (fun e => e INO)
            clear INO NOR NOT
            have hset := set_k (dk.Ext X wr wh) w wh.drew s p st tx xn wh.heap.size xu (HBC.out.quiet (Below.refl _ _).drew).1 (by have := HBD.out.2; omega) ((HH.out.2.2.2.more (C := wh.heap.size) (by omega)).drew) (Nat.le_refl _) (fun hc => HBD.out.1.can (by omega) (by omega) (by omega) hρ0 (by omega) _ hc)
            have HSET := Lib.hid hset
            clear hset
            go_wp2_with (fail)
            refine fr.wp_region_tree (F := fun b => ¬ (dk.Ext X wr wh) b) (.reads [0, 1, 2, 3, 4, 6, 7, 8, 9, 10] (.one 5 false (.one 11 true (.reads [12] .stop)))) (by kernel_rfl) (by kernel_rfl) ?_
            refine fr.tr_reads _ (by dsimp only [pick, ord.at_]) ?_
            repeat (go_big_quiet_step (fail))
            refine wpQuiet_nil ?_
            clear j1 j4 j5 j6 d0 d1 d2 d3 d4 d5 d6
            refine fr.tr_one _ (by dsimp only [pick, ord.at_]) ?_
            intro K1 g1 g2
            clear g2
            go_wp2_with (fail)
            refine HSET.out.mono ?_
            rintro e wm ⟨rfl, hkm, hcm⟩
            have hcm2 : Chg (fun k => ¬ (dk.Ext X wr wh) k) wh wm := (Chg.refl _ _).drew.trans hcm (fun _ _ e => e)
            have hbm := (HBC.out.quiet (Below.refl _ _).drew).prog (v := .int .i64 0) (e := .returned (.int .i64 0)) ⟨rfl, hkm, hcm⟩
            have HBM := Lib.hid (And.intro hbm hcm2)
            have hrs := rset_y (dk.Ext X wr wh) wm t r st tx xn wm.heap.size xu hbm.2.1 ((HFX.out.below hbm.below0 (Nat.le_refl _)).more hbm.below0.size) (Nat.le_refl _) (fun hc => HBD.out.1.can (by omega) (by omega) (by omega) hρ0 (by omega) _ hc)
            have HRS := Lib.hid hrs
            clear hkm hcm hcm2 hbm hrs HSET
            go_wp2_with (fail)
            refine g1 _ _ HBM.out.2 ?_
            clear g1
            refine fr.tr_write _ (by dsimp only [pick, ord.at_]) ?_
            intro K2 g3
            go_wp2_with (fail)
            refine HRS.out.mono ?_
            rintro e wn ⟨rfl, hrw⟩
            obtain ⟨f, hf⟩ : ∃ f, (setS st tx xn (xu).pl).2.2 = f := ⟨_, rfl⟩
            have hbd9 := HBD.out.1.set tx xn (xu).pl
            have htl9 : (setS st tx xn (xu).pl).2.1.length ≤ 300 * (i + 1 + 1) := by
              have h1 := HBD.out.2
              have h2 : (setS st tx xn (xu).pl).2.1 = tx ∨ ((setS st tx xn (xu).pl).2.1 = kv.encP (xu).pl ∧ chk (xu).pl = 0) := by
                unfold setS
                split
                · rename_i hc
                  split
                  · show (if (wrS st (kv.encP (xu).pl)).2 = 0 then kv.encP (xu).pl else tx) = tx ∨ ((if (wrS st (kv.encP (xu).pl)).2 = 0 then kv.encP (xu).pl else tx) = kv.encP (xu).pl ∧ _)
                    split
                    · exact .inr ⟨rfl, hc⟩
                    · exact .inl rfl
                  · exact .inl rfl
                · exact .inl rfl
              rcases h2 with e | ⟨e, hc⟩
              · rw [e]; omega
              · rw [e]; have := encP_small (chk_iff.1 hc); omega
            have gOn : wn.heap[O]? = some (stepO 1 xn xa xb xu) := hrw.2.blk (HBM.out.2.blk HH.out.2.1 (fun e => e HIN.out.1)) (fun e => by rcases e with e | e; exact HIN.out.2.1 e; exact HIN.out.2.2 e)
            have HAT := Lib.hid (show At w wn s p t r ρ (i + 1) from ⟨_, _, _, HBM.out.1.ref hrw, hbd9.mono (by omega) (by omega) (by push_cast; omega), htl9⟩)
            have HGO := Lib.hid (And.intro gOn (show wh.heap.size ≤ wn.heap.size from by have := HBM.out.2.size; have := hrw.2.size; have := srh; omega))
            have hff : (f != f) = false := by simp
            clear hrw hbd9 htl9 gOn HRS
            rw [hf]
            clear hf
            go_wp2_with (fail)
            refine fr.tr_reads _ (by dsimp only [pick, ord.at_]) ?_
            repeat (go_big_quiet_step (fail))
            refine wpQuiet_nil ?_
            refine fr.tr_stop ?_
            refine NoPanic.normal ?_
            go_wp2_with (fail)
            go_meet
            exact ⟨rfl, s, t, rfl, rfl, HAT.out, HGO.out.1, HGO.out.2⟩
        by_cases e3 : K = 3
        · subst e3
          have INO : (dk.Ext X wr wh) O := .inr ⟨by omega, lh⟩
          have NOR : O ≠ r := fun e => by have := HBS.out.2.1.ne; omega
          have NOT : O ≠ t := fun e => by have := HBS.out.2.1.ne; omega
          have hpd := HH.out.1.1.on (st' := dk.cutSt st xn xa xb) (fun F hF => dk.cut_d wh p F st xn xa xb hF)
          have HPD := Lib.hid hpd
          clear hpd
          go_wp2_with (fail)
          refine HPD.out.mono ?_
          rintro e wm ⟨rfl, hkm, hcm⟩
          have hbm := HH.out.1.prog (v := .int .i64 0) (e := .returned (.int .i64 0)) ⟨rfl, hkm, hcm⟩
          have gm := hcm.blk HH.out.2.1 (fun e => e INO)
          clear d0 d1 d2 d3 d4 d5 d6
          obtain ⟨d1, d2, d3⟩ : wm.cell? ⟨O, 1, none⟩ = some (.int .i64 xn) ∧ wm.cell? ⟨O, 2, none⟩ = some (.int .i64 xa) ∧ wm.cell? ⟨O, 3, none⟩ = some (.int .i64 xb) := by
            refine ⟨?_, ?_, ?_⟩ <;> (rw [cell_of_row _ _ _ _ _ _ gm]; rfl)
          have lm := blk_lt gm
          have hrd := hbm.2.1.on (st' := dk.cutSt st xn xa xb) (fun XD hm hl => dk.cut_r wm r XD st xn xa xb hm)
          have HRD := Lib.hid hrd
          have HBM := Lib.hid (And.intro hbm gm)
          have smh := hcm.size
          clear hkm hcm hbm gm hrd HPD
          go_wp2_with (fail)
          refine HRD.out.mono ?_
          rintro e wn ⟨rfl, hrw⟩
          have HAT := Lib.hid (show At w wn s p t r ρ (i + 1) from ⟨_, _, _, HBM.out.1.ref hrw, (HBD.out.1.cut xn xa xb HXU.out.2).mono (by omega) (by omega) (by push_cast; omega), by have := HBD.out.2; omega⟩)
          have HGO := Lib.hid (And.intro (hrw.2.blk HBM.out.2 (fun e => by rcases e with e | e; exact NOR e; exact NOT e)) (show wh.heap.size ≤ wn.heap.size from by have := hrw.2.size; omega))
          clear hrw HRD
          go_wp2_with (fail)
          go_meet
          exact ⟨rfl, s, t, rfl, rfl, HAT.out, HGO.out.1, HGO.out.2⟩
        by_cases e4 : K = 4
        · subst e4
          have INO : (dk.Ext X wr wh) O := .inr ⟨by omega, lh⟩
          have NOR : O ≠ r := fun e => by have := HBS.out.2.1.ne; omega
          have NOT : O ≠ t := fun e => by have := HBS.out.2.1.ne; omega
          have hpd := HH.out.1.1.on (st' := dk.crashSt st xa xb) (fun F hF => dk.crash_d wh p F st xa xb hF (by have := HBD.out.1.sum; omega) (by have := HBD.out.1.len; omega))
          have HPD := Lib.hid hpd
          clear hpd
          go_wp2_with (fail)
          refine HPD.out.mono ?_
          rintro e wm ⟨rfl, hkm, hcm⟩
          have hbm := HH.out.1.prog (v := .int .i64 0) (e := .returned (.int .i64 0)) ⟨rfl, hkm, hcm⟩
          have gm := hcm.blk HH.out.2.1 (fun e => e INO)
          clear d0 d1 d2 d3 d4 d5 d6
          obtain ⟨d1, d2, d3⟩ : wm.cell? ⟨O, 1, none⟩ = some (.int .i64 xn) ∧ wm.cell? ⟨O, 2, none⟩ = some (.int .i64 xa) ∧ wm.cell? ⟨O, 3, none⟩ = some (.int .i64 xb) := by
            refine ⟨?_, ?_, ?_⟩ <;> (rw [cell_of_row _ _ _ _ _ _ gm]; rfl)
          have lm := blk_lt gm
          have hrd := hbm.2.1.on (st' := dk.crashSt st xa xb) (fun XD hm hl => dk.crash_r wm r XD st xa xb hm (by have := HBD.out.1.sum; omega) (by have := HBD.out.1.len; omega))
          have HRD := Lib.hid hrd
          have HBM := Lib.hid (And.intro hbm gm)
          have smh := hcm.size
          clear hkm hcm hbm gm hrd HPD
          go_wp2_with (fail)
          refine HRD.out.mono ?_
          rintro e wn ⟨rfl, hrw⟩
          have HAT := Lib.hid (show At w wn s p t r ρ (i + 1) from ⟨_, _, _, HBM.out.1.ref hrw, (HBD.out.1.crash xa xb).mono (by omega) (by omega) (by push_cast; omega), by have := HBD.out.2; omega⟩)
          have HGO := Lib.hid (And.intro (hrw.2.blk HBM.out.2 (fun e => by rcases e with e | e; exact NOR e; exact NOT e)) (show wh.heap.size ≤ wn.heap.size from by have := hrw.2.size; omega))
          clear hrw HRD
          go_wp2_with (fail)
          go_meet
          exact ⟨rfl, s, t, rfl, rfl, HAT.out, HGO.out.1, HGO.out.2⟩
        by_cases e2 : K = 2
        · subst e2
          have INO : (dk.Ext X wr wh) O := .inr ⟨by omega, lh⟩
          have HB2 := Lib.hid HH.out.1
          have hop := open_x (dk.Ext X wr wh) w wh p _ HB2.out.1.disk
          have HOP := Lib.hid hop
          clear hop
          go_wp2_with (fail)
          refine HOP.out.mono ?_
          rintro e wp ⟨s', rfl, hkp, hcp⟩
          have hrp := HB2.out.2.1.chg hcp (fun k a b => b a)
          have gp := hcp.blk HH.out.2.1 (fun e => e INO)
          have hrp9 := hrp
          obtain ⟨XD, XV, vv, _, _, hmp, _, hxd, _, _, _⟩ := hrp9
          have hro := ropen_y wp r XD _ hmp (HBD.out.1.small (by omega) (by omega) (by omega)) (fun k hk => hrp.lt k (hxd k hk).1)
          have HRO := Lib.hid hro
          have HKP := Lib.hid (And.intro hkp (And.intro hrp (And.intro gp (fun k hk => (hxd k hk).1))))
          have spp := hcp.size
          clear hkp hcp hrp gp hmp hxd hro HOP
          go_wp2_with (fail)
          refine HRO.out.mono ?_
          rintro e wq ⟨t', rfl, hrq, hbq, htq⟩
          have s0p := HKP.out.1.below.size
          have HAT := Lib.hid (show At w wq s' p t' r ρ (i + 1) from ⟨dk.Ext (dk.Ext X wr wh) wp wq, _, _, ⟨HKP.out.1.mark hbq (fun k hk => hk.imp id (fun e => e.1)) (ext_ltX HKP.out.2.1.lt hbq.size), hrq.mono (fun k hk => hk.imp (fun e => HKP.out.2.2.2 k e) id) (ext_ltX HKP.out.2.1.lt hbq.size), HBS.out.2.2.1, by omega⟩, HBD.out.1.mono (by omega) (by omega) (by push_cast; omega), Nat.le_trans HBD.out.1.text (by omega)⟩)
          have HGO := Lib.hid (And.intro (blk_below hbq HKP.out.2.2.1 (blk_lt HKP.out.2.2.1)) (show wh.heap.size ≤ wq.heap.size from by have := hbq.size; omega))
          clear hrq hbq htq HRO
          go_wp2_with (fail)
          go_meet
          exact ⟨rfl, s', t', rfl, rfl, HAT.out, HGO.out.1, HGO.out.2⟩
        by_cases e5 : K = 5
        · subst e5
          have INO : (dk.Ext X wr wh) O := .inr ⟨by omega, lh⟩
          have NOR : O ≠ r := fun e => by have := HBS.out.2.1.ne; omega
          have NOT : O ≠ t := fun e => by have := HBS.out.2.1.ne; omega
          have hpd := HH.out.1.1.on (st' := dk.powSt st) (fun F hF => dk.power_d wh p F st hF)
          have HPD := Lib.hid hpd
          clear hpd
          go_wp2_with (fail)
          refine HPD.out.mono ?_
          rintro e wm ⟨rfl, hkm, hcm⟩
          have hbm := HH.out.1.prog (v := .int .i64 0) (e := .returned (.int .i64 0)) ⟨rfl, hkm, hcm⟩
          have gm := hcm.blk HH.out.2.1 (fun e => e INO)
          have hrd := hbm.2.1.on (st' := dk.powSt st) (fun XD hm hl => dk.power_r wm r XD st hm)
          have HRD := Lib.hid hrd
          have HBM := Lib.hid (And.intro hbm gm)
          have smh := hcm.size
          clear hkm hcm hbm gm hrd HPD
          go_wp2_with (fail)
          refine HRD.out.mono ?_
          rintro e wn ⟨rfl, hrw⟩
          have hbn := HBM.out.1.ref hrw
          have gn := hrw.2.blk HBM.out.2 (fun e => by rcases e with e | e; exact NOR e; exact NOT e)
          have HBN := Lib.hid hbn
          have GN := Lib.hid gn
          have smn := hrw.2.size
          have INO2 : dk.Ext (dk.Ext X wr wh) wm wn O := .inl INO
          clear hrw hbn gn HRD INO
          have INO := INO2
          have hop := open_x (dk.Ext (dk.Ext X wr wh) wm wn) w wn p _ HBN.out.1.disk
          have HOP := Lib.hid hop
          clear hop
          go_wp2_with (fail)
          refine HOP.out.mono ?_
          rintro e wp ⟨s', rfl, hkp, hcp⟩
          have hrp := HBN.out.2.1.chg hcp (fun k a b => b a)
          have gp := hcp.blk GN.out (fun e => e INO)
          have hrp9 := hrp
          obtain ⟨XD, XV, vv, _, _, hmp, _, hxd, _, _, _⟩ := hrp9
          have hro := ropen_y wp r XD _ hmp (HBD.out.1.pow.small (by omega) (by omega) (by omega)) (fun k hk => hrp.lt k (hxd k hk).1)
          have HRO := Lib.hid hro
          have HKP := Lib.hid (And.intro hkp (And.intro hrp (And.intro gp (fun k hk => (hxd k hk).1))))
          have spp := hcp.size
          clear hkp hcp hrp gp hmp hxd hro HOP
          go_wp2_with (fail)
          refine HRO.out.mono ?_
          rintro e wq ⟨t', rfl, hrq, hbq, htq⟩
          have s0p := HKP.out.1.below.size
          have HAT := Lib.hid (show At w wq s' p t' r ρ (i + 1) from ⟨dk.Ext (dk.Ext (dk.Ext X wr wh) wm wn) wp wq, _, _, ⟨HKP.out.1.mark hbq (fun k hk => hk.imp id (fun e => e.1)) (ext_ltX HKP.out.2.1.lt hbq.size), hrq.mono (fun k hk => hk.imp (fun e => HKP.out.2.2.2 k e) id) (ext_ltX HKP.out.2.1.lt hbq.size), HBS.out.2.2.1, by omega⟩, HBD.out.1.pow.mono (by omega) (by omega) (by push_cast; omega), Nat.le_trans HBD.out.1.pow.text (by omega)⟩)
          have HGO := Lib.hid (And.intro (blk_below hbq HKP.out.2.2.1 (blk_lt HKP.out.2.2.1)) (show wh.heap.size ≤ wq.heap.size from by have := hbq.size; omega))
          clear hrq hbq htq HRO
          go_wp2_with (fail)
          go_meet
          exact ⟨rfl, s', t', rfl, rfl, HAT.out, HGO.out.1, HGO.out.2⟩
        · go_wp2_with (fail)
          go_meet
          exact ⟨rfl, s, t, rfl, rfl, ⟨_, _, _, HH.out.1, HBD.out.1.mono (by omega) (by omega) (by push_cast; omega), by have := HBD.out.2; omega⟩, HH.out.2.1, Nat.le_refl _⟩
      case rest =>
        as_aux_lemma =>
          obtain ⟨rfl, s8, t8, rfl, rfl, ⟨X8, st8, tx8, hb8, hd8, ht8⟩, go8, sh8⟩ := hcut
          clear d0 d1 d2 d3 d4 d5 d6 lh
          have HTL := Lib.hid ht8
          have hgt := get_k X8 w wc s8 p st8 tx8 hb8.1 (by omega)
          unfold RetGet at hgt
          obtain ⟨b, hb⟩ : ∃ b, decide (kv.decE tx8 = 0) = b := ⟨_, rfl⟩
          rw [hb] at hgt
          have HGT := Lib.hid hgt
          have HSI := Lib.hid (fun (u : World) (hu : Below wc.heap.size wc u) => since_k X8 w u s8 p st8 tx8 xn (hb8.1.quiet hu) (by omega))
          obtain ⟨vr, hvr⟩ : ∃ x, (kv.decP tx8).ver = x := ⟨_, rfl⟩
          rw [hb, hvr] at HSI
          have HB := Lib.hid (And.intro hb hvr)
          have HC8 := Lib.hid (And.intro hb8 (And.intro hd8 go8))
          clear hgt hb hvr hb8 hd8 ht8 go8
          go_wp2_with (fail)
          refine HGT.out.mono ?_
          rintro e we ⟨r1, rfl, hr1, ho1, hbe⟩
          obtain ⟨wf, hwf⟩ : ∃ wf, we.alloc (boxO r1) = wf := ⟨_, rfl⟩
          have hbef : Below we.heap.size we wf := by rw [← hwf]; exact (Below.refl _ _).alloc (Nat.le_refl _) _
          have g1 : pm.Boxed wf we.heap.size r1 := by rw [← hwf]; exact alloc_new _ _
          have hbcf : Below wc.heap.size wc wf := hbe.trans (hbef.mono hbe.size)
          have gof := blk_below hbcf HC8.out.2.2 (blk_lt HC8.out.2.2)
          have o1 : wf.cell? ⟨O, 1, none⟩ = some (.int .i64 xn) := by rw [cell_of_row _ _ _ _ _ _ gof]; rfl
          have lof := blk_lt gof
          obtain ⟨G1, hG1⟩ : ∃ z, we.heap.size = z := ⟨_, rfl⟩
          have l1f : G1 < wf.heap.size := by rw [← hG1]; exact blk_lt g1
          have hr1f : PVok wf wf.heap.size r1 := ((OP.ok ⟨ho1.n, ho1.s, ho1.each⟩ : PVok we we.heap.size r1).below hbef (Nat.le_refl _)).more hbef.size
          rw [hG1] at g1
          have HF := Lib.hid (And.intro hr1 (And.intro hr1f (And.intro g1 (And.intro hbcf gof))))
          have HS := Lib.hid (HSI.out wf hbcf)
          clear hr1 ho1 hbe hbef g1 hbcf gof hr1f HGT HSI
          go_wp2_with (fail)
          clear hwf
          refine HS.out.mono ?_
          rintro e wj ⟨q2, rfl, hq2, ho2, hbj⟩
          obtain ⟨wk, hwk⟩ : ∃ wk, wj.alloc (boxO q2) = wk := ⟨_, rfl⟩
          have hbjk : Below wj.heap.size wj wk := by rw [← hwk]; exact (Below.refl _ _).alloc (Nat.le_refl _) _
          have g2 : pm.Boxed wk wj.heap.size q2 := by rw [← hwk]; exact alloc_new _ _
          have hbfk : Below wf.heap.size wf wk := hbj.trans (hbjk.mono hbj.size)
          have hbck : Below wc.heap.size wc wk := HF.out.2.2.2.1.trans (hbfk.mono HF.out.2.2.2.1.size)
          obtain ⟨vv, y1, y2, y3, y4, hvp, hvok, ltt⟩ := (HC8.out.1.quiet hbck).2.1.view
          rw [HB.out.1] at y4
          have hvv : vv.ver = vr := by have : vv.pl.ver = vv.ver := rfl; rw [← this, hvp, HB.out.2]
          have gok := blk_below hbfk HF.out.2.2.2.2 (blk_lt HF.out.2.2.2.2)
          have o1 : wk.cell? ⟨O, 1, none⟩ = some (.int .i64 xn) := by rw [cell_of_row _ _ _ _ _ _ gok]; rfl
          have lok := blk_lt gok
          have g1 := blk_below hbfk HF.out.2.2.1 l1f
          obtain ⟨⟨c0, c1, c2⟩, _, _, _⟩ := isv3_cells g1
          obtain ⟨⟨e0, e1, e2⟩, _, _, _⟩ := isv3_cells g2
          have lc := blk_lt g1
          have le := blk_lt g2
          have HB8 := Lib.hid (And.intro HC8.out.1 (And.intro HC8.out.2.1 hbck))
          subst hvv
          have HQV0 := Lib.hid (And.intro hq2 (And.intro (ho2.below hbjk (Nat.le_refl _) |>.more hbjk.size) (And.intro hvok (And.intro hvp (And.intro HF.out.1 ((HF.out.2.1.below hbfk (Nat.le_refl _)).more hbfk.size))))))
          have a0 := Wb.at_ y1
          have a1' := Wb.at_ y2
          have a2' := Wb.at_ y3
          have a3 := Wb.at_ y4
          have a4 := Wb.at_ o1
          have a5 := Wb.at_ c0
          have a6 := Wb.at_ c1
          have a7 := Wb.at_ c2
          have a8 := Wb.at_ e0
          have a9 := Wb.at_ e1
          have aa := Wb.at_ e2
          clear hq2 ho2 hbj hbjk g2 hbfk hbck hvp hvok gok g1 HS y1 y2 y3 y4 o1 c0 c1 c2 e0 e1 e2
          cases b with
          | true =>
            by_cases hn : xn < vv.ver
            · have hnw : (true && decide (xn < vv.ver)) = true := by simp [hn]
              have HQV := Lib.hid (And.intro (HQV0.out.1 hnw) HQV0.out.2)
              rw [hnw]
              clear hnw HQV0
              have HS1 := Lib.hid (kv.same_k wk.drew wk.heap.size r1 vv HQV.out.2.2.2.2.2.drew HQV.out.2.2.1.drew (Nat.le_refl _) (HQV.out.2.2.2.2.1.trans HQV.out.2.2.2.1.symm))
              have HS2 := Lib.hid (fun (u : World) (hu : Below wk.heap.size wk u) => kv.same_k u wk.heap.size q2 vv (HQV.out.2.1.below hu (Nat.le_refl _)) (HQV.out.2.2.1.below hu (Nat.le_refl _)) hu.size (HQV.out.1.trans HQV.out.2.2.2.1.symm))
              go_wp2_with (fail)
              clear hwk
              refine wp_region_planF [([0, 1, 2, 3, 4, 5, 6, 7, 8, 9, 10, 11], some (12, false)), ([13, 14, 15, 16, 17, 18, 19, 20, 21, 22, 23, 24, 25, 26, 27, 28, 29, 30, 31, 32, 33, 34, 35, 36, 37, 38, 39, 40], some (41, false)), ([42, 43, 44, 45, 46, 47], some (48, true)), ([49, 50], none)] (by kernel_rfl) (by kernel_rfl) ?_
              refine seg_act _ (by dsimp only [pick, ord.at_]) _ (by dsimp only [pick, ord.at_]) ?_
              repeat (go_big_quiet_step (fail))
              refine wpQuiet_nil ?_
              intro K1 g1 g2
              clear g2
              go_wp2_with (fail)
              refine HS1.out.mono ?_
              rintro e wu ⟨rfl, hbu⟩
              have bu : Below wk.heap.size wk wu := ((Below.refl _ wk).drew).trans hbu
              have BU := Lib.hid bu
              clear hbu HS1
              go_wp2_with (fail)
              refine g1 _ _ bu ?_
              clear g1 bu
              refine seg_act _ (by dsimp only [pick, ord.at_]) _ (by dsimp only [pick, ord.at_]) ?_
              repeat (go_big_quiet_step (fail))
              refine wpQuiet_nil ?_
              intro K2 g1 g2
              clear g2
              go_wp2_with (fail)
              refine (HS2.out _ BU.out).mono ?_
              rintro e wv ⟨rfl, hbv⟩
              have bv : Below wk.heap.size wk wv := BU.out.trans (hbv.mono BU.out.size)
              have BV := Lib.hid bv
              clear hbv HS2
              go_wp2_with (fail)
              refine g1 _ _ bv ?_
              clear g1 bv
              have HDK := Lib.hid (disks_l X8 w wv s8 p t8 r st8 tx8 tx8 (HB8.out.1.quiet (HB8.out.2.2.trans (BV.out.mono HB8.out.2.2.size))) (HB8.out.2.1.small (by omega) (by omega) (by omega)) HB8.out.2.1.srt (fold_nm HB8.out.2.1.nl HB8.out.2.1.np))
              refine seg_write _ (by dsimp only [pick, ord.at_]) _ (by dsimp only [pick, ord.at_]) ?_
              repeat (go_big_quiet_step (fail))
              refine wpQuiet_nil ?_
              intro K3 h2
              clear a0 a1' a2' a3 a4 a5 a6 a7 a8 a9 aa
              go_wp2_with (fail)
              refine HDK.out.mono ?_
              rintro e wz ⟨rfl, Y, hbz⟩
              have HAZ := Lib.hid (show At w wz s8 p t8 r ρ (i + 1) from ⟨Y, st8, tx8, hbz, HB8.out.2.1, HTL.out⟩)
              clear hbz HDK
              go_wp2_with (fail)
              refine seg_end _ (by dsimp only [pick, ord.at_]) ?_
              repeat (go_big_quiet_step (fail))
              refine wpQuiet_nil (NoPanic.normal ?_)
              go_wp2_with (fail)
              go_roundg (len1 - (i + 1))
              case measure => omega
              case rel => exact ⟨i + 1, s8, t8, rfl, rfl, rfl, by go_num, by omega, by omega, HAZ.out⟩
            · have hnw : (true && decide (xn < vv.ver)) = false := by rw [decide_eq_false hn]; rfl
              have HQV := Lib.hid (And.intro trivial HQV0.out.2)
              rw [hnw]
              clear hnw HQV0
              have hdn : decide (xn < vv.ver) = false := decide_eq_false hn
              have HS1 := Lib.hid (kv.same_k wk.drew wk.heap.size r1 vv HQV.out.2.2.2.2.2.drew HQV.out.2.2.1.drew (Nat.le_refl _) (HQV.out.2.2.2.2.1.trans HQV.out.2.2.2.1.symm))
              go_wp2_with (fail)
              clear hwk
              refine wp_region_planF [([0, 1, 2, 3, 4, 5, 6, 7, 8, 9, 10, 11], some (12, false)), ([13, 14, 15, 16, 17, 18, 19, 20, 21, 22, 23, 24, 25, 26, 27, 28, 29, 30, 31, 32, 33, 34, 35, 36, 37, 38, 39, 40], some (41, false)), ([42, 43, 44, 45, 46, 47], some (48, true)), ([49, 50], none)] (by kernel_rfl) (by kernel_rfl) ?_
              refine seg_act _ (by dsimp only [pick, ord.at_]) _ (by dsimp only [pick, ord.at_]) ?_
              repeat (go_big_quiet_step (fail))
              refine wpQuiet_nil ?_
              intro K1 g1 g2
              clear g2
              go_wp2_with (fail)
              refine HS1.out.mono ?_
              rintro e wu ⟨rfl, hbu⟩
              have bu : Below wk.heap.size wk wu := ((Below.refl _ wk).drew).trans hbu
              have BU := Lib.hid bu
              clear hbu HS1
              go_wp2_with (fail)
              refine g1 _ _ bu ?_
              clear g1 bu
              refine seg_act _ (by dsimp only [pick, ord.at_]) _ (by dsimp only [pick, ord.at_]) ?_
              repeat (go_big_quiet_step (fail))
              refine wpQuiet_nil ?_
              intro K2 g1 g2
              clear g2
              go_wp2_with (fail)
              refine g1 _ _ BU.out ?_
              clear g1
              have BV := Lib.hid BU.out
              have HDK := Lib.hid (disks_l X8 w wu s8 p t8 r st8 tx8 tx8 (HB8.out.1.quiet (HB8.out.2.2.trans (BV.out.mono HB8.out.2.2.size))) (HB8.out.2.1.small (by omega) (by omega) (by omega)) HB8.out.2.1.srt (fold_nm HB8.out.2.1.nl HB8.out.2.1.np))
              refine seg_write _ (by dsimp only [pick, ord.at_]) _ (by dsimp only [pick, ord.at_]) ?_
              repeat (go_big_quiet_step (fail))
              refine wpQuiet_nil ?_
              intro K3 h2
              clear a0 a1' a2' a3 a4 a5 a6 a7 a8 a9 aa
              go_wp2_with (fail)
              refine HDK.out.mono ?_
              rintro e wz ⟨rfl, Y, hbz⟩
              have HAZ := Lib.hid (show At w wz s8 p t8 r ρ (i + 1) from ⟨Y, st8, tx8, hbz, HB8.out.2.1, HTL.out⟩)
              clear hbz HDK
              go_wp2_with (fail)
              refine seg_end _ (by dsimp only [pick, ord.at_]) ?_
              repeat (go_big_quiet_step (fail))
              refine wpQuiet_nil (NoPanic.normal ?_)
              go_wp2_with (fail)
              go_roundg (len1 - (i + 1))
              case measure => omega
              case rel => exact ⟨i + 1, s8, t8, rfl, rfl, rfl, by go_num, by omega, by omega, HAZ.out⟩
          | false =>
            by_cases hn : xn < vv.ver
            · have hnw : (false && decide (xn < vv.ver)) = false := by simp
              have HQV := Lib.hid (And.intro trivial HQV0.out.2)
              rw [hnw]
              clear hnw HQV0
              have HS1 := Lib.hid (kv.same_k wk.drew wk.heap.size r1 vv HQV.out.2.2.2.2.2.drew HQV.out.2.2.1.drew (Nat.le_refl _) (HQV.out.2.2.2.2.1.trans HQV.out.2.2.2.1.symm))
              go_wp2_with (fail)
              clear hwk
              refine wp_region_planF [([0, 1, 2, 3, 4, 5, 6, 7, 8, 9, 10, 11], some (12, false)), ([13, 14, 15, 16, 17, 18, 19, 20, 21, 22, 23, 24, 25, 26, 27, 28, 29, 30, 31, 32, 33, 34, 35, 36, 37, 38, 39, 40], some (41, false)), ([42, 43, 44, 45, 46, 47], some (48, true)), ([49, 50], none)] (by kernel_rfl) (by kernel_rfl) ?_
              refine seg_act _ (by dsimp only [pick, ord.at_]) _ (by dsimp only [pick, ord.at_]) ?_
              repeat (go_big_quiet_step (fail))
              refine wpQuiet_nil ?_
              intro K1 g1 g2
              clear g2
              go_wp2_with (fail)
              refine HS1.out.mono ?_
              rintro e wu ⟨rfl, hbu⟩
              have bu : Below wk.heap.size wk wu := ((Below.refl _ wk).drew).trans hbu
              have BU := Lib.hid bu
              clear hbu HS1
              go_wp2_with (fail)
              refine g1 _ _ bu ?_
              clear g1 bu
              refine seg_act _ (by dsimp only [pick, ord.at_]) _ (by dsimp only [pick, ord.at_]) ?_
              repeat (go_big_quiet_step (fail))
              refine wpQuiet_nil ?_
              intro K2 g1 g2
              clear g2
              go_wp2_with (fail)
              refine g1 _ _ BU.out ?_
              clear g1
              have BV := Lib.hid BU.out
              have HDK := Lib.hid (disks_l X8 w wu s8 p t8 r st8 tx8 tx8 (HB8.out.1.quiet (HB8.out.2.2.trans (BV.out.mono HB8.out.2.2.size))) (HB8.out.2.1.small (by omega) (by omega) (by omega)) HB8.out.2.1.srt (fold_nm HB8.out.2.1.nl HB8.out.2.1.np))
              refine seg_write _ (by dsimp only [pick, ord.at_]) _ (by dsimp only [pick, ord.at_]) ?_
              repeat (go_big_quiet_step (fail))
              refine wpQuiet_nil ?_
              intro K3 h2
              clear a0 a1' a2' a3 a4 a5 a6 a7 a8 a9 aa
              go_wp2_with (fail)
              refine HDK.out.mono ?_
              rintro e wz ⟨rfl, Y, hbz⟩
              have HAZ := Lib.hid (show At w wz s8 p t8 r ρ (i + 1) from ⟨Y, st8, tx8, hbz, HB8.out.2.1, HTL.out⟩)
              clear hbz HDK
              go_wp2_with (fail)
              refine seg_end _ (by dsimp only [pick, ord.at_]) ?_
              repeat (go_big_quiet_step (fail))
              refine wpQuiet_nil (NoPanic.normal ?_)
              go_wp2_with (fail)
              go_roundg (len1 - (i + 1))
              case measure => omega
              case rel => exact ⟨i + 1, s8, t8, rfl, rfl, rfl, by go_num, by omega, by omega, HAZ.out⟩
            · have hnw : (false && decide (xn < vv.ver)) = false := by simp
              have HQV := Lib.hid (And.intro trivial HQV0.out.2)
              rw [hnw]
              clear hnw HQV0
              have hdn : decide (xn < vv.ver) = false := decide_eq_false hn
              have HS1 := Lib.hid (kv.same_k wk.drew wk.heap.size r1 vv HQV.out.2.2.2.2.2.drew HQV.out.2.2.1.drew (Nat.le_refl _) (HQV.out.2.2.2.2.1.trans HQV.out.2.2.2.1.symm))
              go_wp2_with (fail)
              clear hwk
              refine wp_region_planF [([0, 1, 2, 3, 4, 5, 6, 7, 8, 9, 10, 11], some (12, false)), ([13, 14, 15, 16, 17, 18, 19, 20, 21, 22, 23, 24, 25, 26, 27, 28, 29, 30, 31, 32, 33, 34, 35, 36, 37, 38, 39, 40], some (41, false)), ([42, 43, 44, 45, 46, 47], some (48, true)), ([49, 50], none)] (by kernel_rfl) (by kernel_rfl) ?_
              refine seg_act _ (by dsimp only [pick, ord.at_]) _ (by dsimp only [pick, ord.at_]) ?_
              repeat (go_big_quiet_step (fail))
              refine wpQuiet_nil ?_
              intro K1 g1 g2
              clear g2
              go_wp2_with (fail)
              refine HS1.out.mono ?_
              rintro e wu ⟨rfl, hbu⟩
              have bu : Below wk.heap.size wk wu := ((Below.refl _ wk).drew).trans hbu
              have BU := Lib.hid bu
              clear hbu HS1
              go_wp2_with (fail)
              refine g1 _ _ bu ?_
              clear g1 bu
              refine seg_act _ (by dsimp only [pick, ord.at_]) _ (by dsimp only [pick, ord.at_]) ?_
              repeat (go_big_quiet_step (fail))
              refine wpQuiet_nil ?_
              intro K2 g1 g2
              clear g2
              go_wp2_with (fail)
              refine g1 _ _ BU.out ?_
              clear g1
              have BV := Lib.hid BU.out
              have HDK := Lib.hid (disks_l X8 w wu s8 p t8 r st8 tx8 tx8 (HB8.out.1.quiet (HB8.out.2.2.trans (BV.out.mono HB8.out.2.2.size))) (HB8.out.2.1.small (by omega) (by omega) (by omega)) HB8.out.2.1.srt (fold_nm HB8.out.2.1.nl HB8.out.2.1.np))
              refine seg_write _ (by dsimp only [pick, ord.at_]) _ (by dsimp only [pick, ord.at_]) ?_
              repeat (go_big_quiet_step (fail))
              refine wpQuiet_nil ?_
              intro K3 h2
              clear a0 a1' a2' a3 a4 a5 a6 a7 a8 a9 aa
              go_wp2_with (fail)
              refine HDK.out.mono ?_
              rintro e wz ⟨rfl, Y, hbz⟩
              have HAZ := Lib.hid (show At w wz s8 p t8 r ρ (i + 1) from ⟨Y, st8, tx8, hbz, HB8.out.2.1, HTL.out⟩)
              clear hbz HDK
              go_wp2_with (fail)
              refine seg_end _ (by dsimp only [pick, ord.at_]) ?_
              repeat (go_big_quiet_step (fail))
              refine wpQuiet_nil (NoPanic.normal ?_)
              go_wp2_with (fail)
              go_roundg (len1 - (i + 1))
              case measure => omega
              case rel => exact ⟨i + 1, s8, t8, rfl, rfl, rfl, by go_num, by omega, by omega, HAZ.out⟩
    · obtain rfl : i = len1 := by omega
      have hltz : ¬ (i : Int) < (i : Int) := by omega
      have HBW := Lib.hid hb0r
      clear hbs hbd htl hb0r
      go_wp2_with (fail)
      go_ret
      exact ⟨rfl, HBW.out⟩
theorem walk_ok (a0 : Int) (a1 : Option Addr) (len1 cap1 : Nat) (w : World) (w0 : (Lit.int .u16 a0).wf = true) (w1 : IsLs VE (FitS w) w a1 len1 cap1) :
    Calls Tryz.prog 4 #[.int .u16 a0, .slice a1 len1 cap1] w fun e w' => e = .returned (.bool true) ∧ Below w.heap.size w w' := by
  have h := (Bool.and_eq_true _ _ ▸ w0 : decide (IntKind.u16.min ≤ a0) = true ∧ decide (a0 ≤ IntKind.u16.max) = true)
  exact walk a0 a1 len1 cap1 w (of_decide_eq_true h.1) (of_decide_eq_true h.2) w1
end Go.Proofs.YtnjdondkggkfoaaGreat.lawKvScript
