/-
  The walk of the law KvCuts: for all inputs it returns true.
-/
import Derived.Test.YtnjdondkggkfoaaKs2
import Derived.Test.YtnjdondkggkfoaaKsIn
import Derived.Test.YtnjdondkggkfoaaPmCheckY
namespace Go.Proofs.Ytnjdondkggkfoaa.lawKvCuts
open Go.ChangeShapes Go.WideShapes Go.ChangeAt Go.RowKit Go.Shelf plain words ord mem pm ks

theorem cut_set {st : dk.St} {P X : Pl} {n : Int} (h : Cl st (some (kv.encP P)) 4096 n) (hc : chk P = 0) (hv : P.ver = 1) (hn : n < 1000000000) (c k q : Int) (hcl : c ≤ 9223372036854775807) (hxv : chk X = 0 → X.ver = 2) :
    (chk X = 0 → ks.Can (dk.cutSt st c k q) (kv.encP X)) ∧ ∃ f o, (setS (dk.cutSt st c k q) (kv.encP P) 1 X).2.2 = f ∧ Mini (setS (dk.cutSt st c k q) (kv.encP P) 1 X).1 ∧
      al.get (dk.powSt (dk.crashSt (setS (dk.cutSt st c k q) (kv.encP P) 1 X).1 k q)).shown cu = some o ∧
      (chk X ≠ 0 ∧ f = 50 ∧ o = kv.encP P ∨ chk X = 0 ∧ (o = kv.encP X ∨ o = kv.encP P ∧ f ≠ 0)) := by
  have hP := encP_small (chk_iff.1 hc)
  by_cases hx : chk X = 0
  · have hX := encP_small (chk_iff.1 hx)
    obtain ⟨h1, h2, h3, o, h4, h5⟩ := cut_all h (by omega) (T := kv.encP X) (by omega) hn c k q hcl
    have hS : setS (dk.cutSt st c k q) (kv.encP P) 1 X = ((wrS (dk.cutSt st c k q) (kv.encP X)).1, if (wrS (dk.cutSt st c k q) (kv.encP X)).2 = 0 then kv.encP X else kv.encP P, (wrS (dk.cutSt st c k q) (kv.encP X)).2) := by
      unfold setS
      rw [if_pos hx, if_pos ⟨by rw [(dec_enc hc).2]; exact hv.symm, by rw [hxv hx]; rfl⟩]
      unfold full
      rw [if_neg h2]
    rw [hS]
    exact ⟨fun _ => h1, _, o, rfl, h3, h4, .inr ⟨hx, h5⟩⟩
  · have hS : setS (dk.cutSt st c k q) (kv.encP P) 1 X = (dk.cutSt st c k q, kv.encP P, 50) := by unfold setS; rw [if_neg hx]
    rw [hS]
    obtain ⟨h1, h2⟩ := cut_idle h (by omega) hn c k q
    exact ⟨fun e => absurd e hx, 50, _, rfl, h1, h2, .inl ⟨hx, rfl, rfl⟩⟩
set_option maxHeartbeats 8000000 in
set_option maxRecDepth 100000 in
theorem walk (a0 : Option Addr) (len0 cap0 : Nat) (z0 : List Int) (a1 : Int) (k1 n1 x1 y1 : Int) (u1 : PV) (cc ck cq : Int) (w : World) (w0 : IsRow .i64 w a0 len0 cap0 z0) (hcc : cc ≤ 9223372036854775807) :
    Calls Try.prog 4 #[.slice a0 len0 cap0, .int .i64 a1, stepV k1 n1 x1 y1 u1, .int .i64 cc, .int .i64 ck, .int .i64 cq] w fun e w' => e = .returned (.bool true) ∧ Below w.heap.size w w' := by
  obtain ⟨hls, hcap, hmost⟩ := row_ls w0
  obtain ⟨l, hl⟩ : ∃ l, z0.take len0 = l := ⟨_, rfl⟩
  rw [hl] at hls
  clear w0 hl
  obtain ⟨w2, hw2⟩ : ∃ w2, w.alloc (stepO k1 n1 x1 y1 u1) = w2 := ⟨_, rfl⟩
  have hb2 : Below w.heap.size w w2 := by rw [← hw2]; exact (Below.refl _ _).alloc (Nat.le_refl _) _
  have ga : w2.heap[w.heap.size]? = some (stepO k1 n1 x1 y1 u1) := by rw [← hw2]; exact alloc_new _ _
  by_cases hbig : 64 < len0
  · have hbz : (64 : Int) < (len0 : Int) := by omega
    clear hbig ga
    have HW2 := Lib.hid hw2
    have HB2 := Lib.hid hb2
    clear hw2 hb2 hls
    go_enter Try.func4, Try.ntmps4
    go_wp2_with (fail)
    rw [HW2.out]
    go_ret
    exact ⟨rfl, HB2.out⟩
  · have hbz : ¬ (64 : Int) < (len0 : Int) := by omega
    have HI := Lib.hid (rinit_sy w2 w.heap.size len0 cap0 a0 l (hls.below hb2 (Nat.le_refl _)) hb2.size (by omega) hcap hmost a1)
    obtain ⟨er, her⟩ : ∃ er, rinitErr l a1 = er := ⟨_, rfl⟩
    obtain ⟨P, hP⟩ : ∃ P, rinitPl l a1 = P := ⟨_, rfl⟩
    rw [her, hP] at HI
    have HP := Lib.hid (And.intro her hP)
    have HW2 := Lib.hid hw2
    have HB2 := Lib.hid hb2
    have HGA := Lib.hid ga
    have HCC := Lib.hid hcc
    clear hbig hls hw2 hb2 ga her hP hcap hmost hcc
    go_enter Try.func4, Try.ntmps4
    go_wp2_with (fail)
    rw [HW2.out]
    go_wp2_with (fail)
    refine HI.out.mono ?_
    rintro e w3 ⟨v, rfl, hpl, hop, hb3⟩
    obtain ⟨w4, hw4⟩ : ∃ w4, w3.alloc (boxO v) = w4 := ⟨_, rfl⟩
    have hb34 : Below w3.heap.size w3 w4 := by rw [← hw4]; exact (Below.refl _ _).alloc (Nat.le_refl _) _
    have gv : pm.Boxed w4 w3.heap.size v := by rw [← hw4]; exact alloc_new _ _
    have hb24 : Below w2.heap.size w2 w4 := hb3.trans (hb34.mono hb3.size)
    have hv4 : PVok w4 w3.heap.size v := hop.ok.below hb34 (Nat.le_refl _)
    obtain ⟨V, hV⟩ : ∃ V, w3.heap.size = V := ⟨_, rfl⟩
    have HV := Lib.hid (And.intro hpl (And.intro hv4 (And.intro gv (And.intro hb34 hb24))))
    have HW4 := Lib.hid hw4
    have lv4 : V < w4.heap.size := by rw [← hV]; exact blk_lt gv
    obtain ⟨⟨c0, c1, c2⟩, _, _, _⟩ := isv3_cells gv
    have s24 := hb24.size
    have s02 := HB2.out.size
    have HB04 := Lib.hid (HB2.out.trans (hb24.mono s02))
    rw [hV] at HV c0 c1 c2
    clear hpl hop hb3 hw4 hb34 gv hb24 hv4
    by_cases he : er = 0
    · subst he
      have hok := rinit_ok HP.out.1
      rw [HP.out.2] at hok
      have HOK := Lib.hid hok
      have HO := Lib.hid (new_oc w4 4096 (by decide))
      clear hok c0 c1 c2
      go_wp2_with (fail)
      rw [HW4.out]
      refine HO.out.mono ?_
      rintro e w5 ⟨p, rfl, hoc5, hb5⟩
      have gv5 := blk_below hb5 HV.out.2.2.1 lv4
      obtain ⟨⟨c0, c1, c2⟩, _, _, _⟩ := isv3_cells gv5
      have s45 := hb5.size
      have lv5 : V < w5.heap.size := by omega
      have HOP := Lib.hid (hoc5.quiet (Below.refl _ w5).drew).open
      have z0 := Wf.at_ (F := fun b => b ≠ V) c0 (fun e => e rfl)
      have z1 := Wf.at_ (F := fun b => b ≠ V) c1 (fun e => e rfl)
      have z2 := Wf.at_ (F := fun b => b ≠ V) c2 (fun e => e rfl)
      have HB5 := Lib.hid hb5
      clear hoc5 gv5 hb5
      go_wp2_with (fail)
      refine fr.wp_region_tree (F := fun b => b ≠ V) (.reads [0, 2] (.one 1 false (.one 3 false (.reads [4] .stop)))) (by kernel_rfl) (by kernel_rfl) ?_
      refine fr.tr_reads _ (by dsimp only [pick, ord.at_]) ?_
      repeat (go_big_quiet_step (fail))
      refine wpQuiet_nil ?_
      clear z0 z1 z2 c0 c1 c2
      refine fr.tr_one _ (by dsimp only [pick, ord.at_]) ?_
      intro K1 g1 g2
      clear g2
      go_wp2_with (fail)
      refine HOP.out.mono ?_
      rintro e w6 ⟨s, rfl, hk6, hc6⟩
      have hF6 : Chg (fun b => b ≠ V) w5 w6 := chg_trans (Chg.refl _ _).drew (hc6.mono (fun b _ e e9 => e (by show b < w4.heap.size; omega)))
      have hb46 := hk6.below
      have hC6 : Chg (fun k => ¬ k < w4.heap.size) w4 w6 := ((Chg.of_below HB5.out).mono (fun _ _ e => e.elim)).trans ((Chg.refl _ _).drew.trans hc6 (fun _ _ e => e)) (fun _ _ e => e)
      have HSET := Lib.hid (hk6.set 0 V v (HV.out.2.1.below hb46 (Nat.le_of_lt lv4)) (by have := hb46.size; omega) (by decide) (by decide) (by show 0 ≤ 1000; decide) (by decide))
      rw [HV.out.1, (set_first HOK.out.1 HOK.out.2).1, (set_first HOK.out.1 HOK.out.2).2] at HSET
      have HF6 := Lib.hid (And.intro hF6 hC6)
      clear hk6 hc6 hF6 hb46 hC6
      go_wp2_with (fail)
      refine g1 _ _ HF6.out.1 ?_
      clear g1
      refine fr.tr_one _ (by dsimp only [pick, ord.at_]) ?_
      intro K2 g1 g2
      clear g2
      go_wp2_with (fail)
      refine HSET.out.mono ?_
      rintro e w7 ⟨rfl, hk7, hc7⟩
      have HF7 := Lib.hid (And.intro (chg_trans HF6.out.1 (hc7.mono (fun b _ e e9 => e (by show b < w4.heap.size; omega)))) (HF6.out.2.trans hc7 (fun _ _ e => e)))
      have hb47 := hk7.below
      have HD7 := Lib.hid hk7.disk
      have HB7 := Lib.hid hb47
      have s47 := hb47.size
      have gv7 := HF7.out.2.blk HV.out.2.2.1 (fun e => e lv4)
      have ga4 := blk_below HV.out.2.2.2.2 HGA.out (blk_lt HGA.out)
      have ga7 := HF7.out.2.blk ga4 (fun e => e (blk_lt ga4))
      obtain ⟨⟨c0, c1, c2⟩, _, _, _⟩ := isv3_cells gv7
      obtain ⟨d0, d1, d2, d3, d4, d5, d6⟩ : w7.cell? ⟨w.heap.size, 0, none⟩ = some (.int .i64 k1) ∧ w7.cell? ⟨w.heap.size, 1, none⟩ = some (.int .i64 n1) ∧ w7.cell? ⟨w.heap.size, 2, none⟩ = some (.int .i64 x1) ∧ w7.cell? ⟨w.heap.size, 3, none⟩ = some (.int .i64 y1) ∧ w7.cell? ⟨w.heap.size, 4, none⟩ = some (.int .i64 u1.ver) ∧ w7.cell? ⟨w.heap.size, 5, none⟩ = some (.slice u1.nA u1.nodes.length u1.nc) ∧ w7.cell? ⟨w.heap.size, 6, none⟩ = some (.slice u1.sA u1.rs.length u1.sc) := by
        refine ⟨?_, ?_, ?_, ?_, ?_, ?_, ?_⟩ <;> (rw [cell_of_row _ _ _ _ _ _ ga7]; rfl)
      have lv7 := blk_lt gv7
      have la7 := blk_lt ga7
      have HN1 := Lib.hid (next_l w7 V v u1 k1 n1 x1 y1 (HV.out.2.1.below hb47 (Nat.le_of_lt lv4)) (by omega))
      obtain ⟨X, hX⟩ : ∃ X, nextP P x1 n1 y1 = X := ⟨_, rfl⟩
      rw [HV.out.1, hX] at HN1
      have HX := Lib.hid hX
      clear hk7 hc7 gv7 ga7 ga4 hX hb47 HSET HOP
      go_wp2_with (fail)
      refine g1 _ _ HF7.out.1 ?_
      clear g1
      refine fr.tr_reads _ (by dsimp only [pick, ord.at_]) ?_
      repeat (go_big_quiet_step (fail))
      refine wpQuiet_nil ?_
      refine fr.tr_stop ?_
      refine NoPanic.normal ?_
      go_wp2_with (fail)
      refine HN1.out.mono ?_
      rintro e w8 ⟨x, rfl, hxp, hxo, hb8⟩
      obtain ⟨w9, hw9⟩ : ∃ w9, w8.alloc (boxO x) = w9 := ⟨_, rfl⟩
      have hb89 : Below w8.heap.size w8 w9 := by rw [← hw9]; exact (Below.refl _ _).alloc (Nat.le_refl _) _
      have gx : pm.Boxed w9 w8.heap.size x := by rw [← hw9]; exact alloc_new _ _
      have s78 := hb8.size
      have s89 := hb89.size
      have hb79 : Below w7.heap.size w7 w9 := hb8.trans (hb89.mono s78)
      obtain ⟨Q, hQ⟩ : ∃ Q, w8.heap.size = Q := ⟨_, rfl⟩
      have lx9 : Q < w9.heap.size := by rw [← hQ]; exact blk_lt gx
      obtain ⟨st, hone9, hcl9⟩ := HD7.out.mark hb79 (Y := fun k => k < w4.heap.size ∨ (w7.heap.size ≤ k ∧ k < w9.heap.size)) (fun k hk => by
        rcases hk with e | e
        · exact .inl e
        · exact .inr e.1) (fun k hk => by
        rcases hk with e | e
        · omega
        · exact e.2)
      have hxv : chk X = 0 → X.ver = 2 := fun h0 => by
        have h1 := next_ver (p := P) (k := x1) (a := n1) (b := y1) (by rw [HX.out]; exact h0)
        rw [HX.out] at h1
        have := HOK.out.2
        omega
      obtain ⟨hcan, f, o, hf, hmini, hsh, hdec⟩ := cut_set hcl9 HOK.out.1 HOK.out.2 (by decide) cc ck cq HCC.out hxv
      have HMA := Lib.hid (And.intro hcan (And.intro hf (And.intro hmini (And.intro hsh hdec))))
      have HCUT := Lib.hid (hone9.on (fun F hF => dk.cut_d w9 p F st cc ck cq hF))
      have hcs := cut_shown hcl9 cc ck cq
      have HX9 := Lib.hid (And.intro hxp (And.intro (op_below hxo hb89) (And.intro (hQ ▸ gx : pm.Boxed w9 Q x) (And.intro hb79 hxv))))
      have HCS := Lib.hid hcs
      clear hxp hxo hb8 hb89 gx hone9 hcl9 hcan hf hmini hsh hdec hcs hxv c0 c1 c2 d0 d1 d2 d3 d4 d5 d6
      go_wp2_with (fail)
      clear hw9
      refine HCUT.out.mono ?_
      rintro e w10 ⟨rfl, hone10, hc10⟩
      have iX : (fun k => k < w4.heap.size ∨ (w7.heap.size ≤ k ∧ k < w9.heap.size)) Q := .inr ⟨by omega, lx9⟩
      have gx10 := hc10.blk HX9.out.2.2.1 (fun e => e iX)
      obtain ⟨⟨c0, c1, c2⟩, _, _, _⟩ := isv3_cells gx10
      have s910 := hc10.size
      have lx10 : Q < w10.heap.size := by omega
      have hop := open_x _ w4 w10.drew p _ (hone10.quiet (Below.refl _ w10).drew)
      rw [HCS.out] at hop
      have HOP := Lib.hid hop
      have HC10 := Lib.hid hc10
      have z0 := Wf.at_ (F := fun b => b ≠ Q) c0 (fun e => e rfl)
      have z1 := Wf.at_ (F := fun b => b ≠ Q) c1 (fun e => e rfl)
      have z2 := Wf.at_ (F := fun b => b ≠ Q) c2 (fun e => e rfl)
      have IX := Lib.hid iX
      clear hone10 gx10 hop hc10 iX lv7 la7
      go_wp2_with (fail)
      refine fr.wp_region_tree (F := fun b => b ≠ Q) (.reads [0, 2] (.one 1 false (.one 3 false (.reads [4] .stop)))) (by kernel_rfl) (by kernel_rfl) ?_
      refine fr.tr_reads _ (by dsimp only [pick, ord.at_]) ?_
      repeat (go_big_quiet_step (fail))
      refine wpQuiet_nil ?_
      clear z0 z1 z2 c0 c1 c2
      refine fr.tr_one _ (by dsimp only [pick, ord.at_]) ?_
      intro K1 g1 g2
      clear g2
      go_wp2_with (fail)
      refine HOP.out.mono ?_
      rintro e w11 ⟨s2, rfl, hk11, hc11⟩
      have hF11 : Chg (fun b => b ≠ Q) w10 w11 := chg_trans (Chg.refl _ _).drew (hc11.mono (fun b _ e e9 => e (e9 ▸ IX.out)))
      have hC11 : Chg (fun k => ¬ (fun k => k < w4.heap.size ∨ (w7.heap.size ≤ k ∧ k < w9.heap.size)) k) w9 w11 := HC10.out.trans ((Chg.refl _ _).drew.trans hc11 (fun _ _ e => e)) (fun _ _ e => e)
      have hx11 := op_keep HX9.out.2.1 hC11 (fun k a b e => e (.inr ⟨a, b⟩))
      have hPl := encP_small (chk_iff.1 HOK.out.1)
      have hset := set_k _ w4 w11 s2 p _ _ 1 w11.heap.size x hk11 (by show (kv.encP P).length ≤ _; omega) hx11.ok (Nat.le_refl _) (by rw [HX9.out.1]; exact HMA.out.1)
      rw [HX9.out.1, show (setS (dk.cutSt st cc ck cq) ((some (kv.encP P)).getD []) 1 X).2.2 = f from HMA.out.2.1] at hset
      have HSET := Lib.hid hset
      have HF11 := Lib.hid (And.intro hF11 hC11)
      clear hk11 hc11 hF11 hC11 hx11 hPl hset HOP
      go_wp2_with (fail)
      refine g1 _ _ HF11.out.1 ?_
      clear g1
      refine fr.tr_one _ (by dsimp only [pick, ord.at_]) ?_
      intro K2 g1 g2
      clear g2
      go_wp2_with (fail)
      refine HSET.out.mono ?_
      rintro e w12 ⟨rfl, hk12, hc12⟩
      have HF12 := Lib.hid (And.intro (chg_trans HF11.out.1 (hc12.mono (fun b _ e e9 => e (e9 ▸ IX.out)))) (HF11.out.2.trans hc12 (fun _ _ e => e)))
      have HCR := Lib.hid (Mini.crash HMA.out.2.2.1 hk12.disk ck cq)
      clear hk12 hc12 HSET
      go_wp2_with (fail)
      refine g1 _ _ HF12.out.1 ?_
      clear g1
      refine fr.tr_reads _ (by dsimp only [pick, ord.at_]) ?_
      repeat (go_big_quiet_step (fail))
      refine wpQuiet_nil ?_
      refine fr.tr_stop ?_
      refine NoPanic.normal ?_
      go_wp2_with (fail)
      refine HCR.out.mono ?_
      rintro e w13 ⟨rfl, hone13, hc13⟩
      have HPW := Lib.hid (hone13.on (fun F hF => dk.power_d w13 p F _ hF))
      have HC13 := Lib.hid (HF12.out.2.trans hc13 (fun _ _ e => e))
      clear hone13 hc13 HCR
      go_wp2_with (fail)
      refine HPW.out.mono ?_
      rintro e w14 ⟨rfl, hone14, hc14⟩
      have hop := open_x _ w4 w14 p _ hone14
      rw [HMA.out.2.2.2.1] at hop
      have HOP := Lib.hid hop
      have HC14 := Lib.hid (HC13.out.trans hc14 (fun _ _ e => e))
      clear hone14 hc14 hop HPW
      go_wp2_with (fail)
      refine HOP.out.mono ?_
      rintro e w15 ⟨s3, rfl, hk15, hc15⟩
      have HC15 := Lib.hid (HC14.out.trans hc15 (fun _ _ e => e))
      have hol : o.length ≤ 1000000 ∧ kv.decE o = 0 ∧ kv.decP o = (if o = kv.encP P then P else X) := by
        have hPl := encP_small (chk_iff.1 HOK.out.1)
        have hPd := dec_enc HOK.out.1
        rcases HMA.out.2.2.2.2 with ⟨_, _, rfl⟩ | ⟨hx0, rfl | ⟨rfl, _⟩⟩
        · exact ⟨by omega, hPd.1, by rw [if_pos rfl]; exact hPd.2⟩
        · have hXl := encP_small (chk_iff.1 hx0)
          have hXd := dec_enc hx0
          refine ⟨by omega, hXd.1, ?_⟩
          split
          · rename_i e9; rw [e9]; exact hPd.2
          · exact hXd.2
        · exact ⟨by omega, hPd.1, by rw [if_pos rfl]; exact hPd.2⟩
      have hget := get_k _ w4 w15 s3 p _ _ hk15 (by show o.length ≤ _; exact hol.1)
      unfold RetGet at hget
      rw [show decide (kv.decE ((some o).getD []) = 0) = true from by rw [show kv.decE ((some o).getD []) = 0 from hol.2.1]; rfl] at hget
      have HGET := Lib.hid hget
      have hb415 := hk15.below
      have HB15 := Lib.hid hb415
      clear hk15 hc15 hol hget hb415 HOP
      go_wp2_with (fail)
      refine HGET.out.mono ?_
      rintro e w16 ⟨r, rfl, hrp, hro, hb16⟩
      obtain ⟨w17, hw17⟩ : ∃ w17, w16.alloc (boxO r) = w17 := ⟨_, rfl⟩
      have hb1617 : Below w16.heap.size w16 w17 := by rw [← hw17]; exact (Below.refl _ _).alloc (Nat.le_refl _) _
      have gr17 : pm.Boxed w17 w16.heap.size r := by rw [← hw17]; exact alloc_new _ _
      have s1516 := hb16.size
      have s1617 := hb1617.size
      have hb1517 : Below w15.heap.size w15 w17 := hb16.trans (hb1617.mono s1516)
      have hC17 : Chg (fun k => ¬ (fun k => k < w4.heap.size ∨ (w7.heap.size ≤ k ∧ k < w9.heap.size)) k) w9 w17 := HC15.out.trans ((Chg.of_below hb1517).mono (fun _ _ e => e.elim)) (fun _ _ e => e)
      have gx17 := hC17.blk HX9.out.2.2.1 (fun e => e IX.out)
      have s79 := HX9.out.2.2.2.1.size
      have gv7 := HF7.out.2.blk HV.out.2.2.1 (fun e => e lv4)
      have gv17 := hC17.blk (blk_below HX9.out.2.2.2.1 gv7 (by omega)) (fun e => e (.inl lv4))
      have hb417 : Below w4.heap.size w4 w17 := HB15.out.trans (hb1517.mono HB15.out.size)
      have s417 := hb417.size
      have hv17 := HV.out.2.1.below hb417 (Nat.le_of_lt lv4)
      have hx17 := (op_keep HX9.out.2.1 hC17 (fun k a b e => e (.inr ⟨a, b⟩))).ok
      have hr17 := (OP.ok ⟨hro.n, hro.s, hro.each⟩ : PVok w16 w16.heap.size r).below hb1617 (Nat.le_refl _)
      have s917 := hC17.size
      have HCX := Lib.hid (rcheck_y w17 w17.heap.size x hx17 (Nat.le_refl _))
      rw [HX9.out.1] at HCX
      have HSM := Lib.hid (fun (u : World) (hu : Below w17.heap.size w17 u) (z : PV) (hz : PVok w17 w17.heap.size z) (he : r.pl = z.pl) => kv.same_k u w17.heap.size r z ((hr17.more (C := w17.heap.size) (by omega)).below hu (Nat.le_refl _)) (hz.below hu (Nat.le_refl _)) hu.size he)
      have HPV := Lib.hid (And.intro hx17 (hv17.more (C := w17.heap.size) (by omega)))
      obtain ⟨R, hR⟩ : ∃ R, w16.heap.size = R := ⟨_, rfl⟩
      rw [hR] at gr17
      have HGG := Lib.hid (And.intro gr17 (And.intro gx17 gv17))
      have HB17 := Lib.hid (HB04.out.trans (hb417.mono (by omega)))
      have HR := Lib.hid hrp
      obtain ⟨⟨c0, c1, c2⟩, _, _, _⟩ := isv3_cells gx17
      have lx17 := blk_lt gx17
      clear hro hrp hb16 hb1617 gr17 hb1517 hC17 gx17 gv7 gv17 hb417 hv17 hx17 hr17 HGET
      rcases HMA.out.2.2.2.2 with ⟨hx0, hf5, ho⟩ | ⟨hx0, ho | ⟨ho, hf0⟩⟩
      · subst hf5
        subst ho
        obtain ⟨qx, hqx⟩ : ∃ q, chk X = q := ⟨_, rfl⟩
        have hqx0 : ¬ qx = 0 := by rw [← hqx]; exact hx0
        rw [hqx] at HCX
        clear hqx hx0 HMA
        go_wp2_with (fail)
        clear hw17
        refine HCX.out.mono ?_
        rintro e w18 ⟨rfl, hb18⟩
        have HB18 := Lib.hid hb18
        have gr18 := blk_below hb18 HGG.out.1 (blk_lt HGG.out.1)
        have gv18 := blk_below hb18 HGG.out.2.2 (blk_lt HGG.out.2.2)
        clear hb18 c0 c1 c2
        obtain ⟨⟨b0, b1, b2⟩, _, _, _⟩ := isv3_cells gr18
        obtain ⟨⟨e0, e1, e2⟩, _, _, _⟩ := isv3_cells gv18
        have lr18 := blk_lt gr18
        have lv18 := blk_lt gv18
        have HSS := Lib.hid (HSM.out _ HB18.out v HPV.out.2 (by rw [HR.out, HV.out.1]; exact (dec_enc HOK.out.1).2))
        clear gr18 gv18
        go_wp2_with (fail)
        refine HSS.out.mono ?_
        rintro e w19 ⟨rfl, hb19⟩
        have HF := Lib.hid (HB17.out.trans ((HB18.out.trans (hb19.mono HB18.out.size)).mono HB17.out.size))
        clear hb19
        go_wp2_with (fail)
        go_ret
        exact ⟨rfl, HF.out⟩
      · subst ho
        rw [hx0] at HCX
        have HX0 := Lib.hid hx0
        clear hx0 HMA
        go_wp2_with (fail)
        clear hw17
        refine HCX.out.mono ?_
        rintro e w18 ⟨rfl, hb18⟩
        have HB18 := Lib.hid hb18
        have gr18 := blk_below hb18 HGG.out.1 (blk_lt HGG.out.1)
        have gx18 := blk_below hb18 HGG.out.2.1 (blk_lt HGG.out.2.1)
        clear hb18 c0 c1 c2
        obtain ⟨⟨b0, b1, b2⟩, _, _, _⟩ := isv3_cells gr18
        obtain ⟨⟨e0, e1, e2⟩, _, _, _⟩ := isv3_cells gx18
        have lr18 := blk_lt gr18
        have lx18 := blk_lt gx18
        have HSS := Lib.hid (HSM.out _ HB18.out x HPV.out.1 (by rw [HR.out, HX9.out.1]; exact (dec_enc HX0.out).2))
        clear gr18 gx18
        go_wp2_with (fail)
        refine HSS.out.mono ?_
        rintro e w19 ⟨rfl, hb19⟩
        have HF := Lib.hid (HB17.out.trans ((HB18.out.trans (hb19.mono HB18.out.size)).mono HB17.out.size))
        clear hb19
        go_wp2_with (fail)
        go_ret
        exact ⟨rfl, HF.out⟩
      · subst ho
        rw [hx0] at HCX
        have hne : r.ver ≠ x.ver := by
          have e1 : r.ver = P.ver := by have := HR.out.trans (dec_enc HOK.out.1).2; exact congrArg Pl.ver this
          have e2 : x.ver = X.ver := congrArg Pl.ver HX9.out.1
          have e3 := HX9.out.2.2.2.2 hx0
          have e4 := HOK.out.2
          omega
        have hf00 : ¬ f = 0 := hf0
        have HNE := Lib.hid hne
        clear hx0 HMA hf0 hne
        go_wp2_with (fail)
        clear hw17
        refine HCX.out.mono ?_
        rintro e w18 ⟨rfl, hb18⟩
        have HB18 := Lib.hid hb18
        have gr18 := blk_below hb18 HGG.out.1 (blk_lt HGG.out.1)
        have gx18 := blk_below hb18 HGG.out.2.1 (blk_lt HGG.out.2.1)
        clear hb18 c0 c1 c2
        obtain ⟨⟨b0, b1, b2⟩, _, _, _⟩ := isv3_cells gr18
        obtain ⟨⟨e0, e1, e2⟩, _, _, _⟩ := isv3_cells gx18
        have lr18 := blk_lt gr18
        have lx18 := blk_lt gx18
        have HSS := Lib.hid (same_no w18 r x HNE.out)
        clear gr18 gx18
        go_wp2_with (fail)
        refine HSS.out.mono ?_
        rintro e w19 ⟨rfl, hb19⟩
        have HB19 := Lib.hid (HB18.out.trans (hb19.mono HB18.out.size))
        clear hb19 b0 b1 b2 e0 e1 e2 lr18 lx18
        have gr19 := blk_below HB19.out HGG.out.1 (blk_lt HGG.out.1)
        have gv19 := blk_below HB19.out HGG.out.2.2 (blk_lt HGG.out.2.2)
        obtain ⟨⟨b0, b1, b2⟩, _, _, _⟩ := isv3_cells gr19
        obtain ⟨⟨e0, e1, e2⟩, _, _, _⟩ := isv3_cells gv19
        have lr19 := blk_lt gr19
        have lv19 := blk_lt gv19
        have HS2 := Lib.hid (HSM.out _ HB19.out v HPV.out.2 (by rw [HR.out, HV.out.1]; exact (dec_enc HOK.out.1).2))
        clear gr19 gv19
        go_wp2_with (fail)
        refine HS2.out.mono ?_
        rintro e w20 ⟨rfl, hb20⟩
        have HF := Lib.hid (HB17.out.trans ((HB19.out.trans (hb20.mono HB19.out.size)).mono HB17.out.size))
        clear hb20
        go_wp2_with (fail)
        go_ret
        exact ⟨by show Ending.returned (.bool (f != 0)) = _; rw [show (f != 0) = true from by simpa using hf00], HF.out⟩
    · have hno := rinit_no (by rw [HP.out.1]; exact he)
      rw [HP.out.2] at hno
      have s1 : setE none 9 0 P = 50 := by unfold setE; rw [if_neg hno]
      have HO := Lib.hid (new_oc w4.drew 9 (by decide))
      have z0 := Wf.at_ (F := fun b => b ≠ V) c0 (fun e => e rfl)
      have z1 := Wf.at_ (F := fun b => b ≠ V) c1 (fun e => e rfl)
      have z2 := Wf.at_ (F := fun b => b ≠ V) c2 (fun e => e rfl)
      have S1 := Lib.hid s1
      clear hno s1
      go_wp2_with (fail)
      rw [HW4.out]
      go_wp2_with (fail)
      refine fr.wp_region_tree (F := fun b => b ≠ V) (.reads [2] (.one 0 false (.one 1 false (.one 3 false (.reads [4, 5] .stop))))) (by kernel_rfl) (by kernel_rfl) ?_
      refine fr.tr_reads _ (by dsimp only [pick, ord.at_]) ?_
      repeat (go_big_quiet_step (fail))
      refine wpQuiet_nil ?_
      clear z0 z1 z2 c0 c1 c2
      refine fr.tr_one _ (by dsimp only [pick, ord.at_]) ?_
      intro K1 g1 g2
      clear g2
      go_wp2_with (fail)
      refine HO.out.mono ?_
      rintro e w5 ⟨p, rfl, hoc5, hb5⟩
      have HF5 := Lib.hid (chg_trans (F := fun b => b ≠ V) (Chg.refl _ w4).drew ((Chg.of_below hb5).mono (fun _ _ e => e.elim)))
      have HOP := Lib.hid hoc5.open
      clear hoc5 hb5
      go_wp2_with (fail)
      refine g1 _ _ HF5.out ?_
      clear g1
      refine fr.tr_one _ (by dsimp only [pick, ord.at_]) ?_
      intro K2 g1 g2
      clear g2
      go_wp2_with (fail)
      refine HOP.out.mono ?_
      rintro e w6 ⟨s, rfl, hk6, hc6⟩
      have hb46 : Below w4.heap.size w4 w6 := (Chg.to_below (Chg.refl _ w4).drew).trans hk6.below
      have HF6 := Lib.hid (chg_trans HF5.out (hc6.mono (fun b _ e e9 => e (by show b < w4.heap.size; omega))))
      have hset := hk6.set 0 V v (HV.out.2.1.below hb46 (Nat.le_of_lt lv4)) (by have := hb46.size; omega) (by decide) (by decide) (by show 0 ≤ 1000; decide) (by decide)
      rw [HV.out.1, S1.out] at hset
      have HSET := Lib.hid hset
      clear hk6 hc6 hb46 hset
      go_wp2_with (fail)
      refine g1 _ _ HF6.out ?_
      clear g1
      refine fr.tr_one _ (by dsimp only [pick, ord.at_]) ?_
      intro K3 g1 g2
      clear g2
      go_wp2_with (fail)
      refine HSET.out.mono ?_
      rintro e w7 ⟨rfl, hk7, hc7⟩
      have HF7 := Lib.hid (chg_trans HF6.out (hc7.mono (fun b _ e e9 => e (by show b < w4.heap.size; omega))))
      have HB7 := Lib.hid (HB04.out.trans (((Chg.to_below (Chg.refl _ w4).drew).trans hk7.below).mono (by omega)))
      clear hk7 hc7
      go_wp2_with (fail)
      refine g1 _ _ HF7.out ?_
      clear g1
      refine fr.tr_reads _ (by dsimp only [pick, ord.at_]) ?_
      repeat (go_big_quiet_step (fail))
      refine wpQuiet_nil ?_
      refine fr.tr_stop ?_
      refine NoPanic.normal ?_
      go_wp2_with (fail)
      go_ret
      exact ⟨rfl, HB7.out⟩
theorem walk_ok (a0 : Option Addr) (len0 cap0 : Nat) (z0 : List Int) (a1 : Int) (a2 : SV) (a3 a4 a5 : Int) (w : World) (w0 : IsRow .i64 w a0 len0 cap0 z0) (w1 : (Lit.int .i64 a1).wf = true) (w2 : PVok w w.heap.size a2.u) (w3 : (Lit.int .i64 a3).wf = true) (w4 : (Lit.int .i64 a4).wf = true) (w5 : (Lit.int .i64 a5).wf = true) :
    Calls Try.prog 4 #[.slice a0 len0 cap0, .int .i64 a1, a2.val, .int .i64 a3, .int .i64 a4, .int .i64 a5] w fun e w' => e = .returned (.bool true) ∧ Below w.heap.size w w' :=
  walk a0 len0 cap0 z0 a1 a2.k a2.n a2.a a2.b a2.u a3 a4 a5 w w0 (by have h := (Bool.and_eq_true _ _ ▸ w3 : decide (IntKind.i64.min ≤ a3) = true ∧ decide (a3 ≤ IntKind.i64.max) = true).2; exact of_decide_eq_true h)
end Go.Proofs.Ytnjdondkggkfoaa.lawKvCuts
