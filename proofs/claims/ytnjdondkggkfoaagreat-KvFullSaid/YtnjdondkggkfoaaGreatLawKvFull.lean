/-
  The walk of the law KvFull: for all inputs it returns true.
-/
import Derived.Test.YtnjdondkggkfoaaGreatKs2
import Derived.Test.YtnjdondkggkfoaaGreatKsIn
import Derived.Test.YtnjdondkggkfoaaGreatKvEY
namespace Go.Proofs.YtnjdondkggkfoaaGreat.lawKvFull
open Go.ChangeShapes Go.WideShapes Go.ChangeAt Go.RowKit Go.Shelf plain words ord mem pm ks

theorem full_first {P : Pl} {R : Int} (hc : chk P = 0) (hv : P.ver = 1) (hR : ((kv.encP P).length : Int) ≤ R) : setE none R 0 P = 0 ∧ setO none R 0 P = some (kv.encP P) := by
  have e : setE none R 0 P = 0 := by
    unfold setE
    rw [if_pos hc, if_pos ⟨by show (0 : Int) = (kv.decP []).ver; rw [dec_nil.2]; rfl, by rw [hv]; rfl⟩, if_pos (by show ((0 : Nat) : Int) + _ ≤ _; omega)]
  exact ⟨e, if_pos e⟩
theorem full_bad {o : Option al.Nm} {R : Int} {X : Pl} (hx : chk X ≠ 0) : setE o R 1 X = 50 ∧ setO o R 1 X = o := by
  have e : setE o R 1 X = 50 := by unfold setE; rw [if_neg hx]
  exact ⟨e, if_neg (by rw [e]; decide)⟩
theorem full_no {P X : Pl} {R : Int} (hc : chk P = 0) (hv : P.ver = 1) (hx : chk X = 0) (hxv : X.ver = 2) (hR : R < ((kv.encP P).length : Int) + (kv.encP X).length) : setE (some (kv.encP P)) R 1 X = 12 ∧ setO (some (kv.encP P)) R 1 X = some (kv.encP P) := by
  have e : setE (some (kv.encP P)) R 1 X = 12 := by
    unfold setE
    rw [if_pos hx, some_ver hc, if_pos ⟨hv.symm, by omega⟩, if_neg (by show ¬ ((kv.encP P).length : Int) + _ ≤ _; omega)]
  exact ⟨e, if_neg (by rw [e]; decide)⟩
theorem full_yes {P X : Pl} {R : Int} (hc : chk P = 0) (hv : P.ver = 1) (hx : chk X = 0) (hxv : X.ver = 2) (hR : ((kv.encP P).length : Int) + (kv.encP X).length ≤ R) : setE (some (kv.encP P)) R 1 X = 0 ∧ setO (some (kv.encP P)) R 1 X = some (kv.encP X) := by
  have e : setE (some (kv.encP P)) R 1 X = 0 := by
    unfold setE
    rw [if_pos hx, some_ver hc, if_pos ⟨hv.symm, by omega⟩, if_pos (by show ((kv.encP P).length : Int) + _ ≤ _; omega)]
  exact ⟨e, if_pos e⟩
theorem oc_names {X : Nat → Prop} {w0 w : World} {p : Nat} {t : al.Nm} {R n : Int} (h : OC X w0 w p (some t) R n) : Calls Tryz.prog 13 #[dk.ptr p] w fun e w' => ∃ A c, e = .returned (.slice A 1 c) ∧ Below w.heap.size w w' := by
  obtain ⟨st, h1, h2⟩ := h
  obtain ⟨F, hF⟩ := h1.ex
  have := dk.names_d w p F st hF (by rw [h2.shown]; show 1 < 1099511627776; decide)
  rw [h2.shown] at this
  refine this.mono ?_
  rintro e w' ⟨v, rfl, ho, hb⟩
  obtain ⟨A, c, rfl⟩ := dk.own_sl ho
  exact ⟨A, c, rfl, hb⟩
set_option maxHeartbeats 8000000 in
set_option maxRecDepth 100000 in
theorem walk (a0 : Option Addr) (len0 cap0 : Nat) (z0 : List Int) (a1 : Int) (k1 n1 x1 y1 : Int) (u1 : PV) (ρ : Int) (w : World) (w0 : IsRow .i64 w a0 len0 cap0 z0) (hρ0 : 0 ≤ ρ) (hρ1 : ρ ≤ 255) :
    Calls Tryz.prog 3 #[.slice a0 len0 cap0, .int .i64 a1, stepV k1 n1 x1 y1 u1, .int .u8 ρ] w fun e w' => e = .returned (.bool true) ∧ Below w.heap.size w w' := by
  obtain ⟨hls, hcap, hmost⟩ := row_ls w0
  obtain ⟨l, hl⟩ : ∃ l, z0.take len0 = l := ⟨_, rfl⟩
  rw [hl] at hls
  clear w0 hl
  obtain ⟨w2, hw2⟩ : ∃ w2, w.alloc (stepO k1 n1 x1 y1 u1) = w2 := ⟨_, rfl⟩
  have hb2 : Below w.heap.size w w2 := by rw [← hw2]; exact (Below.refl _ _).alloc (Nat.le_refl _) _
  have ga : w2.heap[w.heap.size]? = some (stepO k1 n1 x1 y1 u1) := by rw [← hw2]; exact alloc_new _ _
  by_cases hbig : 64 < len0
  · have hbz : (64 : Int) < (len0 : Int) := by omega
    clear hbig ga
    have HW2 := Lib.hid hw2
    have HB2 := Lib.hid hb2
    clear hw2 hb2 hls
    go_enter Tryz.func3, Tryz.ntmps3
    go_wp2_with (fail)
    rw [HW2.out]
    go_ret
    exact ⟨rfl, HB2.out⟩
  · have hbz : ¬ (64 : Int) < (len0 : Int) := by omega
    have HI := Lib.hid (rinit_sy w2 w.heap.size len0 cap0 a0 l (hls.below hb2 (Nat.le_refl _)) hb2.size (by omega) hcap hmost a1)
    obtain ⟨er, her⟩ : ∃ er, rinitErr l a1 = er := ⟨_, rfl⟩
    obtain ⟨P, hP⟩ : ∃ P, rinitPl l a1 = P := ⟨_, rfl⟩
    rw [her, hP] at HI
    have HP := Lib.hid (And.intro her hP)
    have HW2 := Lib.hid hw2
    have HB2 := Lib.hid hb2
    have HGA := Lib.hid ga
    clear hbig hls hw2 hb2 ga her hP hcap hmost
    go_enter Tryz.func3, Tryz.ntmps3
    go_wp2_with (fail)
    rw [HW2.out]
    go_wp2_with (fail)
    refine HI.out.mono ?_
    rintro e w3 ⟨v, rfl, hpl, hop, hb3⟩
    obtain ⟨w4, hw4⟩ : ∃ w4, w3.alloc (boxO v) = w4 := ⟨_, rfl⟩
    have hb34 : Below w3.heap.size w3 w4 := by rw [← hw4]; exact (Below.refl _ _).alloc (Nat.le_refl _) _
    have gv : pm.Boxed w4 w3.heap.size v := by rw [← hw4]; exact alloc_new _ _
    have hb24 : Below w2.heap.size w2 w4 := hb3.trans (hb34.mono hb3.size)
    have hv4 : PVok w4 w3.heap.size v := hop.ok.below hb34 (Nat.le_refl _)
    obtain ⟨V, hV⟩ : ∃ V, w3.heap.size = V := ⟨_, rfl⟩
    have HV := Lib.hid (And.intro hpl (And.intro hv4 (And.intro gv (And.intro hb34 hb24))))
    have HW4 := Lib.hid hw4
    have lv4 : V < w4.heap.size := by rw [← hV]; exact blk_lt gv
    obtain ⟨⟨c0, c1, c2⟩, _, _, _⟩ := isv3_cells gv
    have s24 := hb24.size
    have s02 := HB2.out.size
    have HB04 := Lib.hid (HB2.out.trans (hb24.mono s02))
    rw [hV] at HV c0 c1 c2
    clear hpl hop hb3 hw4 hb34 gv hb24 hv4
    by_cases he : er = 0
    · subst he
      have hok := rinit_ok HP.out.1
      rw [HP.out.2] at hok
      have HOK := Lib.hid hok
      have henc := kv.encode_y w4 V v HV.out.2.1 (Nat.le_of_lt lv4)
      unfold kv.RetEnc at henc
      rw [HV.out.1, show kv.encE P = 0 from by unfold kv.encE; rw [if_pos hok.1], show kv.encB P = kv.encP P from by unfold kv.encB; rw [if_pos hok.1]] at henc
      obtain ⟨n, hn⟩ : ∃ n, (kv.encP P).length = n := ⟨_, rfl⟩
      have hn2 : n ≤ 256 := by rw [← hn]; exact encP_small (chk_iff.1 hok.1)
      rw [hn] at henc
      have HENC := Lib.hid henc
      have HN := Lib.hid hn
      clear hok henc hn
      go_wp2_with (fail)
      rw [HW4.out]
      go_wp2_with (fail)
      refine HENC.out.mono ?_
      rintro e w5 ⟨A1, C1, rfl, _, hb45, _⟩
      have gv5 := blk_below hb45 HV.out.2.2.1 lv4
      have s45 := hb45.size
      have hR0 : (0 : Int) ≤ (n : Int) + ρ := by omega
      have hR1 : (n : Int) + ρ ≤ 1048576 := by omega
      have HO := Lib.hid (new_oc w5 ((n : Int) + ρ) hR0)
      have HV5 := Lib.hid (And.intro gv5 (And.intro (HV.out.2.1.below hb45 (Nat.le_of_lt lv4)) hb45))
      have lv5 : V < w5.heap.size := by omega
      clear c0 c1 c2 gv5 hb45 HENC
      go_wp2_with (fail)
      refine HO.out.mono ?_
      rintro e w6 ⟨p, rfl, hoc6, hb56⟩
      have HOP := Lib.hid hoc6.open
      have HB56 := Lib.hid hb56
      clear hoc6 hb56 HO
      go_wp2_with (fail)
      refine HOP.out.mono ?_
      rintro e w7 ⟨s, rfl, hk7, hc7⟩
      have hC7 : Chg (fun k => ¬ k < w5.heap.size) w5 w7 := ((Chg.of_below HB56.out).mono (fun _ _ e => e.elim)).trans hc7 (fun _ _ e => e)
      have gv7 := hC7.blk HV5.out.1 (fun e => e lv5)
      obtain ⟨⟨c0, c1, c2⟩, _, _, _⟩ := isv3_cells gv7
      have lv7 := blk_lt gv7
      have s57 := hC7.size
      have hff := full_first (P := P) (R := (n : Int) + ρ) HOK.out.1 HOK.out.2 (by rw [HN.out]; omega)
      have hset := hk7.set 0 V v (HV5.out.2.1.below hk7.below (Nat.le_of_lt lv5)) (by omega) hR0 hR1 (by show 0 ≤ 1000; decide) (by decide)
      rw [HV.out.1, hff.1, hff.2] at hset
      have HSET := Lib.hid hset
      have HC7 := Lib.hid hC7
      clear hk7 hc7 hC7 gv7 hff hset HOP
      go_wp2_with (fail)
      refine HSET.out.mono ?_
      rintro e w8 ⟨rfl, hk8, hc8⟩
      have hC8 := HC7.out.trans hc8 (fun _ _ e => e)
      have gv8 := hC8.blk HV5.out.1 (fun e => e lv5)
      have ga4 := blk_below HV.out.2.2.2.2 HGA.out (blk_lt HGA.out)
      have ga5 := blk_below HV5.out.2.2 ga4 (blk_lt ga4)
      have ga8 := hC8.blk ga5 (fun e => e (blk_lt ga5))
      clear c0 c1 c2
      obtain ⟨⟨c0, c1, c2⟩, _, _, _⟩ := isv3_cells gv8
      obtain ⟨d0, d1, d2, d3, d4, d5, d6⟩ : w8.cell? ⟨w.heap.size, 0, none⟩ = some (.int .i64 k1) ∧ w8.cell? ⟨w.heap.size, 1, none⟩ = some (.int .i64 n1) ∧ w8.cell? ⟨w.heap.size, 2, none⟩ = some (.int .i64 x1) ∧ w8.cell? ⟨w.heap.size, 3, none⟩ = some (.int .i64 y1) ∧ w8.cell? ⟨w.heap.size, 4, none⟩ = some (.int .i64 u1.ver) ∧ w8.cell? ⟨w.heap.size, 5, none⟩ = some (.slice u1.nA u1.nodes.length u1.nc) ∧ w8.cell? ⟨w.heap.size, 6, none⟩ = some (.slice u1.sA u1.rs.length u1.sc) := by
        refine ⟨?_, ?_, ?_, ?_, ?_, ?_, ?_⟩ <;> (rw [cell_of_row _ _ _ _ _ _ ga8]; rfl)
      have lv8 := blk_lt gv8
      have la8 := blk_lt ga8
      have s58 := hC8.size
      have HK8 := Lib.hid hk8
      have HC8 := Lib.hid (And.intro hC8 gv8)
      have HN1 := Lib.hid (next_l w8 V v u1 k1 n1 x1 y1 (HV5.out.2.1.below hk8.below (Nat.le_of_lt lv5)) (by omega))
      obtain ⟨X, hX⟩ : ∃ X, nextP P x1 n1 y1 = X := ⟨_, rfl⟩
      rw [HV.out.1, hX] at HN1
      have HX := Lib.hid hX
      clear hk8 hc8 hC8 gv8 ga4 ga5 ga8 hX HSET
      go_wp2_with (fail)
      refine HN1.out.mono ?_
      rintro e w9 ⟨x, rfl, hxp, hxo, hb9⟩
      obtain ⟨w10, hw10⟩ : ∃ w10, w9.alloc (boxO x) = w10 := ⟨_, rfl⟩
      have hb910 : Below w9.heap.size w9 w10 := by rw [← hw10]; exact (Below.refl _ _).alloc (Nat.le_refl _) _
      have gx : pm.Boxed w10 w9.heap.size x := by rw [← hw10]; exact alloc_new _ _
      have s89 := hb9.size
      have s910 := hb910.size
      have hb810 : Below w8.heap.size w8 w10 := hb9.trans (hb910.mono s89)
      obtain ⟨Q, hQ⟩ : ∃ Q, w9.heap.size = Q := ⟨_, rfl⟩
      rw [hQ] at gx
      have lx10 : Q < w10.heap.size := blk_lt gx
      have hx10 := op_below hxo hb910
      have hxv : chk X = 0 → X.ver = 2 := fun h0 => by
        have h1 := next_ver (p := P) (k := x1) (a := n1) (b := y1) (by rw [HX.out]; exact h0)
        rw [HX.out] at h1
        have := HOK.out.2
        omega
      have henc := kv.encode_y w10 w10.heap.size x hx10.ok (Nat.le_refl _)
      unfold kv.RetEnc at henc
      rw [hxp] at henc
      have HX10 := Lib.hid (And.intro hxp (And.intro hx10 (And.intro gx (And.intro hb810 hxv))))
      clear c0 c1 c2 d0 d1 d2 d3 d4 d5 d6 lv8 la8 hxp hxo hb9 hb910 hb810 hx10 hxv HN1
      obtain ⟨⟨c0, c1, c2⟩, _, _, _⟩ := isv3_cells gx
      clear gx
      by_cases cX : chk X = 0
      · have hf : kv.encE X = 0 := by unfold kv.encE; rw [if_pos cX]
        have hm : kv.encB X = kv.encP X := by unfold kv.encB; rw [if_pos cX]
        obtain ⟨m, hml⟩ : ∃ m, (kv.encP X).length = m := ⟨_, rfl⟩
        rw [hf, hm, hml] at henc
        have HCX := Lib.hid cX
        by_cases hm2 : ρ < (m : Int)
        · have HSE := Lib.hid (full_no (R := (n : Int) + ρ) HOK.out.1 HOK.out.2 cX (HX10.out.2.2.2.2 cX) (by rw [HN.out, hml]; omega))
          clear hf hm cX hml
          have HENC := Lib.hid henc
          clear henc
          go_wp2_with (fail)
          clear hw10
          refine HENC.out.mono ?_
          rintro e w11 ⟨A2, C2, rfl, _, hb1011, _⟩
          have s1011 := hb1011.size
          have gx11 := blk_below hb1011 HX10.out.2.2.1 lx10
          have hb811 : Below w8.heap.size w8 w11 := HX10.out.2.2.2.1.trans (hb1011.mono HX10.out.2.2.2.1.size)
          have hx11 := op_below HX10.out.2.1 hb1011
          have hk11 := HK8.out.mark hb811 (Y := (fun k => k < w5.heap.size ∨ (w8.heap.size ≤ k ∧ k < w11.heap.size))) (fun k hk => by
            rcases hk with e | e
            · exact .inl e
            · exact .inr e.1) (fun k hk => by
            rcases hk with e | e
            · have := hb811.size; omega
            · exact e.2)
          clear c0 c1 c2
          obtain ⟨⟨c0, c1, c2⟩, _, _, _⟩ := isv3_cells gx11
          have lx11 := blk_lt gx11
          have hset := hk11.set 1 w11.heap.size x hx11.ok (Nat.le_refl _) hR0 hR1 (olen_enc HOK.out.1) (by decide)
          rw [HX10.out.1, HSE.out.1, HSE.out.2] at hset
          have HSET := Lib.hid hset
          have s811 := hb811.size
          have HX11 := Lib.hid (And.intro hx11 (And.intro gx11 hb811))
          clear hb1011 gx11 hb811 hx11 hk11 hset HENC
          go_wp2_with (fail)
          refine HSET.out.mono ?_
          rintro e w12 ⟨rfl, hk12, hc12⟩
          have HGET := Lib.hid (hk12.get (olen_enc HOK.out.1))
          have HK12 := Lib.hid hk12
          have HC12 := Lib.hid hc12
          have s1112 := hc12.size
          clear hk12 hc12 HSET c0 c1 c2 lx11
          go_wp2_with (fail)
          refine HGET.out.mono ?_
          unfold RetGet
          rw [show decide (kv.decE ((some (kv.encP P)).getD []) = 0) = true from by rw [show kv.decE ((some (kv.encP P)).getD []) = 0 from (dec_enc HOK.out.1).1]; rfl]
          rintro e w13 ⟨r, rfl, hrp, hro, hb13⟩
          obtain ⟨w14, hw14⟩ : ∃ w14, w13.alloc (boxO r) = w14 := ⟨_, rfl⟩
          have hb1314 : Below w13.heap.size w13 w14 := by rw [← hw14]; exact (Below.refl _ _).alloc (Nat.le_refl _) _
          have gr : pm.Boxed w14 w13.heap.size r := by rw [← hw14]; exact alloc_new _ _
          have s1213 := hb13.size
          have s1314 := hb1314.size
          have hb1214 : Below w12.heap.size w12 w14 := hb13.trans (hb1314.mono s1213)
          obtain ⟨RB, hRB⟩ : ∃ RB, w13.heap.size = RB := ⟨_, rfl⟩
          rw [hRB] at gr
          have lr14 : RB < w14.heap.size := blk_lt gr
          have hr14 : OP w14 w12.heap.size r := op_below (show OP w13 w12.heap.size r from ⟨hro.n, hro.s, hro.each⟩) hb1314
          have hk14 := HK12.out.mark hb1214 (Y := (fun k => (k < w5.heap.size ∨ (w8.heap.size ≤ k ∧ k < w11.heap.size)) ∨ (w12.heap.size ≤ k ∧ k < w14.heap.size))) (fun k hk => by
            rcases hk with e | e
            · exact .inl e
            · exact .inr e.1) (fun k hk => by
            rcases hk with (e | e) | e
            · omega
            · omega
            · exact e.2)
          have HOP := Lib.hid hk14.disk.open
          have HR14 := Lib.hid (And.intro (show r.pl = P from hrp.trans (dec_enc HOK.out.1).2) (And.intro hr14 (And.intro gr hb1214)))
          clear hrp hro hb13 hb1314 gr hb1214 hr14 hk14 HGET HK12
          go_wp2_with (fail)
          clear hw14
          refine HOP.out.mono ?_
          rintro e w15 ⟨s2, rfl, hk15, hc15⟩
          have HGET := Lib.hid (hk15.get (olen_enc HOK.out.1))
          have HK15 := Lib.hid hk15
          have HC15 := Lib.hid hc15
          have s1415 := hc15.size
          clear hk15 hc15 HOP
          go_wp2_with (fail)
          refine HGET.out.mono ?_
          unfold RetGet
          rw [show decide (kv.decE ((some (kv.encP P)).getD []) = 0) = true from by rw [show kv.decE ((some (kv.encP P)).getD []) = 0 from (dec_enc HOK.out.1).1]; rfl]
          rintro e w16 ⟨t, rfl, htp, hto, hb16⟩
          obtain ⟨w17, hw17⟩ : ∃ w17, w16.alloc (boxO t) = w17 := ⟨_, rfl⟩
          have hb1617 : Below w16.heap.size w16 w17 := by rw [← hw17]; exact (Below.refl _ _).alloc (Nat.le_refl _) _
          have gt17 : pm.Boxed w17 w16.heap.size t := by rw [← hw17]; exact alloc_new _ _
          have s1516 := hb16.size
          have s1617 := hb1617.size
          have hb1517 : Below w15.heap.size w15 w17 := hb16.trans (hb1617.mono s1516)
          obtain ⟨TB, hTB⟩ : ∃ TB, w16.heap.size = TB := ⟨_, rfl⟩
          rw [hTB] at gt17
          have hK17 := HK15.out.quiet hb1517
          have hb517 := hK17.below
          have s517 := hb517.size
          have htw : PVok w17 w17.heap.size t := ((OP.ok ⟨hto.n, hto.s, hto.each⟩ : PVok w16 w16.heap.size t).below hb1617 (Nat.le_refl _)).more s1617
          have hc1417 : Chg (fun k => ¬ (fun k => (k < w5.heap.size ∨ (w8.heap.size ≤ k ∧ k < w11.heap.size)) ∨ (w12.heap.size ≤ k ∧ k < w14.heap.size)) k) w14 w17 := HC15.out.trans ((Chg.of_below hb1517).mono (fun _ _ e => e.elim)) (fun _ _ e => e)
          have gr17 := hc1417.blk HR14.out.2.2.1 (fun e => e (.inr ⟨by omega, lr14⟩))
          have hr17 := (op_keep HR14.out.2.1 hc1417 (fun k a b e => e (.inr ⟨a, b⟩))).ok
          have gv11 := blk_below HX11.out.2.2 HC8.out.2 (by omega)
          have gv12 := HC12.out.blk gv11 (fun e => e (.inl lv5))
          have gv14 := blk_below HR14.out.2.2.2 gv12 (by omega)
          have gv17 := hc1417.blk gv14 (fun e => e (.inl (.inl lv5)))
          have hv17 := (HV5.out.2.1.below hb517 (Nat.le_of_lt lv5)).more (C := w17.heap.size) (by omega)
          have gx12 := HC12.out.blk HX11.out.2.1 (fun e => e (.inr ⟨by omega, blk_lt HX11.out.2.1⟩))
          have gx14 := blk_below HR14.out.2.2.2 gx12 (blk_lt gx12)
          have gx17 := hc1417.blk gx14 (fun e => e (.inl (.inr ⟨by omega, blk_lt HX11.out.2.1⟩)))
          have hx12 := op_keep HX11.out.1 HC12.out (fun k a b e => e (.inr ⟨a, b⟩))
          have hb1214 := HR14.out.2.2.2
          have lx12 : ∀ k, w8.heap.size ≤ k → k < w11.heap.size → k < w12.heap.size := fun k _ h => by omega
          have hx17 : PVok w17 w17.heap.size x := (op_keep HX11.out.1 ((HC12.out.trans (((Chg.of_below hb1214).mono (S' := fun k => ¬ (fun k => k < w5.heap.size ∨ (w8.heap.size ≤ k ∧ k < w11.heap.size)) k) (fun _ _ e => e.elim)).trans (hc1417.mono (S' := fun k => ¬ (fun k => k < w5.heap.size ∨ (w8.heap.size ≤ k ∧ k < w11.heap.size)) k ) (fun k hk e e2 => e (.inl e2))) (fun _ _ e => e)) (fun _ _ e => e))) (fun k a b e => e (.inr ⟨a, b⟩))).ok
          have HSM := Lib.hid (fun (u : World) (hu : Below w17.heap.size w17 u) (y z : PV) (hy : PVok w17 w17.heap.size y) (hz : PVok w17 w17.heap.size z) (he : y.pl = z.pl) => kv.same_k u w17.heap.size y z (hy.below hu (Nat.le_refl _)) (hz.below hu (Nat.le_refl _)) hu.size he)
          have HPV := Lib.hid (And.intro hv17 (And.intro hx17 (And.intro hr17 htw)))
          have HGG := Lib.hid (And.intro gv17 (And.intro gx17 (And.intro gr17 gt17)))
          have HT := Lib.hid (show t.pl = P from htp.trans (dec_enc HOK.out.1).2)
          have HB17 := Lib.hid (HB04.out.trans ((HV5.out.2.2.trans (hb517.mono s45)).mono (by omega)))
          have HK17 := Lib.hid hK17
          clear htp hto hb16 hb1617 gt17 hb1517 hK17 hb517 htw hc1417 gr17 hr17 gv11 gv12 gv14 gv17 hv17 gx12 gx14 gx17 hx12 hb1214 lx12 hx17 HGET HK15
          have ga0 := blk_below (Below.refl _ _) HGG.out.2.2.1 (blk_lt HGG.out.2.2.1)
          have gb0 := blk_below (Below.refl _ _) HGG.out.1 (blk_lt HGG.out.1)
          obtain ⟨⟨b0, b1, b2⟩, _, _, _⟩ := isv3_cells ga0
          obtain ⟨⟨e0, e1, e2⟩, _, _, _⟩ := isv3_cells gb0
          have la := blk_lt ga0
          have lb := blk_lt gb0
          have HS0 := Lib.hid (HSM.out _ (Below.refl _ _) r v HPV.out.2.2.1 HPV.out.1 (by rw [HR14.out.1, HV.out.1]))
          clear ga0 gb0
          go_wp2_with (fail)
          clear hw17
          refine HS0.out.mono ?_
          rintro e q1 ⟨rfl, hq1⟩
          have HQ1 := Lib.hid (hq1)
          clear hq1 b0 b1 b2 e0 e1 e2 la lb
          have ga1 := blk_below HQ1.out HGG.out.2.2.2 (blk_lt HGG.out.2.2.2)
          have gb1 := blk_below HQ1.out HGG.out.1 (blk_lt HGG.out.1)
          obtain ⟨⟨b0, b1, b2⟩, _, _, _⟩ := isv3_cells ga1
          obtain ⟨⟨e0, e1, e2⟩, _, _, _⟩ := isv3_cells gb1
          have la := blk_lt ga1
          have lb := blk_lt gb1
          have HS1 := Lib.hid (HSM.out _ HQ1.out t v HPV.out.2.2.2 HPV.out.1 (by rw [HT.out, HV.out.1]))
          clear ga1 gb1
          go_wp2_with (fail)
          refine HS1.out.mono ?_
          rintro e q2 ⟨rfl, hq2⟩
          have HQ2 := Lib.hid (HQ1.out.trans (hq2.mono HQ1.out.size))
          clear hq2 b0 b1 b2 e0 e1 e2 la lb
          have HNM := Lib.hid (oc_names (HK17.out.disk.quiet HQ2.out))
          go_wp2_with (fail)
          refine HNM.out.mono ?_
          rintro e q3 ⟨A3, C3, rfl, hq3⟩
          have HQ3 := Lib.hid (HQ2.out.trans (hq3.mono HQ2.out.size))
          have HPN := Lib.hid (HK17.out.disk.quiet HQ3.out).pending
          clear hq3
          go_wp2_with (fail)
          refine HPN.out.mono ?_
          rintro e q4 ⟨rfl, rfl⟩
          go_wp2_with (fail)
          go_ret
          exact ⟨rfl, HB17.out.trans (HQ3.out.mono HB17.out.size)⟩
        · have HSE := Lib.hid (full_yes (R := (n : Int) + ρ) HOK.out.1 HOK.out.2 cX (HX10.out.2.2.2.2 cX) (by rw [HN.out, hml]; omega))
          clear hf hm cX hml
          have HENC := Lib.hid henc
          clear henc
          go_wp2_with (fail)
          clear hw10
          refine HENC.out.mono ?_
          rintro e w11 ⟨A2, C2, rfl, _, hb1011, _⟩
          have s1011 := hb1011.size
          have gx11 := blk_below hb1011 HX10.out.2.2.1 lx10
          have hb811 : Below w8.heap.size w8 w11 := HX10.out.2.2.2.1.trans (hb1011.mono HX10.out.2.2.2.1.size)
          have hx11 := op_below HX10.out.2.1 hb1011
          have hk11 := HK8.out.mark hb811 (Y := (fun k => k < w5.heap.size ∨ (w8.heap.size ≤ k ∧ k < w11.heap.size))) (fun k hk => by
            rcases hk with e | e
            · exact .inl e
            · exact .inr e.1) (fun k hk => by
            rcases hk with e | e
            · have := hb811.size; omega
            · exact e.2)
          clear c0 c1 c2
          obtain ⟨⟨c0, c1, c2⟩, _, _, _⟩ := isv3_cells gx11
          have lx11 := blk_lt gx11
          have hset := hk11.set 1 w11.heap.size x hx11.ok (Nat.le_refl _) hR0 hR1 (olen_enc HOK.out.1) (by decide)
          rw [HX10.out.1, HSE.out.1, HSE.out.2] at hset
          have HSET := Lib.hid hset
          have s811 := hb811.size
          have HX11 := Lib.hid (And.intro hx11 (And.intro gx11 hb811))
          clear hb1011 gx11 hb811 hx11 hk11 hset HENC
          go_wp2_with (fail)
          refine HSET.out.mono ?_
          rintro e w12 ⟨rfl, hk12, hc12⟩
          have HGET := Lib.hid (hk12.get (olen_enc HCX.out))
          have HK12 := Lib.hid hk12
          have HC12 := Lib.hid hc12
          have s1112 := hc12.size
          clear hk12 hc12 HSET c0 c1 c2 lx11
          go_wp2_with (fail)
          refine HGET.out.mono ?_
          unfold RetGet
          rw [show decide (kv.decE ((some (kv.encP X)).getD []) = 0) = true from by rw [show kv.decE ((some (kv.encP X)).getD []) = 0 from (dec_enc HCX.out).1]; rfl]
          rintro e w13 ⟨r, rfl, hrp, hro, hb13⟩
          obtain ⟨w14, hw14⟩ : ∃ w14, w13.alloc (boxO r) = w14 := ⟨_, rfl⟩
          have hb1314 : Below w13.heap.size w13 w14 := by rw [← hw14]; exact (Below.refl _ _).alloc (Nat.le_refl _) _
          have gr : pm.Boxed w14 w13.heap.size r := by rw [← hw14]; exact alloc_new _ _
          have s1213 := hb13.size
          have s1314 := hb1314.size
          have hb1214 : Below w12.heap.size w12 w14 := hb13.trans (hb1314.mono s1213)
          obtain ⟨RB, hRB⟩ : ∃ RB, w13.heap.size = RB := ⟨_, rfl⟩
          rw [hRB] at gr
          have lr14 : RB < w14.heap.size := blk_lt gr
          have hr14 : OP w14 w12.heap.size r := op_below (show OP w13 w12.heap.size r from ⟨hro.n, hro.s, hro.each⟩) hb1314
          have hk14 := HK12.out.mark hb1214 (Y := (fun k => (k < w5.heap.size ∨ (w8.heap.size ≤ k ∧ k < w11.heap.size)) ∨ (w12.heap.size ≤ k ∧ k < w14.heap.size))) (fun k hk => by
            rcases hk with e | e
            · exact .inl e
            · exact .inr e.1) (fun k hk => by
            rcases hk with (e | e) | e
            · omega
            · omega
            · exact e.2)
          have HOP := Lib.hid hk14.disk.open
          have HR14 := Lib.hid (And.intro (show r.pl = X from hrp.trans (dec_enc HCX.out).2) (And.intro hr14 (And.intro gr hb1214)))
          clear hrp hro hb13 hb1314 gr hb1214 hr14 hk14 HGET HK12
          go_wp2_with (fail)
          clear hw14
          refine HOP.out.mono ?_
          rintro e w15 ⟨s2, rfl, hk15, hc15⟩
          have HGET := Lib.hid (hk15.get (olen_enc HCX.out))
          have HK15 := Lib.hid hk15
          have HC15 := Lib.hid hc15
          have s1415 := hc15.size
          clear hk15 hc15 HOP
          go_wp2_with (fail)
          refine HGET.out.mono ?_
          unfold RetGet
          rw [show decide (kv.decE ((some (kv.encP X)).getD []) = 0) = true from by rw [show kv.decE ((some (kv.encP X)).getD []) = 0 from (dec_enc HCX.out).1]; rfl]
          rintro e w16 ⟨t, rfl, htp, hto, hb16⟩
          obtain ⟨w17, hw17⟩ : ∃ w17, w16.alloc (boxO t) = w17 := ⟨_, rfl⟩
          have hb1617 : Below w16.heap.size w16 w17 := by rw [← hw17]; exact (Below.refl _ _).alloc (Nat.le_refl _) _
          have gt17 : pm.Boxed w17 w16.heap.size t := by rw [← hw17]; exact alloc_new _ _
          have s1516 := hb16.size
          have s1617 := hb1617.size
          have hb1517 : Below w15.heap.size w15 w17 := hb16.trans (hb1617.mono s1516)
          obtain ⟨TB, hTB⟩ : ∃ TB, w16.heap.size = TB := ⟨_, rfl⟩
          rw [hTB] at gt17
          have hK17 := HK15.out.quiet hb1517
          have hb517 := hK17.below
          have s517 := hb517.size
          have htw : PVok w17 w17.heap.size t := ((OP.ok ⟨hto.n, hto.s, hto.each⟩ : PVok w16 w16.heap.size t).below hb1617 (Nat.le_refl _)).more s1617
          have hc1417 : Chg (fun k => ¬ (fun k => (k < w5.heap.size ∨ (w8.heap.size ≤ k ∧ k < w11.heap.size)) ∨ (w12.heap.size ≤ k ∧ k < w14.heap.size)) k) w14 w17 := HC15.out.trans ((Chg.of_below hb1517).mono (fun _ _ e => e.elim)) (fun _ _ e => e)
          have gr17 := hc1417.blk HR14.out.2.2.1 (fun e => e (.inr ⟨by omega, lr14⟩))
          have hr17 := (op_keep HR14.out.2.1 hc1417 (fun k a b e => e (.inr ⟨a, b⟩))).ok
          have gv11 := blk_below HX11.out.2.2 HC8.out.2 (by omega)
          have gv12 := HC12.out.blk gv11 (fun e => e (.inl lv5))
          have gv14 := blk_below HR14.out.2.2.2 gv12 (by omega)
          have gv17 := hc1417.blk gv14 (fun e => e (.inl (.inl lv5)))
          have hv17 := (HV5.out.2.1.below hb517 (Nat.le_of_lt lv5)).more (C := w17.heap.size) (by omega)
          have gx12 := HC12.out.blk HX11.out.2.1 (fun e => e (.inr ⟨by omega, blk_lt HX11.out.2.1⟩))
          have gx14 := blk_below HR14.out.2.2.2 gx12 (blk_lt gx12)
          have gx17 := hc1417.blk gx14 (fun e => e (.inl (.inr ⟨by omega, blk_lt HX11.out.2.1⟩)))
          have hx12 := op_keep HX11.out.1 HC12.out (fun k a b e => e (.inr ⟨a, b⟩))
          have hb1214 := HR14.out.2.2.2
          have lx12 : ∀ k, w8.heap.size ≤ k → k < w11.heap.size → k < w12.heap.size := fun k _ h => by omega
          have hx17 : PVok w17 w17.heap.size x := (op_keep HX11.out.1 ((HC12.out.trans (((Chg.of_below hb1214).mono (S' := fun k => ¬ (fun k => k < w5.heap.size ∨ (w8.heap.size ≤ k ∧ k < w11.heap.size)) k) (fun _ _ e => e.elim)).trans (hc1417.mono (S' := fun k => ¬ (fun k => k < w5.heap.size ∨ (w8.heap.size ≤ k ∧ k < w11.heap.size)) k ) (fun k hk e e2 => e (.inl e2))) (fun _ _ e => e)) (fun _ _ e => e))) (fun k a b e => e (.inr ⟨a, b⟩))).ok
          have HSM := Lib.hid (fun (u : World) (hu : Below w17.heap.size w17 u) (y z : PV) (hy : PVok w17 w17.heap.size y) (hz : PVok w17 w17.heap.size z) (he : y.pl = z.pl) => kv.same_k u w17.heap.size y z (hy.below hu (Nat.le_refl _)) (hz.below hu (Nat.le_refl _)) hu.size he)
          have HPV := Lib.hid (And.intro hv17 (And.intro hx17 (And.intro hr17 htw)))
          have HGG := Lib.hid (And.intro gv17 (And.intro gx17 (And.intro gr17 gt17)))
          have HT := Lib.hid (show t.pl = X from htp.trans (dec_enc HCX.out).2)
          have HB17 := Lib.hid (HB04.out.trans ((HV5.out.2.2.trans (hb517.mono s45)).mono (by omega)))
          have HK17 := Lib.hid hK17
          clear htp hto hb16 hb1617 gt17 hb1517 hK17 hb517 htw hc1417 gr17 hr17 gv11 gv12 gv14 gv17 hv17 gx12 gx14 gx17 hx12 hb1214 lx12 hx17 HGET HK15
          have ga0 := blk_below (Below.refl _ _) HGG.out.2.2.1 (blk_lt HGG.out.2.2.1)
          have gb0 := blk_below (Below.refl _ _) HGG.out.2.1 (blk_lt HGG.out.2.1)
          obtain ⟨⟨b0, b1, b2⟩, _, _, _⟩ := isv3_cells ga0
          obtain ⟨⟨e0, e1, e2⟩, _, _, _⟩ := isv3_cells gb0
          have la := blk_lt ga0
          have lb := blk_lt gb0
          have HS0 := Lib.hid (HSM.out _ (Below.refl _ _) r x HPV.out.2.2.1 HPV.out.2.1 (by rw [HR14.out.1, HX10.out.1]))
          clear ga0 gb0
          go_wp2_with (fail)
          clear hw17
          refine HS0.out.mono ?_
          rintro e q1 ⟨rfl, hq1⟩
          have HQ1 := Lib.hid (hq1)
          clear hq1 b0 b1 b2 e0 e1 e2 la lb
          have ga1 := blk_below HQ1.out HGG.out.2.2.2 (blk_lt HGG.out.2.2.2)
          have gb1 := blk_below HQ1.out HGG.out.2.1 (blk_lt HGG.out.2.1)
          obtain ⟨⟨b0, b1, b2⟩, _, _, _⟩ := isv3_cells ga1
          obtain ⟨⟨e0, e1, e2⟩, _, _, _⟩ := isv3_cells gb1
          have la := blk_lt ga1
          have lb := blk_lt gb1
          have HS1 := Lib.hid (HSM.out _ HQ1.out t x HPV.out.2.2.2 HPV.out.2.1 (by rw [HT.out, HX10.out.1]))
          clear ga1 gb1
          go_wp2_with (fail)
          refine HS1.out.mono ?_
          rintro e q2 ⟨rfl, hq2⟩
          have HQ2 := Lib.hid (HQ1.out.trans (hq2.mono HQ1.out.size))
          clear hq2 b0 b1 b2 e0 e1 e2 la lb
          go_wp2_with (fail)
          go_ret
          exact ⟨rfl, HB17.out.trans (HQ2.out.mono HB17.out.size)⟩
      · have hf : kv.encE X = 50 := by unfold kv.encE; rw [if_neg cX]
        have hm : (kv.encB X).length = 0 := by unfold kv.encB; rw [if_neg cX]; rfl
        rw [hf, hm] at henc
        have HSE := Lib.hid (full_bad (o := some (kv.encP P)) (R := (n : Int) + ρ) cX)
        clear hf hm cX
        have HENC := Lib.hid henc
        clear henc
        go_wp2_with (fail)
        clear hw10
        refine HENC.out.mono ?_
        rintro e w11 ⟨A2, C2, rfl, _, hb1011, _⟩
        have s1011 := hb1011.size
        have gx11 := blk_below hb1011 HX10.out.2.2.1 lx10
        have hb811 : Below w8.heap.size w8 w11 := HX10.out.2.2.2.1.trans (hb1011.mono HX10.out.2.2.2.1.size)
        have hx11 := op_below HX10.out.2.1 hb1011
        have hk11 := HK8.out.mark hb811 (Y := (fun k => k < w5.heap.size ∨ (w8.heap.size ≤ k ∧ k < w11.heap.size))) (fun k hk => by
          rcases hk with e | e
          · exact .inl e
          · exact .inr e.1) (fun k hk => by
          rcases hk with e | e
          · have := hb811.size; omega
          · exact e.2)
        clear c0 c1 c2
        obtain ⟨⟨c0, c1, c2⟩, _, _, _⟩ := isv3_cells gx11
        have lx11 := blk_lt gx11
        have hset := hk11.set 1 w11.heap.size x hx11.ok (Nat.le_refl _) hR0 hR1 (olen_enc HOK.out.1) (by decide)
        rw [HX10.out.1, HSE.out.1, HSE.out.2] at hset
        have HSET := Lib.hid hset
        have s811 := hb811.size
        have HX11 := Lib.hid (And.intro hx11 (And.intro gx11 hb811))
        clear hb1011 gx11 hb811 hx11 hk11 hset HENC
        go_wp2_with (fail)
        refine HSET.out.mono ?_
        rintro e w12 ⟨rfl, hk12, hc12⟩
        have HGET := Lib.hid (hk12.get (olen_enc HOK.out.1))
        have HK12 := Lib.hid hk12
        have HC12 := Lib.hid hc12
        have s1112 := hc12.size
        clear hk12 hc12 HSET c0 c1 c2 lx11
        go_wp2_with (fail)
        refine HGET.out.mono ?_
        unfold RetGet
        rw [show decide (kv.decE ((some (kv.encP P)).getD []) = 0) = true from by rw [show kv.decE ((some (kv.encP P)).getD []) = 0 from (dec_enc HOK.out.1).1]; rfl]
        rintro e w13 ⟨r, rfl, hrp, hro, hb13⟩
        obtain ⟨w14, hw14⟩ : ∃ w14, w13.alloc (boxO r) = w14 := ⟨_, rfl⟩
        have hb1314 : Below w13.heap.size w13 w14 := by rw [← hw14]; exact (Below.refl _ _).alloc (Nat.le_refl _) _
        have gr : pm.Boxed w14 w13.heap.size r := by rw [← hw14]; exact alloc_new _ _
        have s1213 := hb13.size
        have s1314 := hb1314.size
        have hb1214 : Below w12.heap.size w12 w14 := hb13.trans (hb1314.mono s1213)
        obtain ⟨RB, hRB⟩ : ∃ RB, w13.heap.size = RB := ⟨_, rfl⟩
        rw [hRB] at gr
        have lr14 : RB < w14.heap.size := blk_lt gr
        have hr14 : OP w14 w12.heap.size r := op_below (show OP w13 w12.heap.size r from ⟨hro.n, hro.s, hro.each⟩) hb1314
        have hk14 := HK12.out.mark hb1214 (Y := (fun k => (k < w5.heap.size ∨ (w8.heap.size ≤ k ∧ k < w11.heap.size)) ∨ (w12.heap.size ≤ k ∧ k < w14.heap.size))) (fun k hk => by
          rcases hk with e | e
          · exact .inl e
          · exact .inr e.1) (fun k hk => by
          rcases hk with (e | e) | e
          · omega
          · omega
          · exact e.2)
        have HOP := Lib.hid hk14.disk.open
        have HR14 := Lib.hid (And.intro (show r.pl = P from hrp.trans (dec_enc HOK.out.1).2) (And.intro hr14 (And.intro gr hb1214)))
        clear hrp hro hb13 hb1314 gr hb1214 hr14 hk14 HGET HK12
        go_wp2_with (fail)
        clear hw14
        refine HOP.out.mono ?_
        rintro e w15 ⟨s2, rfl, hk15, hc15⟩
        have HGET := Lib.hid (hk15.get (olen_enc HOK.out.1))
        have HK15 := Lib.hid hk15
        have HC15 := Lib.hid hc15
        have s1415 := hc15.size
        clear hk15 hc15 HOP
        go_wp2_with (fail)
        refine HGET.out.mono ?_
        unfold RetGet
        rw [show decide (kv.decE ((some (kv.encP P)).getD []) = 0) = true from by rw [show kv.decE ((some (kv.encP P)).getD []) = 0 from (dec_enc HOK.out.1).1]; rfl]
        rintro e w16 ⟨t, rfl, htp, hto, hb16⟩
        obtain ⟨w17, hw17⟩ : ∃ w17, w16.alloc (boxO t) = w17 := ⟨_, rfl⟩
        have hb1617 : Below w16.heap.size w16 w17 := by rw [← hw17]; exact (Below.refl _ _).alloc (Nat.le_refl _) _
        have gt17 : pm.Boxed w17 w16.heap.size t := by rw [← hw17]; exact alloc_new _ _
        have s1516 := hb16.size
        have s1617 := hb1617.size
        have hb1517 : Below w15.heap.size w15 w17 := hb16.trans (hb1617.mono s1516)
        obtain ⟨TB, hTB⟩ : ∃ TB, w16.heap.size = TB := ⟨_, rfl⟩
        rw [hTB] at gt17
        have hK17 := HK15.out.quiet hb1517
        have hb517 := hK17.below
        have s517 := hb517.size
        have htw : PVok w17 w17.heap.size t := ((OP.ok ⟨hto.n, hto.s, hto.each⟩ : PVok w16 w16.heap.size t).below hb1617 (Nat.le_refl _)).more s1617
        have hc1417 : Chg (fun k => ¬ (fun k => (k < w5.heap.size ∨ (w8.heap.size ≤ k ∧ k < w11.heap.size)) ∨ (w12.heap.size ≤ k ∧ k < w14.heap.size)) k) w14 w17 := HC15.out.trans ((Chg.of_below hb1517).mono (fun _ _ e => e.elim)) (fun _ _ e => e)
        have gr17 := hc1417.blk HR14.out.2.2.1 (fun e => e (.inr ⟨by omega, lr14⟩))
        have hr17 := (op_keep HR14.out.2.1 hc1417 (fun k a b e => e (.inr ⟨a, b⟩))).ok
        have gv11 := blk_below HX11.out.2.2 HC8.out.2 (by omega)
        have gv12 := HC12.out.blk gv11 (fun e => e (.inl lv5))
        have gv14 := blk_below HR14.out.2.2.2 gv12 (by omega)
        have gv17 := hc1417.blk gv14 (fun e => e (.inl (.inl lv5)))
        have hv17 := (HV5.out.2.1.below hb517 (Nat.le_of_lt lv5)).more (C := w17.heap.size) (by omega)
        have gx12 := HC12.out.blk HX11.out.2.1 (fun e => e (.inr ⟨by omega, blk_lt HX11.out.2.1⟩))
        have gx14 := blk_below HR14.out.2.2.2 gx12 (blk_lt gx12)
        have gx17 := hc1417.blk gx14 (fun e => e (.inl (.inr ⟨by omega, blk_lt HX11.out.2.1⟩)))
        have hx12 := op_keep HX11.out.1 HC12.out (fun k a b e => e (.inr ⟨a, b⟩))
        have hb1214 := HR14.out.2.2.2
        have lx12 : ∀ k, w8.heap.size ≤ k → k < w11.heap.size → k < w12.heap.size := fun k _ h => by omega
        have hx17 : PVok w17 w17.heap.size x := (op_keep HX11.out.1 ((HC12.out.trans (((Chg.of_below hb1214).mono (S' := fun k => ¬ (fun k => k < w5.heap.size ∨ (w8.heap.size ≤ k ∧ k < w11.heap.size)) k) (fun _ _ e => e.elim)).trans (hc1417.mono (S' := fun k => ¬ (fun k => k < w5.heap.size ∨ (w8.heap.size ≤ k ∧ k < w11.heap.size)) k ) (fun k hk e e2 => e (.inl e2))) (fun _ _ e => e)) (fun _ _ e => e))) (fun k a b e => e (.inr ⟨a, b⟩))).ok
        have HSM := Lib.hid (fun (u : World) (hu : Below w17.heap.size w17 u) (y z : PV) (hy : PVok w17 w17.heap.size y) (hz : PVok w17 w17.heap.size z) (he : y.pl = z.pl) => kv.same_k u w17.heap.size y z (hy.below hu (Nat.le_refl _)) (hz.below hu (Nat.le_refl _)) hu.size he)
        have HPV := Lib.hid (And.intro hv17 (And.intro hx17 (And.intro hr17 htw)))
        have HGG := Lib.hid (And.intro gv17 (And.intro gx17 (And.intro gr17 gt17)))
        have HT := Lib.hid (show t.pl = P from htp.trans (dec_enc HOK.out.1).2)
        have HB17 := Lib.hid (HB04.out.trans ((HV5.out.2.2.trans (hb517.mono s45)).mono (by omega)))
        have HK17 := Lib.hid hK17
        clear htp hto hb16 hb1617 gt17 hb1517 hK17 hb517 htw hc1417 gr17 hr17 gv11 gv12 gv14 gv17 hv17 gx12 gx14 gx17 hx12 hb1214 lx12 hx17 HGET HK15
        have ga0 := blk_below (Below.refl _ _) HGG.out.2.2.1 (blk_lt HGG.out.2.2.1)
        have gb0 := blk_below (Below.refl _ _) HGG.out.1 (blk_lt HGG.out.1)
        obtain ⟨⟨b0, b1, b2⟩, _, _, _⟩ := isv3_cells ga0
        obtain ⟨⟨e0, e1, e2⟩, _, _, _⟩ := isv3_cells gb0
        have la := blk_lt ga0
        have lb := blk_lt gb0
        have HS0 := Lib.hid (HSM.out _ (Below.refl _ _) r v HPV.out.2.2.1 HPV.out.1 (by rw [HR14.out.1, HV.out.1]))
        clear ga0 gb0
        go_wp2_with (fail)
        clear hw17
        refine HS0.out.mono ?_
        rintro e q1 ⟨rfl, hq1⟩
        have HQ1 := Lib.hid (hq1)
        clear hq1 b0 b1 b2 e0 e1 e2 la lb
        go_wp2_with (fail)
        go_ret
        exact ⟨rfl, HB17.out.trans (HQ1.out.mono HB17.out.size)⟩
    · have hno := rinit_no (by rw [HP.out.1]; exact he)
      rw [HP.out.2] at hno
      have s1 : setE none 9 0 P = 50 := by unfold setE; rw [if_neg hno]
      have HO := Lib.hid (new_oc w4.drew 9 (by decide))
      have z0 := Wf.at_ (F := fun b => b ≠ V) c0 (fun e => e rfl)
      have z1 := Wf.at_ (F := fun b => b ≠ V) c1 (fun e => e rfl)
      have z2 := Wf.at_ (F := fun b => b ≠ V) c2 (fun e => e rfl)
      have S1 := Lib.hid s1
      clear hno s1
      go_wp2_with (fail)
      rw [HW4.out]
      go_wp2_with (fail)
      refine fr.wp_region_tree (F := fun b => b ≠ V) (.reads [2] (.one 0 false (.one 1 false (.one 3 false (.reads [4, 5] .stop))))) (by kernel_rfl) (by kernel_rfl) ?_
      refine fr.tr_reads _ (by dsimp only [pick, ord.at_]) ?_
      repeat (go_big_quiet_step (fail))
      refine wpQuiet_nil ?_
      clear z0 z1 z2 c0 c1 c2
      refine fr.tr_one _ (by dsimp only [pick, ord.at_]) ?_
      intro K1 g1 g2
      clear g2
      go_wp2_with (fail)
      refine HO.out.mono ?_
      rintro e w5 ⟨p, rfl, hoc5, hb5⟩
      have HF5 := Lib.hid (chg_trans (F := fun b => b ≠ V) (Chg.refl _ w4).drew ((Chg.of_below hb5).mono (fun _ _ e => e.elim)))
      have HOP := Lib.hid hoc5.open
      clear hoc5 hb5
      go_wp2_with (fail)
      refine g1 _ _ HF5.out ?_
      clear g1
      refine fr.tr_one _ (by dsimp only [pick, ord.at_]) ?_
      intro K2 g1 g2
      clear g2
      go_wp2_with (fail)
      refine HOP.out.mono ?_
      rintro e w6 ⟨s, rfl, hk6, hc6⟩
      have hb46 : Below w4.heap.size w4 w6 := (Chg.to_below (Chg.refl _ w4).drew).trans hk6.below
      have HF6 := Lib.hid (chg_trans HF5.out (hc6.mono (fun b _ e e9 => e (by show b < w4.heap.size; omega))))
      have hset := hk6.set 0 V v (HV.out.2.1.below hb46 (Nat.le_of_lt lv4)) (by have := hb46.size; omega) (by decide) (by decide) (by show 0 ≤ 1000; decide) (by decide)
      rw [HV.out.1, S1.out] at hset
      have HSET := Lib.hid hset
      clear hk6 hc6 hb46 hset
      go_wp2_with (fail)
      refine g1 _ _ HF6.out ?_
      clear g1
      refine fr.tr_one _ (by dsimp only [pick, ord.at_]) ?_
      intro K3 g1 g2
      clear g2
      go_wp2_with (fail)
      refine HSET.out.mono ?_
      rintro e w7 ⟨rfl, hk7, hc7⟩
      have HF7 := Lib.hid (chg_trans HF6.out (hc7.mono (fun b _ e e9 => e (by show b < w4.heap.size; omega))))
      have HB7 := Lib.hid (HB04.out.trans (((Chg.to_below (Chg.refl _ w4).drew).trans hk7.below).mono (by omega)))
      clear hk7 hc7
      go_wp2_with (fail)
      refine g1 _ _ HF7.out ?_
      clear g1
      refine fr.tr_reads _ (by dsimp only [pick, ord.at_]) ?_
      repeat (go_big_quiet_step (fail))
      refine wpQuiet_nil ?_
      refine fr.tr_stop ?_
      refine NoPanic.normal ?_
      go_wp2_with (fail)
      go_ret
      exact ⟨rfl, HB7.out⟩
theorem walk_ok (a0 : Option Addr) (len0 cap0 : Nat) (z0 : List Int) (a1 : Int) (a2 : SV) (a3 : Int) (w : World) (w0 : IsRow .i64 w a0 len0 cap0 z0) (w1 : (Lit.int .i64 a1).wf = true) (w2 : PVok w w.heap.size a2.u) (w3 : (Lit.int .u8 a3).wf = true) :
    Calls Tryz.prog 3 #[.slice a0 len0 cap0, .int .i64 a1, a2.val, .int .u8 a3] w fun e w' => e = .returned (.bool true) ∧ Below w.heap.size w w' := by
  have h := (Bool.and_eq_true _ _ ▸ w3 : decide (IntKind.u8.min ≤ a3) = true ∧ decide (a3 ≤ IntKind.u8.max) = true)
  exact walk a0 len0 cap0 z0 a1 a2.k a2.n a2.a a2.b a2.u a3 w w0 (of_decide_eq_true h.1) (of_decide_eq_true h.2)
end Go.Proofs.YtnjdondkggkfoaaGreat.lawKvFull
