/-
  The walk of the law KvOne: for all inputs it returns true.
-/
import Derived.Test.YtnjdondkggkfoaaKs
import Derived.Test.YtnjdondkggkfoaaKsN
import Derived.Test.YtnjdondkggkfoaaKsIn
import Derived.Test.YtnjdondkggkfoaaKvLaw
import Derived.Test.YtnjdondkggkfoaaPmCheckY
import Derived.Test.YtnjdondkggkfoaaPmInitM
namespace Go.Proofs.Ytnjdondkggkfoaa.lawKvOne
open Go.ChangeShapes Go.WideShapes Go.ChangeAt Go.RowKit Go.Shelf plain words ord mem pm ks

theorem rinit_ok {l : List Int} {z : Int} (h : rinitErr l z = 0) : chk (rinitPl l z) = 0 ∧ (rinitPl l z).ver = 1 := by
  rw [rinitErr_eq] at h
  rw [rinit_pl]
  exact ⟨chk_iff.2 (init_ok h).1, (init_ok h).2.2.1⟩
theorem rinit_no {l : List Int} {z : Int} (h : rinitErr l z ≠ 0) : chk (rinitPl l z) ≠ 0 := by
  unfold rinitPl
  rw [if_neg h]
  exact chk_zero
/-- the first -/
theorem set_first {P : Pl} (hc : chk P = 0) (hv : P.ver = 1) : setE none 4096 0 P = 0 ∧ setO none 4096 0 P = some (kv.encP P) := by
  have h1 := encP_small (chk_iff.1 hc)
  have e : setE none 4096 0 P = 0 := by
    unfold setE
    rw [if_pos hc, if_pos ⟨by show (0 : Int) = (kv.decP []).ver; rw [dec_nil.2]; rfl, by rw [hv]; rfl⟩, if_pos (by show ((0 : Nat) : Int) + _ ≤ _; omega)]
  exact ⟨e, if_pos e⟩
theorem some_ver {P : Pl} (hc : chk P = 0) : (kv.decP ((some (kv.encP P)).getD [])) = P := (dec_enc hc).2
theorem set_again {P : Pl} (hc : chk P = 0) (hv : P.ver = 1) : setE (some (kv.encP P)) 4096 0 P = 150 ∧ setO (some (kv.encP P)) 4096 0 P = some (kv.encP P) := by
  have e : setE (some (kv.encP P)) 4096 0 P = 150 := by
    unfold setE
    rw [if_pos hc, some_ver hc, if_neg (fun h => by have := h.1; omega)]
  exact ⟨e, if_neg (by rw [e]; decide)⟩
theorem set_yes {P X : Pl} (hc : chk P = 0) (hv : P.ver = 1) (hx : chk X = 0) (hxv : X.ver = P.ver + 1) : setE (some (kv.encP P)) 4096 1 X = 0 ∧ setO (some (kv.encP P)) 4096 1 X = some (kv.encP X) := by
  have h1 := encP_small (chk_iff.1 hc)
  have h2 := encP_small (chk_iff.1 hx)
  have e : setE (some (kv.encP P)) 4096 1 X = 0 := by
    unfold setE
    rw [if_pos hx, some_ver hc, if_pos ⟨hv.symm, by omega⟩, if_pos (by show ((kv.encP P).length : Int) + _ ≤ _; omega)]
  exact ⟨e, if_pos e⟩
theorem set_bad {o : Option al.Nm} {X : Pl} (hx : chk X ≠ 0) : setE o 4096 1 X = 50 ∧ setO o 4096 1 X = o := by
  have e : setE o 4096 1 X = 50 := by unfold setE; rw [if_neg hx]
  exact ⟨e, if_neg (by rw [e]; decide)⟩
theorem set_late {X Y : Pl} (hc : chk X = 0) (hv : X.ver = 2) : setE (some (kv.encP X)) 4096 1 Y ≠ 0 := by
  unfold setE
  rw [some_ver hc]
  split
  · rw [if_neg (fun h => by have := h.1; omega)]; decide
  · decide
theorem olen_enc {P : Pl} (h : chk P = 0) : olen (some (kv.encP P)) ≤ 1000 := by
  have := encP_small (chk_iff.1 h)
  show (kv.encP P).length ≤ 1000
  omega
theorem op_keep {S : Nat → Prop} {w w' : World} {B : Nat} {v : PV} (h : OP w B v) (hc : Chg S w w') (hS : ∀ k, B ≤ k → k < w.heap.size → ¬ S k) : OP w' B v :=
  ⟨h.n.chg hc (fun g hg => hS g (h.n.lt g hg).1 (h.n.lt g hg).2), h.s.chg hc (fun g hg => hS g (h.s.lt g hg).1 (h.s.lt g hg).2), fun r hr => (h.each r hr).chg hc (fun g hg => hS g ((h.each r hr).lt g hg).1 ((h.each r hr).lt g hg).2)⟩
theorem op_below {w w' : World} {B : Nat} {v : PV} (h : OP w B v) (hb : Below w.heap.size w w') : OP w' B v := op_keep h (Chg.of_below hb) (fun _ _ _ e => e)
theorem pv_ok {w : World} {B : Nat} {v : PV} (h : OP w B v) : PVok w w.heap.size v := h.ok
set_option maxHeartbeats 8000000 in
set_option maxRecDepth 100000 in
theorem walk (a0 : Option Addr) (len0 cap0 : Nat) (z0 : List Int) (a1 : Int) (k1 n1 x1 y1 : Int) (u1 : PV) (k2 n2 x2 y2 : Int) (u2 : PV) (w : World) (w0 : IsRow .i64 w a0 len0 cap0 z0) :
    Calls Try.prog 5 #[.slice a0 len0 cap0, .int .i64 a1, stepV k1 n1 x1 y1 u1, stepV k2 n2 x2 y2 u2] w fun e w' => e = .returned (.bool true) ∧ Below w.heap.size w w' := by
  obtain ⟨hls, hcap, hmost⟩ := row_ls w0
  obtain ⟨l, hl⟩ : ∃ l, z0.take len0 = l := ⟨_, rfl⟩
  rw [hl] at hls
  clear w0 hl
  obtain ⟨w2, hw2⟩ : ∃ w2, (w.alloc (stepO k1 n1 x1 y1 u1)).alloc (stepO k2 n2 x2 y2 u2) = w2 := ⟨_, rfl⟩
  obtain ⟨ga, gb, hb2, hs2⟩ := dk.alloc2 w (stepO k1 n1 x1 y1 u1) (stepO k2 n2 x2 y2 u2)
  rw [hw2] at ga gb hb2 hs2
  by_cases hbig : 64 < len0
  · have hbz : (64 : Int) < (len0 : Int) := by omega
    clear hbig ga gb
    have HW2 := Lib.hid hw2
    have HB2 := Lib.hid hb2
    clear hw2 hb2 hs2 hls
    go_enter Try.func5, Try.ntmps5
    go_wp2_with (fail)
    rw [HW2.out]
    go_ret
    exact ⟨rfl, HB2.out⟩
  · have hbz : ¬ (64 : Int) < (len0 : Int) := by omega
    have HI := Lib.hid (rinit_sy w2 w.heap.size len0 cap0 a0 l (hls.below hb2 (Nat.le_refl _)) hb2.size (by omega) hcap hmost a1)
    obtain ⟨er, her⟩ : ∃ er, rinitErr l a1 = er := ⟨_, rfl⟩
    obtain ⟨P, hP⟩ : ∃ P, rinitPl l a1 = P := ⟨_, rfl⟩
    rw [her, hP] at HI
    have HP := Lib.hid (And.intro her hP)
    have HW2 := Lib.hid hw2
    have HB2 := Lib.hid hb2
    have HGA := Lib.hid (And.intro ga gb)
    clear hbig hls hw2 hb2 hs2 ga gb her hP hcap hmost
    go_enter Try.func5, Try.ntmps5
    go_wp2_with (fail)
    rw [HW2.out]
    go_wp2_with (fail)
    refine HI.out.mono ?_
    rintro e w3 ⟨v, rfl, hpl, hop, hb3⟩
    obtain ⟨w4, hw4⟩ : ∃ w4, w3.alloc (boxO v) = w4 := ⟨_, rfl⟩
    have hb34 : Below w3.heap.size w3 w4 := by rw [← hw4]; exact (Below.refl _ _).alloc (Nat.le_refl _) _
    have gv : pm.Boxed w4 w3.heap.size v := by rw [← hw4]; exact alloc_new _ _
    have hb24 : Below w2.heap.size w2 w4 := hb3.trans (hb34.mono hb3.size)
    have hv4 : PVok w4 w3.heap.size v := hop.ok.below hb34 (Nat.le_refl _)
    have HV := Lib.hid (And.intro hpl (And.intro hv4 (And.intro gv (And.intro hb34 hb24))))
    have HW4 := Lib.hid hw4
    clear hpl hop hb3 hw4 hb34 gv hb24 hv4
    go_wp2_with (fail)
    rw [HW4.out]
    refine (new_open w4 4096 (by decide)).mono ?_
    rintro e w5 ⟨p, rfl, hb5, hopn⟩
    have HO := Lib.hid hopn
    clear hopn hb5
    go_wp2_with (fail)
    refine HO.out.mono ?_
    rintro e w6 ⟨s, rfl, hk6⟩
    have HK6 := Lib.hid hk6
    have hb46 := hk6.below
    have gv6 := blk_below hb46 HV.out.2.2.1 (blk_lt HV.out.2.2.1)
    obtain ⟨⟨c0, c1, c2⟩, _, _, _⟩ := isv3_cells gv6
    have lv6 := blk_lt gv6
    have h34 := HV.out.2.2.2.1.size
    have h24 := HV.out.2.2.2.2.size
    have hsw2 := HB2.out.size
    have hB06 : Below w.heap.size w w6 := (HB2.out.trans (HV.out.2.2.2.2.mono hsw2)).trans (hb46.mono (by omega))
    have HSET := Lib.hid (hk6.set 0 w3.heap.size v (HV.out.2.1.below hb46 h34) (by have := hb46.size; omega) (by decide) (by decide) (by show 0 ≤ 1000; decide) (by decide))
    have HB06 := Lib.hid hB06
    rw [HV.out.1] at HSET
    clear hk6 gv6 hB06 hb46
    by_cases he : er = 0
    · subst he
      have hok := rinit_ok HP.out.1
      rw [HP.out.2] at hok
      have s1 := set_first hok.1 hok.2
      rw [s1.1, s1.2] at HSET
      have HOK := Lib.hid hok
      clear hok s1
      go_wp2_with (fail)
      refine HSET.out.mono ?_
      rintro e w7 ⟨rfl, hk7, hc7⟩
      have hb47 := hk7.below
      have gv7 := blk_below hb47 HV.out.2.2.1 (blk_lt HV.out.2.2.1)
      clear c0 c1 c2 lv6
      obtain ⟨⟨c0, c1, c2⟩, _, _, _⟩ := isv3_cells gv7
      have lv7 := blk_lt gv7
      have HSET2 := Lib.hid (hk7.set 0 w3.heap.size v (HV.out.2.1.below hb47 h34) (by have := hb47.size; omega) (by decide) (by decide) (olen_enc HOK.out.1) (by decide))
      rw [HV.out.1, (set_again HOK.out.1 HOK.out.2).1, (set_again HOK.out.1 HOK.out.2).2] at HSET2
      clear hk7 hc7 gv7 hb47
      go_wp2_with (fail)
      refine HSET2.out.mono ?_
      rintro e w8 ⟨rfl, hk8, hc8⟩
      have hb48 := hk8.below
      have h48 := hb48.size
      have gv8 := blk_below hb48 HV.out.2.2.1 (blk_lt HV.out.2.2.1)
      have hb28 : Below w2.heap.size w2 w8 := HV.out.2.2.2.2.trans (hb48.mono h24)
      have ga8 := blk_below hb28 HGA.out.1 (blk_lt HGA.out.1)
      clear c0 c1 c2 lv7
      obtain ⟨⟨c0, c1, c2⟩, _, _, _⟩ := isv3_cells gv8
      obtain ⟨d0, d1, d2, d3, d4, d5, d6⟩ : w8.cell? ⟨w.heap.size, 0, none⟩ = some (.int .i64 k1) ∧ w8.cell? ⟨w.heap.size, 1, none⟩ = some (.int .i64 n1) ∧ w8.cell? ⟨w.heap.size, 2, none⟩ = some (.int .i64 x1) ∧ w8.cell? ⟨w.heap.size, 3, none⟩ = some (.int .i64 y1) ∧ w8.cell? ⟨w.heap.size, 4, none⟩ = some (.int .i64 u1.ver) ∧ w8.cell? ⟨w.heap.size, 5, none⟩ = some (.slice u1.nA u1.nodes.length u1.nc) ∧ w8.cell? ⟨w.heap.size, 6, none⟩ = some (.slice u1.sA u1.rs.length u1.sc) := by
        refine ⟨?_, ?_, ?_, ?_, ?_, ?_, ?_⟩ <;> (rw [cell_of_row _ _ _ _ _ _ ga8]; rfl)
      have lv8 := blk_lt gv8
      have la8 := blk_lt ga8
      have HN1 := Lib.hid (next_l w8 w3.heap.size v u1 k1 n1 x1 y1 (HV.out.2.1.below hb48 h34) (by omega))
      obtain ⟨X, hX⟩ : ∃ X, nextP P x1 n1 y1 = X := ⟨_, rfl⟩
      rw [HV.out.1, hX] at HN1
      have HX := Lib.hid hX
      have H8 := Lib.hid (And.intro hk8 (And.intro hb48 hb28))
      clear hk8 hc8 gv8 ga8 hX hb48 hb28
      go_wp2_with (fail)
      refine HN1.out.mono ?_
      rintro e w9 ⟨x, rfl, hxp, hxo, hb9⟩
      obtain ⟨w10, hw10⟩ : ∃ w10, w9.alloc (boxO x) = w10 := ⟨_, rfl⟩
      have hb910 : Below w9.heap.size w9 w10 := by rw [← hw10]; exact (Below.refl _ _).alloc (Nat.le_refl _) _
      have gx : pm.Boxed w10 w9.heap.size x := by rw [← hw10]; exact alloc_new _ _
      have h89 := hb9.size
      have hs910 := hb910.size
      have hb810 : Below w8.heap.size w8 w10 := hb9.trans (hb910.mono h89)
      have hb410 : Below w4.heap.size w4 w10 := H8.out.2.1.trans (hb810.mono h48)
      have gv10 := blk_below hb410 HV.out.2.2.1 (blk_lt HV.out.2.2.1)
      have hb210 : Below w2.heap.size w2 w10 := HV.out.2.2.2.2.trans (hb410.mono h24)
      have gb10 := blk_below hb210 HGA.out.2 (blk_lt HGA.out.2)
      clear c0 c1 c2 d0 d1 d2 d3 d4 d5 d6 lv8 la8
      obtain ⟨⟨c0, c1, c2⟩, _, _, _⟩ := isv3_cells gv10
      obtain ⟨d0, d1, d2, d3, d4, d5, d6⟩ : w10.cell? ⟨w.heap.size + 1, 0, none⟩ = some (.int .i64 k2) ∧ w10.cell? ⟨w.heap.size + 1, 1, none⟩ = some (.int .i64 n2) ∧ w10.cell? ⟨w.heap.size + 1, 2, none⟩ = some (.int .i64 x2) ∧ w10.cell? ⟨w.heap.size + 1, 3, none⟩ = some (.int .i64 y2) ∧ w10.cell? ⟨w.heap.size + 1, 4, none⟩ = some (.int .i64 u2.ver) ∧ w10.cell? ⟨w.heap.size + 1, 5, none⟩ = some (.slice u2.nA u2.nodes.length u2.nc) ∧ w10.cell? ⟨w.heap.size + 1, 6, none⟩ = some (.slice u2.sA u2.rs.length u2.sc) := by
        refine ⟨?_, ?_, ?_, ?_, ?_, ?_, ?_⟩ <;> (rw [cell_of_row _ _ _ _ _ _ gb10]; rfl)
      have lv10 := blk_lt gv10
      have lb10 := blk_lt gb10
      have HN2 := Lib.hid (next_l w10 w3.heap.size v u2 k2 n2 x2 y2 (HV.out.2.1.below hb410 h34) (by omega))
      obtain ⟨Y, hY⟩ : ∃ Y, nextP P x2 n2 y2 = Y := ⟨_, rfl⟩
      rw [HV.out.1, hY] at HN2
      have HY := Lib.hid hY
      have HX10 := Lib.hid (And.intro hxp (And.intro (op_below hxo hb910) (And.intro gx (And.intro hb810 hb410))))
      clear hxp hxo hb9 hb910 gx hb810 hb410 gv10 hb210 gb10 hY
      go_wp2_with (fail)
      refine HN2.out.mono ?_
      rintro e w11 ⟨y, rfl, hyp, hyo, hb11⟩
      obtain ⟨w12, hw12⟩ : ∃ w12, w11.alloc (boxO y) = w12 := ⟨_, rfl⟩
      have hb1112 : Below w11.heap.size w11 w12 := by rw [← hw12]; exact (Below.refl _ _).alloc (Nat.le_refl _) _
      have gy : pm.Boxed w12 w11.heap.size y := by rw [← hw12]; exact alloc_new _ _
      have h1011 := hb11.size
      have h1112 := hb1112.size
      have hb1012 : Below w10.heap.size w10 w12 := hb11.trans (hb1112.mono h1011)
      have gx12 := blk_below hb1012 HX10.out.2.2.1 (blk_lt HX10.out.2.2.1)
      have hx12 := op_below HX10.out.2.1 hb1012
      have hy12 := op_below hyo hb1112
      have hb812 : Below w8.heap.size w8 w12 := HX10.out.2.2.2.1.trans (hb1012.mono (by omega))
      have hk12 := H8.out.1.mark hb812 (Y := fun k => w8.heap.size ≤ k ∧ k < w12.heap.size) (fun k hk => .inr hk.1) (fun k hk => hk.2)
      clear c0 c1 c2 d0 d1 d2 d3 d4 d5 d6 lv10 lb10
      obtain ⟨⟨c0, c1, c2⟩, _, _, _⟩ := isv3_cells gx12
      have lx12 := blk_lt gx12
      have H12 := Lib.hid (And.intro gx12 (And.intro gy (And.intro hx12 (And.intro hy12 hk12))))
      have HYP := Lib.hid hyp
      have HOC := Lib.hid (olen_enc HOK.out.1)
      have HSX := Lib.hid (hk12.set 1 w12.heap.size x hx12.ok (Nat.le_refl _) (by decide) (by decide) (olen_enc HOK.out.1) (by decide))
      rw [HX10.out.1] at HSX
      clear hyp hyo hb11 hw10 hb1112 gy hb1012 gx12 hx12 hy12 hb812 hk12
      by_cases cX : chk X = 0
      · have hxv : X.ver = P.ver + 1 := by have := next_ver (p := P) (k := x1) (a := n1) (b := y1) (by rw [HX.out]; exact cX); rwa [HX.out] at this
        rw [(set_yes HOK.out.1 HOK.out.2 cX hxv).1, (set_yes HOK.out.1 HOK.out.2 cX hxv).2] at HSX
        go_wp2_with (fail)
        clear hw12
        refine HSX.out.mono ?_
        rintro e w13 ⟨rfl, hk13, hc13⟩
        have h1213 := hc13.size
        have no13 : ∀ k, w8.heap.size ≤ k → k < w12.heap.size → ¬ ¬ (w8.heap.size ≤ k ∧ k < w12.heap.size) := fun k a b e => e ⟨a, b⟩
        have gx13 := hc13.blk H12.out.1 (no13 _ (by omega) (blk_lt H12.out.1))
        have gy13 := hc13.blk H12.out.2.1 (no13 _ (by omega) (blk_lt H12.out.2.1))
        have hx13 := op_keep H12.out.2.2.1 hc13 (fun k a b => no13 k (by omega) b)
        have hy13 := op_keep H12.out.2.2.2.1 hc13 (fun k a b => no13 k (by omega) b)
        clear c0 c1 c2
        obtain ⟨⟨c0, c1, c2⟩, _, _, _⟩ := isv3_cells gy13
        have ly13 := blk_lt gy13
        have HSY := Lib.hid (hk13.set 1 w13.heap.size y hy13.ok (Nat.le_refl _) (by decide) (by decide) (olen_enc cX) (by decide))
        rw [HYP.out] at HSY
        obtain ⟨G, hG⟩ : ∃ G, setE (some (kv.encP X)) 4096 1 Y = G := ⟨_, rfl⟩
        have hG0 : G ≠ 0 := by rw [← hG]; exact set_late cX (by have := HOK.out.2; omega)
        have HGB := Lib.hid (show (G != 0) = true by simpa using hG0)
        have hO2 : setO (some (kv.encP X)) 4096 1 Y = some (kv.encP X) := if_neg (by rw [hG]; exact hG0)
        rw [hG, hO2] at HSY
        clear hG hO2
        have H13 := Lib.hid hc13
        clear hk13 hc13 gx13 gy13 hx13 hy13 no13
        go_wp2_with (fail)
        refine HSY.out.mono ?_
        rintro e w14 ⟨rfl, hk14, hc14⟩
        have h1314 := hc14.size
        have no14 : ∀ k, w8.heap.size ≤ k → k < w12.heap.size → ¬ ¬ (w8.heap.size ≤ k ∧ k < w12.heap.size) := fun k a b e => e ⟨a, b⟩
        have hc1214 := H13.out.trans hc14 (fun _ _ e => e)
        have gx14 := hc1214.blk H12.out.1 (no14 _ (by omega) (blk_lt H12.out.1))
        have gy14 := hc1214.blk H12.out.2.1 (no14 _ (by omega) (blk_lt H12.out.2.1))
        have hx14 := op_keep H12.out.2.2.1 hc1214 (fun k a b => no14 k (by omega) b)
        have hy14 := op_keep H12.out.2.2.2.1 hc1214 (fun k a b => no14 k (by omega) b)
        have HGET := Lib.hid (hk14.get (olen_enc cX))
        have hb414 := hk14.below
        have H14 := Lib.hid (And.intro gx14 (And.intro gy14 (And.intro hb414 (And.intro hx14 hy14))))
        clear hk14 gx14 gy14 no14 c0 c1 c2 hc14 hb414 hc1214 hx14 hy14
        go_wp2_with (fail)
        refine HGET.out.mono ?_
        rintro e w15 ⟨r, rfl, hrp, hro, hb15⟩
        obtain ⟨w16, hw16⟩ : ∃ w16, w15.alloc (boxO r) = w16 := ⟨_, rfl⟩
        have hb1516 : Below w15.heap.size w15 w16 := by rw [← hw16]; exact (Below.refl _ _).alloc (Nat.le_refl _) _
        have gr16 : pm.Boxed w16 w15.heap.size r := by rw [← hw16]; exact alloc_new _ _
        have h1415 := hb15.size
        have h1516 := hb1516.size
        have hb1416 : Below w14.heap.size w14 w16 := hb15.trans (hb1516.mono h1415)
        have hb416 : Below w4.heap.size w4 w16 := H14.out.2.2.1.trans (hb1416.mono H14.out.2.2.1.size)
        have h416 := hb416.size
        have gx16 := blk_below hb1416 H14.out.1 (blk_lt H14.out.1)
        have gy16 := blk_below hb1416 H14.out.2.1 (blk_lt H14.out.2.1)
        have gv16 := blk_below hb416 HV.out.2.2.1 (blk_lt HV.out.2.2.1)
        have hx16 := (op_below H14.out.2.2.2.1 hb1416).ok
        have hy16 := (op_below H14.out.2.2.2.2 hb1416).ok
        have hv16 := HV.out.2.1.below hb416 h34
        have hr16 := (OP.ok ⟨hro.n, hro.s, hro.each⟩ : PVok w15 w15.heap.size r).below hb1516 (Nat.le_refl _)
        have hb016 : Below w.heap.size w w16 := (HB2.out.trans (HV.out.2.2.2.2.mono hsw2)).trans (hb416.mono (by omega))
        have HR := Lib.hid hrp
        have HCX := Lib.hid (rcheck_y w16 w16.heap.size x hx16 (Nat.le_refl _))
        have HCY := Lib.hid (fun (u : World) (hu : Below w16.heap.size w16 u) => rcheck_y u w16.heap.size y (hy16.below hu (Nat.le_refl _)) hu.size)
        have HSM := Lib.hid (fun (u : World) (hu : Below w16.heap.size w16 u) (z : PV) (hz : PVok w16 w16.heap.size z) (he : r.pl = z.pl) => kv.same_k u w16.heap.size r z ((hr16.more (by omega)).below hu (Nat.le_refl _)) (hz.below hu (Nat.le_refl _)) hu.size he)
        have HPV := Lib.hid (And.intro hx16 (And.intro hy16 (hv16.more (C := w16.heap.size) (by omega))))
        have HGG := Lib.hid (And.intro gr16 (And.intro gx16 (And.intro gy16 gv16)))
        have HB16 := Lib.hid hb016
        rw [HX10.out.1] at HCX
        rw [HYP.out] at HCY
        obtain ⟨⟨c0, c1, c2⟩, _, _, _⟩ := isv3_cells gx16
        have lx16 := blk_lt gx16
        clear hrp hro hb15 hb1516 gr16 hb1416 hb416 gx16 gy16 gv16 hx16 hy16 hv16 hr16 hb016
        rw [cX] at HCX
        go_wp2_with (fail)
        clear hw16
        refine HCX.out.mono ?_
        rintro e w17 ⟨rfl, hb17⟩
        have HB17 := Lib.hid hb17
        clear hb17 c0 c1 c2
        have gr17 := blk_below HB17.out HGG.out.1 (blk_lt HGG.out.1)
        have gz17 := blk_below HB17.out HGG.out.2.1 (blk_lt HGG.out.2.1)
        obtain ⟨⟨b0, b1, b2⟩, _, _, _⟩ := isv3_cells gr17
        obtain ⟨⟨e0, e1, e2⟩, _, _, _⟩ := isv3_cells gz17
        have lr17 := blk_lt gr17
        have lz17 := blk_lt gz17
        have HSS := Lib.hid (HSM.out _ HB17.out x HPV.out.1 (by rw [HR.out, some_ver cX, HX10.out.1]))
        clear gr17 gz17
        go_wp2_with (fail)
        refine HSS.out.mono ?_
        rintro e w19 ⟨rfl, hb19⟩
        have HF := Lib.hid (HB16.out.trans ((HB17.out.trans (hb19.mono HB17.out.size)).mono HB16.out.size))
        clear hb19
        go_wp2_with (fail)
        go_ret
        exact ⟨by show Ending.returned (.bool (G != 0)) = _; rw [HGB.out], HF.out⟩
      · by_cases cY : chk Y = 0
        · have hyv : Y.ver = P.ver + 1 := by have := next_ver (p := P) (k := x2) (a := n2) (b := y2) (by rw [HY.out]; exact cY); rwa [HY.out] at this
          rw [(set_bad cX).1, (set_bad cX).2] at HSX
          go_wp2_with (fail)
          clear hw12
          refine HSX.out.mono ?_
          rintro e w13 ⟨rfl, hk13, hc13⟩
          have h1213 := hc13.size
          have no13 : ∀ k, w8.heap.size ≤ k → k < w12.heap.size → ¬ ¬ (w8.heap.size ≤ k ∧ k < w12.heap.size) := fun k a b e => e ⟨a, b⟩
          have gx13 := hc13.blk H12.out.1 (no13 _ (by omega) (blk_lt H12.out.1))
          have gy13 := hc13.blk H12.out.2.1 (no13 _ (by omega) (blk_lt H12.out.2.1))
          have hx13 := op_keep H12.out.2.2.1 hc13 (fun k a b => no13 k (by omega) b)
          have hy13 := op_keep H12.out.2.2.2.1 hc13 (fun k a b => no13 k (by omega) b)
          clear c0 c1 c2
          obtain ⟨⟨c0, c1, c2⟩, _, _, _⟩ := isv3_cells gy13
          have ly13 := blk_lt gy13
          have HSY := Lib.hid (hk13.set 1 w13.heap.size y hy13.ok (Nat.le_refl _) (by decide) (by decide) (olen_enc HOK.out.1) (by decide))
          rw [HYP.out] at HSY
          rw [(set_yes HOK.out.1 HOK.out.2 cY hyv).1, (set_yes HOK.out.1 HOK.out.2 cY hyv).2] at HSY
          have H13 := Lib.hid hc13
          clear hk13 hc13 gx13 gy13 hx13 hy13 no13
          go_wp2_with (fail)
          refine HSY.out.mono ?_
          rintro e w14 ⟨rfl, hk14, hc14⟩
          have h1314 := hc14.size
          have no14 : ∀ k, w8.heap.size ≤ k → k < w12.heap.size → ¬ ¬ (w8.heap.size ≤ k ∧ k < w12.heap.size) := fun k a b e => e ⟨a, b⟩
          have hc1214 := H13.out.trans hc14 (fun _ _ e => e)
          have gx14 := hc1214.blk H12.out.1 (no14 _ (by omega) (blk_lt H12.out.1))
          have gy14 := hc1214.blk H12.out.2.1 (no14 _ (by omega) (blk_lt H12.out.2.1))
          have hx14 := op_keep H12.out.2.2.1 hc1214 (fun k a b => no14 k (by omega) b)
          have hy14 := op_keep H12.out.2.2.2.1 hc1214 (fun k a b => no14 k (by omega) b)
          have HGET := Lib.hid (hk14.get (olen_enc cY))
          have hb414 := hk14.below
          have H14 := Lib.hid (And.intro gx14 (And.intro gy14 (And.intro hb414 (And.intro hx14 hy14))))
          clear hk14 gx14 gy14 no14 c0 c1 c2 hc14 hb414 hc1214 hx14 hy14
          go_wp2_with (fail)
          refine HGET.out.mono ?_
          rintro e w15 ⟨r, rfl, hrp, hro, hb15⟩
          obtain ⟨w16, hw16⟩ : ∃ w16, w15.alloc (boxO r) = w16 := ⟨_, rfl⟩
          have hb1516 : Below w15.heap.size w15 w16 := by rw [← hw16]; exact (Below.refl _ _).alloc (Nat.le_refl _) _
          have gr16 : pm.Boxed w16 w15.heap.size r := by rw [← hw16]; exact alloc_new _ _
          have h1415 := hb15.size
          have h1516 := hb1516.size
          have hb1416 : Below w14.heap.size w14 w16 := hb15.trans (hb1516.mono h1415)
          have hb416 : Below w4.heap.size w4 w16 := H14.out.2.2.1.trans (hb1416.mono H14.out.2.2.1.size)
          have h416 := hb416.size
          have gx16 := blk_below hb1416 H14.out.1 (blk_lt H14.out.1)
          have gy16 := blk_below hb1416 H14.out.2.1 (blk_lt H14.out.2.1)
          have gv16 := blk_below hb416 HV.out.2.2.1 (blk_lt HV.out.2.2.1)
          have hx16 := (op_below H14.out.2.2.2.1 hb1416).ok
          have hy16 := (op_below H14.out.2.2.2.2 hb1416).ok
          have hv16 := HV.out.2.1.below hb416 h34
          have hr16 := (OP.ok ⟨hro.n, hro.s, hro.each⟩ : PVok w15 w15.heap.size r).below hb1516 (Nat.le_refl _)
          have hb016 : Below w.heap.size w w16 := (HB2.out.trans (HV.out.2.2.2.2.mono hsw2)).trans (hb416.mono (by omega))
          have HR := Lib.hid hrp
          have HCX := Lib.hid (rcheck_y w16 w16.heap.size x hx16 (Nat.le_refl _))
          have HCY := Lib.hid (fun (u : World) (hu : Below w16.heap.size w16 u) => rcheck_y u w16.heap.size y (hy16.below hu (Nat.le_refl _)) hu.size)
          have HSM := Lib.hid (fun (u : World) (hu : Below w16.heap.size w16 u) (z : PV) (hz : PVok w16 w16.heap.size z) (he : r.pl = z.pl) => kv.same_k u w16.heap.size r z ((hr16.more (by omega)).below hu (Nat.le_refl _)) (hz.below hu (Nat.le_refl _)) hu.size he)
          have HPV := Lib.hid (And.intro hx16 (And.intro hy16 (hv16.more (C := w16.heap.size) (by omega))))
          have HGG := Lib.hid (And.intro gr16 (And.intro gx16 (And.intro gy16 gv16)))
          have HB16 := Lib.hid hb016
          rw [HX10.out.1] at HCX
          rw [HYP.out] at HCY
          obtain ⟨⟨c0, c1, c2⟩, _, _, _⟩ := isv3_cells gx16
          have lx16 := blk_lt gx16
          clear hrp hro hb15 hb1516 gr16 hb1416 hb416 gx16 gy16 gv16 hx16 hy16 hv16 hr16 hb016
          obtain ⟨qx, hqx⟩ : ∃ q, chk X = q := ⟨_, rfl⟩
          have hqx0 : ¬ qx = 0 := by rw [← hqx]; exact cX
          rw [hqx] at HCX
          clear hqx
          go_wp2_with (fail)
          clear hw16
          refine HCX.out.mono ?_
          rintro e w18 ⟨rfl, hb18⟩
          have gy18 := blk_below hb18 HGG.out.2.2.1 (blk_lt HGG.out.2.2.1)
          clear c0 c1 c2
          obtain ⟨⟨c0, c1, c2⟩, _, _, _⟩ := isv3_cells gy18
          have ly18 := blk_lt gy18
          have HCZ := Lib.hid (HCY.out _ hb18)
          have HB18 := Lib.hid hb18
          clear hb18 gy18
          rw [cY] at HCZ
          go_wp2_with (fail)
          refine HCZ.out.mono ?_
          rintro e w17 ⟨rfl, hb17⟩
          have HB17 := Lib.hid (HB18.out.trans (hb17.mono HB18.out.size))
          clear hb17 c0 c1 c2
          have gr17 := blk_below HB17.out HGG.out.1 (blk_lt HGG.out.1)
          have gz17 := blk_below HB17.out HGG.out.2.2.1 (blk_lt HGG.out.2.2.1)
          obtain ⟨⟨b0, b1, b2⟩, _, _, _⟩ := isv3_cells gr17
          obtain ⟨⟨e0, e1, e2⟩, _, _, _⟩ := isv3_cells gz17
          have lr17 := blk_lt gr17
          have lz17 := blk_lt gz17
          have HSS := Lib.hid (HSM.out _ HB17.out y HPV.out.2.1 (by rw [HR.out, some_ver cY, HYP.out]))
          clear gr17 gz17
          go_wp2_with (fail)
          refine HSS.out.mono ?_
          rintro e w19 ⟨rfl, hb19⟩
          have HF := Lib.hid (HB16.out.trans ((HB17.out.trans (hb19.mono HB17.out.size)).mono HB16.out.size))
          clear hb19
          go_wp2_with (fail)
          go_ret
          exact ⟨rfl, HF.out⟩
        · skip
          rw [(set_bad cX).1, (set_bad cX).2] at HSX
          go_wp2_with (fail)
          clear hw12
          refine HSX.out.mono ?_
          rintro e w13 ⟨rfl, hk13, hc13⟩
          have h1213 := hc13.size
          have no13 : ∀ k, w8.heap.size ≤ k → k < w12.heap.size → ¬ ¬ (w8.heap.size ≤ k ∧ k < w12.heap.size) := fun k a b e => e ⟨a, b⟩
          have gx13 := hc13.blk H12.out.1 (no13 _ (by omega) (blk_lt H12.out.1))
          have gy13 := hc13.blk H12.out.2.1 (no13 _ (by omega) (blk_lt H12.out.2.1))
          have hx13 := op_keep H12.out.2.2.1 hc13 (fun k a b => no13 k (by omega) b)
          have hy13 := op_keep H12.out.2.2.2.1 hc13 (fun k a b => no13 k (by omega) b)
          clear c0 c1 c2
          obtain ⟨⟨c0, c1, c2⟩, _, _, _⟩ := isv3_cells gy13
          have ly13 := blk_lt gy13
          have HSY := Lib.hid (hk13.set 1 w13.heap.size y hy13.ok (Nat.le_refl _) (by decide) (by decide) (olen_enc HOK.out.1) (by decide))
          rw [HYP.out] at HSY
          rw [(set_bad cY).1, (set_bad cY).2] at HSY
          have H13 := Lib.hid hc13
          clear hk13 hc13 gx13 gy13 hx13 hy13 no13
          go_wp2_with (fail)
          refine HSY.out.mono ?_
          rintro e w14 ⟨rfl, hk14, hc14⟩
          have h1314 := hc14.size
          have no14 : ∀ k, w8.heap.size ≤ k → k < w12.heap.size → ¬ ¬ (w8.heap.size ≤ k ∧ k < w12.heap.size) := fun k a b e => e ⟨a, b⟩
          have hc1214 := H13.out.trans hc14 (fun _ _ e => e)
          have gx14 := hc1214.blk H12.out.1 (no14 _ (by omega) (blk_lt H12.out.1))
          have gy14 := hc1214.blk H12.out.2.1 (no14 _ (by omega) (blk_lt H12.out.2.1))
          have hx14 := op_keep H12.out.2.2.1 hc1214 (fun k a b => no14 k (by omega) b)
          have hy14 := op_keep H12.out.2.2.2.1 hc1214 (fun k a b => no14 k (by omega) b)
          have HGET := Lib.hid (hk14.get (olen_enc HOK.out.1))
          have hb414 := hk14.below
          have H14 := Lib.hid (And.intro gx14 (And.intro gy14 (And.intro hb414 (And.intro hx14 hy14))))
          clear hk14 gx14 gy14 no14 c0 c1 c2 hc14 hb414 hc1214 hx14 hy14
          go_wp2_with (fail)
          refine HGET.out.mono ?_
          rintro e w15 ⟨r, rfl, hrp, hro, hb15⟩
          obtain ⟨w16, hw16⟩ : ∃ w16, w15.alloc (boxO r) = w16 := ⟨_, rfl⟩
          have hb1516 : Below w15.heap.size w15 w16 := by rw [← hw16]; exact (Below.refl _ _).alloc (Nat.le_refl _) _
          have gr16 : pm.Boxed w16 w15.heap.size r := by rw [← hw16]; exact alloc_new _ _
          have h1415 := hb15.size
          have h1516 := hb1516.size
          have hb1416 : Below w14.heap.size w14 w16 := hb15.trans (hb1516.mono h1415)
          have hb416 : Below w4.heap.size w4 w16 := H14.out.2.2.1.trans (hb1416.mono H14.out.2.2.1.size)
          have h416 := hb416.size
          have gx16 := blk_below hb1416 H14.out.1 (blk_lt H14.out.1)
          have gy16 := blk_below hb1416 H14.out.2.1 (blk_lt H14.out.2.1)
          have gv16 := blk_below hb416 HV.out.2.2.1 (blk_lt HV.out.2.2.1)
          have hx16 := (op_below H14.out.2.2.2.1 hb1416).ok
          have hy16 := (op_below H14.out.2.2.2.2 hb1416).ok
          have hv16 := HV.out.2.1.below hb416 h34
          have hr16 := (OP.ok ⟨hro.n, hro.s, hro.each⟩ : PVok w15 w15.heap.size r).below hb1516 (Nat.le_refl _)
          have hb016 : Below w.heap.size w w16 := (HB2.out.trans (HV.out.2.2.2.2.mono hsw2)).trans (hb416.mono (by omega))
          have HR := Lib.hid hrp
          have HCX := Lib.hid (rcheck_y w16 w16.heap.size x hx16 (Nat.le_refl _))
          have HCY := Lib.hid (fun (u : World) (hu : Below w16.heap.size w16 u) => rcheck_y u w16.heap.size y (hy16.below hu (Nat.le_refl _)) hu.size)
          have HSM := Lib.hid (fun (u : World) (hu : Below w16.heap.size w16 u) (z : PV) (hz : PVok w16 w16.heap.size z) (he : r.pl = z.pl) => kv.same_k u w16.heap.size r z ((hr16.more (by omega)).below hu (Nat.le_refl _)) (hz.below hu (Nat.le_refl _)) hu.size he)
          have HPV := Lib.hid (And.intro hx16 (And.intro hy16 (hv16.more (C := w16.heap.size) (by omega))))
          have HGG := Lib.hid (And.intro gr16 (And.intro gx16 (And.intro gy16 gv16)))
          have HB16 := Lib.hid hb016
          rw [HX10.out.1] at HCX
          rw [HYP.out] at HCY
          obtain ⟨⟨c0, c1, c2⟩, _, _, _⟩ := isv3_cells gx16
          have lx16 := blk_lt gx16
          clear hrp hro hb15 hb1516 gr16 hb1416 hb416 gx16 gy16 gv16 hx16 hy16 hv16 hr16 hb016
          obtain ⟨qx, hqx⟩ : ∃ q, chk X = q := ⟨_, rfl⟩
          have hqx0 : ¬ qx = 0 := by rw [← hqx]; exact cX
          rw [hqx] at HCX
          clear hqx
          go_wp2_with (fail)
          clear hw16
          refine HCX.out.mono ?_
          rintro e w18 ⟨rfl, hb18⟩
          have gy18 := blk_below hb18 HGG.out.2.2.1 (blk_lt HGG.out.2.2.1)
          clear c0 c1 c2
          obtain ⟨⟨c0, c1, c2⟩, _, _, _⟩ := isv3_cells gy18
          have ly18 := blk_lt gy18
          have HCZ := Lib.hid (HCY.out _ hb18)
          have HB18 := Lib.hid hb18
          clear hb18 gy18
          obtain ⟨qy, hqy⟩ : ∃ q, chk Y = q := ⟨_, rfl⟩
          have hqy0 : ¬ qy = 0 := by rw [← hqy]; exact cY
          rw [hqy] at HCZ
          clear hqy
          go_wp2_with (fail)
          refine HCZ.out.mono ?_
          rintro e w17 ⟨rfl, hb17⟩
          have HB17 := Lib.hid (HB18.out.trans (hb17.mono HB18.out.size))
          clear hb17 c0 c1 c2
          have gr17 := blk_below HB17.out HGG.out.1 (blk_lt HGG.out.1)
          have gz17 := blk_below HB17.out HGG.out.2.2.2 (blk_lt HGG.out.2.2.2)
          obtain ⟨⟨b0, b1, b2⟩, _, _, _⟩ := isv3_cells gr17
          obtain ⟨⟨e0, e1, e2⟩, _, _, _⟩ := isv3_cells gz17
          have lr17 := blk_lt gr17
          have lz17 := blk_lt gz17
          have HSS := Lib.hid (HSM.out _ HB17.out v HPV.out.2.2 (by rw [HR.out, some_ver HOK.out.1, HV.out.1]))
          clear gr17 gz17
          go_wp2_with (fail)
          refine HSS.out.mono ?_
          rintro e w19 ⟨rfl, hb19⟩
          have HF := Lib.hid (HB16.out.trans ((HB17.out.trans (hb19.mono HB17.out.size)).mono HB16.out.size))
          clear hb19
          go_wp2_with (fail)
          go_ret
          exact ⟨rfl, HF.out⟩
    · have hno := rinit_no (by rw [HP.out.1]; exact he)
      rw [HP.out.2] at hno
      have s1 : setE none 4096 0 P = 50 := by unfold setE; rw [if_neg hno]
      rw [s1] at HSET
      clear hno s1
      go_wp2_with (fail)
      refine HSET.out.mono ?_
      rintro e w7 ⟨rfl, hk7, hc7⟩
      have HF := Lib.hid ((HB2.out.trans (HV.out.2.2.2.2.mono hsw2)).trans (hk7.below.mono (by omega)))
      clear hk7 hc7
      go_wp2_with (fail)
      go_ret
      exact ⟨rfl, HF.out⟩
theorem walk_ok (a0 : Option Addr) (len0 cap0 : Nat) (z0 : List Int) (a1 : Int) (a2 a3 : SV) (w : World) (w0 : IsRow .i64 w a0 len0 cap0 z0) (w1 : (Lit.int .i64 a1).wf = true) (w2 : PVok w w.heap.size a2.u) (w3 : PVok w w.heap.size a3.u) :
    Calls Try.prog 5 #[.slice a0 len0 cap0, .int .i64 a1, a2.val, a3.val] w fun e w' => e = .returned (.bool true) ∧ Below w.heap.size w w' :=
  walk a0 len0 cap0 z0 a1 a2.k a2.n a2.a a2.b a2.u a3.k a3.n a3.a a3.b a3.u w w0
end Go.Proofs.Ytnjdondkggkfoaa.lawKvOne
