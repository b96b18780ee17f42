/-
  The walk of the law WireOne: for all inputs it returns true.
-/
import Derived.Test.YthkcnakodlbdpaaWrV
namespace Go.Proofs.Ythkcnakodlbdpaa.lawWireOne
open Go.ChangeShapes Go.WideShapes Go.ChangeAt Go.RowKit plain words ord mem uvs uvc cl wr

theorem at_mod (a : Int) (L : Nat) (hL : 0 < L) (hm : L ≤ 100000) : (-(L : Int) < a.tmod (L : Int) ∧ a.tmod (L : Int) < (L : Int)) ∧ ∃ m : Nat, m < L ∧ (a.tmod (L : Int) + (L : Int)).tmod (L : Int) = (m : Int) := by
  have h1 : -(L : Int) < a.tmod (L : Int) ∧ a.tmod (L : Int) < (L : Int) := by
    constructor
    · have := Int.lt_tmod_of_pos a (show (0 : Int) < (L : Int) by omega); omega
    · exact Int.tmod_lt_of_pos a (by omega)
  refine ⟨h1, ((a.tmod (L : Int) + (L : Int)) % (L : Int)).toNat, ?_, ?_⟩
  · have := Int.emod_lt_of_pos (a.tmod (L : Int) + (L : Int)) (show (0 : Int) < (L : Int) by omega)
    have := Int.emod_nonneg (a.tmod (L : Int) + (L : Int)) (show (L : Int) ≠ 0 by omega)
    omega
  · rw [Int.tmod_eq_emod_of_nonneg (by omega)]
    have := Int.emod_nonneg (a.tmod (L : Int) + (L : Int)) (show (L : Int) ≠ 0 by omega)
    omega
theorem mvok_more {w : World} {B C : Nat} {a : MV} (h : MVok w B a) (hC : B ≤ C) : MVok w C a := ⟨h.p.more hC, h.pn, h.pcap, h.pok, h.t.more hC, h.tn, h.tcap, h.tok, h.pt, h.few⟩
theorem mvok_up {w w' : World} {a : MV} (h : MVok w w.heap.size a) (hb : Below w.heap.size w w') : MVok w' w'.heap.size a := mvok_more (h.below hb (Nat.le_refl _)) hb.size
theorem mok_of {w : World} {B : Nat} {a : MV} (h : MVok w B a) (hF : Few a.m) : MOk w B a.m a.pA a.mA a.pc a.mc :=
  ⟨⟨h.p, h.pn, h.pok⟩, ⟨h.t, h.tn, fun x hx => ⟨by have := hF.2.2.2 x hx; omega, h.tok x hx⟩⟩⟩
theorem encode_x : True := trivial
theorem ans_some {bs : wr.By} {m : Msg} (h : decM bs = some m) : ansE bs = 0 ∧ ansM bs = m := by unfold ansE ansM; rw [h]; exact ⟨rfl, rfl⟩
theorem ans_none {bs : wr.By} (h : decM bs = none) : ansE bs = 130 ∧ ansM bs = zeroM := by unfold ansE ansM; rw [h]; exact ⟨rfl, rfl⟩
set_option maxHeartbeats 8000000 in
set_option maxRecDepth 100000 in
theorem walk_ok (A : Option Addr) (n c : Nat) (zs : List Int) (at_ : Int) (A' : Option Addr) (n' c' : Nat) (zs' : List Int) (w : World) (w0 : IsRow .u8 w A n c zs) (hat : (Lit.int .i64 at_).wf = true) (w2 : IsRow .u8 w A' n' c' zs') :
    Calls Try.prog 7 #[.slice A n c, .int .i64 at_, .slice A' n' c'] w fun e w' => e = .returned (.bool true) ∧ Below w.heap.size w w' := by
  obtain ⟨bs, hbs, hm, ⟨hc1, hc2⟩, hA⟩ := w0.bytes
  obtain ⟨ms, hms, hm', ⟨hc1', hc2'⟩, hA'⟩ := w2.bytes
  unfold maxLen at hm hc2 hm' hc2'
  obtain ⟨i0, hi, hz0, hz1, hz2⟩ := info_parts mem.infoB
  clear w0 w2
  by_cases hbig : 65536 < n ∨ 1024 < n'
  · by_cases hn : 65536 < n
    · have i1 : (65536 : Int) < (n : Int) := by omega
      go_enter Try.func7, Try.ntmps7
      go_wp2_with (fail)
      go_ret
      exact ⟨rfl, Below.refl _ _⟩
    · have i1 : ¬ (65536 : Int) < (n : Int) := by omega
      have i2 : (1024 : Int) < (n' : Int) := by omega
      go_enter Try.func7, Try.ntmps7
      go_wp2_with (fail)
      go_ret
      exact ⟨rfl, Below.refl _ _⟩
  · have i1 : ¬ (65536 : Int) < (n : Int) := by omega
    have i2 : ¬ (1024 : Int) < (n' : Int) := by omega
    have HB := Lib.hid hbs
    have HM := Lib.hid hms
    have HB0 := Lib.hid (Below.refl w.heap.size w)
    have HX := Lib.hid (dec_x w w.heap.size n c A bs hbs (Nat.le_refl _) hc1 hc2 (by omega))
    obtain ⟨er, her⟩ : ∃ er, ansE bs = er := ⟨_, rfl⟩
    have HER := Lib.hid her
    have hlen := hbs.len_
    have HLEN := Lib.hid hlen
    clear hbs hms hbig her hlen
    go_enter Try.func7, Try.ntmps7
    go_wp2_with (fail)
    refine HX.out.mono ?_
    rintro e v1 ⟨m1, rfl, hm1, hme1, hb1⟩
    rw [HER.out]
    have hs1 := hb1.size
    obtain ⟨q1, hq1⟩ : ∃ q, v1.heap.size = q := ⟨_, rfl⟩
    obtain ⟨x1, hx1⟩ : ∃ x, v1.alloc (.cells zcells 31) = x := ⟨_, rfl⟩
    have hbx1 : Below v1.heap.size v1 x1 := by rw [← hx1]; exact below_al _ _
    have vx1 : V x1 q1 zcells 31 := by rw [← hx1, ← hq1]; exact alloc_new _ _
    have hzx1 : x1.heap.size = q1 + 1 := by rw [← hx1, World.size_alloc, hq1]
    unfold zcells at hx1
    obtain ⟨u1, hu1⟩ : ∃ u, x1.setRow q1 m1.cells = u := ⟨_, rfl⟩
    have hbu1 : Below v1.heap.size v1 u1 := by rw [← hu1]; exact bel_row hbx1 (Nat.le_refl _) (by omega)
    have VU1 := Lib.hid (show V u1 q1 m1.cells 31 by rw [← hu1]; exact setRow_mb vx1)
    have VX1 := Lib.hid vx1
    have hzu1 : u1.heap.size = q1 + 1 := by rw [← hu1]; simp [World.setRow, hzx1]
    have HALL1 := Lib.hid (mvcells_all m1)
    have HMV1 := Lib.hid (mvok_up hm1 hbu1)
    have HBU1 := Lib.hid (HB0.out.trans ((hb1.trans (hbu1.mono hs1)).mono (HB0.out.size)))
    have HST1 := Lib.hid (hb1.trans (hbu1.mono hs1))
    obtain ⟨r1, hr1⟩ : ∃ r, m1.cells = r := ⟨_, rfl⟩
    have hrs1 : r1.size = 16 := by rw [← hr1]; rfl
    have HVAL1 := Lib.hid (show m1.val = .agg r1 by rw [← hr1]; rfl)
    rw [hr1] at hu1 VU1 HALL1
    rw [HVAL1.out]
    have HR1 := Lib.hid hr1
    have HRS1 := Lib.hid hrs1
    have HME1 := Lib.hid hme1
    clear hb1 hbx1 vx1 hbu1 hm1 hr1 hrs1 hme1
    have hwu1 := HBU1.out.size
    have HY := Lib.hid (dec_y u1 w.heap.size n c A bs (HB.out.below HBU1.out (Nat.le_refl _)) (by omega) hc1 hc2 (by omega))
    clear HX
    go_wp2_with (refine wpList_store_row rfl _ _ _ rfl q1 r1 (by rfl) (by rfl) _ _ VX1.out (by rw [HRS1.out]; exact infoMsg) (by rw [HRS1.out]; rfl) HALL1.out ?_; rw [hu1])
    try rw [hu1]
    refine HY.out.mono ?_
    clear HY hx1 hu1
    rintro e v2 ⟨m2, rfl, hm2, hme2, hb2⟩
    rw [HER.out]
    have hs2 := hb2.size
    obtain ⟨q2, hq2⟩ : ∃ q, v2.heap.size = q := ⟨_, rfl⟩
    obtain ⟨x2, hx2⟩ : ∃ x, v2.alloc (.cells zcells 37) = x := ⟨_, rfl⟩
    have hbx2 : Below v2.heap.size v2 x2 := by rw [← hx2]; exact below_al _ _
    have vx2 : V x2 q2 zcells 37 := by rw [← hx2, ← hq2]; exact alloc_new _ _
    have hzx2 : x2.heap.size = q2 + 1 := by rw [← hx2, World.size_alloc, hq2]
    unfold zcells at hx2
    obtain ⟨u2, hu2⟩ : ∃ u, x2.setRow q2 m2.cells = u := ⟨_, rfl⟩
    have hbu2 : Below v2.heap.size v2 u2 := by rw [← hu2]; exact bel_row hbx2 (Nat.le_refl _) (by omega)
    have VU2 := Lib.hid (show V u2 q2 m2.cells 37 by rw [← hu2]; exact setRow_mb vx2)
    have VX2 := Lib.hid vx2
    have hzu2 : u2.heap.size = q2 + 1 := by rw [← hu2]; simp [World.setRow, hzx2]
    have HALL2 := Lib.hid (mvcells_all m2)
    have HMV2 := Lib.hid (mvok_up hm2 hbu2)
    have HBU2 := Lib.hid (HBU1.out.trans ((hb2.trans (hbu2.mono hs2)).mono (HBU1.out.size)))
    have HST2 := Lib.hid (hb2.trans (hbu2.mono hs2))
    obtain ⟨r2, hr2⟩ : ∃ r, m2.cells = r := ⟨_, rfl⟩
    have hrs2 : r2.size = 16 := by rw [← hr2]; rfl
    have HVAL2 := Lib.hid (show m2.val = .agg r2 by rw [← hr2]; rfl)
    rw [hr2] at hu2 VU2 HALL2
    rw [HVAL2.out]
    have HR2 := Lib.hid hr2
    have HRS2 := Lib.hid hrs2
    have HME2 := Lib.hid hme2
    clear hb2 hbx2 vx2 hbu2 hm2 hr2 hrs2 hme2
    have hwu2 := HBU2.out.size
    have V12 := Lib.hid (show V u2 q1 r1 31 from blk_below HST2.out VU1.out (by omega))
    have MV12 := Lib.hid (mvok_up HMV1.out HST2.out)
    cases hd : decM bs with
    | none =>
      obtain ⟨h130, hz⟩ := ans_none hd
      rw [HER.out] at h130
      subst h130
      have c0 : u2.cell? ⟨q1, 0, none⟩ = some (.int .i64 0) := by
        rw [cell_of_row _ _ _ _ _ _ V12.out, ← HR1.out]
        show some (Value.int .i64 m1.m.kind) = _
        rw [HME1.out, hz]
        rfl
      have hlq := blk_lt V12.out
      clear hd hz
      go_wp2_with (refine wpList_store_row rfl _ _ _ rfl q2 r2 (by rfl) (by rfl) _ _ VX2.out (by rw [HRS2.out]; exact infoMsgY) (by rw [HRS2.out]; rfl) HALL2.out ?_; rw [hu2])
      go_ret
      exact ⟨rfl, HBU2.out⟩
    | some m =>
      obtain ⟨h0, hz⟩ := ans_some hd
      rw [HER.out] at h0
      subst h0
      obtain ⟨hen, hmf, _, hfw⟩ := dec_back hd
      have hmm : m1.m = m := HME1.out.trans hz
      have HD := Lib.hid hd
      have hn0 : 0 < n := by
        rcases Nat.eq_zero_or_pos n with e | e
        · have hl := HLEN.out
          rw [e] at hl
          have := List.eq_nil_of_length_eq_zero hl
          rw [this] at hd
          cases hd
        · exact e
      have hmok := mok_of MV12.out (by rw [hmm]; exact hfw)
      have HEN := Lib.hid (wr.encode_x u2 m1.m m1.pA m1.mA m1.pc m1.mc hmok (by rw [hmm]; exact hmf.1) MV12.out.pt (by rw [hmm]; have := hfw.2.1; omega) (by rw [hmm]; have := hfw.2.2.1; omega))
      rw [hmm, hen] at HEN
      have HEN2 := Lib.hid (show Calls Try.prog 9 #[.agg r1] u2 (RetEn u2 (bs, 0)) from by
        have := HEN.out
        rw [← hmm] at this
        rw [← HR1.out]
        exact this)
      clear hd hz hen hmf hfw hmm hmok
      go_wp2_with (first | (refine wpList_store_row rfl _ _ _ rfl q2 r2 (by rfl) (by rfl) _ _ VX2.out (by rw [HRS2.out]; exact infoMsgY) (by rw [HRS2.out]; rfl) HALL2.out ?_; rw [hu2]) | (refine wpList_load_row rfl _ _ rfl q1 (by rfl) _ _ _ _ V12.out Try.underlying31 rfl (by rw [HRS1.out]; exact infoMsg) ?_))
      refine HEN2.out.mono ?_
      clear HEN HEN2 hx2 hu2
      rintro e w4 ⟨A4, c4, rfl, ho4, hb4⟩
      replace ho4 : w4.ownsRow u2.heap.size 5 1 (.slice A4 bs.length c4) bs.length (u8s bs) := ho4
      rw [HLEN.out] at ho4
      simp only [HLEN.out]
      have hs4 := hb4.size
      have HB4 := Lib.hid (HBU2.out.trans (hb4.mono hwu2))
      have HE4 := Lib.hid (own_bs ho4)
      obtain ⟨⟨t1, t2⟩, m', hmn, hmm'⟩ := at_mod at_ n hn0 (by omega)
      have hnz : ¬ (n : Int) = 0 := by omega
      have hv1 : IntKind.i64.wrap (at_.tmod (n : Int)) = at_.tmod (n : Int) := IntWalk.i64_in _ (by omega)
      have hv2 : IntKind.i64.wrap (at_.tmod (n : Int) + (n : Int)) = at_.tmod (n : Int) + (n : Int) := IntWalk.i64_in _ (by omega)
      have hv3 : IntKind.i64.wrap (m' : Int) = (m' : Int) := IntWalk.i64_in _ (by omega)
      have j1 : (0 : Int) ≤ (m' : Int) := by omega
      have j2 : (m' : Int) ≤ (c : Int) := by omega
      obtain ⟨b0, off0, rfl, hb0⟩ := Rd.some_of HB.out hn0
      have HPRE := Lib.hid (show Bs w4 w.heap.size (some ⟨b0, off0, none⟩) m' (bs.take m') from by
        have := Rd.less (HB.out.below HB4.out (Nat.le_refl _)) (show m' ≤ n by omega)
        rwa [show (u8s bs).take m' = u8s (bs.take m') by simp [u8s]] at this)
      have hcut := ans_none (dec_cut HD.out (show m' < bs.length by rw [HLEN.out]; exact hmn))
      have HCUT := Lib.hid hcut.1
      have HZ := Lib.hid (dec_x w4 w.heap.size m' c (some ⟨b0, off0, none⟩) (bs.take m') HPRE.out (by omega) (by omega) hc2 (by omega))
      clear hb4 ho4 hcut
      go_wp2_with (fail)
      refine HZ.out.mono ?_
      rintro e v3 ⟨m3, rfl, hm3, hme3, hb3⟩
      rw [HCUT.out]
      have hs3 := hb3.size
      obtain ⟨q3, hq3⟩ : ∃ q, v3.heap.size = q := ⟨_, rfl⟩
      obtain ⟨x3, hx3⟩ : ∃ x, v3.alloc (.cells zcells 31) = x := ⟨_, rfl⟩
      have hbx3 : Below v3.heap.size v3 x3 := by rw [← hx3]; exact below_al _ _
      have vx3 : V x3 q3 zcells 31 := by rw [← hx3, ← hq3]; exact alloc_new _ _
      have hzx3 : x3.heap.size = q3 + 1 := by rw [← hx3, World.size_alloc, hq3]
      unfold zcells at hx3
      obtain ⟨u3, hu3⟩ : ∃ u, x3.setRow q3 m3.cells = u := ⟨_, rfl⟩
      have hbu3 : Below v3.heap.size v3 u3 := by rw [← hu3]; exact bel_row hbx3 (Nat.le_refl _) (by omega)
      have VU3 := Lib.hid (show V u3 q3 m3.cells 31 by rw [← hu3]; exact setRow_mb vx3)
      have VX3 := Lib.hid vx3
      have hzu3 : u3.heap.size = q3 + 1 := by rw [← hu3]; simp [World.setRow, hzx3]
      have HALL3 := Lib.hid (mvcells_all m3)
      have HMV3 := Lib.hid (mvok_up hm3 hbu3)
      have HBU3 := Lib.hid (HB4.out.trans ((hb3.trans (hbu3.mono hs3)).mono (HB4.out.size)))
      have HST3 := Lib.hid (hb3.trans (hbu3.mono hs3))
      obtain ⟨r3, hr3⟩ : ∃ r, m3.cells = r := ⟨_, rfl⟩
      have hrs3 : r3.size = 16 := by rw [← hr3]; rfl
      have HVAL3 := Lib.hid (show m3.val = .agg r3 by rw [← hr3]; rfl)
      rw [hr3] at hu3 VU3 HALL3
      rw [HVAL3.out]
      have HR3 := Lib.hid hr3
      have HRS3 := Lib.hid hrs3
      have HME3 := Lib.hid hme3
      clear hb3 hbx3 vx3 hbu3 hm3 hr3 hrs3 hme3
      have hwu3 := HBU3.out.size
      have HE5 := Lib.hid (HE4.out.below HST3.out (Nat.le_refl _))
      have hw43 := HST3.out.size
      have hlit := World.ownsRow_lit (w := u3) (base := u3.heap.size) (e := 5) (size := 1) #[] 0 (Nat.le_refl _) (by simp) rfl
      have hba : Below u3.heap.size u3 (u3.alloc (.cells #[] 5)) := (Below.refl _ _).alloc (Nat.le_refl _) _
      have hrd := (HB.out.below HBU3.out (Nat.le_refl _)).below hba (by omega)
      clear HZ hzu3
      go_wp2_with (first | (refine wpList_store_row rfl _ _ _ rfl q3 r3 (by rfl) (by rfl) _ _ VX3.out (by rw [HRS3.out]; exact infoMsg) (by rw [HRS3.out]; rfl) HALL3.out ?_; rw [hu3]) | (at_builtin; refine wpList_append_rd rfl (.tmp 74) (.tmp 75) 33 rfl u3.heap.size 5 i0 (.int .u8 0) 1 1 Try.underlying33 hi hz0 hz1 hz2 rfl (by decide) _ 0 [] rfl hlit w.heap.size _ n c (fun e => by cases e) (u8s bs) rfl (by rw [Nat.mul_one]; exact hrd) (u8s_one bs) (by unfold maxLen; omega) (by omega) (by simp) ?_; intro v6 w6 hown6 hg6 hnn6; simp only [Nat.zero_add, List.nil_append] at hown6; have hB6 := own_below hba hlit (by simp) hg6; have HO6 := Lib.hid hown6; have HB6 := Lib.hid hB6; clear hown6 hg6 hnn6 hB6 hrd hlit hba) | (at_builtin; refine wpList_append_rd rfl (.tmp 78) (.tmp 79) 33 rfl u3.heap.size 5 i0 (.int .u8 0) 1 1 Try.underlying33 hi hz0 hz1 hz2 rfl (by decide) _ n (u8s bs) rfl HO6.out w.heap.size A' n' c' hA' (u8s ms) rfl (by rw [Nat.mul_one]; exact (HM.out.below HBU3.out (Nat.le_refl _)).below HB6.out (by omega)) (u8s_one ms) (by unfold maxLen; omega) (by omega) HB6.out.size ?_; intro v7 w7 hown7 hg7 hnn7; have hB7 := own_below HB6.out HO6.out HB6.out.size hg7; rw [← u8s_append] at hown7; obtain ⟨A7, c7, rfl, hc71, hc72⟩ : ∃ A c, v7 = .slice A (n + n') c ∧ n + n' ≤ c ∧ c ≤ 9223372036854775807 := (by (rcases own_form hown7 with ⟨rfl, e0⟩ | ⟨g, cap, rfl, _, _, h1, h2⟩); (exact ⟨none, 0, by rw [e0], by omega, by omega⟩); (unfold maxLen at h2; exact ⟨_, cap, rfl, h1, h2⟩)); have HO7 := Lib.hid (own_bs hown7); have HB7 := Lib.hid hB7; clear hown7 hg7 hnn7 hB7))
      have hs7 := HB7.out.size
      have HB7w := Lib.hid (HBU3.out.trans (HB7.out.mono HBU3.out.size))
      have hw7 := HB7w.out.size
      have HZ7 := Lib.hid (dec_x w7 w7.heap.size (n + n') c7 A7 (bs ++ ms) HO7.out (Nat.le_refl _) hc71 hc72 (by omega))
      refine HZ7.out.mono ?_
      clear HZ7 hx3 hu3
      rintro e v4 ⟨m4, rfl, hm4, hme4, hb4⟩
      obtain ⟨e4, he4⟩ : ∃ e4, ansE (bs ++ ms) = e4 := ⟨_, rfl⟩
      rw [he4]
      have HE44 := Lib.hid he4
      clear he4
      have hs4 := hb4.size
      obtain ⟨q4, hq4⟩ : ∃ q, v4.heap.size = q := ⟨_, rfl⟩
      obtain ⟨x4, hx4⟩ : ∃ x, v4.alloc (.cells zcells 31) = x := ⟨_, rfl⟩
      have hbx4 : Below v4.heap.size v4 x4 := by rw [← hx4]; exact below_al _ _
      have vx4 : V x4 q4 zcells 31 := by rw [← hx4, ← hq4]; exact alloc_new _ _
      have hzx4 : x4.heap.size = q4 + 1 := by rw [← hx4, World.size_alloc, hq4]
      unfold zcells at hx4
      obtain ⟨u4, hu4⟩ : ∃ u, x4.setRow q4 m4.cells = u := ⟨_, rfl⟩
      have hbu4 : Below v4.heap.size v4 u4 := by rw [← hu4]; exact bel_row hbx4 (Nat.le_refl _) (by omega)
      have VU4 := Lib.hid (show V u4 q4 m4.cells 31 by rw [← hu4]; exact setRow_mb vx4)
      have VX4 := Lib.hid vx4
      have hzu4 : u4.heap.size = q4 + 1 := by rw [← hu4]; simp [World.setRow, hzx4]
      have HALL4 := Lib.hid (mvcells_all m4)
      have HMV4 := Lib.hid (mvok_up hm4 hbu4)
      have HBU4 := Lib.hid (HB7w.out.trans ((hb4.trans (hbu4.mono hs4)).mono (HB7w.out.size)))
      have HST4 := Lib.hid (hb4.trans (hbu4.mono hs4))
      obtain ⟨r4, hr4⟩ : ∃ r, m4.cells = r := ⟨_, rfl⟩
      have hrs4 : r4.size = 16 := by rw [← hr4]; rfl
      have HVAL4 := Lib.hid (show m4.val = .agg r4 by rw [← hr4]; rfl)
      rw [hr4] at hu4 VU4 HALL4
      rw [HVAL4.out]
      have HR4 := Lib.hid hr4
      have HRS4 := Lib.hid hrs4
      have HME4 := Lib.hid hme4
      clear hb4 hbx4 vx4 hbu4 hm4 hr4 hrs4 hme4
      have hwu4 := HBU4.out.size
      have k2 := conv_string (P := Try.prog) (c := c4) ((HE5.out.below HB7.out (by omega)).below HST4.out (by omega)) 33 9 5 Try.underlying33 Try.underlying9 Try.underlying5
      have k3 := conv_string (P := Try.prog) (c := c) (HB.out.below HBU4.out (Nat.le_refl _)) 33 9 5 Try.underlying33 Try.underlying9 Try.underlying5
      by_cases hn'0 : n' = 0
      · have hmnil : ms = [] := List.eq_nil_of_length_eq_zero (by rw [HM.out.len_]; exact hn'0)
        have h4 : e4 = 0 := by
          rw [← HE44.out, hmnil, List.append_nil]
          exact (ans_some HD.out).1
        subst h4
        have hz : ((n' : Int) == 0) = true := by simp; omega
        clear hmnil hn'0
        go_wp2_with (refine wpList_store_row rfl _ _ _ rfl q4 r4 (by rfl) (by rfl) _ _ VX4.out (by rw [HRS4.out]; exact infoMsg) (by rw [HRS4.out]; rfl) HALL4.out ?_; rw [hu4])
        go_ret
        exact ⟨rfl, HBU4.out⟩
      · have hmnil : ms ≠ [] := fun e => hn'0 (by rw [← HM.out.len_, e]; rfl)
        have h4 : e4 = 130 := by
          rw [← HE44.out]
          obtain ⟨hen, hmf, _, hfw⟩ := dec_back HD.out
          exact (ans_none ((enc_dec (more := ms) hmf hen).2.2 hmnil)).1
        subst h4
        have hz : ((n' : Int) == 0) = false := by simp; omega
        clear hmnil hn'0
        go_wp2_with (refine wpList_store_row rfl _ _ _ rfl q4 r4 (by rfl) (by rfl) _ _ VX4.out (by rw [HRS4.out]; exact infoMsg) (by rw [HRS4.out]; rfl) HALL4.out ?_; rw [hu4])
        go_ret
        exact ⟨rfl, HBU4.out⟩
end Go.Proofs.Ythkcnakodlbdpaa.lawWireOne
