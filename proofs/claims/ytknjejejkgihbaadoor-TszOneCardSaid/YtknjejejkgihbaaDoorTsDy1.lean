/-
  Tsz: Decode, the document's.
-/
import Derived.Test.YtknjejejkgihbaaDoorTsDcy
namespace Go.Proofs.YtknjejejkgihbaaDoor.ts
open Go.ChangeShapes Go.WideShapes Go.ChangeAt Go.RowKit plain words ord mem bitm uvs uvc

set_option maxHeartbeats 40000000 in
set_option maxRecDepth 100000 in
theorem decode_ne (w : World) (B n c : Nat) (A : Option Addr) (bs : List UInt8) (h : Bs w B A n bs) (hA : A = none → c = 0) (hB : B ≤ w.heap.size) (hnc : n ≤ c) (hcm : c ≤ 9223372036854775807) (hn : n ≤ 1073741824) (m k : Nat) (hmk : ru bs 0 0 = (m, k)) (hgood : ¬ (k = 0 ∨ 512 < m)) (hck : ¬ c = k) :
    Calls Tryd.prog 20 #[.slice A n c] w (RetDec w bs) := by
  have hl := h.len_
  have HRU := Lib.hid (readuv_y w B n c A bs h hB hnc hcm (by omega))
  unfold RetNum at HRU
  have hback := ru_back0 bs m k hmk
  rw [hl] at hback
  rw [hmk] at HRU
  simp only at HRU
  have HMK := Lib.hid hmk
  clear hmk
  have hk0 : ¬ k = 0 := fun e => hgood (.inl e)
  have hm5 : m ≤ 512 := by omega
  have hz : ((k : Int) == 0) = false := by simp; omega
  have hmz : ¬ (512 : Int) < (m : Int) := by omega
  have hkn := (hback hk0).2.1
  obtain ⟨b, off, rfl, hbB⟩ := Rd.some_of h (show 0 < n by omega)
  obtain ⟨e0, he0⟩ : ∃ e, min n (k + 16384) = e := ⟨_, rfl⟩
  have hmin : min (n : Int) ((k : Int) + 16384) = (e0 : Int) := by omega
  have hkw : IntKind.i64.wrap ((k : Int) + 16384) = (k : Int) + 16384 := IntWalk.i64_in _ (by omega)
  have i1 : (0 : Int) ≤ (k : Int) := by omega
  have i2 : (k : Int) ≤ (e0 : Int) := by omega
  have i3 : (e0 : Int) ≤ (c : Int) := by omega
  have i4 : (e0 : Int) ≤ (n : Int) := by omega
  have i5 : (0 : Int) ≤ (e0 : Int) := by omega
  obtain ⟨DX, hDX⟩ : ∃ DX, (bs.drop k).take (e0 - k) = DX := ⟨_, rfl⟩
  have hDL : DX.length = e0 - k := by rw [← hDX, List.length_take, List.length_drop, hl]; omega
  have hcut0 := bs_less (bs_cut h hkn hnc) (show e0 - k ≤ n - k by omega)
  rw [hDX] at hcut0
  have hcut := Lib.hid hcut0
  have HAN := Lib.hid (show ∀ l, ans bs l → m = l.length ∧ ∃ Y, dPts m (ofBytes DX) = some (l, Y) from fun l hla => by
    obtain ⟨h1, _⟩ := ans_read hla
    have h5 : l.length = m := congrArg Prod.fst (h1.symm.trans HMK.out)
    obtain ⟨Y, hY⟩ := take_ans hla (h5 ▸ HMK.out) hl he0
    rw [hDX, h5] at hY
    exact ⟨h5.symm, Y, hY⟩)
  have HDL := Lib.hid hDL
  have HBS := Lib.hid h
  have HE0 := Lib.hid he0
  clear hback h hl hA hDL hDX hcut0 he0
  go_enter Tryd.func20, Tryd.ntmps20
  go_wp2_with (fail)
  refine HRU.out.mono ?_
  rintro e w1 ⟨rfl, hb1⟩
  have hs1 := hb1.size
  have HB1 := Lib.hid hb1
  clear hb1 HRU
  go_wp2_with (fail)
  have h3 := hcut.out
  rw [if_neg hck] at h3
  refine (bitc.refof_x w1 B (e0 - k) _ _ DX (h3.below HB1.out hB) (by omega) (by omega) (8 * (e0 - k)) rfl).mono ?_
  clear h3
  rintro e w2 ⟨A2, c2, rfl, ho2, hb2⟩
  obtain ⟨M, hM⟩ : ∃ M, 8 * (e0 - k) = M := ⟨_, rfl⟩
  rw [hM] at ho2 ⊢
  obtain ⟨hA2, hM2, hc2⟩ := own_cap2 ho2
  have hs2 := hb2.size
  obtain ⟨q, hq⟩ : ∃ q, w2.heap.size = q := ⟨_, rfl⟩
  obtain ⟨X0, hX0⟩ : ∃ X0, ofBytes DX = X0 := ⟨_, rfl⟩
  have hXl : X0.length = M := by rw [← hX0, ofBytes_len, HDL.out]; exact hM
  obtain ⟨wa, hwa⟩ : ∃ wa, (((w2.alloc (.cells #[.slice A2 M c2, .bool false] 71)).alloc (.cells #[] 39)).alloc (.cells #[.bool false, .int .i64 0, .int .i64 0] 59)).alloc (.cells #[.bool false, .int .i64 0, .int .i64 0] 59) = wa := ⟨_, rfl⟩
  have hba : Below w2.heap.size w2 wa := by rw [← hwa]; exact ((((Below.refl _ _).alloc (Nat.le_refl _) _).alloc (by simp) _).alloc (by simp only [World.size_alloc]; omega) _).alloc (by simp only [World.size_alloc]; omega) _
  have gq : wa.heap[q]? = some (.cells #[.slice A2 M c2, .bool false] 71 (0, 0)) := by rw [← hwa, ← hq]; exact alloc_old _ (alloc_old _ (alloc_old _ (alloc_new _ _)))
  have gr : wa.heap[q + 1]? = some (.cells #[] 39 (0, 0)) := by
    rw [← hwa, ← hq]
    have := alloc_new (w2.alloc (.cells #[.slice A2 M c2, .bool false] 71)) (.cells #[] 39)
    rw [World.size_alloc] at this
    exact alloc_old _ (alloc_old _ this)
  have gv : wa.heap[q + 2]? = some (.cells (winC none) 59 (0, 0)) := by
    rw [← hwa, ← hq]
    have := alloc_new ((w2.alloc (.cells #[.slice A2 M c2, .bool false] 71)).alloc (.cells #[] 39)) (.cells #[.bool false, .int .i64 0, .int .i64 0] 59)
    simp only [World.size_alloc] at this
    exact alloc_old _ this
  have gw : wa.heap[q + 3]? = some (.cells (winC none) 59 (0, 0)) := by
    rw [← hwa, ← hq]
    have := alloc_new (((w2.alloc (.cells #[.slice A2 M c2, .bool false] 71)).alloc (.cells #[] 39)).alloc (.cells #[.bool false, .int .i64 0, .int .i64 0] 59)) (.cells #[.bool false, .int .i64 0, .int .i64 0] 59)
    simp only [World.size_alloc] at this
    exact this
  have hrr : RS wa q (some X0) := ⟨A2, c2, by rw [hXl]; exact gq, by
    rw [hXl, ← hX0, ← hq]
    exact (own_bs ho2).below hba (Nat.le_refl _), hA2, by rw [hXl]; exact ⟨hM2, hc2⟩, by rw [hXl]; omega⟩
  have HED := Lib.hid (show ED w wa q (some X0) none none from ⟨(HB1.out.trans (hb2.mono hs1)).trans (hba.mono (by omega)), hrr, gv, gw, by omega⟩)
  have hown : wa.ownsRow (q + 1) 39 3 (.slice (some ⟨q + 1, 0, none⟩) 0 0) 0 [] := ⟨rfl, .inr ⟨q + 1, 0, #[], rfl, Nat.le_refl _, gr, by simp⟩⟩
  have HOW := Lib.hid hown
  have HWA := Lib.hid hwa
  have HQ := Lib.hid hq
  have HX0 := Lib.hid hX0
  clear ho2 hb2 hba gq gr gv gw hrr hown hwa hX0 hXl hA2 hq
  obtain ⟨i0, hi, hz0, hz1, hz2⟩ := info_parts infoPt
  have HQM := Lib.hid hm5
  have hwz : w.heap.size ≤ q := HED.out.hq
  clear i1 i2 i3 i4 i5 hmin hkw hz hmz hk0 hgood hkn hM hM2 hc2 hs2 hs1
  go_wp2_with (fail)
  rw [HQ.out, HWA.out]
  go_loopg [7, 10, 11] m (fun gg s7 s10 s11 wr => ∃ (j : Nat) (acc : List Pt) (t d : Int) (v s : Nat) (a b : Win) (o : Option (List Bool)) (v7 : Value), j ≤ m ∧ m - j ≤ gg ∧ s11 = .int .i64 j ∧ s10 = .int .i64 d ∧ v7 = s7 ∧ Aside (acc.length = j) ∧ Aside (∀ x ∈ acc, FitP x) ∧ Aside (WinOk a ∧ WinOk b) ∧ Aside (-9223372036854775808 ≤ d ∧ d ≤ 9223372036854775807) ∧ Aside (j = 0 → d = 0 ∧ a = none ∧ b = none) ∧ Aside (InvR m X0 acc t d v s a b o) ∧ Aside (ED w wr q o a b) ∧ Aside (wr.ownsRow (q + 1) 39 3 v7 j (cs pE acc)))
  case atStart => exact ⟨0, [], 0, 0, 0, 0, none, none, some X0, _, by omega, by omega, rfl, rfl, rfl, rfl, (fun x hx => by simp at hx), ⟨win0, win0⟩, ⟨by omega, by omega⟩, (fun _ => ⟨rfl, rfl, rfl⟩), Dn.start m ⟨0, 0, 0, 0, none, none, X0⟩, HED.out, HOW.out⟩
  case round =>
    clear HED HOW HWA HQ
    obtain ⟨j, acc, t, d, v, s, a, b', o, v7, hj, hg, rfl, rfl, rfl, HA, HF, HW, HD, H0, HI, HE, OW⟩ := hrel
    obtain ⟨A7, c7, rfl, hrd7⟩ : ∃ A c, v7 = .slice A j c ∧ Pts wr wr.heap.size A j acc := by
      rcases own_form OW.out with ⟨e, e1⟩ | ⟨g, c, e, _⟩
      · subst e; subst e1; exact ⟨none, 0, rfl, ⟨HA.out, own_rd OW.out⟩⟩
      · subst e; exact ⟨some ⟨g, 0, none⟩, c, rfl, ⟨HA.out, own_rd OW.out⟩⟩
    have HRD := Lib.hid hrd7
    obtain ⟨vq, hblk⟩ := HE.out.rs.blk
    have hqc : wr.cell? ⟨q, 1, none⟩ = some (.bool o.isNone) := by rw [cell_of_row _ _ _ _ _ _ hblk]; rfl
    have hql : q < wr.heap.size := blk_lt hblk
    have hmw : IntKind.i64.wrap (m : Int) = (m : Int) := IntWalk.i64_in _ (by omega)
    clear hrd7 hblk
    by_cases hlt : j < m ∧ o.isSome = true
    · obtain ⟨hlt, hos⟩ := hlt
      obtain ⟨X, rfl⟩ := Option.isSome_iff_exists.1 hos
      have hltz : (j : Int) < (m : Int) := by omega
      have hqc : wr.cell? ⟨q, 1, none⟩ = some (.bool false) := hqc
      have hne : ∀ g, (Value.slice A7 j c7).ownBlock = some g → g ≠ q ∧ g ≠ q + 2 ∧ g ≠ q + 3 ∧ g < wr.heap.size := fun g hgb => by
        obtain ⟨cur, hc⟩ := own_type OW.out hgb
        obtain ⟨vq, hbq⟩ := HE.out.rs.blk
        exact ⟨blk_type hc hbq (by decide), blk_type hc HE.out.gv (by decide), blk_type hc HE.out.gw (by decide), blk_lt hc⟩
      have HNE := Lib.hid hne
      obtain ⟨Np, hNp⟩ : ∃ Np, wr.heap.size = Np := ⟨_, rfl⟩
      obtain ⟨wp, hwp⟩ : ∃ wp, wr.alloc (.cells #[.int .i64 0, .int .u64 0, .int .u64 0] 39) = wp := ⟨_, rfl⟩
      have hbp : Below wr.heap.size wr wp := by rw [← hwp]; exact (Below.refl _ _).alloc (Nat.le_refl _) _
      have gp : wp.heap[Np]? = some (.cells #[.int .i64 0, .int .u64 0, .int .u64 0] 39 (0, 0)) := by rw [← hwp, ← hNp]; exact alloc_new _ _
      have EP := Lib.hid (HE.out.below hbp)
      have GP := Lib.hid gp
      have OP := Lib.hid (own_keep OW.out hbp (Nat.le_refl _))
      have HWP := Lib.hid (And.intro hNp hwp)
      have hqN : q < Np := by omega
      have hN2 : q + 2 < Np ∧ q + 3 < Np := by
        have h1 := blk_lt HE.out.gv
        have h2 := blk_lt HE.out.gw
        omega
      have HN2 := Lib.hid hN2
      have HNE2 := Lib.hid (show ∀ g, (Value.slice A7 j c7).ownBlock = some g → g ≠ Np from fun g hgb => by have := (hne g hgb).2.2.2; omega)
      clear hbp gp hwp hne hN2
      by_cases hj0 : j = 0
      · subst hj0
        have hacc : acc = [] := List.eq_nil_of_length_eq_zero HA.out
        subst hacc
        have HDn := Lib.hid (show Dn m X0 [] ⟨t, d, v, s, a, b', X⟩ from HI.out)
        have HG := Lib.hid (get_ry wp q 64 (some X) (by omega) EP.out.rs)
        obtain ⟨rfl, rfl, rfl⟩ := H0.out rfl
        clear hNp
        go_wp2_with (fail)
        rw [HWP.out.1, HWP.out.2]
        refine HG.out.mono ?_
        rintro e w3 ⟨V1, o1, rfl, hv1, hr, hc, hrel1⟩
        have E3 := Lib.hid (EP.out.got hr hc)
        have G3 := Lib.hid (hc.blk GP.out (by omega))
        have O3 := Lib.hid (own_chg OP.out hc (fun g hgb e => (HNE.out g hgb).1 e))
        have L1 := Lib.hid hrel1
        have HV1 := Lib.hid hv1
        obtain ⟨T, hT⟩ : ∃ T, w64 (V1 : Int) = T := ⟨_, rfl⟩
        have hTb := w64_bd (V1 : Int)
        rw [hT] at hTb
        have y1 : IntKind.i64.wrap (V1 : Int) = T := by rw [← hT]; simp [w64, IntKind.wrap_i64]
        have HT := Lib.hid hT
        have HTB := Lib.hid hTb
        have HG := Lib.hid (get_ry w3 q 64 o1 (by omega) hr)
        clear hr hc hrel1 hv1 hT hTb
        go_wp2_with (fail)
        refine HG.out.mono ?_
        rintro e w4 ⟨V2, o2, rfl, hv2, hr, hc, hrel2⟩
        have E4 := Lib.hid (E3.out.got hr hc)
        have G4 := Lib.hid (hc.blk G3.out (by omega))
        have O4 := Lib.hid (own_chg O3.out hc (fun g hgb e => (HNE.out g hgb).1 e))
        have L2 := Lib.hid hrel2
        have HV2 := Lib.hid hv2
        have HG := Lib.hid (get_ry w4 q 64 o2 (by omega) hr)
        clear hr hc hrel2 hv2
        go_wp2_with (fail)
        refine HG.out.mono ?_
        rintro e w5 ⟨V3, o3, rfl, hv3, hr, hc, hrel3⟩
        have E5 := Lib.hid (E4.out.got hr hc)
        have G5 := Lib.hid (hc.blk G4.out (by omega))
        have O5 := Lib.hid (own_chg O4.out hc (fun g hgb e => (HNE.out g hgb).1 e))
        have L3 := Lib.hid hrel3
        have HV3 := Lib.hid hv3
        obtain ⟨k0, k1, k2⟩ := cells3 G5.out
        obtain ⟨f0, f1, f2⟩ := frozen3 G5.out
        have hl5 : Np < w5.heap.size := blk_lt G5.out
        obtain ⟨w6, hw6⟩ : ∃ w6, ((w5.setCell ⟨Np, 0, none⟩ (.int .i64 T)).setCell ⟨Np, 1, none⟩ (.int .u64 (V2 : Int))).setCell ⟨Np, 2, none⟩ (.int .u64 (V3 : Int)) = w6 := ⟨_, rfl⟩
        have hc6 : Chg (fun k => k = Np) w5 w6 := by rw [← hw6]; exact chg3 Np _ _ _
        have E6 := Lib.hid (E5.out.keep hc6 (fun k e => by have := HN2.out; omega))
        have G6 := Lib.hid (show w6.heap[Np]? = some (.cells #[.int .i64 T, .int .u64 (V2 : Int), .int .u64 (V3 : Int)] 39 (0, 0)) by rw [← hw6]; exact set3 rfl G5.out)
        have O6 := Lib.hid (own_chg O5.out hc6 (fun g hgb e => HNE2.out g hgb e))
        have HW6 := Lib.hid hw6
        have hFit : FitP (T, (V2 : Int), (V3 : Int)) := by
          have h2 := HV2.out
          have h3 := HV3.out
          rw [p64] at h2 h3
          exact ⟨HTB.out, ⟨by simp only; omega, by simp only; omega⟩, by simp only; omega, by simp only; omega⟩
        have HFIT := Lib.hid hFit
        clear hr hc hrel3 hv3 hc6 hFit hw6 E3 E4 E5 G3 G4 O3 O4 O5 HG EP GP OP
        obtain ⟨s0, s1, s2⟩ := cells3 G6.out
        have hl6 : Np < w6.heap.size := blk_lt G6.out
        obtain ⟨w8, hw8⟩ : ∃ w8, w6.alloc (.cells #[.int .i64 T, .int .u64 (V2 : Int), .int .u64 (V3 : Int)] 39) = w8 := ⟨_, rfl⟩
        have hb8 : Below w6.heap.size w6 w8 := by rw [← hw8]; exact (Below.refl _ _).alloc (Nat.le_refl _) _
        have hrd : Rd w8 (w6.heap.size + 1) (some ⟨w6.heap.size, 0, none⟩) (1 * 3) [.int .i64 T, .int .u64 (V2 : Int), .int .u64 (V3 : Int)] := by rw [← hw8]; exact rd_newP w6 T (V2 : Int) (V3 : Int)
        have ho8 := own_keep O6.out hb8 (Nat.le_refl _)
        have hs8 := hb8.size
        have hsz8 : q + 1 ≤ w8.heap.size := by omega
        have E8 := Lib.hid (E6.out.below hb8)
        have HW8 := Lib.hid hw8
        clear hb8 hw8
        go_wp2_with (first | (at_builtin; (try rw [HW6.out]); (try rw [HW8.out]); go_loud (refine wpList_append_rd rfl (.tmp 108) (.tmp 110) 22 rfl (q + 1) 39 i0 _ 3 24 Tryd.underlying22 hi hz0 hz1 hz2 rfl (by decide) _ 0 (cs pE []) rfl ho8 (w6.heap.size + 1) _ 1 1 (fun e => by cases e) [.int .i64 T, .int .u64 (V2 : Int), .int .u64 (V3 : Int)] rfl hrd (by intro u hu; simp at hu; rcases hu with rfl | rfl | rfl <;> rfl) (by unfold maxLen; omega) (by omega) hsz8 ?_); intro v9 w9 hown9 hg9 hnn9) | (rw [HW6.out]))
        have hown10 : w9.ownsRow (q + 1) 39 3 v9 (0 + 1) (cs pE [(T, (V2 : Int), (V3 : Int))]) := by
          rw [cs_one]
          exact hown9
        have hgrow : w8.grownBy w9 ((Value.slice A7 0 c7).ownBlock) := hg9
        have hch9 : Chg (fun k => some k = (Value.slice A7 0 c7).ownBlock) w8 w9 := (Chg.refl _ w8).grown hgrow (fun k e _ => e.symm)
        have HE9 := Lib.hid (show ED w w9 q o3 none none from ⟨E8.out.bel.trans (own_below (Below.refl (q + 1) w8) ho8 hsz8 hg9 |>.mono (by omega)), E8.out.rs.chg ((Chg.refl (fun k => q < k) w8).grown hgrow (fun k e _ => by have := (ho8.lt k e).1; omega)) (fun k e => e), hch9.blk E8.out.gv (fun e => (HNE.out _ e.symm).2.1 rfl), hch9.blk E8.out.gw (fun e => (HNE.out _ e.symm).2.2.1 rfl), E8.out.hq⟩)
        have HO9 := Lib.hid hown10
        clear hown9 hown10 hg9 hnn9 ho8 hrd hgrow hch9
        have hinv : InvR m X0 [(T, (V2 : Int), (V3 : Int))] T 0 V2 V3 none none o3 := by
          rcases rel_first L1.out L2.out L3.out with ⟨X3, rfl, hf⟩ | ⟨rfl, hf⟩
          · rw [HT.out] at hf
            exact HDn.out.first hlt hf
          · exact HDn.out.first_no hlt hf
        have HINV := Lib.hid hinv
        clear hinv
        go_roundg (m - (0 + 1))
        case measure => omega
        case rel => exact ⟨1, [(T, (V2 : Int), (V3 : Int))], T, 0, V2, V3, none, none, o3, v9, by omega, by omega, by go_num, rfl, rfl, rfl, (fun x hx => by simp at hx; subst hx; exact HFIT.out), ⟨win0, win0⟩, ⟨by omega, by omega⟩, (fun e => by omega), HINV.out, HE9.out, HO9.out⟩
      · have hne0 : acc ≠ [] := fun e => by have := HA.out; rw [e] at this; exact hj0 this.symm
        have hDn : Dn m X0 acc ⟨t, d, v, s, a, b', X⟩ := HI.out
        have hok := hDn.ok hne0
        obtain ⟨jm, hjm⟩ : ∃ jm, j = jm + 1 := ⟨j - 1, by omega⟩
        have hlast : acc[jm]? = some (t, (v : Int), (s : Int)) := by
          obtain ⟨_, _, h⟩ := hDn
          rcases h with ⟨e, _⟩ | ⟨l, e, _⟩
          · exact absurd e hne0
          · have hll := HA.out
            rw [e, List.length_append, List.length_singleton] at hll
            rw [e, List.getElem?_append_right (by omega), show jm - l.length = 0 from by omega]
            rfl
        obtain ⟨g7, rfl, _, _, _, _⟩ := own_pos OW.out (by omega)
        have HLAST := Lib.hid hlast
        have HDn := Lib.hid hDn
        have HNE0 := Lib.hid hne0
        have HJM := Lib.hid hjm
        have ht := hok.t
        have hd' := hok.d
        have hv64 := hok.v
        have hs64 := hok.s
        have HOK := Lib.hid hok
        have hjz : (((j : Int) == 0) : Bool) = false := by simp; omega
        have hjw : IntKind.i64.wrap ((j : Int) - 1) = (jm : Int) := by rw [IntWalk.i64_in _ (by omega)]; omega
        have z1 : (0 : Int) ≤ (jm : Int) := by omega
        have z2 : (jm : Int) < (j : Int) := by omega
        have HG := Lib.hid (time_ry wp q (some X) EP.out.rs)
        have HTD := Lib.hid (And.intro ht hd')
        have HVS := Lib.hid (And.intro hv64 hs64)
        clear hNp hne0 hDn hok hlast ht hd' hv64 hs64 hjm
        go_wp2_with (fail)
        rw [HWP.out.1, HWP.out.2]
        refine HG.out.mono ?_
        rintro e w3 ⟨x, o1, rfl, hxb, hr, hc, hrel1⟩
        have E3 := Lib.hid (EP.out.got hr hc)
        have G3 := Lib.hid (hc.blk GP.out (by omega))
        have O3 := Lib.hid (own_chg OP.out hc (fun g hgb e => (HNE.out g hgb).1 e))
        have L1 := Lib.hid hrel1
        obtain ⟨D, hD⟩ : ∃ D, w64 (d + x) = D := ⟨_, rfl⟩
        obtain ⟨T, hT⟩ : ∃ T, w64 (t + D) = T := ⟨_, rfl⟩
        have y1 : IntKind.i64.wrap (d + x) = D := by rw [← hD]; simp [w64, IntKind.wrap_i64]
        have y2 : IntKind.i64.wrap (t + D) = T := by rw [← hT]; simp [w64, IntKind.wrap_i64]
        have HDB := Lib.hid (show -9223372036854775808 ≤ D ∧ D ≤ 9223372036854775807 by rw [← hD]; exact w64_bd _)
        have HTB := Lib.hid (show -9223372036854775808 ≤ T ∧ T ≤ 9223372036854775807 by rw [← hT]; exact w64_bd _)
        have HDT := Lib.hid (And.intro hD hT)
        obtain ⟨r0, _, _⟩ := row_cells O3.out HA.out (show jm < j by omega) HLAST.out
        simp only at r0
        obtain ⟨k0, _, _⟩ := cells3 G3.out
        obtain ⟨f0, _, _⟩ := frozen3 G3.out
        have hl3 : Np < w3.heap.size := blk_lt G3.out
        have hg3 : g7 < w3.heap.size := by
          have := O3.out.lt g7 rfl
          omega
        obtain ⟨w4, hw4⟩ : ∃ w4, w3.setCell ⟨Np, 0, none⟩ (.int .i64 T) = w4 := ⟨_, rfl⟩
        have hc4 : Chg (fun k => k = Np) w3 w4 := by rw [← hw4]; exact (Chg.refl (fun k => k = Np) w3).setCell (p := ⟨Np, 0, none⟩) (fun _ => rfl) _
        have E4 := Lib.hid (E3.out.keep hc4 (fun k e => by have := HN2.out; omega))
        have G4 := Lib.hid (show w4.heap[Np]? = some (.cells #[.int .i64 T, .int .u64 0, .int .u64 0] 39 (0, 0)) by rw [← hw4, heap_setCell_same _ _ _ _ _ _ G3.out]; rfl)
        have O4 := Lib.hid (own_chg O3.out hc4 (fun g hgb e => HNE2.out g hgb e))
        have HW4 := Lib.hid hw4
        obtain ⟨x0, x1, x2, hx⟩ := win3 a
        have gv4 := E4.out.gv
        rw [hx] at gv4
        obtain ⟨a0, a1', a2⟩ := cells3 gv4
        have hl4 : q + 2 < w4.heap.size := blk_lt gv4
        have HG := Lib.hid (value_ry w4 q o1 E4.out.rs a HW.out.1)
        rw [hx] at HG
        clear hr hc hrel1 hxb hD hT hw4 hc4 gv4 E3 G3 O3 EP GP OP
        go_wp2_with (rw [HW4.out])
        try rw [HW4.out]
        refine HG.out.mono ?_
        rintro e w5 ⟨y, a1, o2, rfl, hy, ha1, hr, hc, hrel2⟩
        clear k0 f0 r0 y1 y2 a0 a1' a2 hl3 hl4 hg3 HG
        have E5 := Lib.hid (E4.out.got hr hc)
        have G5 := Lib.hid (hc.blk G4.out (by omega))
        have O5 := Lib.hid (own_chg O4.out hc (fun g hgb e => (HNE.out g hgb).1 e))
        have L2 := Lib.hid hrel2
        have HA1 := Lib.hid ha1
        obtain ⟨w6, hw6⟩ : ∃ w6, w5.setRow (q + 2) (winC a1) = w6 := ⟨_, rfl⟩
        have hc6 : Chg (fun k => k = q + 2) w5 w6 := by rw [← hw6]; exact Chg.setRow (S := fun k => k = q + 2) (Chg.refl _ _) (fun _ => rfl) _
        have E6 := Lib.hid (show ED w w6 q o2 a1 b' by rw [← hw6]; exact E5.out.setvr)
        have G6 := Lib.hid (hc6.blk G5.out (by have := HN2.out; omega))
        have O6 := Lib.hid (own_chg O5.out hc6 (fun g hgb e => (HNE.out g hgb).2.1 e))
        have HW6 := Lib.hid hw6
        obtain ⟨_, r1, _⟩ := row_cells O6.out HA.out (show jm < j by omega) HLAST.out
        simp only at r1
        obtain ⟨V, hV⟩ : ∃ V, v ^^^ y = V := ⟨_, rfl⟩
        have hxo := xor_nat v y V HVS.out.1 hy hV
        have HV := Lib.hid hV
        have HVL := Lib.hid (show lt64 V by rw [← hV]; exact xor_lt _ _ HVS.out.1 hy)
        obtain ⟨_, k1, _⟩ := cells3 G6.out
        obtain ⟨_, f1, _⟩ := frozen3 G6.out
        have hl6 : Np < w6.heap.size := blk_lt G6.out
        have hg6 : g7 < w6.heap.size := by
          have := O6.out.lt g7 rfl
          omega
        obtain ⟨w7, hw7⟩ : ∃ w7, w6.setCell ⟨Np, 1, none⟩ (.int .u64 (V : Int)) = w7 := ⟨_, rfl⟩
        have hc7 : Chg (fun k => k = Np) w6 w7 := by rw [← hw7]; exact (Chg.refl (fun k => k = Np) w6).setCell (p := ⟨Np, 1, none⟩) (fun _ => rfl) _
        have E7 := Lib.hid (E6.out.keep hc7 (fun k e => by have := HN2.out; omega))
        have G7 := Lib.hid (show w7.heap[Np]? = some (.cells #[.int .i64 T, .int .u64 (V : Int), .int .u64 0] 39 (0, 0)) by rw [← hw7, heap_setCell_same _ _ _ _ _ _ G6.out]; rfl)
        have O7 := Lib.hid (own_chg O6.out hc7 (fun g hgb e => HNE2.out g hgb e))
        have HW7 := Lib.hid hw7
        obtain ⟨x6, x7, x8, hxb⟩ := win3 b'
        have gw7 := E7.out.gw
        rw [hxb] at gw7
        obtain ⟨b0, b1', b2⟩ := cells3 gw7
        have hl7 : q + 3 < w7.heap.size := blk_lt gw7
        have HG := Lib.hid (value_ry w7 q o2 E7.out.rs b' HW.out.2)
        rw [hxb] at HG
        clear hr hc hrel2 ha1 hy hw6 hc6 hV hw7 hc7 gw7 E4 G4 G5 O4 O5 hx
        go_wp2_with (first | (rw [HW7.out]) | (refine wpList_store_row rfl _ _ _ rfl (q + 2) (winC a1) (by rfl) (by rfl) _ _ E5.out.gv (by rw [winC_size]; exact infoW) (by rw [winC_size, winC_size]) (winC_all _) ?_; rw [HW6.out]))
        try rw [HW7.out]
        refine HG.out.mono ?_
        rintro e w8' ⟨z, b1, o3, rfl, hz64, hb1, hr, hc, hrel3⟩
        clear k1 f1 r1 b0 b1' b2 hl6 hl7 hg6 hxo HG E5
        have E8 := Lib.hid (E7.out.got hr hc)
        have G8 := Lib.hid (hc.blk G7.out (by omega))
        have O8 := Lib.hid (own_chg O7.out hc (fun g hgb e => (HNE.out g hgb).1 e))
        have L3 := Lib.hid hrel3
        have HB1' := Lib.hid hb1
        obtain ⟨w9', hw9⟩ : ∃ w9, w8'.setRow (q + 3) (winC b1) = w9 := ⟨_, rfl⟩
        have hc9 : Chg (fun k => k = q + 3) w8' w9' := by rw [← hw9]; exact Chg.setRow (S := fun k => k = q + 3) (Chg.refl _ _) (fun _ => rfl) _
        have E9 := Lib.hid (show ED w w9' q o3 a1 b1 by rw [← hw9]; exact E8.out.setwr)
        have G9 := Lib.hid (hc9.blk G8.out (by have := HN2.out; omega))
        have O9 := Lib.hid (own_chg O8.out hc9 (fun g hgb e => (HNE.out g hgb).2.2.1 e))
        have HW9 := Lib.hid hw9
        obtain ⟨_, _, r2⟩ := row_cells O9.out HA.out (show jm < j by omega) HLAST.out
        simp only at r2
        obtain ⟨S, hS⟩ : ∃ S, s ^^^ z = S := ⟨_, rfl⟩
        have hxo := xor_nat s z S HVS.out.2 hz64 hS
        have HS := Lib.hid hS
        have HSL := Lib.hid (show lt64 S by rw [← hS]; exact xor_lt _ _ HVS.out.2 hz64)
        obtain ⟨_, _, k2⟩ := cells3 G9.out
        obtain ⟨_, _, f2⟩ := frozen3 G9.out
        have hl9 : Np < w9'.heap.size := blk_lt G9.out
        have hgl9 : g7 < w9'.heap.size := by
          have := O9.out.lt g7 rfl
          omega
        obtain ⟨w10, hw10⟩ : ∃ w10, w9'.setCell ⟨Np, 2, none⟩ (.int .u64 (S : Int)) = w10 := ⟨_, rfl⟩
        have hc10 : Chg (fun k => k = Np) w9' w10 := by rw [← hw10]; exact (Chg.refl (fun k => k = Np) w9').setCell (p := ⟨Np, 2, none⟩) (fun _ => rfl) _
        have E10 := Lib.hid (E9.out.keep hc10 (fun k e => by have := HN2.out; omega))
        have G10 := Lib.hid (show w10.heap[Np]? = some (.cells #[.int .i64 T, .int .u64 (V : Int), .int .u64 (S : Int)] 39 (0, 0)) by rw [← hw10, heap_setCell_same _ _ _ _ _ _ G9.out]; rfl)
        have O10 := Lib.hid (own_chg O9.out hc10 (fun g hgb e => HNE2.out g hgb e))
        have HW10 := Lib.hid hw10
        have hFit : FitP (T, (V : Int), (S : Int)) := by
          have h2 := HVL.out
          have h3 := HSL.out
          unfold lt64 at h2 h3
          exact ⟨HTB.out, ⟨by simp only; omega, by simp only; omega⟩, by simp only; omega, by simp only; omega⟩
        have HFIT := Lib.hid hFit
        clear hr hc hrel3 hb1 hz64 hw9 hc9 hS hw10 hc10 E6 E7 G6 G7 G8 O6 O7 O8 hxb hFit
        obtain ⟨s0, s1, s2⟩ := cells3 G10.out
        have hl10 : Np < w10.heap.size := blk_lt G10.out
        obtain ⟨wa8, hwa8⟩ : ∃ wa8, w10.alloc (.cells #[.int .i64 T, .int .u64 (V : Int), .int .u64 (S : Int)] 39) = wa8 := ⟨_, rfl⟩
        have hba8 : Below w10.heap.size w10 wa8 := by rw [← hwa8]; exact (Below.refl _ _).alloc (Nat.le_refl _) _
        have hrd : Rd wa8 (w10.heap.size + 1) (some ⟨w10.heap.size, 0, none⟩) (1 * 3) [.int .i64 T, .int .u64 (V : Int), .int .u64 (S : Int)] := by rw [← hwa8]; exact rd_newP w10 T (V : Int) (S : Int)
        have hoa8 := own_keep O10.out hba8 (Nat.le_refl _)
        have hsa8 := hba8.size
        have hsza8 : q + 1 ≤ wa8.heap.size := by omega
        have EA8 := Lib.hid (E10.out.below hba8)
        have HWA8 := Lib.hid hwa8
        clear hba8 hwa8
        go_wp2_with (first | (refine wpList_store_row rfl _ _ _ rfl (q + 3) (winC b1) (by rfl) (by rfl) _ _ E8.out.gw (by rw [winC_size]; exact infoW) (by rw [winC_size, winC_size]) (winC_all _) ?_; rw [HW9.out]) | (at_builtin; (try rw [HW10.out]); (try rw [HWA8.out]); go_loud (refine wpList_append_rd rfl (.tmp 108) (.tmp 110) 22 rfl (q + 1) 39 i0 _ 3 24 Tryd.underlying22 hi hz0 hz1 hz2 rfl (by decide) _ j (cs pE acc) rfl hoa8 (w10.heap.size + 1) _ 1 1 (fun e => by cases e) [.int .i64 T, .int .u64 (V : Int), .int .u64 (S : Int)] rfl hrd (by intro u hu; simp at hu; rcases hu with rfl | rfl | rfl <;> rfl) (by unfold maxLen; omega) (by omega) hsza8 ?_); intro v9 w9 hown9 hg9 hnn9) | (rw [HW10.out]))
        have hown10 : w9.ownsRow (q + 1) 39 3 v9 (j + 1) (cs pE (acc ++ [(T, (V : Int), (S : Int))])) := by
          rw [cs_append, cs_one]
          exact hown9
        have hgrow : wa8.grownBy w9 ((Value.slice (some ⟨g7, 0, none⟩) j c7).ownBlock) := hg9
        have hch9 : Chg (fun k => some k = (Value.slice (some ⟨g7, 0, none⟩) j c7).ownBlock) wa8 w9 := (Chg.refl _ wa8).grown hgrow (fun k e _ => e.symm)
        have HE9 := Lib.hid (show ED w w9 q o3 a1 b1 from ⟨EA8.out.bel.trans (own_below (Below.refl (q + 1) wa8) hoa8 hsza8 hg9 |>.mono (by omega)), EA8.out.rs.chg ((Chg.refl (fun k => q < k) wa8).grown hgrow (fun k e _ => by have := (hoa8.lt k e).1; omega)) (fun k e => e), hch9.blk EA8.out.gv (fun e => (HNE.out _ e.symm).2.1 rfl), hch9.blk EA8.out.gw (fun e => (HNE.out _ e.symm).2.2.1 rfl), EA8.out.hq⟩)
        have HO9 := Lib.hid hown10
        clear hown9 hown10 hg9 hnn9 hoa8 hrd hgrow hch9
        have hinv : InvR m X0 (acc ++ [(T, (V : Int), (S : Int))]) T D V S a1 b1 o3 := by
          rcases rel_next (q := ⟨t, d, v, s, a, b', X⟩) L1.out L2.out L3.out with ⟨X3, rfl, hf⟩ | ⟨rfl, hf⟩
          · simp only [HDT.out.1, HDT.out.2, HV.out, HS.out] at hf
            exact HDn.out.next HNE0.out (by rw [HA.out]; exact hlt) hf
          · exact HDn.out.next_no HNE0.out (by rw [HA.out]; exact hlt) hf
        have HINV := Lib.hid hinv
        clear hinv
        go_roundg (m - (j + 1))
        case measure => omega
        case rel => exact ⟨j + 1, acc ++ [(T, (V : Int), (S : Int))], T, D, V, S, a1, b1, o3, v9, by omega, by omega, by go_num, rfl, rfl, (show (acc ++ [(T, (V : Int), (S : Int))]).length = j + 1 by rw [List.length_append, HA.out]; rfl), (fun x hx => by
            rcases List.mem_append.1 hx with hx | hx
            · exact HF.out x hx
            · simp at hx; subst hx; exact HFIT.out), ⟨HA1.out, HB1'.out⟩, HDB.out, (fun e => by omega), HINV.out, HE9.out, HO9.out⟩
    · have HEN := Lib.hid (encode_y wr wr.heap.size j c7 A7 acc HRD.out HF.out (Nat.le_refl _) (by omega))
      have hend : (o = none ∧ dPts m X0 = none) ∨ ∃ X, o = some X ∧ j = m ∧ dPts m X0 = some (acc, X) := by
        cases o with
        | none => exact .inl ⟨rfl, HI.out⟩
        | some X =>
          have hjm : j = m := by
            rcases Nat.lt_or_ge j m with h | h
            · exact absurd ⟨h, rfl⟩ hlt
            · omega
          exact .inr ⟨X, rfl, hjm, ((show Dn m X0 acc ⟨t, d, v, s, a, b', X⟩ from HI.out).done (by rw [HA.out]; omega)).1⟩
      rcases hend with ⟨rfl, hno⟩ | ⟨X, rfl, hjm, hdp⟩
      · have HNO := Lib.hid (show ∀ l, ¬ ans bs l from fun l hla => by
          obtain ⟨_, Y, hY⟩ := HAN.out l hla
          rw [HX0.out, hno] at hY
          cases hY)
        have hqc : wr.cell? ⟨q, 1, none⟩ = some (.bool true) := hqc
        clear hno hlt
        by_cases hjm : (j : Int) < (m : Int)
        all_goals
          go_wp2_with (fail)
          refine HEN.out.mono ?_
          intro e w3 hr
          obtain ⟨E, A3, c3, rfl, hbE, hE, hb3⟩ := enc_any hr
          have HE3 := Lib.hid (HE.out.below hb3)
          obtain ⟨vq', hblk⟩ := HE3.out.rs.blk
          have hqc3 : w3.cell? ⟨q, 1, none⟩ = some (.bool true) := by rw [cell_of_row _ _ _ _ _ _ hblk]; rfl
          have hql3 : q < w3.heap.size := blk_lt hblk
          clear hblk hb3 hbE hE hr
          go_wp2_with (fail)
          go_ret2
          exact .inr ⟨HNO.out, rfl, HE3.out.bel⟩
      · have HUN := Lib.hid (show ∀ l, ans bs l → l = acc from fun l hla => by
          obtain ⟨_, Y, hY⟩ := HAN.out l hla
          rw [HX0.out, hdp] at hY
          injection hY with hY
          injection hY with hY _
          exact hY.symm)
        have hjm' := hjm.symm
        subst hjm'
        have hqc : wr.cell? ⟨q, 1, none⟩ = some (.bool false) := hqc
        have hjz : ¬ (m : Int) < (m : Int) := by omega
        clear hdp hlt hjm
        go_wp2_with (fail)
        refine HEN.out.mono ?_
        intro e w3 hr
        obtain ⟨E, A3, c3, rfl, hbE, hE, hb3⟩ := enc_any hr
        have HE3 := Lib.hid (HE.out.below hb3)
        have HRD3 := Lib.hid (HRD.out.below hb3 (Nat.le_refl _))
        have hs3 := hb3.size
        obtain ⟨vq', hblk⟩ := HE3.out.rs.blk
        have hqc3 : w3.cell? ⟨q, 1, none⟩ = some (.bool false) := by rw [cell_of_row _ _ _ _ _ _ hblk]; rfl
        have hql3 : q < w3.heap.size := blk_lt hblk
        have HEE := Lib.hid hE
        obtain ⟨LE, hLE⟩ : ∃ LE, E.length = LE := ⟨_, rfl⟩
        rw [hLE] at hbE ⊢
        by_cases hc : checkP acc = 0
        · have k2 := conv_string (P := Tryd.prog) (c := c3) hbE 23 9 5 Tryd.underlying23 Tryd.underlying9 Tryd.underlying5
          have k3 := conv_string (P := Tryd.prog) (c := c) (HBS.out.below HE3.out.bel hB) 23 9 5 Tryd.underlying23 Tryd.underlying9 Tryd.underlying5
          rw [hc]
          by_cases heq : E = bs
          · have HAA := Lib.hid (show ans bs acc from ⟨HF.out, hc, (HEE.out hc).symm.trans heq⟩)
            subst heq
            clear hblk hb3 hE hbE hc hLE
            go_wp2_with (fail)
            go_ret2
            exact .inl ⟨acc, HAA.out, A7, c7, by rw [HA.out]; rfl, by rw [HA.out]; exact pts_up HRD3.out hs3, HE3.out.bel⟩
          · have HNO := Lib.hid (show ∀ l, ¬ ans bs l from fun l hla => by
              have e := HUN.out l hla
              subst e
              exact heq ((HEE.out hc).trans hla.2.2))
            have hne : ((⟨E.toArray⟩ : ByteArray).toList == (⟨bs.toArray⟩ : ByteArray).toList) = false := by simp [bytes_eq, heq]
            have hne2 : (E == bs) = false := by simp [heq]
            clear hblk hb3 hE hbE hc hLE
            go_wp2_with (fail)
            all_goals first | (go_ret2; exact .inr ⟨HNO.out, rfl, HE3.out.bel⟩) | (exfalso; simp_all [bytes_eq])
        · have HNO := Lib.hid (show ∀ l, ¬ ans bs l from fun l hla => by
            have e := HUN.out l hla
            subst e
            exact hc hla.2.1)
          obtain ⟨z, hz⟩ : ∃ z, checkP acc = z := ⟨_, rfl⟩
          rw [hz] at hc ⊢
          have z1 : (z == 0) = false := by simpa using hc
          have z2 : (z != 0) = true := by simpa using hc
          clear hblk hb3 hE hbE hc hz hLE
          go_wp2_with (fail)
          go_ret2
          exact .inr ⟨HNO.out, rfl, HE3.out.bel⟩
end Go.Proofs.YtknjejejkgihbaaDoor.ts
