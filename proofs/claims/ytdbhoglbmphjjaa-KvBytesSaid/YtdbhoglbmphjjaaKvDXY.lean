/-
  Bytes as a placement: the document's Decode.
-/
import Derived.Test.YtdbhoglbmphjjaaKvDIY
import Derived.Test.YtdbhoglbmphjjaaKvEY
import Derived.Deep.CutBlock
namespace Go.Proofs.Ytdbhoglbmphjjaa.kv
open Go.ChangeShapes Go.WideShapes Go.ChangeAt Go.RowKit Go.Shelf plain words ord mem uvs uvc pm

theorem good_iff {b r : List UInt8} {ok : Bool} {p : Pl} (h5 : s5 b = (r, ok)) (hp : ok = true → p = rdP b) : GoodB b ↔ ok = true ∧ chk p = 0 ∧ encP p = b := by
  unfold GoodB
  rw [h5]
  constructor
  · rintro ⟨h1, h2, h3⟩
    simp only at h1 h2
    have e := hp h1
    have hb := rdP_back (b := b) (by rw [h5]; exact h1)
    rw [h5, h2, List.append_nil] at hb
    rw [e]
    exact ⟨h1, h3, hb.symm⟩
  · rintro ⟨h1, h2, h3⟩
    have e := hp h1
    have hb := rdP_back (b := b) (by rw [h5]; exact h1)
    rw [h5, ← e, h3] at hb
    refine ⟨h1, ?_, by rw [← e]; exact h2⟩
    have := congrArg List.length hb
    rw [List.length_append] at this
    exact List.eq_nil_of_length_eq_zero (by simp only at this ⊢; omega)
set_option maxHeartbeats 4000000 in
set_option maxRecDepth 100000 in
theorem decode_y (w : World) (B n c : Nat) (A : Option Addr) (b : List UInt8) (h : Bs w B A n b) (hB : B ≤ w.heap.size) (hnc : n ≤ c) (hc : c ≤ 9223372036854775807) (hn : n ≤ 1099511627776) :
    Calls Try.prog 8 #[.slice A n c] w (RetDec w b) := by
  obtain ⟨w3, hw3⟩ : ∃ w3, (w.alloc (.cells #[.int .i64 0, .slice none 0 0, .slice none 0 0] 25)).alloc (.cells #[.slice A n c, .bool false] 47) = w3 := ⟨_, rfl⟩
  have hsz3 : w3.heap.size = w.heap.size + 2 := by rw [← hw3]; simp
  have hb3 : Below w.heap.size w w3 := by rw [← hw3]; exact (below_al _ _).alloc (by simp) _
  have gr3 : IsV3 25 w3 w.heap.size (.int .i64 0) (.slice none 0 0) (.slice none 0 0) := by rw [← hw3]; exact alloc_old _ (alloc_new _ _)
  have gk3 : w3.heap[w.heap.size + 1]? = some (.cells #[.slice A n c, .bool false] 47 (0, 0)) := by
    rw [← hw3]
    have := alloc_new (w.alloc (.cells #[.int .i64 0, .slice none 0 0, .slice none 0 0] 25)) (.cells #[.slice A n c, .bool false] 47)
    rwa [World.size_alloc] at this
  have hds : DSy w3 (w.heap.size + 1) B (b, true) := ⟨A, n, c, gk3, h.below hb3 hB, hnc, hc, hn, by omega⟩
  have HN0 := Lib.hid (number_y w3 (w.heap.size + 1) B (b, true) hds (by omega))
  have HB3 := Lib.hid hb3
  have GR3 := Lib.hid gr3
  have HW3 := Lib.hid hw3
  have HBS := Lib.hid h
  have HFIN := Lib.hid (fun (u : World) (hu : Chg (fun k => k = w.heap.size + 1 ∨ w.heap.size + 2 ≤ k) w3 u) => And.intro (hb3.trans (hu.below (B := w.heap.size) (by omega) (fun k e => by omega))) (hu.blk gr3 (by omega)))
  clear hw3 hb3 gr3 gk3 hds h
  go_enter Try.func8, Try.ntmps8
  go_wp2_with (fail)
  rw [HW3.out]
  refine HN0.out.mono ?_
  rintro e w4 ⟨rfl, hd4, hc4⟩
  obtain ⟨z0, hz0⟩ : ∃ z0, (rd (b, true)).1 = z0 := ⟨_, rfl⟩
  rw [hz0]
  have hs4 := hc4.size
  obtain ⟨w5, hw5⟩ : ∃ w5, w4.alloc (.cells #[.int .i64 z0, .slice none 0 0, .slice none 0 0] 25) = w5 := ⟨_, rfl⟩
  obtain ⟨pb, hpb⟩ : ∃ pb, w4.heap.size = pb := ⟨_, rfl⟩
  have hpb3 : w.heap.size + 2 ≤ pb := by omega
  have K5 := Lib.hid (show DIy w3 w5 (w.heap.size + 1) B (w.heap.size + 2) pb (s1 b) ⟨z0, none, 0, [], none, 0, []⟩ by
    have hwd := wd_new (w := w4) (B := w.heap.size + 2) z0 (by omega)
    rw [hw5, hpb] at hwd
    have hal : Below w4.heap.size w4 w5 := by rw [← hw5]; exact below_al _ _
    refine ⟨hd4.chg (Chg.of_below hal) (by omega) (fun e => e) (fun k e => e.elim), hwd, ?_, by omega, by omega, by omega⟩
    exact (hc4.mono (S' := fun k => k = w.heap.size + 1 ∨ w.heap.size + 2 ≤ k) (fun k _ e => .inl e)).trans (Chg.of_below hal) (fun _ _ e => e.elim))
  have HZ0 := Lib.hid hz0
  have HP1 := Lib.hid K5.out.next
  have HPB := Lib.hid hpb
  have HW5 := Lib.hid hw5
  clear hd4 hc4 hz0 hpb hw5
  go_wp2_with (fail)
  rw [HW5.out]
  simp only [HPB.out]
  refine HP1.out.mono ?_
  rintro e w6 ⟨rfl, hk6, _⟩
  have K6 := Lib.hid (show DIy w3 w6 (w.heap.size + 1) B (w.heap.size + 2) pb (s2 b) ⟨z0, none, 0, [], none, 0, []⟩ from hk6)
  clear hk6
  have hr2 := rd_range (s1 b)
  obtain ⟨N1, hN1⟩ : ∃ N1 : Nat, nN b = N1 := ⟨_, rfl⟩
  have he2 : (rd (s1 b)).1 = (N1 : Int) := by rw [← hN1]; exact rd_nat _
  have hN1b : N1 ≤ 1099511627776 := by omega
  rw [he2]
  have HN1 := Lib.hid hN1
  clear he2 hr2 hN1
  go_upto_block 0 with (fail)
  go_cut [] (fun wx => ∃ (l : List Int) (A : Option Addr) (c : Nat) (s : St), Aside (rdN (nN b) (s2 b) = (l, s)) ∧ Aside (DIy w3 wx (w.heap.size + 1) B (w.heap.size + 2) pb (s3 b) ⟨z0, A, c, l, none, 0, []⟩))
  case first =>
    go_wp2_with (fail)
    go_loopg [7] N1 (fun gg s7 wr => ∃ (i : Nat) (s : St) (l : List Int) (A : Option Addr) (c : Nat), s7 = .int .i64 i ∧ N1 - i ≤ gg ∧ i ≤ N1 ∧ Aside (LN N1 (s2 b) i s l) ∧ Aside (DIy w3 wr (w.heap.size + 1) B (w.heap.size + 2) pb s ⟨z0, A, c, l, none, 0, []⟩))
    case atStart => exact ⟨0, _, [], none, 0, rfl, by omega, by omega, LN.zero _ _, K6.out⟩
    case round =>
      obtain ⟨i, s, l, A1, c1, rfl, hg, hi, HL, HK⟩ := hrel
      obtain ⟨r, ok⟩ := s
      obtain ⟨_, _, _, _, k0, _, hkr⟩ := HK.out.ds.cells
      simp only at k0
      by_cases hgo : ok = true ∧ i < N1
      · obtain ⟨rfl, hlt⟩ := hgo
        have hltz : (i : Int) < (N1 : Int) := by omega
        simp only [Bool.not_true] at k0
        have hli := HL.out.len
        have hwd := HK.out.wd
        obtain ⟨⟨_, d1, _⟩, _, f1, _⟩ := isv3_cells hwd.wp.var
        have hpl := hwd.wp.lt
        simp only [hli] at d1
        have HLI := Lib.hid hli
        obtain ⟨z, hz⟩ : ∃ z, (rd (r, true)).1 = z := ⟨_, rfl⟩
        have HS := Lib.hid (HL.out.succ hlt)
        rw [hz] at HS
        have HP2 := Lib.hid (HK.out.drew.next)
        rw [hz] at HP2
        have q0 := Wf.at_ (F := fun k => k = w.heap.size + 1) d1 (fun e => by simp only at e; omega)
        clear hwd hli hz
        go_wp2_with (fail)
        refine fr.wp_region_tree (F := fun k => k = w.heap.size + 1) (.reads [0, 1, 2] (.one 3 false (.one 4 false (.one 5 true (.reads [6] (.one 7 true .stop)))))) (by kernel_rfl) (by kernel_rfl) ?_
        refine fr.tr_reads _ (by dsimp only [pick, ord.at_]) ?_
        repeat (go_big_quiet_step (fail))
        refine wpQuiet_nil ?_
        refine fr.tr_one _ (by dsimp only [pick, ord.at_]) ?_
        intro K1 g1 g2
        clear g1
        go_wp2_with (fail)
        refine HP2.out.mono ?_
        rintro e w7 ⟨rfl, hk7, hc7⟩
        have hc7' : Chg (fun k => k = w.heap.size + 1) wr w7 := (Chg.refl _ wr).drew.trans hc7 (fun _ _ e => e)
        have hs7 := hc7'.size
        have HC7 := Lib.hid hc7'
        have K7 := Lib.hid hk7
        clear hk7 hc7 hc7' q0 d1 f1 k0
        go_wp2_with (fail)
        refine g2 _ _ HC7.out ?_
        clear g2
        refine fr.tr_one _ (by dsimp only [pick, ord.at_]) ?_
        intro K1 g1 g2
        clear g1
        go_wp2_with (fail)
        obtain ⟨w8, hw8⟩ : ∃ w8, w7.alloc (.cells #[.int .i64 z] 3) = w8 := ⟨_, rfl⟩
        have hb8 : Below w7.heap.size w7 w8 := by rw [← hw8]; exact below_al _ _
        have HL8 := Lib.hid (show Ls NE w8 (w7.heap.size + 1) (some ⟨w7.heap.size, 0, none⟩) 1 [z] by rw [← hw8]; exact ls_new (E := NE) (w := w7) 3 z)
        have K8 := Lib.hid (K7.out.below hb8)
        have hs8 := hb8.size
        rw [hw8]
        refine g2 _ _ ((Chg.of_below hb8).mono (fun _ _ e => e.elim)) ?_
        clear g2 hw8
        have HB8 := Lib.hid hb8
        clear hb8
        have hO8 := K8.out.wd.wp.n
        simp only [HLI.out] at hO8
        refine fr.tr_write _ (by dsimp only [pick, ord.at_]) ?_
        intro K2 g3
        go_wp2_with (at_builtin; refine app_n rfl (.tmp 36) (.tmp 39) rfl (w.heap.size + 2) _ i l rfl hO8 (w7.heap.size + 1) (some ⟨w7.heap.size, 0, none⟩) 1 1 (fun e => by cases e) [z] (by rfl) HL8.out (by omega) (by omega) ?_; intro A9 c9 w9 hown9 hg9 _ h9a h9b hs9; have HO9 := Lib.hid hown9; have HG9 := Lib.hid hg9; clear hown9 hg9)
        obtain ⟨hwd9, hvar9, hch9⟩ := wd_appN (w' := w9) (A := A9) (m := i + 1) (c := c9) (l := l ++ [z]) K8.out.wd (by simp only [HLI.out]; exact HG9.out) HO9.out
        have K9 := Lib.hid (K8.out.step hch9 hwd9)
        obtain ⟨⟨_, e1, _⟩, _, e1f, _⟩ := isv3_cells hvar9
        simp only [HLI.out] at e1
        have hpl9 : pb < w9.heap.size := blk_lt hvar9
        clear hO8 hwd9 hvar9 hch9
        refine fr.tr_reads _ (by dsimp only [pick, ord.at_]) ?_
        repeat (go_big_quiet_step (fail))
        refine wpQuiet_nil ?_
        refine fr.tr_write _ (by dsimp only [pick, ord.at_]) ?_
        intro K3 g4
        go_wp2_with (fail)
        refine fr.tr_stop ?_
        refine NoPanic.normal ?_
        clear e1 e1f
        go_wp2_with (fail)
        go_roundg (N1 - (i + 1))
        case measure => omega
        case rel => exact ⟨i + 1, _, l ++ [z], A9, c9, by go_num, by omega, by omega, HS.out, K9.out⟩
      · have hdone := Lib.hid (HL.out.done (by rcases Classical.em (ok = true) with h | h; exact .inr (fun e => hgo ⟨h, e⟩); exact .inl (by simpa using h)))
        have HND := Lib.hid (show rdN (nN b) (s2 b) = (l, (r, ok)) by rw [HN1.out]; exact hdone.out)
        have K10 := Lib.hid (show DIy w3 wr (w.heap.size + 1) B (w.heap.size + 2) pb (s3 b) ⟨z0, A1, c1, l, none, 0, []⟩ by unfold s3; rw [HND.out]; exact HK.out)
        by_cases hi9 : i < N1
        · have hltz : (i : Int) < (N1 : Int) := by omega
          have hok' : ok = false := by cases ok with | false => rfl | true => exact absurd ⟨rfl, hi9⟩ hgo
          subst hok'
          simp only [Bool.not_false] at k0
          clear hgo
          go_wp2_with (fail)
          go_meet
          exact ⟨l, A1, c1, _, HND.out, K10.out⟩
        · have hltz : ¬ (i : Int) < (N1 : Int) := by omega
          clear hgo
          go_wp2_with (fail)
          go_meet
          exact ⟨l, A1, c1, _, HND.out, K10.out⟩
  case rest =>
    obtain ⟨l, A1, c1, sE, HND, HK10⟩ := hcut
    clear K6
    have HP2 := Lib.hid HK10.out.next
    obtain ⟨N2, hN2⟩ : ∃ N2 : Nat, nS b = N2 := ⟨_, rfl⟩
    have hr4 := rd_range (s3 b)
    have he4 : (rd (s3 b)).1 = (N2 : Int) := by rw [← hN2]; exact rd_nat _
    have hN2b : N2 ≤ 1099511627776 := by omega
    rw [he4] at HP2
    have HN2 := Lib.hid hN2
    clear hr4 he4 hN2
    go_wp2_with (fail)
    refine HP2.out.mono ?_
    rintro e w11 ⟨rfl, hk11, _⟩
    have K11 := Lib.hid (show DIy w3 w11 (w.heap.size + 1) B (w.heap.size + 2) pb (s4 b) ⟨z0, A1, c1, l, none, 0, []⟩ from hk11)
    clear hk11
    go_upto_block 2 with (fail)
    go_cut [] (fun wx => ∃ (X : List Rw3) (A' : Option Addr) (c' : Nat) (s : St), Aside (s5 b = s) ∧ Aside (s.2 = true → (⟨z0, A1, c1, l, A', c', X⟩ : PV).pl = rdP b) ∧ Aside (DIy w3 wx (w.heap.size + 1) B (w.heap.size + 2) pb s ⟨z0, A1, c1, l, A', c', X⟩))
    case first =>
      go_wp2_with (fail)
      go_loopg [8, 9, 10, 11, 12] N2 (fun gg s8 s9 s10 s11 s12 wr => ∃ (i : Nat) (s : St) (L : List (List O)) (X : List Rw3) (A' : Option Addr) (c' : Nat), s8 = .int .i64 i ∧ N2 - i ≤ gg ∧ i ≤ N2 ∧ Aside (LS N2 (s4 b) i s L) ∧ Aside (X.map (·.l) = L) ∧ Aside (DIy w3 wr (w.heap.size + 1) B (w.heap.size + 2) pb s ⟨z0, A1, c1, l, A', c', X⟩))
      case atStart => exact ⟨0, _, [], [], none, 0, rfl, by omega, by omega, LS.zero _ _, rfl, K11.out⟩
      case round =>
        obtain ⟨i, s, L, X, A2, c2, rfl, hg2, hi2, HLS, HXL, HK⟩ := hrel
        obtain ⟨wx, hwx⟩ : ∃ wx, wx = wr := ⟨wr, rfl⟩
        obtain rfl := hwx
        obtain ⟨r2, ok2⟩ := s
        obtain ⟨_, _, _, _, k0, _, hkr2⟩ := HK.out.ds.cells
        have hplx := HK.out.wd.wp.lt
        simp only at k0
        by_cases hgo2 : ok2 = true ∧ i < N2
        · obtain ⟨rfl, hlt2⟩ := hgo2
          simp only [Bool.not_true] at k0
          have hltz2 : (i : Int) < (N2 : Int) := by omega
          obtain ⟨wl, hwl⟩ : ∃ wl, wx.alloc (.cells #[] 41) = wl := ⟨_, rfl⟩
          have HOL := Lib.hid (show Ow OE wl wx.heap.size (.slice (some ⟨wx.heap.size, 0, none⟩) 0 0) 0 [] by rw [← hwl]; exact Ow.lit (E := OE) wx)
          have HJ0 := Lib.hid (HK.out.dj.below (show Below wx.heap.size wx wl by rw [← hwl]; exact below_al _ _))
          have HP3 := Lib.hid HJ0.out.next
          obtain ⟨N3, hN3⟩ : ∃ N3 : Nat, (rd (r2, true)).1.toNat = N3 := ⟨_, rfl⟩
          have hr6 := rd_range (r2, true)
          have he6 : (rd (r2, true)).1 = (N3 : Int) := by rw [← hN3]; exact rd_nat _
          have hN3b : N3 ≤ 1099511627776 := by omega
          rw [he6] at HP3
          have HN3 := Lib.hid hN3
          have HWL := Lib.hid hwl
          clear hr6 he6 hN3 hwl
          go_wp2_with (fail)
          rw [HWL.out]
          refine HP3.out.mono ?_
          rintro e w12 ⟨rfl, hj12, hc12⟩
          have J12 := Lib.hid hj12
          have HO12 := Lib.hid (HOL.out.chg hc12 (fun g hg e => by have := (HOL.out.lt g hg).1; omega))
          clear hj12 hc12 k0
          go_wp2_with (fail)
          go_loopg [9, 11, 12] N3 (fun gg3 s9 s11 s12 wr => ∃ (j : Nat) (s : St) (q : List O) (A : Option Addr) (c : Nat), s11 = .int .i64 j ∧ s9 = .slice A j c ∧ N3 - j ≤ gg3 ∧ j ≤ N3 ∧ Aside (LO N3 (rd (r2, true)).2 j s q) ∧ Aside (DJy wx wr (w.heap.size + 1) B s) ∧ Aside (Ow OE wr wx.heap.size (.slice A j c) j q))
          case atStart => exact ⟨0, _, [], _, 0, rfl, rfl, by omega, by omega, LO.zero _ _, J12.out, HO12.out⟩
          case round =>
            obtain ⟨j, s, q, A3, c3, rfl, rfl, hg3, hj3, HLO, HJ, HO⟩ := hrel
            obtain ⟨wz, hwz⟩ : ∃ wz, wz = wr := ⟨wr, rfl⟩
            obtain rfl := hwz
            obtain ⟨r3, ok3⟩ := s
            obtain ⟨_, _, _, _, k0, _, hkz⟩ := HJ.out.ds.cells
            have hxz := HJ.out.ch.size
            simp only at k0
            by_cases hgo3 : ok3 = true ∧ j < N3
            · obtain ⟨rfl, hlt3⟩ := hgo3
              simp only [Bool.not_true] at k0
              have hltz3 : (j : Int) < (N3 : Int) := by omega
              have HLO2 := Lib.hid (HLO.out.succ hlt3)
              obtain ⟨x1, hx1⟩ : ∃ x1, (rd (r3, true)).1 = x1 := ⟨_, rfl⟩
              obtain ⟨x2, hx2⟩ : ∃ x2, (rd (rd (r3, true)).2).1 = x2 := ⟨_, rfl⟩
              obtain ⟨x3, hx3⟩ : ∃ x3, (rd (rd (rd (r3, true)).2).2).1 = x3 := ⟨_, rfl⟩
              have hb3 := rd_range (rd (rd (r3, true)).2).2
              rw [hx3] at hb3
              have w1 : IntKind.i64.wrap (x3 - 1) = x3 - 1 := by rw [IntWalk.i64_in _ (by omega)]
              have w2 : wrap64 (x3 - 1) = x3 - 1 := by rw [IntWalk.wrap64_in _ (by omega)]
              have hOe : (rdO (r3, true)).1 = (x1, x2, x3 - 1) := by unfold rdO; rw [hx1, hx2, hx3]
              rw [hOe] at HLO2
              have HP4 := Lib.hid (HJ.out.next)
              rw [hx1] at HP4
              have HX2 := Lib.hid hx2
              have HX3 := Lib.hid hx3
              clear hx1 hx2 hx3 hOe
              go_wp2_with (fail)
              refine HP4.out.mono ?_
              rintro e wA ⟨rfl, hjA, hcA⟩
              have HOA := Lib.hid (HO.out.chg hcA (fun g hg e => by have := (HO.out.lt g hg).1; omega))
              have hsA := hjA.ch.size
              obtain ⟨wo, hwo⟩ : ∃ wo, wA.alloc (.cells #[.int .i64 x1, .int .i64 0, .int .i64 0] 41) = wo := ⟨_, rfl⟩
              have hbo : Below wA.heap.size wA wo := by rw [← hwo]; exact below_al _ _
              have Go := Lib.hid (show IsV3 41 wo wA.heap.size (.int .i64 x1) (.int .i64 0) (.int .i64 0) by rw [← hwo]; exact alloc_new _ _)
              have HOo := Lib.hid (HOA.out.below hbo (Nat.le_refl _))
              have HJo := Lib.hid (hjA.below hbo)
              have HP5 := Lib.hid HJo.out.next
              rw [HX2.out] at HP5
              obtain ⟨go, hgo⟩ : ∃ go, wA.heap.size = go := ⟨_, rfl⟩
              have hgx : wx.heap.size ≤ go := by omega
              have HWo := Lib.hid hwo
              have HGo := Lib.hid hgo
              have hgi : w.heap.size + 1 < wx.heap.size := HJ.out.lb
              clear hjA hcA k0 hbo hwo hgo
              go_wp2_with (fail)
              rw [HWo.out]
              simp only [HGo.out]
              refine HP5.out.mono ?_
              rintro e wB ⟨rfl, hjB, hcB⟩
              have HOB := Lib.hid (HOo.out.chg hcB (fun g hg e => by have := (HOo.out.lt g hg).1; omega))
              have GB1 := hcB.blk (show IsV3 41 wo go (.int .i64 x1) (.int .i64 0) (.int .i64 0) by rw [← HGo.out]; exact Go.out) (by omega)
              have hlB := blk_lt GB1
              obtain ⟨⟨g0, g1, g2⟩, gf0, gf1, gf2⟩ := isv3_cells GB1
              have HOB2 := Lib.hid (HOB.out.chg (cseto wB go 1 (.int .i64 x2)) (fun g hg e => by have := (HOA.out.lt g hg).2; have := HGo.out; omega))
              have JB2 := Lib.hid (hjB.step (w' := wB.setCell ⟨go, 1, none⟩ (.int .i64 x2)) ((cseto wB go 1 (.int .i64 x2)).mono (fun k _ e => by rw [e]; exact hgx)))
              have GB2 := Lib.hid (show IsV3 41 (wB.setCell ⟨go, 1, none⟩ (.int .i64 x2)) go (.int .i64 x1) (.int .i64 x2) (.int .i64 0) by
                have := heap_setCell_same wB go 1 _ _ (.int .i64 x2) GB1
                simpa [IsV3] using this)
              have HP6 := Lib.hid JB2.out.next
              rw [HX3.out] at HP6
              clear hjB hcB GB1
              go_wp2_with (fail)
              refine HP6.out.mono ?_
              rintro e wC ⟨rfl, hjC, hcC⟩
              have HOC := Lib.hid (HOB2.out.chg hcC (fun g hg e => by have := (HOB2.out.lt g hg).1; omega))
              have GC1 := hcC.blk GB2.out (by omega)
              have hlC := blk_lt GC1
              clear g0 g1 g2 gf0 gf1 gf2
              obtain ⟨⟨g0, g1, g2⟩, gf0, gf1, gf2⟩ := isv3_cells GC1
              obtain ⟨wD, hwD⟩ : ∃ wD, wC.setCell ⟨go, 2, none⟩ (.int .i64 (x3 - 1)) = wD := ⟨_, rfl⟩
              have GD := Lib.hid (show IsV3 41 wD go (.int .i64 x1) (.int .i64 x2) (.int .i64 (x3 - 1)) by
                rw [← hwD]
                have := heap_setCell_same wC go 2 _ _ (.int .i64 (x3 - 1)) GC1
                simpa [IsV3] using this)
              have HOD := Lib.hid (show Ow OE wD wx.heap.size (.slice A3 j c3) j q by
                rw [← hwD]
                exact HOC.out.chg (cseto wC go 2 (.int .i64 (x3 - 1))) (fun g hg e => by have := (HOA.out.lt g hg).2; have := HGo.out; omega))
              have JD := Lib.hid (show DJy wx wD (w.heap.size + 1) B _ by
                rw [← hwD]
                exact hjC.step ((cseto wC go 2 (.int .i64 (x3 - 1))).mono (fun k _ e => by rw [e]; exact hgx)))
              have hlD := blk_lt GD.out
              obtain ⟨⟨y0, y1, y2⟩, _⟩ := isv3_cells GD.out
              obtain ⟨w16, hw16⟩ : ∃ w16, wD.alloc (.cells #[.int .i64 x1, .int .i64 x2, .int .i64 (x3 - 1)] 41) = w16 := ⟨_, rfl⟩
              have hb16 : Below wD.heap.size wD w16 := by rw [← hw16]; exact below_al _ _
              have hs16 := hb16.size
              have hsD := JD.out.ch.size
              have HL16 := Lib.hid (show Ls OE w16 (wD.heap.size + 1) (some ⟨wD.heap.size, 0, none⟩) 1 [((x1, x2, x3 - 1) : O)] by rw [← hw16]; exact ls_new (E := OE) (w := wD) 41 ((x1, x2, x3 - 1) : O))
              have HO16 := Lib.hid (HOD.out.below hb16 (Nat.le_refl _))
              have J16 := Lib.hid (JD.out.below hb16)
              clear hb16 hjC hcC GC1
              go_wp2_with (at_builtin; refine app_o rfl (.tmp 81) (.tmp 83) rfl wx.heap.size _ j q rfl HO16.out (wD.heap.size + 1) (some ⟨wD.heap.size, 0, none⟩) 1 1 (fun e => by cases e) [((x1, x2, x3 - 1) : O)] (by rfl) HL16.out (by omega) (by omega) ?_; intro A9 c9 w17 hown9 hg9 _ h9a h9b hs9; have HO17 := Lib.hid hown9; have J17 := Lib.hid (J16.out.step ((Chg.refl _ _).grown hg9 (fun k hk _ => (HO16.out.lt k hk).1))); clear hown9 hg9)
              go_roundg (N3 - (j + 1))
              case measure => omega
              case rel => exact ⟨j + 1, _, q ++ [(x1, x2, x3 - 1)], A9, c9, by go_num, rfl, by omega, by omega, HLO2.out, J17.out, HO17.out⟩
            · have hdone := HLO.out.done (by rcases Classical.em (ok3 = true) with h | h; exact .inr (fun e => hgo3 ⟨h, e⟩); exact .inl (by simpa using h))
              have hrs : rdS (r2, true) = (q, (r3, ok3)) := by unfold rdS; rw [HN3.out]; exact hdone
              have HLS2 := Lib.hid (HLS.out.succ hlt2 hrs)
              have hgi : w.heap.size + 1 < wx.heap.size := HJ.out.lb
              clear hdone hrs
              by_cases hj : j < N3
              · have hltz3 : (j : Int) < (N3 : Int) := by omega
                have hok' : ok3 = false := by cases ok3 with | false => rfl | true => exact absurd ⟨rfl, hj⟩ hgo3
                subst hok'
                simp only [Bool.not_false] at k0
                clear hgo3
                have hjq := HLO.out.len
                have hwz := HJ.out.wd HK.out.wd (by omega)
                obtain ⟨⟨_, _, d2⟩, _, _, f2⟩ := isv3_cells hwz.wp.var
                have hXi : X.length = i := by have h1 := HXL.out; have h2 := HLS.out.len; rw [← h1, List.length_map] at h2; exact h2
                simp only [hXi] at d2
                have HXI := Lib.hid hXi
                have hplz := hwz.wp.lt
                obtain ⟨w18, hw18⟩ : ∃ w18, wz.alloc (.cells #[.slice A3 j c3] 35) = w18 := ⟨_, rfl⟩
                have hb18 : Below wz.heap.size wz w18 := by rw [← hw18]; exact below_al _ _
                have hs18 := hb18.size
                have HL18 := Lib.hid (show Ls SE w18 (wz.heap.size + 1) (some ⟨wz.heap.size, 0, none⟩) 1 [(⟨A3, c3, q⟩ : Rw3)] by
                  rw [← hw18, ← hjq]; exact ls_new (E := SE) (w := wz) 35 (⟨A3, c3, q⟩ : Rw3))
                have J18 := Lib.hid (HJ.out.below hb18)
                have HO18 := Lib.hid (show Ow OE w18 wx.heap.size (⟨A3, c3, q⟩ : Rw3).val (⟨A3, c3, q⟩ : Rw3).l.length (⟨A3, c3, q⟩ : Rw3).l by
                  have := HO.out.below hb18 (Nat.le_refl _)
                  simpa only [Rw3.val, hjq] using this)
                have hS18 := (hwz.below hb18 (Nat.le_refl _)).wp.s
                simp only [hXi] at hS18
                have HS18 := Lib.hid hS18
                have hdx : w.heap.size + 2 ≤ w18.heap.size := by have := J18.out.ch.size; omega
                clear hwz hb18 hS18 hXi hjq
                go_wp2_with (at_builtin; refine app_s rfl (.tmp 86) (.tmp 88) rfl (w.heap.size + 2) _ i X rfl HS18.out (wz.heap.size + 1) (some ⟨wz.heap.size, 0, none⟩) 1 1 (fun e => by cases e) [(⟨A3, c3, q⟩ : Rw3)] (by rfl) HL18.out (by omega) (by omega) ?_; intro A9 c9 w19 hown9 hg9 _ h9a h9b hs9; have HO19 := Lib.hid hown9; have HG19 := Lib.hid hg9; clear hown9 hg9; have K19 := Lib.hid (J18.out.push (r' := (⟨A3, c3, q⟩ : Rw3)) (A' := A9) (c2 := c9) HK.out HO18.out (by simp only [HXI.out]; exact HO19.out) (by simp only [HXI.out]; exact HG19.out)); have hv19 := var_grown (J18.out.di HK.out).wd (w7 := w19) (by simp only [HXI.out]; exact HG19.out); have hl19 := blk_lt hv19; have hcc := isv3_cells hv19; simp only [HXI.out] at hcc; have e2 := hcc.1.2.2; have e2f := hcc.2.2.2; clear hcc hv19 d2 f2)
                go_roundg (N2 - (i + 1))
                case measure => omega
                case rel =>
                  have := K19.out
                  simp only [HXI.out] at this
                  exact ⟨i + 1, (r3, false), L ++ [q], X ++ [(⟨A3, c3, q⟩ : Rw3)], A9, c9, by go_num, by omega, by omega, HLS2.out, by rw [List.map_append, HXL.out]; rfl, this⟩
              · have hltz3 : ¬ (j : Int) < (N3 : Int) := by omega
                clear hgo3
                have hjq := HLO.out.len
                have hwz := HJ.out.wd HK.out.wd (by omega)
                obtain ⟨⟨_, _, d2⟩, _, _, f2⟩ := isv3_cells hwz.wp.var
                have hXi : X.length = i := by have h1 := HXL.out; have h2 := HLS.out.len; rw [← h1, List.length_map] at h2; exact h2
                simp only [hXi] at d2
                have HXI := Lib.hid hXi
                have hplz := hwz.wp.lt
                obtain ⟨w18, hw18⟩ : ∃ w18, wz.alloc (.cells #[.slice A3 j c3] 35) = w18 := ⟨_, rfl⟩
                have hb18 : Below wz.heap.size wz w18 := by rw [← hw18]; exact below_al _ _
                have hs18 := hb18.size
                have HL18 := Lib.hid (show Ls SE w18 (wz.heap.size + 1) (some ⟨wz.heap.size, 0, none⟩) 1 [(⟨A3, c3, q⟩ : Rw3)] by
                  rw [← hw18, ← hjq]; exact ls_new (E := SE) (w := wz) 35 (⟨A3, c3, q⟩ : Rw3))
                have J18 := Lib.hid (HJ.out.below hb18)
                have HO18 := Lib.hid (show Ow OE w18 wx.heap.size (⟨A3, c3, q⟩ : Rw3).val (⟨A3, c3, q⟩ : Rw3).l.length (⟨A3, c3, q⟩ : Rw3).l by
                  have := HO.out.below hb18 (Nat.le_refl _)
                  simpa only [Rw3.val, hjq] using this)
                have hS18 := (hwz.below hb18 (Nat.le_refl _)).wp.s
                simp only [hXi] at hS18
                have HS18 := Lib.hid hS18
                have hdx : w.heap.size + 2 ≤ w18.heap.size := by have := J18.out.ch.size; omega
                clear hwz hb18 hS18 hXi hjq
                go_wp2_with (at_builtin; refine app_s rfl (.tmp 86) (.tmp 88) rfl (w.heap.size + 2) _ i X rfl HS18.out (wz.heap.size + 1) (some ⟨wz.heap.size, 0, none⟩) 1 1 (fun e => by cases e) [(⟨A3, c3, q⟩ : Rw3)] (by rfl) HL18.out (by omega) (by omega) ?_; intro A9 c9 w19 hown9 hg9 _ h9a h9b hs9; have HO19 := Lib.hid hown9; have HG19 := Lib.hid hg9; clear hown9 hg9; have K19 := Lib.hid (J18.out.push (r' := (⟨A3, c3, q⟩ : Rw3)) (A' := A9) (c2 := c9) HK.out HO18.out (by simp only [HXI.out]; exact HO19.out) (by simp only [HXI.out]; exact HG19.out)); have hv19 := var_grown (J18.out.di HK.out).wd (w7 := w19) (by simp only [HXI.out]; exact HG19.out); have hl19 := blk_lt hv19; have hcc := isv3_cells hv19; simp only [HXI.out] at hcc; have e2 := hcc.1.2.2; have e2f := hcc.2.2.2; clear hcc hv19 d2 f2)
                go_roundg (N2 - (i + 1))
                case measure => omega
                case rel =>
                  have := K19.out
                  simp only [HXI.out] at this
                  exact ⟨i + 1, (r3, ok3), L ++ [q], X ++ [(⟨A3, c3, q⟩ : Rw3)], A9, c9, by go_num, by omega, by omega, HLS2.out, by rw [List.map_append, HXL.out]; rfl, this⟩
        · have hdone := HLS.out.done (by rcases Classical.em (ok2 = true) with h | h; exact .inr (fun e => hgo2 ⟨h, e⟩); exact .inl (by simpa using h))
          have HSD := Lib.hid (show rdSs (nS b) (s4 b) = (L, (r2, ok2)) by rw [HN2.out]; exact hdone)
          have HS5 := Lib.hid (show s5 b = (r2, ok2) by unfold s5; rw [HSD.out])
          have HPLE := Lib.hid (show ok2 = true → (⟨z0, A1, c1, l, A2, c2, X⟩ : PV).pl = rdP b from fun _ => by
            unfold PV.pl rdP
            rw [HZ0.out, HND.out, HSD.out, HXL.out])
          clear hdone
          by_cases hi9 : i < N2
          · have hltz2 : (i : Int) < (N2 : Int) := by omega
            have hok' : ok2 = false := by cases ok2 with | false => rfl | true => exact absurd ⟨rfl, hi9⟩ hgo2
            subst hok'
            simp only [Bool.not_false] at k0
            clear hgo2
            go_wp2_with (fail)
            go_meet
            exact ⟨X, A2, c2, _, HS5.out, HPLE.out, HK.out⟩
          · have hltz2 : ¬ (i : Int) < (N2 : Int) := by omega
            clear hgo2
            go_wp2_with (fail)
            go_meet
            exact ⟨X, A2, c2, _, HS5.out, HPLE.out, HK.out⟩
    case rest =>
      obtain ⟨X, A2, c2, ⟨r2, ok2⟩, HS5, HPLE, HK⟩ := hcut
      clear K11
      cases ok2 with
      | false =>
        have HE := Lib.hid (encode_y wc wc.heap.size (⟨z0, A1, c1, l, A2, c2, X⟩ : PV) HK.out.wd.wp.ok (Nat.le_refl _))
        have HGI := Lib.hid (good_iff HS5.out HPLE.out)
        obtain ⟨p, hp⟩ : ∃ p, (⟨z0, A1, c1, l, A2, c2, X⟩ : PV).pl = p := ⟨_, rfl⟩
        rw [hp] at HE HGI HPLE
        have HPE := Lib.hid hp
        simp only [PV.val] at HE
        have hpl := HK.out.wd.wp.lt
        obtain ⟨⟨p0, p1, p2⟩, _⟩ := isv3_cells HK.out.wd.wp.var
        clear hp
        go_wp2_with (fail)
        refine HE.out.mono ?_
        rintro e wf ⟨Ae, ce, rfl, hown, hbf, hAn⟩
        have KF := Lib.hid (HK.out.below hbf)
        obtain ⟨hbg, hgrf⟩ := HFIN.out wf KF.out.ch
        have HBF := Lib.hid hbg
        have HGRF := Lib.hid hgrf
        have hgrl := blk_lt hgrf
        have hsf := hbg.size
        obtain ⟨⟨v0, v1, v2⟩, u0, u1, u2⟩ := isv3_cells hgrf
        obtain ⟨_, _, _, _, k0, _, hkf⟩ := KF.out.ds.cells
        have HBE := Lib.hid (own_bs hown)
        have HBI := Lib.hid (HBS.out.below hbg hB)
        obtain ⟨ee, hee⟩ : ∃ ee, encE p = ee := ⟨_, rfl⟩
        obtain ⟨bb, hbb⟩ : ∃ bb, encB p = bb := ⟨_, rfl⟩
        rw [hee, hbb]
        rw [hbb] at HBE
        obtain ⟨nb, hnb⟩ : ∃ nb, bb.length = nb := ⟨_, rfl⟩
        rw [hnb] at HBE
        have HNB := Lib.hid hnb
        have HEE := Lib.hid hee
        have HBB := Lib.hid hbb
        have PF := Lib.hid (KF.out.wd)
        obtain ⟨⟨q0, q1, q2⟩, _⟩ := isv3_cells PF.out.wp.var
        have hplf := PF.out.wp.lt
        simp only [hnb]
        clear hown hbf hAn hbg hgrf hee hbb hnb p0 p1 p2
        simp only [Bool.not_false] at k0
        have HBAD := Lib.hid (show ¬ GoodB b from fun hg => by have := (HGI.out.1 hg).1; cases this)
        go_wp2_with (fail)
        (try simp only [Exit.inBlock, Exit.then])
        refine bodyPost_ret (ret_cell rfl _ _ w.heap.size 25 _ _ _ rfl (set3 HGRF.out) Try.underlying25 rfl sizeP) rfl ?_
        exact ret_bad_dec HBAD.out (below_set3 HBF.out (by omega) _ _ _)
      | true =>
        have HE := Lib.hid (encode_y wc wc.heap.size (⟨z0, A1, c1, l, A2, c2, X⟩ : PV) HK.out.wd.wp.ok (Nat.le_refl _))
        have HGI := Lib.hid (good_iff HS5.out HPLE.out)
        obtain ⟨p, hp⟩ : ∃ p, (⟨z0, A1, c1, l, A2, c2, X⟩ : PV).pl = p := ⟨_, rfl⟩
        rw [hp] at HE HGI HPLE
        have HPE := Lib.hid hp
        simp only [PV.val] at HE
        have hpl := HK.out.wd.wp.lt
        obtain ⟨⟨p0, p1, p2⟩, _⟩ := isv3_cells HK.out.wd.wp.var
        clear hp
        go_wp2_with (fail)
        refine HE.out.mono ?_
        rintro e wf ⟨Ae, ce, rfl, hown, hbf, hAn⟩
        have KF := Lib.hid (HK.out.below hbf)
        obtain ⟨hbg, hgrf⟩ := HFIN.out wf KF.out.ch
        have HBF := Lib.hid hbg
        have HGRF := Lib.hid hgrf
        have hgrl := blk_lt hgrf
        have hsf := hbg.size
        obtain ⟨⟨v0, v1, v2⟩, u0, u1, u2⟩ := isv3_cells hgrf
        obtain ⟨_, _, _, _, k0, _, hkf⟩ := KF.out.ds.cells
        have HBE := Lib.hid (own_bs hown)
        have HBI := Lib.hid (HBS.out.below hbg hB)
        obtain ⟨ee, hee⟩ : ∃ ee, encE p = ee := ⟨_, rfl⟩
        obtain ⟨bb, hbb⟩ : ∃ bb, encB p = bb := ⟨_, rfl⟩
        rw [hee, hbb]
        rw [hbb] at HBE
        obtain ⟨nb, hnb⟩ : ∃ nb, bb.length = nb := ⟨_, rfl⟩
        rw [hnb] at HBE
        have HNB := Lib.hid hnb
        have HEE := Lib.hid hee
        have HBB := Lib.hid hbb
        have PF := Lib.hid (KF.out.wd)
        obtain ⟨⟨q0, q1, q2⟩, _⟩ := isv3_cells PF.out.wp.var
        have hplf := PF.out.wp.lt
        simp only [hnb]
        clear hown hbf hAn hbg hgrf hee hbb hnb p0 p1 p2
        simp only [Bool.not_true] at k0
        by_cases hck : chk p = 0
        · have hee : ee = 0 := by rw [← HEE.out]; unfold encE; rw [if_pos hck]
          have hbb : bb = encP p := by rw [← HBB.out]; unfold encB; rw [if_pos hck]
          subst hee
          have x1 := conv_string (P := Try.prog) (c := ce) HBE.out 26 9 5 Try.underlying26 Try.underlying9 Try.underlying5
          have x2 := conv_string (P := Try.prog) (c := c) HBI.out 26 9 5 Try.underlying26 Try.underlying9 Try.underlying5
          by_cases heq : bb = b
          · have HGD := Lib.hid (HGI.out.2 ⟨by trivial, hck, by rw [← hbb]; exact heq⟩)
            subst heq
            clear hbb hck
            go_wp2_with (fail)
            (try simp only [Exit.inBlock, Exit.then])
            refine bodyPost_ret (ret_cell rfl _ _ w.heap.size 25 _ _ _ rfl (set3 HGRF.out) Try.underlying25 rfl sizeP) rfl ?_
            refine ⟨⟨z0, A1, c1, l, A2, c2, X⟩, ?_, ?_, (PF.out.od.other (chg_set3 _ _ _) HGRF.out).base (by omega), below_set3 HBF.out (by omega) _ _ _⟩
            · rw [show decE bb = 0 by unfold decE; rw [if_pos HGD.out]]; rfl
            · rw [show decP bb = rdP bb by unfold decP; rw [if_pos HGD.out], HPE.out]; exact HPLE.out (by trivial)
          · have hne : ((⟨bb.toArray⟩ : ByteArray).toList == (⟨b.toArray⟩ : ByteArray).toList) = false := by rw [ByteArray.toList_eq, ByteArray.toList_eq]; simpa using heq
            have hne2 : (encP p == b) = false := by rw [← hbb]; exact beq_eq_false_iff_ne.2 heq
            have hne3 : (!encP p == b) = true := by rw [hne2]; rfl
            have HBAD := Lib.hid (show ¬ GoodB b from fun hg => by have := (HGI.out.1 hg).2.2; exact heq (by rw [hbb]; exact this))
            go_wp2_with (fail)
            (try simp only [Exit.inBlock, Exit.then])
            refine bodyPost_ret (ret_cell rfl _ _ w.heap.size 25 _ _ _ rfl (set3 HGRF.out) Try.underlying25 rfl sizeP) rfl ?_
            exact ret_bad_dec HBAD.out (below_set3 HBF.out (by omega) _ _ _)
        · have hee : ee = 50 := by rw [← HEE.out]; unfold encE; rw [if_neg hck]
          subst hee
          have HBAD := Lib.hid (show ¬ GoodB b from fun hg => by exact hck (HGI.out.1 hg).2.1)
          go_wp2_with (fail)
          (try simp only [Exit.inBlock, Exit.then])
          refine bodyPost_ret (ret_cell rfl _ _ w.heap.size 25 _ _ _ rfl (set3 HGRF.out) Try.underlying25 rfl sizeP) rfl ?_
          exact ret_bad_dec HBAD.out (below_set3 HBF.out (by omega) _ _ _)
end Go.Proofs.Ytdbhoglbmphjjaa.kv
