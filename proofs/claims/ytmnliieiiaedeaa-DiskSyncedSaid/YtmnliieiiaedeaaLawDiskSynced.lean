/-
  The walk of the law DiskSynced.
-/
import Derived.Test.YtmnliieiiaedeaaDsM
namespace Go.Proofs.Ytmnliieiiaedeaa.lawDiskSynced
open Go.ChangeShapes Go.WideShapes Go.ChangeAt Go.RowKit Go.Maps Go.Sort Go.Shelf plain words ord mem al dk

theorem names_le {w : World} {p : Nat} {F : Nat → Prop} {st : St} (h : Dk w p F st) : ∀ a ∈ st.shown.map (·.1), a.length ≤ maxLen := by
  obtain ⟨fs, fh, Fs, Fh, Fo, v, ps, dv, h1, h2, _⟩ := h
  obtain ⟨mb, D, es, h1, hfs, _⟩ := h2.hh
  intro a ha
  have e1 : st.shown.map (·.1) = es.map (·.1) := by rw [hfs]; simp [mapv, Function.comp_def]
  rw [e1] at ha
  exact strKeys_le h1.map Try.underlying9 a ((h1.rep.names h1.srt h1.map).mem_iff.1 ha)
theorem add_z (a : Nm) (h : a.length ≤ 65536) (w : World) : (Op.stringOp .add ⟨#[122]⟩ (bs a)).run Try.prog w = .ok (.string (bs (122 :: a))) w := add_s (a := [122]) (b := a) (by simp only [List.length_singleton]; omega) w
set_option maxHeartbeats 16000000 in
set_option maxRecDepth 100000 in
theorem walk_ok (A : Option Addr) (n c : Nat) (A' : Option Addr) (n' c' : Nat) (kp pt : Int) (w : World) (h0 : IsSps w A n c) (h1 : IsSps w A' n' c') (hw1 : (Lit.int .i64 kp).wf = true) (hw2 : (Lit.int .i64 pt).wf = true) :
    Calls Try.prog 4 #[.slice A n c, .slice A' n' c', .int .i64 kp, .int .i64 pt] w fun e w' => e = .returned (.bool true) ∧ Below w.heap.size w w' := by
  obtain ⟨l, hl, hfit, hnc, hcm, hA⟩ := h0
  obtain ⟨l', hl', hfit', hnc', hcm', hA'⟩ := h1
  unfold maxLen at hcm hcm'
  have HV1 := Lib.hid (heavy_s w w.heap.size n c A l hl (Nat.le_refl _) (by omega) hfit)
  have HV2 := Lib.hid (fun u (hu : Below w.heap.size w u) => heavy_s u w.heap.size n' c' A' l' (hl'.below hu (Nat.le_refl _)) hu.size (by omega) hfit')
  have HL := Lib.hid hl
  have HL' := Lib.hid hl'
  clear hl hl' hfit hfit' hw1 hw2
  go_enter Try.func4, Try.ntmps4
  go_wp2_with fail
  refine HV1.out.mono ?_
  rintro e w1 ⟨bv, rfl, hlight, hb1⟩
  have B1 := Lib.hid hb1
  have LI1 := Lib.hid hlight
  have HV2' := Lib.hid (HV2.out w1 hb1)
  clear HV1 HV2 hlight hb1
  cases bv with
  | true =>
    go_wp2_with fail
    go_ret
    exact ⟨rfl, B1.out⟩
  | false =>
    go_wp2_with fail
    refine HV2'.out.mono ?_
    rintro e w2 ⟨bv2, rfl, hlight2, hb2⟩
    have B2 := Lib.hid (B1.out.trans (hb2.mono B1.out.size))
    have LI2 := Lib.hid hlight2
    clear HV2' hlight2 hb2
    cases bv2 with
    | true =>
      go_wp2_with fail
      go_ret
      exact ⟨rfl, B2.out⟩
    | false =>
      have LT : Hid (Light l) := Lib.hid (by first | exact LI1.out rfl | exact LI1.out trivial | exact LI1.out)
      have LT' : Hid (Light l') := Lib.hid (by first | exact LI2.out rfl | exact LI2.out trivial | exact LI2.out)
      have hn256 : n ≤ 256 := by rw [← HL.out.1]; exact LT.out.1
      have hn256' : n' ≤ 256 := by rw [← HL'.out.1]; exact LT'.out.1
      have HN := Lib.hid (new_d w2 1048576)
      clear LI1 LI2
      go_wp2_with fail
      refine HN.out.mono ?_
      rintro e w3 ⟨p, rfl, hp, hd3, hb3⟩
      have HNR := Lib.hid (new_r w3 1048576)
      have hs23 := hb3.size
      have D3 := Lib.hid (One.new (w0 := w) (hd3.mono (fun k hk => ⟨Nat.le_trans B2.out.size hk.1, hk.2⟩) (fun k hk => hk.2)) (B2.out.trans (hb3.mono B2.out.size)))
      have B3 := Lib.hid (B2.out.trans (hb3.mono B2.out.size))
      clear hd3 hb3 HN
      go_wp2_with fail
      refine HNR.out.mono ?_
      rintro e w4 ⟨rfl, hrm4, hb4, hs4⟩
      have S4 := Lib.hid (show SS (fun k => k = w3.heap.size) w w4 p w3.heap.size (newSt 1048576) from ⟨D3.out.mark hb4 (fun k hk => .inr (by omega)) (fun k hk => by omega), hrm4, B3.out.size⟩)
      clear hrm4 hb4 HNR
      obtain ⟨r, hr⟩ : ∃ r, w3.heap.size = r := ⟨_, rfl⟩
      rw [hr] at S4 ⊢
      go_wp2_with fail
      go_loopg [8, 11] n (fun gg s8 s11 wr => ∃ (i : Nat) (X : Nat → Prop) (st : St), s11 = .int .i64 i ∧ i ≤ n ∧ n - i ≤ gg ∧ Aside (SS X w wr p r st) ∧ Aside (Bs st i))
      case atStart => exact ⟨0, _, _, rfl, Nat.zero_le _, by omega, S4.out, Bs.new⟩
      case round =>
        obtain ⟨i, X, st, rfl, hi, hgg, SX, BX⟩ := hrel
        obtain ⟨wv, rfl⟩ : ∃ wv, wv = wr := ⟨wr, rfl⟩
        by_cases hlt : i < n
        · have i1 : (i : Int) < (n : Int) := by omega
          have i2 : (0 : Int) ≤ (i : Int) := by omega
          obtain ⟨x, hx⟩ := HL.out.get hlt
          obtain ⟨_, hxb⟩ := LT.out.2 x (List.mem_of_getElem? hx)
          obtain ⟨b, off, eA, _, e0, e1, e2, e3, e4, e5⟩ := sp_at (HL.out.below SX.out.one.below (Nat.le_refl _)) hx
          subst eA
          have lb : b < wv.heap.size := World.block_lt_of_cell? wv _ e0
          have BN := Lib.hid (BX.out.step x hxb)
          by_cases hk4 : x.kind < 4
          · have HST := Lib.hid (step_s w wv p r X st x SX.out BX.out.live (BX.out.sm (by omega)) (by rw [BX.out.room]; omega) (by rw [BX.out.room]; omega) (by omega) hk4)
            clear hx
            go_wp2_with fail
            refine HST.out.mono ?_
            rintro e w5 ⟨rfl, ⟨Z, hz, _⟩, _⟩
            have SZ := Lib.hid hz
            clear hz HST e0 e1 e2 e3 e4 e5
            go_wp2_with fail
            go_roundg (n - (i + 1))
            case measure => omega
            case rel => exact ⟨i + 1, Z, _, by go_num, by omega, by omega, SZ.out, BN.out⟩
          · clear hx
            go_wp2_with fail
            go_roundg (n - (i + 1))
            case measure => omega
            case rel => exact ⟨i + 1, X, st, by go_num, by omega, by omega, SX.out, BX.out.mono (Nat.le_succ _)⟩
        · have i1 : ¬ (i : Int) < (n : Int) := by omega
          have hi256 : i ≤ 256 := by omega
          have HSY := Lib.hid (SX.out.onD (st' := syncSt st) (v := .int .i64 0) (f := 15) (args := #[ptr p]) (fun F hF => by
            have := sync_d wv p F st hF (sm_small (BX.out.sm (by omega)) BX.out.live)
            rw [BX.out.live.doE] at this
            exact this))
          go_wp2_with fail
          refine HSY.out.mono ?_
          rintro e w5 ⟨rfl, hh5, _⟩
          have HRS := Lib.hid (hh5.onR (v := 0) (f := 24) (args := #[ptr r]) (fun hm => sync_r w5 r _ st hm BX.out.live (BX.out.sm (by omega)) (fun k hk => hh5.one.lt k hk)))
          clear hh5 HSY
          go_wp2_with fail
          refine HRS.out.mono ?_
          rintro e w6 ⟨rfl, ⟨Z, hz, _⟩, _⟩
          obtain ⟨L, hL⟩ : ∃ L, st.shown = L := ⟨_, rfl⟩
          have BY := Lib.hid BX.out.sync
          have ZY := Lib.hid (show Zs L (syncSt st) from by rw [sync_live BX.out.live, hL]; exact ⟨rfl, fun c hc => by cases hc⟩)
          have PY : (syncSt st).pend = [] := by rw [sync_live BX.out.live]
          have LY : (syncSt st).last = L := by rw [sync_live BX.out.live, hL]
          obtain ⟨st1, hst1⟩ : ∃ s, syncSt st = s := ⟨_, rfl⟩
          rw [hst1] at hz BY ZY PY LY
          obtain ⟨F6, hF6⟩ := hz.one.ex
          have HPE := Lib.hid (pending_d w6 p F6 st1 hF6)
          rw [PY] at HPE
          have SZ := Lib.hid hz
          have HPY := Lib.hid (And.intro PY LY)
          clear hz hF6 HRS PY LY hst1 hL
          go_wp2_with fail
          refine HPE.out.mono ?_
          rintro e w6' ⟨rfl, rfl⟩
          have HCL := Lib.hid (clone_r w6 r Z st1 SZ.out.rm (BY.out.sm (by omega)))
          clear HPE
          go_wp2_with fail
          refine HCL.out.mono ?_
          rintro e w7 ⟨r2, rfl, hrm7, hb7⟩
          have S7 := Lib.hid (SZ.out.mark (Y := fun k => Z k ∨ (w6.heap.size ≤ k ∧ k < w7.heap.size)) hb7 (fun k hk => hk.imp id (fun e => e.1)) (fun k hk => by
            rcases hk with e | e
            · exact Nat.lt_of_lt_of_le (SZ.out.one.lt k e) hb7.size
            · exact e.2) (fun k hk => .inl hk))
          obtain ⟨Y, hY⟩ : ∃ Y : Nat → Prop, (fun k => w6.heap.size ≤ k ∧ k < w7.heap.size) = Y := ⟨_, rfl⟩
          have hYr : ∀ k, Y k → k ≠ r := fun k hk e => by
            rw [← hY] at hk
            have := SZ.out.one.lt r SZ.out.rm.own
            have := hk.1
            omega
          rw [hY] at hrm7
          have R7 := Lib.hid hrm7
          have YZ := Lib.hid (show ∀ k, Y k → Z k ∨ (w6.heap.size ≤ k ∧ k < w7.heap.size) from fun k hk => .inr (by rw [← hY] at hk; exact hk))
          have HYR := Lib.hid hYr
          clear hrm7 hb7 HCL hY hYr
          go_wp2_with fail
          go_loopg [8, 13] n' (fun gg s8 s13 wr => ∃ (j : Nat) (X2 : Nat → Prop) (st2 : St), s13 = .int .i64 j ∧ j ≤ n' ∧ n' - j ≤ gg ∧ Aside (SS X2 w wr p r st2) ∧ Aside (Bs st2 (i + 1 + j)) ∧ Aside (Zs L st2) ∧ Aside (RM wr r2 Y st1) ∧ Aside (∀ k, Y k → X2 k))
          case atStart => exact ⟨0, _, _, rfl, Nat.zero_le _, by omega, S7.out, BY.out, ZY.out, R7.out, YZ.out⟩
          case round =>
            obtain ⟨j, X2, st2, rfl, hj, hgj, SX2, BX2, ZX2, RX2, YX2⟩ := hrel
            obtain ⟨wv, rfl⟩ : ∃ wv, wv = wr := ⟨wr, rfl⟩
            by_cases hltj : j < n'
            · have i1 : (j : Int) < (n' : Int) := by omega
              have i2 : (0 : Int) ≤ (j : Int) := by omega
              obtain ⟨x, hx⟩ := HL'.out.get hltj
              obtain ⟨hxa, hxb⟩ := LT'.out.2 x (List.mem_of_getElem? hx)
              obtain ⟨b, off, eA, _, e0, _, _, _, e4, e5⟩ := sp_at (HL'.out.below SX2.out.one.below (Nat.le_refl _)) hx
              subst eA
              have lb : b < wv.heap.size := World.block_lt_of_cell? wv _ e0
              obtain ⟨K, hK⟩ : ∃ K, x.kind = K := ⟨_, rfl⟩
              rw [hK] at e0
              have z0 := Wb.at_ e0
              have z4 := Wb.at_ e4
              have z5 := Wb.at_ e5
              by_cases hk0 : K = 0
              · subst hk0
                have hK2 : decide ((0 : Int) = 0) = true := rfl
                have HST := Lib.hid (step_s w wv.drew p r X2 st2 ⟨0, 0, 0, 0, 122 :: x.a, x.b⟩ (SX2.out.quiet (Below.refl _ _).drew) BX2.out.live (BX2.out.sm (by omega)) (by rw [BX2.out.room]; omega) (by rw [BX2.out.room]; omega) (by show x.b.length ≤ _; omega) (by show (0 : Int) < 4; omega))
                have BN := Lib.hid (BX2.out.step ⟨0, 0, 0, 0, 122 :: x.a, x.b⟩ hxb)
                have ZN := Lib.hid (ZX2.out.step BX2.out.live x.a x.b ⟨0, 0, 0, 0, 122 :: x.a, x.b⟩ rfl rfl)
                have hadd := add_z x.a hxa
                clear hx hK e0 e4 e5
                go_wp2_with fail
                refine wp_region_plan [([0, 1, 2, 3, 4, 5, 6, 7, 8, 9, 10, 11, 12, 13, 14, 15, 16, 17, 18, 19, 20], some (21, true)), ([22, 23], none)] (by kernel_rfl) (by kernel_rfl) ?_
                refine seg_write _ (by dsimp only [pick, at_]) _ (by dsimp only [pick, at_]) ?_
                repeat (go_big_quiet_step (fail))
                refine wpQuiet_nil ?_
                intro K1 g1
                clear z0 z4 z5 hadd
                go_wp2_with fail
                refine HST.out.mono ?_
                rintro e w8 ⟨rfl, ⟨Z2, hz2, hXZ2⟩, hc8⟩
                have hc8' : Chg (fun k => ¬ X2 k ∨ k = r) wv w8 := chg_trans (Chg.refl _ _).drew hc8
                have R8 := Lib.hid (RX2.out.chg hc8' (fun k hk e => by
                  rcases e with e | e
                  · exact e (YX2.out k hk)
                  · exact HYR.out k hk e))
                have S8 := Lib.hid (And.intro hz2 (fun k (hk : Y k) => hXZ2 k (YX2.out k hk)))
                clear hz2 hXZ2 hc8 hc8' HST
                go_wp2_with fail
                refine seg_end _ (by dsimp only [pick, at_]) ?_
                repeat (go_big_quiet_step (fail))
                refine wpQuiet_nil (NoPanic.normal ?_)
                go_wp2_with fail
                go_roundg (n' - (j + 1))
                case measure => omega
                case rel => exact ⟨j + 1, Z2, _, by go_num, by omega, by omega, S8.out.1, BN.out, ZN.out, R8.out, S8.out.2⟩
              · have hK2 : decide (K = 0) = false := decide_eq_false hk0
                have hK3 : (K == 0) = false := by simpa using hk0
                clear hx hK e4 e5 z4 z5
                go_wp2_with fail
                refine wp_region_plan [([0, 1, 2, 3, 4, 5, 6, 7, 8, 9, 10, 11, 12, 13, 14, 15, 16, 17, 18, 19, 20], some (21, true)), ([22, 23], none)] (by kernel_rfl) (by kernel_rfl) ?_
                refine seg_write _ (by dsimp only [pick, at_]) _ (by dsimp only [pick, at_]) ?_
                repeat (go_big_quiet_step (fail))
                refine wpQuiet_nil ?_
                intro K1 g1
                clear z0
                go_wp2_with fail
                refine seg_end _ (by dsimp only [pick, at_]) ?_
                repeat (go_big_quiet_step (fail))
                refine wpQuiet_nil (NoPanic.normal ?_)
                go_wp2_with fail
                go_roundg (n' - (j + 1))
                case measure => omega
                case rel => exact ⟨j + 1, X2, st2, by go_num, by omega, by omega, SX2.out.quiet (Below.refl _ _).drew, BX2.out.mono (by omega), ZX2.out, RX2.out.below (Below.refl _ _).drew, YX2.out⟩
            · have i1 : ¬ (j : Int) < (n' : Int) := by omega
              have hj256 : j ≤ 256 := by omega
              have HCR := Lib.hid (SX2.out.onD (st' := crashSt st2 kp pt) (v := .tuple #[]) (f := 16) (args := #[ptr p, .int .i64 kp, .int .i64 pt]) (fun F hF => crash_d wv p F st2 kp pt hF (by have := BX2.out.sum; omega) (by have := BX2.out.len; omega)))
              obtain ⟨hp1, hp2, hp3⟩ := crash_parts BX2.out.live kp pt
              have ZC := Lib.hid (fun (k u : Nm) (hg : al.get L k = some u) => z_crash ZX2.out BX2.out.live kp pt hg)
              obtain ⟨st3, hst3⟩ : ∃ s, crashSt st2 kp pt = s := ⟨_, rfl⟩
              rw [hst3] at HCR ZC hp1 hp2 hp3
              have HP3 := Lib.hid (And.intro hp1 (And.intro hp2 hp3))
              clear hp1 hp2 hp3 hst3
              go_wp2_with fail
              refine HCR.out.mono ?_
              rintro e w8 ⟨rfl, hh8, hc8⟩
              have R8 := Lib.hid (RX2.out.chg hc8 (fun k hk e => e (YX2.out k hk)))
              have O8 := Lib.hid hh8.one
              clear hh8 hc8 HCR
              obtain ⟨Ac, cc, Ac2, cc2, hrk, hAc, _⟩ := R8.out
              have HFI := Lib.hid (files_y w8 r2 st1.room Ac cc st1.last Ac2 cc2 st1.pend st1.ops hrk (by have := BY.out.sum; omega) (by have := BY.out.len; omega))
              have hsrtL : Srt L := by have := BY.out.srt; rw [HPY.out.2] at this; exact this
              rw [HPY.out.1, HPY.out.2] at HFI
              rw [show fold L [] = L from rfl] at HFI
              have hlenL : L.length ≤ 1000 := by have := BY.out.len; rw [HPY.out.2] at this; omega
              have hsumL : fsum L ≤ 65536 * 1000 := by have := BY.out.sum; rw [HPY.out.2] at this; omega
              obtain ⟨m, hm⟩ : ∃ m, L.length = m := ⟨_, rfl⟩
              unfold RetD at HFI
              rw [hm] at HFI hlenL
              have HM := Lib.hid hm
              have HSL := Lib.hid hsrtL
              clear hrk hm hsrtL
              go_wp2_with fail
              refine HFI.out.mono ?_
              rintro e w9 ⟨Af, cf, rfl, hfr9, hb9, hat9⟩
              obtain ⟨X3, hX3⟩ : ∃ X3 : Nat → Prop, (fun k => X2 k ∨ (w8.heap.size ≤ k ∧ k < w9.heap.size)) = X3 := ⟨_, rfl⟩
              have ho9 : One X3 w w9 p st3 := by
                rw [← hX3]
                exact O8.out.mark hb9 (fun k hk => hk.imp id (fun e => e.1)) (fun k hk => by
                  rcases hk with e | e
                  · exact Nat.lt_of_lt_of_le (O8.out.lt k e) hb9.size
                  · exact e.2)
              have ha9 : ∀ a, Af = some a → X3 a.block := fun a e => by
                rw [← hX3]
                rcases hat9 with e9 | e9
                · rw [e9] at e; exact .inl (YX2.out _ (hAc a e).1)
                · exact .inr (e9 a e)
              have O9 := Lib.hid ho9
              have F9 := Lib.hid hfr9
              have A9 := Lib.hid ha9
              clear hb9 hfr9 HFI ho9 ha9 hat9 hX3 hAc
              go_wp2_with fail
              go_loopg [8, 15, 16, 17] m (fun gg s8 s15 s16 s17 wr => ∃ (g : Nat), s15 = .int .i64 g ∧ g ≤ m ∧ m - g ≤ gg ∧ Aside (One X3 w wr p st3) ∧ Aside (Fr wr Af cf L))
              case atStart => exact ⟨0, rfl, Nat.zero_le _, by omega, O9.out, F9.out⟩
              case round =>
                obtain ⟨g, rfl, hgm, hgg2, OX, FX⟩ := hrel
                obtain ⟨wv, rfl⟩ : ∃ wv, wv = wr := ⟨wr, rfl⟩
                by_cases hltg : g < m
                · have i1 : (g : Int) < (m : Int) := by omega
                  have i2 : (0 : Int) ≤ (g : Int) := by omega
                  obtain ⟨⟨k, u⟩, hx⟩ : ∃ x, L[g]? = some x := ⟨_, List.getElem?_eq_getElem (by rw [HM.out]; omega)⟩
                  obtain ⟨t, ht1, ht2⟩ := ZC.out k u (get_mem HSL.out (List.mem_of_getElem? hx))
                  have hsh : al.get st3.shown k = some (u ++ t) := by rw [HP3.out.2.2]; exact ht1
                  obtain ⟨b, off, eA, _, e0, e1⟩ := FX.out.at_ hx
                  simp only at e0 e1
                  have lb : b < wv.heap.size := World.block_lt_of_cell? wv _ e0
                  obtain ⟨FD, hFD⟩ := OX.out.ex
                  have hkl : k.length ≤ maxLen := names_le hFD k (List.mem_map.2 ⟨_, mem_get hsh, rfl⟩)
                  have HRD := Lib.hid (OX.out.on (st' := st3) (r := ans (al.get st3.shown k)) (f := 20) (args := #[ptr p, .string (bs k)]) (fun F hF => read_d wv p F st3 k hF hkl))
                  rw [hsh, ans_some] at HRD
                  have hXb : X3 b := A9.out _ eA
                  have hszk := bs_size k
                  have hszu := bs_size u
                  have hszs := bs_size (u ++ t)
                  have hext := bs_extract (u ++ t) u.length
                  rw [List.take_left] at hext
                  rw [List.length_append] at hszs
                  have HX := Lib.hid (And.intro hx (And.intro hXb ht2))
                  obtain ⟨lu, hlu⟩ : ∃ lu, u.length = lu := ⟨_, rfl⟩
                  obtain ⟨lt_, hlt_⟩ : ∃ lt_, t.length = lt_ := ⟨_, rfl⟩
                  rw [hlu] at hszu hszs hext
                  rw [hlt_] at hszs
                  obtain ⟨T, hT⟩ : ∃ T, lu + lt_ = T := ⟨_, rfl⟩
                  rw [hT] at hszs
                  obtain ⟨sS, hsS⟩ : ∃ s, bs (u ++ t) = s := ⟨_, rfl⟩
                  rw [hsS] at HRD hszs hext
                  obtain ⟨sU, hsU⟩ : ∃ s, bs u = s := ⟨_, rfl⟩
                  rw [hsU] at hszu hext
                  obtain ⟨sK, hsK⟩ : ∃ s, bs k = s := ⟨_, rfl⟩
                  rw [hsK] at HRD e0 hszk
                  obtain ⟨lk, hlk⟩ : ∃ lk, k.length = lk := ⟨_, rfl⟩
                  rw [hlk] at hszk
                  have HS9 := Lib.hid (And.intro hsS (And.intro hsU (And.intro hsK (And.intro hlk (And.intro hlu hlt_)))))
                  have v1 : decide (T < lu) = false := decide_eq_false (by omega)
                  have v1n : lu ≤ T := by omega
                  have v2 : (lu : Int) ≤ (T : Int) := by omega
                  have v3 : (0 : Int) ≤ (lu : Int) := by omega
                  subst eA
                  clear hFD hkl hsh ht1 hx hXb hsS hsU hsK hlk hlu hlt_ hT e1
                  go_wp2_with fail
                  refine HRD.out.mono ?_
                  rintro e w10 ⟨rfl, ho10, hc10⟩
                  have F10 := Lib.hid (FX.out.chg hc10 (fun a e e9 => e9 (A9.out a e)))
                  have O10 := Lib.hid ho10
                  obtain ⟨b', off', eA', _, d0, d1⟩ := F10.out.at_ HX.out.1
                  injection eA' with eA'
                  injection eA' with e8 e9 _
                  subst e8 e9
                  simp only at d0 d1
                  rw [HS9.out.2.2.1] at d0
                  rw [HS9.out.2.1] at d1
                  have lb' : b < w10.heap.size := World.block_lt_of_cell? w10 _ d0
                  have z0 := Wb.at_ d0
                  have z1 := Wb.at_ d1
                  clear hc10 ho10 HRD e0
                  rcases Nat.eq_zero_or_pos lk with hk0 | hk0
                  · subst hk0
                    go_wp2_with fail
                    refine wp_region_plan [([0, 1, 2, 3, 4, 5, 6, 7, 8, 9, 10, 11, 12, 13, 14, 15, 16, 17, 18, 19, 20, 21, 22, 23, 24, 25, 26, 27, 28, 29, 30, 31, 32, 33, 34, 35, 36, 37, 38, 39, 40, 41, 42, 43, 44, 45, 46, 47, 48, 49, 50, 51, 52, 53, 54, 55], none)] (by kernel_rfl) (by kernel_rfl) ?_
                    refine seg_end _ (by dsimp only [pick, at_]) ?_
                    repeat (go_big_quiet_step (fail))
                    refine wpQuiet_nil (NoPanic.normal ?_)
                    go_wp2_with fail
                    go_roundg (m - (g + 1))
                    case measure => omega
                    case rel => exact ⟨g + 1, by go_num, by omega, by omega, O10.out.quiet (Below.refl _ _).drew, F10.out.below (Below.refl _ _).drew⟩
                  · have v5 : decide (0 < lk) = true := decide_eq_true hk0
                    have hb0 : 0 < sK.size := by omega
                    by_cases hz : ((sK[0]'hb0).toNat : Int) = 122
                    · have hz1 : (((sK[0]'hb0).toNat : Int) != 122) = false := by rw [hz]; rfl
                      go_wp2_with fail
                      refine wp_region_plan [([0, 1, 2, 3, 4, 5, 6, 7, 8, 9, 10, 11, 12, 13, 14, 15, 16, 17, 18, 19, 20, 21, 22, 23, 24, 25, 26, 27, 28, 29, 30, 31, 32, 33, 34, 35, 36, 37, 38, 39, 40, 41, 42, 43, 44, 45, 46, 47, 48, 49, 50, 51, 52, 53, 54, 55], none)] (by kernel_rfl) (by kernel_rfl) ?_
                      refine seg_end _ (by dsimp only [pick, at_]) ?_
                      repeat (go_big_quiet_step (fail))
                      refine wpQuiet_nil (NoPanic.normal ?_)
                      go_wp2_with fail
                      go_roundg (m - (g + 1))
                      case measure => omega
                      case rel => exact ⟨g + 1, by go_num, by omega, by omega, O10.out.quiet (Below.refl _ _).drew, F10.out.below (Below.refl _ _).drew⟩
                    · have hz1 : (((sK[0]'hb0).toNat : Int) != 122) = true := by simpa using hz
                      have hkz : k.head? ≠ some 122 := fun e => by
                        obtain ⟨ks, hks⟩ : ∃ ks, k = 122 :: ks := by
                          cases k with
                          | nil => cases e
                          | cons a ks => simp at e; subst e; exact ⟨ks, rfl⟩
                        have h9 := HS9.out.2.2.1
                        rw [hks] at h9
                        subst h9
                        exact hz rfl
                      have hSU : sU = sS := by
                        rw [← HS9.out.1, ← HS9.out.2.1, HX.out.2.2 hkz, List.append_nil]
                      subst hSU
                      clear hkz
                      go_wp2_with fail
                      refine wp_region_plan [([0, 1, 2, 3, 4, 5, 6, 7, 8, 9, 10, 11, 12, 13, 14, 15, 16, 17, 18, 19, 20, 21, 22, 23, 24, 25, 26, 27, 28, 29, 30, 31, 32, 33, 34, 35, 36, 37, 38, 39, 40, 41, 42, 43, 44, 45, 46, 47, 48, 49, 50, 51, 52, 53, 54, 55], none)] (by kernel_rfl) (by kernel_rfl) ?_
                      refine seg_end _ (by dsimp only [pick, at_]) ?_
                      repeat (go_big_quiet_step (fail))
                      refine wpQuiet_nil (NoPanic.normal ?_)
                      go_wp2_with fail
                      go_roundg (m - (g + 1))
                      case measure => omega
                      case rel => exact ⟨g + 1, by go_num, by omega, by omega, O10.out.quiet (Below.refl _ _).drew, F10.out.below (Below.refl _ _).drew⟩
                · have i1 : ¬ (g : Int) < (m : Int) := by omega
                  obtain ⟨FD, hFD⟩ := OX.out.ex
                  have HDE := Lib.hid (dead_d wv p FD st3 hFD)
                  have HPE := Lib.hid (pending_d wv p FD st3 hFD)
                  rw [HP3.out.1] at HPE
                  rw [HP3.out.2.1] at HDE
                  have BW := Lib.hid OX.out.below
                  clear hFD
                  go_wp2_with fail
                  refine HDE.out.mono ?_
                  rintro e w10 ⟨rfl, rfl⟩
                  go_wp2_with fail
                  refine HPE.out.mono ?_
                  rintro e w11 ⟨rfl, rfl⟩
                  go_wp2_with fail
                  go_ret
                  exact ⟨rfl, BW.out⟩
end Go.Proofs.Ytmnliieiiaedeaa.lawDiskSynced
