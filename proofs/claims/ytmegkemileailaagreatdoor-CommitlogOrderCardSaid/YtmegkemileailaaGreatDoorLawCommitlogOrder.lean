/-
  The walk of the law CommitlogOrder.
-/
import Derived.Test.YtmegkemileailaaGreatDoorLgLx
namespace Go.Proofs.YtmegkemileailaaGreatDoor.lawCommitlogOrder
open Go.ChangeShapes Go.WideShapes Go.ChangeAt Go.RowKit Go.Shelf Go.Maps Go.Sort plain words ord mem al cl uvs dk lg

set_option maxHeartbeats 16000000 in
set_option maxRecDepth 100000 in
theorem walk_ok (A : Option Addr) (n c : Nat) (ev : Int) (w : World) (hlay : LayS w) (h0 : IsLs RE FitR w A n c) (hw : (Lit.int .u8 ev).wf = true) :
    Calls Tryz.prog 4 #[.slice A n c, .int .u8 ev] w fun e w' => e = .returned (.bool true) ∧ Below w.heap.size w w' := by
  obtain ⟨l, hl, hfit, hnc, hcm, hA⟩ := h0
  have hrm := wf_u8 hw
  unfold maxLen at hcm
  clear hw
  by_cases g1 : 128 < n
  · have m1 : (128 : Int) < (n : Int) := by omega
    clear hl hfit
    go_enter Tryz.func4, Tryz.ntmps4
    go_wp2_with fail
    go_ret
    exact ⟨rfl, Below.refl _ _⟩
  have m1 : ¬ (128 : Int) < (n : Int) := by omega
  have HL := Lib.hid hl
  have HF := Lib.hid hfit
  have HLAY := Lib.hid hlay
  have HN := Lib.hid (new_d w 1048576)
  clear hl hfit hlay
  go_enter Tryz.func4, Tryz.ntmps4
  go_wp2_with fail
  refine HN.out.mono ?_
  rintro e w1 ⟨p, rfl, hp, hd1, hb1⟩
  have HOP := Lib.hid (LW.first hd1 hb1 HLAY.out (by show fsum ([] : AL Nm) ≤ _; decide) (by show ([] : AL Nm).length ≤ _; decide))
  have B1 := Lib.hid hb1
  clear hd1 HN hb1
  go_wp2_with fail
  refine HOP.out.mono ?_
  rintro e w2 ⟨bl0, A2, n2, c2, rfl, hlw, ho2⟩
  have L2 := Lib.hid (hlw.row (w' := w2.alloc (.cells #[] 36)) ((Below.refl _ _).alloc (Nat.le_refl _) _) (Ow.lit (E := RE) w2))
  have hI0 := LI.new 1048576
  have hn2 : n2 = 0 := by rw [← ho2.1, hI0.told]; rfl
  subst hn2
  have hn0 : nextN (newSt 1048576).shown = 1 := hI0.nextN
  rw [hn0] at L2
  have I0 := Lib.hid hI0
  have BD0 := Lib.hid (show Bd (newSt 1048576) [] 1 1048576 0 from ⟨rfl, Int.le_refl 0, Int.le_refl 0, by show ((0 : Nat) : Int) ≤ 1048576; omega, Nat.le_refl _, Nat.le_refl _⟩)
  clear hI0 hn0 hlw HOP ho2
  go_wp2_with fail
  go_loopg [6, 8, 9, 10, 11] n (fun gg s6 s8 s9 s10 s11 wr => ∃ (i m N : Nat) (A8 : Option Addr) (c8 bl : Nat) (st : St) (hs : List (Nat × List Rec)) (want : List Rec), s6 = ptr bl ∧ s8 = .slice A8 m c8 ∧ s9 = .int .i64 i ∧ i ≤ n ∧ n - i ≤ gg ∧ m ≤ i ∧ Aside (LW w wr p bl N st (.slice A8 m c8) m want) ∧ Aside (LI st hs N want) ∧ Aside (Bd st hs N 1048576 (3 * i)) ∧ Aside (fsum st.last ≤ 200 * i))
  case atStart => exact ⟨0, 0, 1, _, _, bl0, _, _, [], rfl, rfl, rfl, Nat.zero_le _, by omega, Nat.le_refl _, L2.out, I0.out, BD0.out, Nat.zero_le _⟩
  case round =>
    obtain ⟨i, m, N, A8, c8, bl, st, hs, want, rfl, rfl, rfl, hin, hgg, hmi, LL, II, BB, SS⟩ := hrel
    obtain ⟨wv, rfl⟩ : ∃ wv, wv = wr := ⟨wr, rfl⟩
    by_cases hlt : i < n
    · have i1 : (i : Int) < (n : Int) := by omega
      have i2 : (0 : Int) ≤ (i : Int) := by omega
      obtain ⟨r, hr⟩ := HL.out.get hlt
      obtain ⟨hnum, hid, _, _⟩ := HF.out r (List.mem_of_getElem? hr)
      unfold maxLen at hid
      obtain ⟨b, off, eA, _⟩ := rec_at (HL.out.below LL.out.bel (Nat.le_refl _)) hr
      subst eA
      have CK := Lib.hid (show ∀ u, Below w.heap.size w u → b < u.heap.size ∧ u.cell? ⟨b, off + i * 5, none⟩ = some (.int .i64 r.sp) ∧ u.cell? ⟨b, off + i * 5 + 1, none⟩ = some (.string (tx r.id)) ∧ u.cell? ⟨b, off + i * 5 + 2, none⟩ = some (.int .i64 r.t) ∧ u.cell? ⟨b, off + i * 5 + 3, none⟩ = some (.int .u64 r.v) ∧ u.cell? ⟨b, off + i * 5 + 4, none⟩ = some (.int .u64 r.s) from fun u hu => by
        obtain ⟨b', off', e, _, h⟩ := rec_at (HL.out.below hu (Nat.le_refl _)) hr
        cases e
        exact ⟨World.block_lt_of_cell? u _ h.1, h⟩)
      have HNUM := Lib.hid hnum
      have E1 := encode_y wv r hnum (by omega)
      unfold RetEnc at E1
      obtain ⟨X, hX'⟩ : ∃ X, encB r = X := ⟨_, rfl⟩
      obtain ⟨lx, hlx⟩ : ∃ k, X.length = k := ⟨_, rfl⟩
      obtain ⟨E, hE⟩ : ∃ E, err r = E := ⟨_, rfl⟩
      rw [hX', hlx, hE] at E1
      have E1 := Lib.hid E1
      have XE := Lib.hid (And.intro hX' (And.intro hlx hE))
      have ST := Lib.hid (LI.step II.out BB.out (by omega) r hnum)
      have HWR := Lib.hid (fun (u : World) (hu : LW w u p bl N st (.slice A8 m c8) m want) => hu.write HLAY.out r hnum (by omega) (by have := BB.out.num; omega) (BB.out.small II.out.pend II.out.live (by omega) (by omega)) (fun he => BB.out.small2 II.out.pend II.out.live (by omega) (by omega) (by have := BB.out.num; omega) he) (by rw [BB.out.room]; omega) (by rw [BB.out.room]; omega))
      obtain ⟨q, hq, hq3⟩ : ∃ q : Nat, ev.tmod 4 = (q : Int) ∧ q ≤ 3 := ⟨(ev.tmod 4).toNat, by have := Int.tmod_lt_of_pos ev (show (0 : Int) < 4 by omega); have := Int.tmod_nonneg 4 hrm.1; omega, by have := Int.tmod_lt_of_pos ev (show (0 : Int) < 4 by omega); omega⟩
      obtain ⟨ρ, hρe⟩ : ∃ ρ : Nat, (i : Int).tmod ((q : Int) + 1) = (ρ : Int) := ⟨((i : Int).tmod ((q : Int) + 1)).toNat, by have := Int.tmod_nonneg ((q : Int) + 1) i2; omega⟩
      have hρl : ρ ≤ i := by
        have h1 : (i : Int).tmod ((q : Int) + 1) = ((i % (q + 1) : Nat) : Int) := by rw [show (q : Int) + 1 = ((q + 1 : Nat) : Int) by omega, ← Int.ofNat_tmod]
        rw [h1] at hρe
        have := Nat.mod_le i (q + 1)
        omega
      obtain ⟨σ, hσe⟩ : ∃ σ : Nat, (i : Int).tmod 7 = (σ : Int) := ⟨((i : Int).tmod 7).toNat, by have := Int.tmod_nonneg 7 i2; omega⟩
      have hσl : σ ≤ 6 := by have := Int.tmod_lt_of_pos (i : Int) (show (0 : Int) < 7 by omega); omega
      have v1 : IntKind.i64.wrap ev = ev := IntWalk.i64_in _ (by omega)
      have v2 : IntKind.i64.wrap (q : Int) = (q : Int) := IntWalk.i64_in _ (by omega)
      have v3 : IntKind.i64.wrap ((q : Int) + 1) = (q : Int) + 1 := IntWalk.i64_in _ (by omega)
      have v4 : IntKind.i64.wrap (ρ : Int) = (ρ : Int) := IntWalk.i64_in _ (by omega)
      have v5 : IntKind.i64.wrap (σ : Int) = (σ : Int) := IntWalk.i64_in _ (by omega)
      have v6 : ((q : Int) + 1 == 0) = false := by simp; omega
      clear hX' hlx hE hr hnum
      obtain ⟨hlb, c0, c1, c2', c3, c4⟩ := CK.out wv LL.out.bel
      go_wp2_with fail
      refine E1.out.mono ?_
      rintro e w3 ⟨A1, x1, rfl, own1, hb3, nil1⟩
      have L3 := Lib.hid (LL.out.quiet hb3)
      clear own1 hb3 E1 c0 c1 c2' c3 c4 hlb
      obtain ⟨hlb, c0, c1, c2', c3, c4⟩ := CK.out w3 L3.out.bel
      have HW := Lib.hid (HWR.out w3 L3.out)
      go_wp2_with fail
      rcases ST.out with ⟨he, hwq⟩ | ⟨he, hf, hwq, _⟩ | ⟨he, hf, st', hs', hwq, hli, hbd, hsum⟩
      · rw [hwq, XE.out.2.2] at HW
        rw [XE.out.2.2] at he
        have hE1 : (E == 0) = false := by simpa using he
        have BE := Lib.hid (BB.out.mono (Nat.le_succ (3 * i)))
        have SE := Lib.hid (show fsum st.last ≤ 200 * (i + 1) by have := SS.out; omega)
        clear hwq
        refine HW.out.mono ?_
        rintro e w5 ⟨rfl, hl5⟩
        have L5 := Lib.hid hl5
        clear hl5 HW c0 c1 c2' c3 c4 hlb
        rcases Nat.eq_zero_or_pos ρ with hρ | hρ
        · subst hρ
          go_wp2_with fail
          have HRO := Lib.hid (L5.out.rotate (by have := BE.out.num; omega))
          refine HRO.out.mono ?_
          rintro e w7 ⟨rfl, hl7⟩
          have LR := Lib.hid hl7
          have IR := Lib.hid II.out.rotate
          have BR := Lib.hid BE.out.rotate
          clear hl7 HRO
          by_cases hσ : σ = 6
          · subst hσ
            go_wp2_with fail
            have HOP2 := Lib.hid (LR.out.open_ HLAY.out (by rw [IR.out.shown]; have := SE.out; omega) (by rw [IR.out.shown]; have := BR.out.len; omega))
            refine HOP2.out.mono ?_
            rintro e w8 ⟨bl8, A3, n3, c3, rfl, hl8, _, _, _⟩
            have L8 := Lib.hid hl8
            have I8 := Lib.hid IR.out.again
            have B8 := Lib.hid (BR.out.again IR.out)
            clear hl8 HOP2
            go_wp2_with fail
            go_roundg (n - (i + 1))
            case measure => omega
            case rel => exact ⟨i + 1, m, _, A8, c8, bl8, st, hs, want, rfl, rfl, by go_num, by omega, by omega, by omega, L8.out, I8.out, B8.out.mono (by omega), SE.out⟩
          · have hσ1 : ((σ : Int) == 6) = false := by simp; omega
            go_wp2_with fail
            go_roundg (n - (i + 1))
            case measure => omega
            case rel => exact ⟨i + 1, m, _, A8, c8, bl, st, hs, want, rfl, rfl, by go_num, by omega, by omega, by omega, LR.out, IR.out, BR.out.mono (by omega), SE.out⟩
        · have hρ1 : ((ρ : Int) == 0) = false := by simp; omega
          by_cases hσ : σ = 6
          · subst hσ
            go_wp2_with fail
            have LR := L5
            have IR := II
            have BR := Lib.hid (BE.out.mono (Nat.le_succ _))
            have HOP2 := Lib.hid (LR.out.open_ HLAY.out (by rw [IR.out.shown]; have := SE.out; omega) (by rw [IR.out.shown]; have := BR.out.len; omega))
            refine HOP2.out.mono ?_
            rintro e w8 ⟨bl8, A3, n3, c3, rfl, hl8, _, _, _⟩
            have L8 := Lib.hid hl8
            have I8 := Lib.hid IR.out.again
            have B8 := Lib.hid (BR.out.again IR.out)
            clear hl8 HOP2
            go_wp2_with fail
            go_roundg (n - (i + 1))
            case measure => omega
            case rel => exact ⟨i + 1, m, _, A8, c8, bl8, st, hs, want, rfl, rfl, by go_num, by omega, by omega, by omega, L8.out, I8.out, B8.out.mono (by omega), SE.out⟩
          · have hσ1 : ((σ : Int) == 6) = false := by simp; omega
            go_wp2_with fail
            have LR := L5
            have IR := II
            have BR := Lib.hid (BE.out.mono (Nat.le_succ _))
            go_roundg (n - (i + 1))
            case measure => omega
            case rel => exact ⟨i + 1, m, _, A8, c8, bl, st, hs, want, rfl, rfl, by go_num, by omega, by omega, by omega, LR.out, IR.out, BR.out.mono (by omega), SE.out⟩
      · exfalso
        have h1 := SS.out
        have h2 := enc_le (good_of he)
        rw [II.out.shown] at hf
        omega
      · rw [hwq] at HW
        have h2 := enc_le (good_of he)
        rw [XE.out.2.2] at he
        have HLI := Lib.hid hli
        have BE := Lib.hid hbd
        have SE := Lib.hid (show fsum st'.last ≤ 200 * (i + 1) by have := SS.out; omega)
        subst he
        clear hwq hli hbd hf hsum
        refine HW.out.mono ?_
        rintro e w5 ⟨rfl, hl5⟩
        have L5 := Lib.hid hl5
        clear hl5 HW c0 c1 c2' c3 c4 hlb
        obtain ⟨hlb, c0, c1, c2', c3, c4⟩ := CK.out w5 L5.out.bel
        rcases Nat.eq_zero_or_pos ρ with hρ | hρ
        · subst hρ
          go_wp2_with (at_builtin; refine append_w rfl (.tmp 50) (.tmp 55) rfl _ m want rfl ((L5.out.quiet ((Below.refl _ _).alloc (Nat.le_refl _) _)).ow) (w5.heap.size + 1) (some ⟨w5.heap.size, 0, none⟩) 1 1 (fun e => by cases e) [r] (by rfl) (ls_new (E := RE) (w := w5) 36 r) (by omega) ?_; intro A6 c6 w6 hown6 hg6 hat6; have L6 := Lib.hid ((L5.out.quiet ((Below.refl _ _).alloc (Nat.le_refl _) _)).app hg6 hown6 hat6); clear hg6 hown6 hat6 c0 c1 c2' c3 c4 hlb)
          have HRO := Lib.hid (L6.out.rotate (by have := BE.out.num; omega))
          refine HRO.out.mono ?_
          rintro e w7 ⟨rfl, hl7⟩
          have LR := Lib.hid hl7
          have IR := Lib.hid HLI.out.rotate
          have BR := Lib.hid BE.out.rotate
          clear hl7 HRO
          by_cases hσ : σ = 6
          · subst hσ
            go_wp2_with fail
            have HOP2 := Lib.hid (LR.out.open_ HLAY.out (by rw [IR.out.shown]; have := SE.out; omega) (by rw [IR.out.shown]; have := BR.out.len; omega))
            refine HOP2.out.mono ?_
            rintro e w8 ⟨bl8, A3, n3, c3, rfl, hl8, _, _, _⟩
            have L8 := Lib.hid hl8
            have I8 := Lib.hid IR.out.again
            have B8 := Lib.hid (BR.out.again IR.out)
            clear hl8 HOP2
            go_wp2_with fail
            go_roundg (n - (i + 1))
            case measure => omega
            case rel => exact ⟨i + 1, m + 1, _, A6, c6, bl8, st', hs', want ++ [r], rfl, rfl, by go_num, by omega, by omega, by omega, L8.out, I8.out, B8.out.mono (by omega), SE.out⟩
          · have hσ1 : ((σ : Int) == 6) = false := by simp; omega
            go_wp2_with fail
            go_roundg (n - (i + 1))
            case measure => omega
            case rel => exact ⟨i + 1, m + 1, _, A6, c6, bl, st', hs', want ++ [r], rfl, rfl, by go_num, by omega, by omega, by omega, LR.out, IR.out, BR.out.mono (by omega), SE.out⟩
        · have hρ1 : ((ρ : Int) == 0) = false := by simp; omega
          by_cases hσ : σ = 6
          · subst hσ
            go_wp2_with (at_builtin; refine append_w rfl (.tmp 50) (.tmp 55) rfl _ m want rfl ((L5.out.quiet ((Below.refl _ _).alloc (Nat.le_refl _) _)).ow) (w5.heap.size + 1) (some ⟨w5.heap.size, 0, none⟩) 1 1 (fun e => by cases e) [r] (by rfl) (ls_new (E := RE) (w := w5) 36 r) (by omega) ?_; intro A6 c6 w6 hown6 hg6 hat6; have L6 := Lib.hid ((L5.out.quiet ((Below.refl _ _).alloc (Nat.le_refl _) _)).app hg6 hown6 hat6); clear hg6 hown6 hat6 c0 c1 c2' c3 c4 hlb)
            have LR := L6
            have IR := HLI
            have BR := Lib.hid (BE.out.mono (Nat.le_succ _))
            have HOP2 := Lib.hid (LR.out.open_ HLAY.out (by rw [IR.out.shown]; have := SE.out; omega) (by rw [IR.out.shown]; have := BR.out.len; omega))
            refine HOP2.out.mono ?_
            rintro e w8 ⟨bl8, A3, n3, c3, rfl, hl8, _, _, _⟩
            have L8 := Lib.hid hl8
            have I8 := Lib.hid IR.out.again
            have B8 := Lib.hid (BR.out.again IR.out)
            clear hl8 HOP2
            go_wp2_with fail
            go_roundg (n - (i + 1))
            case measure => omega
            case rel => exact ⟨i + 1, m + 1, _, A6, c6, bl8, st', hs', want ++ [r], rfl, rfl, by go_num, by omega, by omega, by omega, L8.out, I8.out, B8.out.mono (by omega), SE.out⟩
          · have hσ1 : ((σ : Int) == 6) = false := by simp; omega
            go_wp2_with (at_builtin; refine append_w rfl (.tmp 50) (.tmp 55) rfl _ m want rfl ((L5.out.quiet ((Below.refl _ _).alloc (Nat.le_refl _) _)).ow) (w5.heap.size + 1) (some ⟨w5.heap.size, 0, none⟩) 1 1 (fun e => by cases e) [r] (by rfl) (ls_new (E := RE) (w := w5) 36 r) (by omega) ?_; intro A6 c6 w6 hown6 hg6 hat6; have L6 := Lib.hid ((L5.out.quiet ((Below.refl _ _).alloc (Nat.le_refl _) _)).app hg6 hown6 hat6); clear hg6 hown6 hat6 c0 c1 c2' c3 c4 hlb)
            have LR := L6
            have IR := HLI
            have BR := Lib.hid (BE.out.mono (Nat.le_succ _))
            go_roundg (n - (i + 1))
            case measure => omega
            case rel => exact ⟨i + 1, m + 1, _, A6, c6, bl, st', hs', want ++ [r], rfl, rfl, by go_num, by omega, by omega, by omega, LR.out, IR.out, BR.out.mono (by omega), SE.out⟩
    · have i1 : ¬ (i : Int) < (n : Int) := by omega
      have hf0 : fsum st.shown ≤ 4194304 := by rw [II.out.shown]; have := SS.out; omega
      have hf1 : st.shown.length ≤ 65536 := by rw [II.out.shown]; have := BB.out.len; omega
      have HOP2 := Lib.hid (LL.out.lx.open_ HLAY.out hf0 hf1)
      rw [II.out.told] at HOP2
      have hN1 : (1 : Int) ≤ (N : Int) := by have := II.out.one; omega
      have R8 := Lib.hid LL.out.ow
      go_wp2_with fail
      refine HOP2.out.mono ?_
      rintro e w3 ⟨bl3, A3, n3, c3, rfl, hl3, ho3, hch3⟩
      obtain rfl : n3 = m := by rw [← ho3.1, ← R8.out.1]
      have R38 := Lib.hid (R8.out.chg hch3 (fun g hg e => e hg))
      have HOP3 := Lib.hid (hl3.open_ HLAY.out hf0 hf1)
      rw [II.out.told] at HOP3
      have O3 := Lib.hid ho3
      clear hl3 ho3 hch3 HOP2
      go_wp2_with fail
      refine HOP3.out.mono ?_
      rintro e w4 ⟨bl4, A4, n4, c4, rfl, hl4, ho4, hch4⟩
      obtain rfl : n4 = n3 := by rw [← ho4.1, ← R8.out.1]
      have R48 := Lib.hid (R38.out.chg hch4 (fun g hg e => e (.inl hg)))
      have O34 := Lib.hid (O3.out.chg hch4 (fun g hg e => e (.inr hg)))
      have O4 := Lib.hid ho4
      have L4 := Lib.hid hl4
      have S1 := Lib.hid (same_r w4 w4.heap.size w4.heap.size n4 c3 c8 A3 A8 want O34.out.ls R48.out.ls (Nat.le_refl _) (Nat.le_refl _) (by omega))
      clear hl4 ho4 hch4 HOP3
      go_wp2_with fail
      refine S1.out.mono ?_
      rintro e w5 ⟨rfl, hb5⟩
      have S2 := Lib.hid (same_r w5 w5.heap.size w5.heap.size n4 c4 c8 A4 A8 want (O4.out.below hb5 (Nat.le_refl _)).ls (R48.out.chg (Chg.of_below hb5) (fun _ _ e => e)).ls (Nat.le_refl _) (Nat.le_refl _) (by omega))
      have L5 := Lib.hid (L4.out.quiet hb5)
      clear hb5 S1
      go_wp2_with fail
      refine S2.out.mono ?_
      rintro e w6 ⟨rfl, hb6⟩
      have L6 := Lib.hid (L5.out.quiet hb6)
      have HNU := Lib.hid (number_x w6 bl p N L6.out.lg)
      clear hb6 S2
      go_wp2_with fail
      refine HNU.out.mono ?_
      rintro e w7 ⟨rfl, rfl⟩
      go_wp2_with fail
      go_ret
      exact ⟨rfl, L6.out.bel⟩
end Go.Proofs.YtmegkemileailaaGreatDoor.lawCommitlogOrder
