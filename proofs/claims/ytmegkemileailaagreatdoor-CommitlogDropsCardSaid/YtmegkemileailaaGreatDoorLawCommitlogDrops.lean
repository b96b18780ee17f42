/-
  The walk of the law CommitlogDrops.
-/
import Derived.Test.YtmegkemileailaaGreatDoorLgDr
namespace Go.Proofs.YtmegkemileailaaGreatDoor.lawCommitlogDrops
open Go.ChangeShapes Go.WideShapes Go.ChangeAt Go.RowKit Go.Shelf Go.Maps Go.Sort plain words ord mem al cl uvs dk lg

set_option maxHeartbeats 16000000 in
set_option maxRecDepth 100000 in
theorem walk_ok (A : Option Addr) (n c : Nat) (ev below : Int) (w : World) (hlay : LayS w) (h0 : IsLs RE FitR w A n c) (hw : (Lit.int .u8 ev).wf = true) (hw2 : (Lit.int .i64 below).wf = true) :
    Calls Tryz.prog 7 #[.slice A n c, .int .u8 ev, .int .i64 below] w fun e w' => e = .returned (.bool true) ∧ Below w.heap.size w w' := by
  obtain ⟨l, hl, hfit, hnc, hcm, hA⟩ := h0
  have hrm := wf_u8 hw
  have hbw := wf_i64 hw2
  unfold maxLen at hcm
  clear hw hw2
  by_cases g1 : 128 < n
  · have m1 : (128 : Int) < (n : Int) := by omega
    clear hl hfit
    go_enter Tryz.func7, Tryz.ntmps7
    go_wp2_with fail
    go_ret
    exact ⟨rfl, Below.refl _ _⟩
  have m1 : ¬ (128 : Int) < (n : Int) := by omega
  have HL := Lib.hid hl
  have HF := Lib.hid hfit
  have HLAY := Lib.hid hlay
  have HN := Lib.hid (new_d w 1048576)
  obtain ⟨q, hq, hq3⟩ : ∃ q : Nat, ev.tmod 5 = (q : Int) ∧ q ≤ 4 := ⟨(ev.tmod 5).toNat, by have := Int.tmod_lt_of_pos ev (show (0 : Int) < 5 by omega); have := Int.tmod_nonneg 5 hrm.1; omega, by have := Int.tmod_lt_of_pos ev (show (0 : Int) < 5 by omega); omega⟩
  have v1 : IntKind.i64.wrap ev = ev := IntWalk.i64_in _ (by omega)
  have v2 : IntKind.i64.wrap (q : Int) = (q : Int) := IntWalk.i64_in _ (by omega)
  have v3 : IntKind.i64.wrap ((q : Int) + 1) = (q : Int) + 1 := IntWalk.i64_in _ (by omega)
  have v6 : ((q : Int) + 1 == 0) = false := by simp; omega
  clear hl hfit hlay
  go_enter Tryz.func7, Tryz.ntmps7
  go_wp2_with fail
  refine HN.out.mono ?_
  rintro e w1 ⟨p, rfl, hp, hd1, hb1⟩
  have HOP := Lib.hid (LW.first hd1 hb1 HLAY.out (by show fsum ([] : AL Nm) ≤ _; decide) (by show ([] : AL Nm).length ≤ _; decide))
  clear hd1 HN hb1
  go_wp2_with fail
  refine HOP.out.mono ?_
  rintro e w2 ⟨bl, A2, n2, c2, rfl, hlw, ho2⟩
  have L2 := Lib.hid (hlw.row (w' := w2.alloc (.cells #[] 36)) ((Below.refl _ _).alloc (Nat.le_refl _) _) (Ow.lit (E := RE) w2))
  have hI0 := LI.new 1048576
  have hn2 : n2 = 0 := by rw [← ho2.1, hI0.told]; rfl
  subst hn2
  have hn0 : nextN (newSt 1048576).shown = 1 := hI0.nextN
  rw [hn0] at L2
  have I0 := Lib.hid hI0
  have BD0 := Lib.hid (show Bd (newSt 1048576) [] 1 1048576 0 from ⟨rfl, Int.le_refl 0, Int.le_refl 0, by show ((0 : Nat) : Int) ≤ 1048576; omega, Nat.le_refl _, Nat.le_refl _⟩)
  clear hI0 hn0 hlw HOP ho2
  go_wp2_with fail
  go_loopg [6, 10, 11, 12, 13] n (fun gg s6 s10 s11 s12 s13 wr => ∃ (i m : Nat) (Aw : Option Addr) (cw : Nat) (st : St) (hs : List (Nat × List Rec)) (all : List Rec), s10 = .slice Aw m cw ∧ s11 = .int .i64 i ∧ i ≤ n ∧ n - i ≤ gg ∧ m ≤ i ∧ Aside (LW w wr p bl (nb (q + 1) i) st (.slice Aw m cw) m (wq (q + 1) (fun k => decide (below ≤ (k : Int))) l i)) ∧ Aside (LI st hs (nb (q + 1) i) all) ∧ Aside (Bd st hs (nb (q + 1) i) 1048576 (2 * i)) ∧ Aside (fsum st.last ≤ 200 * i) ∧ Aside (∀ g : Nat → Bool, fw g hs = wq (q + 1) g l i))
  case atStart => exact ⟨0, 0, _, _, _, _, [], rfl, rfl, Nat.zero_le _, by omega, Nat.le_refl _, L2.out, I0.out, BD0.out, Nat.zero_le _, fun _ => rfl⟩
  case round =>
    obtain ⟨i, m, Aw, cw, st, hs, all, rfl, rfl, hin, hgg, hmi, LL, II, BB, SS, QQ⟩ := hrel
    obtain ⟨wv, rfl⟩ : ∃ wv, wv = wr := ⟨wr, rfl⟩
    by_cases hlt : i < n
    · have i1 : (i : Int) < (n : Int) := by omega
      have i2 : (0 : Int) ≤ (i : Int) := by omega
      obtain ⟨r, hr⟩ := HL.out.get hlt
      obtain ⟨hnum, hid, _, _⟩ := HF.out r (List.mem_of_getElem? hr)
      unfold maxLen at hid
      obtain ⟨b, off, eA, _⟩ := rec_at (HL.out.below LL.out.bel (Nat.le_refl _)) hr
      subst eA
      have CK := Lib.hid (show ∀ u, Below w.heap.size w u → b < u.heap.size ∧ u.cell? ⟨b, off + i * 5, none⟩ = some (.int .i64 r.sp) ∧ u.cell? ⟨b, off + i * 5 + 1, none⟩ = some (.string (tx r.id)) ∧ u.cell? ⟨b, off + i * 5 + 2, none⟩ = some (.int .i64 r.t) ∧ u.cell? ⟨b, off + i * 5 + 3, none⟩ = some (.int .u64 r.v) ∧ u.cell? ⟨b, off + i * 5 + 4, none⟩ = some (.int .u64 r.s) from fun u hu => by
        obtain ⟨b', off', e, _, h⟩ := rec_at (HL.out.below hu (Nat.le_refl _)) hr
        cases e
        exact ⟨World.block_lt_of_cell? u _ h.1, h⟩)
      have HNUM := Lib.hid (And.intro hnum (And.intro hid hr))
      have E1 := Lib.hid (fun u => encode_y u r hnum (by omega))
      unfold RetEnc at E1
      obtain ⟨X, hX'⟩ : ∃ X, encB r = X := ⟨_, rfl⟩
      obtain ⟨lx, hlx⟩ : ∃ k, X.length = k := ⟨_, rfl⟩
      obtain ⟨E, hE⟩ : ∃ E, err r = E := ⟨_, rfl⟩
      simp only [hX', hlx, hE] at E1
      have XE := Lib.hid (And.intro hX' (And.intro hlx hE))
      obtain ⟨ρ, hρe, hρm⟩ : ∃ ρ : Nat, (i : Int).tmod ((q : Int) + 1) = (ρ : Int) ∧ ρ = i % (q + 1) := ⟨i % (q + 1), by rw [show (q : Int) + 1 = ((q + 1 : Nat) : Int) by omega, ← Int.ofNat_tmod], rfl⟩
      have v4 : IntKind.i64.wrap (ρ : Int) = (ρ : Int) := IntWalk.i64_in _ (by have := Nat.mod_le i (q + 1); omega)
      have NX := Lib.hid (nb_next (q + 1) i)
      clear hX' hlx hE hr hnum
      rcases Nat.eq_zero_or_pos ρ with hρ | hρ
      · have HNB := Lib.hid (nb_yes (k := q + 1) (i := i) (by omega) (by omega) (by omega))
        clear hρm
        subst hρ
        have HRO := Lib.hid (LL.out.rotate (by have := BB.out.num; omega))
        go_wp2_with fail
        refine HRO.out.mono ?_
        rintro e w3 ⟨rfl, hl3⟩
        rw [HNB.out] at hl3
        have LR := Lib.hid hl3
        have IR := Lib.hid (show LI st hs (2 + i / (q + 1)) all from HNB.out ▸ II.out.rotate)
        have BR := Lib.hid (show Bd st hs (2 + i / (q + 1)) 1048576 (2 * i + 1) from HNB.out ▸ BB.out.rotate)
        clear hl3 HRO
        obtain ⟨K, hK⟩ : ∃ K, 2 + i / (q + 1) = K := ⟨_, rfl⟩
        rw [hK] at LR IR BR NX
        have HKE := Lib.hid hK
        clear hK HNB
        have ST := Lib.hid (LI.step_q IR.out BR.out (by omega) r HNUM.out.1)
        have hKb := BR.out.num
        obtain ⟨hlb, c0, c1, c2', c3, c4⟩ := CK.out w3 LR.out.bel
        have E5 := Lib.hid (E1.out w3)
        go_wp2_with fail
        refine E5.out.mono ?_
        rintro e w4 ⟨A1, x1, rfl, _, hb4, _⟩
        have L4 := Lib.hid (LR.out.quiet hb4)
        clear hb4 E5 c0 c1 c2' c3 c4 hlb
        obtain ⟨hlb, c0, c1, c2', c3, c4⟩ := CK.out w4 L4.out.bel
        have HW := Lib.hid (L4.out.write HLAY.out r HNUM.out.1 (by have := HNUM.out.2.1; omega) (by omega) (BR.out.small IR.out.pend IR.out.live (by omega) (by omega)) (fun he => BR.out.small2 IR.out.pend IR.out.live (by omega) (by omega) (by omega) he) (by rw [BR.out.room]; omega) (by rw [BR.out.room]; omega))
        go_wp2_with fail
        rcases ST.out with ⟨he, hwq⟩ | ⟨he, hf, hwq, _⟩ | ⟨he, hf, st', hs', hwq, hli, hbd, hsum, hfw⟩
        · rw [hwq, XE.out.2.2] at HW
          have hwn := fun g => wq_no (k := q + 1) (q := g) HNUM.out.2.2 he
          rw [XE.out.2.2] at he
          have hE1 : (E == 0) = false := by simpa using he
          have WN := Lib.hid hwn
          clear hwq hwn
          refine HW.out.mono ?_
          rintro e w5 ⟨rfl, hl5⟩
          have L5 := Lib.hid hl5
          have SE := Lib.hid (show fsum st.last ≤ 200 * (i + 1) by have := SS.out; omega)
          clear hl5 HW c0 c1 c2' c3 c4 hlb
          go_wp2_with fail
          go_roundg (n - (i + 1))
          case measure => omega
          case rel => exact ⟨i + 1, m, Aw, cw, st, hs, all, rfl, by go_num, by omega, by omega, by omega, by rw [NX.out, WN.out]; exact L5.out, by rw [NX.out]; exact IR.out, by rw [NX.out]; exact BR.out.mono (by omega), SE.out, fun g => by rw [WN.out]; exact QQ.out g⟩
        · exfalso
          have h1 := SS.out
          have h2 := enc_le (good_of he)
          rw [IR.out.shown] at hf
          omega
        · rw [hwq] at HW
          have h2 := enc_le (good_of he)
          have hwn := fun g => wq_ok (k := q + 1) (q := g) HNUM.out.2.2 he
          rw [HKE.out] at hwn
          rw [XE.out.2.2] at he
          have HLI := Lib.hid hli
          have BE := Lib.hid hbd
          have SE := Lib.hid (show fsum st'.last ≤ 200 * (i + 1) by have := SS.out; omega)
          have QE := Lib.hid (show ∀ g : Nat → Bool, fw g hs' = wq (q + 1) g l (i + 1) from fun g => by rw [hfw, hwn, QQ.out])
          have WN := Lib.hid (hwn (fun k => decide (below ≤ (k : Int))))
          subst he
          clear hwq hli hbd hf hsum hfw hwn
          refine HW.out.mono ?_
          rintro e w5 ⟨rfl, hl5⟩
          have L5 := Lib.hid hl5
          clear hl5 HW c0 c1 c2' c3 c4 hlb
          have HNU := Lib.hid (number_x w5 bl p K L5.out.lg)
          obtain ⟨hlb, c0, c1, c2', c3, c4⟩ := CK.out w5 L5.out.bel
          go_wp2_with fail
          refine HNU.out.mono ?_
          rintro e w6 ⟨rfl, rfl⟩
          by_cases hbk : below ≤ (K : Int)
          · have WY := Lib.hid (WN.out.trans (by rw [if_pos (decide_eq_true hbk)]))
            go_wp2_with (at_builtin; refine append_w rfl (.tmp 69) (.tmp 74) rfl _ m (wq (q + 1) (fun k => decide (below ≤ (k : Int))) l i) rfl ((L5.out.quiet ((Below.refl _ _).alloc (Nat.le_refl _) _)).ow) (w6.heap.size + 1) (some ⟨w6.heap.size, 0, none⟩) 1 1 (fun e => by cases e) [r] (by rfl) (ls_new (E := RE) (w := w6) 36 r) (by omega) ?_; intro A6 c6 w7 hown6 hg6 hat6; have L6 := Lib.hid ((L5.out.quiet ((Below.refl _ _).alloc (Nat.le_refl _) _)).app hg6 hown6 hat6); clear hg6 hown6 hat6 c0 c1 c2' c3 c4 hlb)
            go_roundg (n - (i + 1))
            case measure => omega
            case rel => exact ⟨i + 1, m + 1, A6, c6, st', hs', all ++ [r], rfl, by go_num, by omega, by omega, by omega, by rw [NX.out, WY.out]; exact L6.out, by rw [NX.out]; exact HLI.out, by rw [NX.out]; exact BE.out.mono (by omega), SE.out, QE.out⟩
          · have WY := Lib.hid (WN.out.trans (by rw [if_neg (by simpa using hbk), List.append_nil]))
            go_wp2_with fail
            go_roundg (n - (i + 1))
            case measure => omega
            case rel => exact ⟨i + 1, m, Aw, cw, st', hs', all ++ [r], rfl, by go_num, by omega, by omega, by omega, by rw [NX.out, WY.out]; exact L5.out, by rw [NX.out]; exact HLI.out, by rw [NX.out]; exact BE.out.mono (by omega), SE.out, QE.out⟩
      · have hρ1 : ((ρ : Int) == 0) = false := by simp; omega
        have HNB := Lib.hid (nb_no (k := q + 1) (i := i) (by omega) (by omega) (by omega))
        clear hρm
        have LR := Lib.hid (show LW w wv p bl (2 + i / (q + 1)) st (.slice Aw m cw) m (wq (q + 1) (fun k => decide (below ≤ (k : Int))) l i) from HNB.out ▸ LL.out)
        have IR := Lib.hid (show LI st hs (2 + i / (q + 1)) all from HNB.out ▸ II.out)
        have BR := Lib.hid (show Bd st hs (2 + i / (q + 1)) 1048576 (2 * i + 1) from HNB.out ▸ BB.out.mono (Nat.le_succ _))
        obtain ⟨K, hK⟩ : ∃ K, 2 + i / (q + 1) = K := ⟨_, rfl⟩
        rw [hK] at LR IR BR NX
        have HKE := Lib.hid hK
        clear hK HNB
        have ST := Lib.hid (LI.step_q IR.out BR.out (by omega) r HNUM.out.1)
        have hKb := BR.out.num
        obtain ⟨hlb, c0, c1, c2', c3, c4⟩ := CK.out wv LR.out.bel
        have E5 := Lib.hid (E1.out wv)
        go_wp2_with fail
        refine E5.out.mono ?_
        rintro e w4 ⟨A1, x1, rfl, _, hb4, _⟩
        have L4 := Lib.hid (LR.out.quiet hb4)
        clear hb4 E5 c0 c1 c2' c3 c4 hlb
        obtain ⟨hlb, c0, c1, c2', c3, c4⟩ := CK.out w4 L4.out.bel
        have HW := Lib.hid (L4.out.write HLAY.out r HNUM.out.1 (by have := HNUM.out.2.1; omega) (by omega) (BR.out.small IR.out.pend IR.out.live (by omega) (by omega)) (fun he => BR.out.small2 IR.out.pend IR.out.live (by omega) (by omega) (by omega) he) (by rw [BR.out.room]; omega) (by rw [BR.out.room]; omega))
        go_wp2_with fail
        rcases ST.out with ⟨he, hwq⟩ | ⟨he, hf, hwq, _⟩ | ⟨he, hf, st', hs', hwq, hli, hbd, hsum, hfw⟩
        · rw [hwq, XE.out.2.2] at HW
          have hwn := fun g => wq_no (k := q + 1) (q := g) HNUM.out.2.2 he
          rw [XE.out.2.2] at he
          have hE1 : (E == 0) = false := by simpa using he
          have WN := Lib.hid hwn
          clear hwq hwn
          refine HW.out.mono ?_
          rintro e w5 ⟨rfl, hl5⟩
          have L5 := Lib.hid hl5
          have SE := Lib.hid (show fsum st.last ≤ 200 * (i + 1) by have := SS.out; omega)
          clear hl5 HW c0 c1 c2' c3 c4 hlb
          go_wp2_with fail
          go_roundg (n - (i + 1))
          case measure => omega
          case rel => exact ⟨i + 1, m, Aw, cw, st, hs, all, rfl, by go_num, by omega, by omega, by omega, by rw [NX.out, WN.out]; exact L5.out, by rw [NX.out]; exact IR.out, by rw [NX.out]; exact BR.out.mono (by omega), SE.out, fun g => by rw [WN.out]; exact QQ.out g⟩
        · exfalso
          have h1 := SS.out
          have h2 := enc_le (good_of he)
          rw [IR.out.shown] at hf
          omega
        · rw [hwq] at HW
          have h2 := enc_le (good_of he)
          have hwn := fun g => wq_ok (k := q + 1) (q := g) HNUM.out.2.2 he
          rw [HKE.out] at hwn
          rw [XE.out.2.2] at he
          have HLI := Lib.hid hli
          have BE := Lib.hid hbd
          have SE := Lib.hid (show fsum st'.last ≤ 200 * (i + 1) by have := SS.out; omega)
          have QE := Lib.hid (show ∀ g : Nat → Bool, fw g hs' = wq (q + 1) g l (i + 1) from fun g => by rw [hfw, hwn, QQ.out])
          have WN := Lib.hid (hwn (fun k => decide (below ≤ (k : Int))))
          subst he
          clear hwq hli hbd hf hsum hfw hwn
          refine HW.out.mono ?_
          rintro e w5 ⟨rfl, hl5⟩
          have L5 := Lib.hid hl5
          clear hl5 HW c0 c1 c2' c3 c4 hlb
          have HNU := Lib.hid (number_x w5 bl p K L5.out.lg)
          obtain ⟨hlb, c0, c1, c2', c3, c4⟩ := CK.out w5 L5.out.bel
          go_wp2_with fail
          refine HNU.out.mono ?_
          rintro e w6 ⟨rfl, rfl⟩
          by_cases hbk : below ≤ (K : Int)
          · have WY := Lib.hid (WN.out.trans (by rw [if_pos (decide_eq_true hbk)]))
            go_wp2_with (at_builtin; refine append_w rfl (.tmp 69) (.tmp 74) rfl _ m (wq (q + 1) (fun k => decide (below ≤ (k : Int))) l i) rfl ((L5.out.quiet ((Below.refl _ _).alloc (Nat.le_refl _) _)).ow) (w6.heap.size + 1) (some ⟨w6.heap.size, 0, none⟩) 1 1 (fun e => by cases e) [r] (by rfl) (ls_new (E := RE) (w := w6) 36 r) (by omega) ?_; intro A6 c6 w7 hown6 hg6 hat6; have L6 := Lib.hid ((L5.out.quiet ((Below.refl _ _).alloc (Nat.le_refl _) _)).app hg6 hown6 hat6); clear hg6 hown6 hat6 c0 c1 c2' c3 c4 hlb)
            go_roundg (n - (i + 1))
            case measure => omega
            case rel => exact ⟨i + 1, m + 1, A6, c6, st', hs', all ++ [r], rfl, by go_num, by omega, by omega, by omega, by rw [NX.out, WY.out]; exact L6.out, by rw [NX.out]; exact HLI.out, by rw [NX.out]; exact BE.out.mono (by omega), SE.out, QE.out⟩
          · have WY := Lib.hid (WN.out.trans (by rw [if_neg (by simpa using hbk), List.append_nil]))
            go_wp2_with fail
            go_roundg (n - (i + 1))
            case measure => omega
            case rel => exact ⟨i + 1, m, Aw, cw, st', hs', all ++ [r], rfl, by go_num, by omega, by omega, by omega, by rw [NX.out, WY.out]; exact L5.out, by rw [NX.out]; exact HLI.out, by rw [NX.out]; exact BE.out.mono (by omega), SE.out, QE.out⟩
    · obtain rfl : i = n := by omega
      have i1 : ¬ (i : Int) < (i : Int) := by omega
      obtain ⟨K, hK⟩ : ∃ K, nb (q + 1) i = K := ⟨_, rfl⟩
      have HKE := Lib.hid hK
      rw [hK] at LL II BB
      clear hK
      have hKb := BB.out.num
      have HNU := Lib.hid (number_x wv bl p K LL.out.lg)
      go_wp2_with fail
      refine HNU.out.mono ?_
      rintro e w3 ⟨rfl, hw3⟩
      have L3 := Lib.hid (hw3 ▸ LL.out)
      clear hw3
      by_cases hbk : (K : Int) < below
      · have HWANT := Lib.hid (show wq (q + 1) (fun n => !decide ((n : Int) < limit below K)) l i = wq (q + 1) (fun k => decide (k = K)) l i from wq_congr i (fun j hj => by
          have e1 : limit below K = (K : Int) := by unfold limit; omega
          have e2 : 2 + j / (q + 1) ≤ K := by
            rw [← HKE.out]; unfold nb; rw [if_neg (by omega)]
            have := Nat.div_le_div_right (c := q + 1) (show j ≤ i - 1 by omega)
            omega
          show (!decide (((2 + j / (q + 1) : Nat) : Int) < limit below K)) = decide (2 + j / (q + 1) = K)
          rw [e1]
          by_cases e3 : 2 + j / (q + 1) = K
          · rw [e3]; simp
          · rw [decide_eq_false e3, decide_eq_true (by omega)]; rfl))
        go_wp2_with fail
        have LE := Lib.hid L3.out.empty
        go_loopg [10, 14, 15, 16, 17] i (fun gg s10 s14 s15 s16 s17 wr => ∃ (j m2 : Nat) (A2 : Option Addr) (c2 : Nat), s10 = .slice A2 m2 c2 ∧ s14 = .int .i64 (nb (q + 1) j : Nat) ∧ s15 = .int .i64 j ∧ j ≤ i ∧ i - j ≤ gg ∧ m2 ≤ j ∧ Aside (LW w wr p bl K st (.slice A2 m2 c2) m2 (wq (q + 1) (fun k => decide (k = K)) l j)))
        case atStart => exact ⟨0, 0, _, _, rfl, rfl, rfl, Nat.zero_le _, by omega, Nat.le_refl _, LE.out⟩
        case round =>
          obtain ⟨j, m2, A2', c2x, rfl, rfl, rfl, hjn, hgj, hmj, LL2⟩ := hrel
          obtain ⟨wv, rfl⟩ : ∃ wv, wv = wr := ⟨wr, rfl⟩
          by_cases hltj : j < i
          · have j1 : (j : Int) < (i : Int) := by omega
            have j2 : (0 : Int) ≤ (j : Int) := by omega
            obtain ⟨r, hr⟩ := HL.out.get hltj
            obtain ⟨hnum, hid, _, _⟩ := HF.out r (List.mem_of_getElem? hr)
            unfold maxLen at hid
            obtain ⟨b, off, eA, _⟩ := rec_at (HL.out.below LL2.out.bel (Nat.le_refl _)) hr
            subst eA
            have CK := Lib.hid (show ∀ u, Below w.heap.size w u → b < u.heap.size ∧ u.cell? ⟨b, off + j * 5, none⟩ = some (.int .i64 r.sp) ∧ u.cell? ⟨b, off + j * 5 + 1, none⟩ = some (.string (tx r.id)) ∧ u.cell? ⟨b, off + j * 5 + 2, none⟩ = some (.int .i64 r.t) ∧ u.cell? ⟨b, off + j * 5 + 3, none⟩ = some (.int .u64 r.v) ∧ u.cell? ⟨b, off + j * 5 + 4, none⟩ = some (.int .u64 r.s) from fun u hu => by
              obtain ⟨b', off', e, _, h⟩ := rec_at (HL.out.below hu (Nat.le_refl _)) hr
              cases e
              exact ⟨World.block_lt_of_cell? u _ h.1, h⟩)
            have HNUM := Lib.hid (And.intro hnum (And.intro hid hr))
            have E1 := Lib.hid (fun u => encode_y u r hnum (by omega))
            unfold RetEnc at E1
            obtain ⟨X, hX'⟩ : ∃ X, encB r = X := ⟨_, rfl⟩
            obtain ⟨lx, hlx⟩ : ∃ k, X.length = k := ⟨_, rfl⟩
            obtain ⟨E, hE⟩ : ∃ E, err r = E := ⟨_, rfl⟩
            simp only [hX', hlx, hE] at E1
            have XE := Lib.hid (And.intro hX' (And.intro hlx hE))
            obtain ⟨ρ, hρe, hρm⟩ : ∃ ρ : Nat, (j : Int).tmod ((q : Int) + 1) = (ρ : Int) ∧ ρ = j % (q + 1) := ⟨j % (q + 1), by rw [show (q : Int) + 1 = ((q + 1 : Nat) : Int) by omega, ← Int.ofNat_tmod], rfl⟩
            have v4 : IntKind.i64.wrap (ρ : Int) = (ρ : Int) := IntWalk.i64_in _ (by have := Nat.mod_le j (q + 1); omega)
            have NX := Lib.hid (nb_next (q + 1) j)
            obtain ⟨M, hM⟩ : ∃ M, nb (q + 1) j = M := ⟨_, rfl⟩
            have hMl : M ≤ 2 + j := by
              rw [← hM]; unfold nb; split
              · omega
              · have := Nat.div_le_self (j - 1) (q + 1); omega
            have v5 : IntKind.i64.wrap ((M : Int) + 1) = (M : Int) + 1 := IntWalk.i64_in _ (by omega)
            have HME := Lib.hid hM
            simp only [hM]
            clear hX' hlx hE hr hnum hM
            obtain ⟨hlb, c0, c1, c2', c3, c4⟩ := CK.out wv LL2.out.bel
            have E5 := Lib.hid (E1.out wv)
            obtain ⟨J, hJ⟩ : ∃ J, 2 + j / (q + 1) = J := ⟨_, rfl⟩
            rw [hJ] at NX
            have HJE := Lib.hid hJ
            rcases Nat.eq_zero_or_pos ρ with hρ | hρ
            · have hMJ : (M : Int) + 1 = (J : Int) := by rw [← hJ, ← HME.out]; have := nb_yes (k := q + 1) (i := j) (by omega) (by omega) (by omega); omega
              clear hρm hJ
              subst hρ
              go_wp2_with fail
              refine E5.out.mono ?_
              rintro e w4 ⟨A1, x1, rfl, _, hb4, _⟩
              have L4 := Lib.hid (LL2.out.quiet hb4)
              clear hb4 E5 c0 c1 c2' c3 c4 hlb
              obtain ⟨hlb, c0, c1, c2', c3, c4⟩ := CK.out w4 L4.out.bel
              by_cases hE0 : E = 0
              · have hwn := wq_ok (k := q + 1) (q := fun k => decide (k = K)) HNUM.out.2.2 (XE.out.2.2.trans hE0)
                rw [HJE.out] at hwn
                subst hE0
                have HNU := Lib.hid (number_x w4 bl p K L4.out.lg)
                have WN := Lib.hid hwn
                clear hwn
                go_wp2_with fail
                refine HNU.out.mono ?_
                rintro e w6 ⟨rfl, rfl⟩
                by_cases hbk2 : J = K
                · have WY := Lib.hid (WN.out.trans (by rw [if_pos (decide_eq_true hbk2)]))
                  have hbk3 : ((J : Int) == (K : Int)) = true := by rw [hbk2]; simp
                  clear hbk2
                  go_wp2_with (at_builtin; refine append_w rfl (.tmp 113) (.tmp 118) rfl _ m2 (wq (q + 1) (fun k => decide (k = K)) l j) rfl ((L4.out.quiet ((Below.refl _ _).alloc (Nat.le_refl _) _)).ow) (w6.heap.size + 1) (some ⟨w6.heap.size, 0, none⟩) 1 1 (fun e => by cases e) [r] (by rfl) (ls_new (E := RE) (w := w6) 36 r) (by omega) ?_; intro A7 c7 w7 hown7 hg7 hat7; have L7 := Lib.hid ((L4.out.quiet ((Below.refl _ _).alloc (Nat.le_refl _) _)).app hg7 hown7 hat7); clear hg7 hown7 hat7 c0 c1 c2' c3 c4 hlb)
                  go_roundg (i - (j + 1))
                  case measure => omega
                  case rel => exact ⟨j + 1, m2 + 1, A7, c7, rfl, by rw [NX.out], by go_num, by omega, by omega, by omega, by rw [WY.out]; exact L7.out⟩
                · have WY := Lib.hid (WN.out.trans (by rw [if_neg (by simpa using hbk2), List.append_nil]))
                  have hbk3 : ((J : Int) == (K : Int)) = false := by simp; omega
                  go_wp2_with fail
                  go_roundg (i - (j + 1))
                  case measure => omega
                  case rel => exact ⟨j + 1, m2, A2', c2x, rfl, by rw [NX.out], by go_num, by omega, by omega, by omega, by rw [WY.out]; exact L4.out⟩
              · have hwn := wq_no (k := q + 1) (q := fun k => decide (k = K)) HNUM.out.2.2 (by rw [XE.out.2.2]; exact hE0)
                have hE1 : (E == 0) = false := by simpa using hE0
                have WN := Lib.hid hwn
                clear hwn
                go_wp2_with fail
                go_roundg (i - (j + 1))
                case measure => omega
                case rel => exact ⟨j + 1, m2, A2', c2x, rfl, by rw [NX.out], by go_num, by omega, by omega, by omega, by rw [WN.out]; exact L4.out⟩
            · have hρ1 : ((ρ : Int) == 0) = false := by simp; omega
              have hMJ : M = J := by rw [← hJ, ← HME.out]; exact nb_no (k := q + 1) (i := j) (by omega) (by omega) (by omega)
              clear hρm hJ
              subst hMJ
              go_wp2_with fail
              refine E5.out.mono ?_
              rintro e w4 ⟨A1, x1, rfl, _, hb4, _⟩
              have L4 := Lib.hid (LL2.out.quiet hb4)
              clear hb4 E5 c0 c1 c2' c3 c4 hlb
              obtain ⟨hlb, c0, c1, c2', c3, c4⟩ := CK.out w4 L4.out.bel
              by_cases hE0 : E = 0
              · have hwn := wq_ok (k := q + 1) (q := fun k => decide (k = K)) HNUM.out.2.2 (XE.out.2.2.trans hE0)
                rw [HJE.out] at hwn
                subst hE0
                have HNU := Lib.hid (number_x w4 bl p K L4.out.lg)
                have WN := Lib.hid hwn
                clear hwn
                go_wp2_with fail
                refine HNU.out.mono ?_
                rintro e w6 ⟨rfl, rfl⟩
                by_cases hbk2 : M = K
                · have WY := Lib.hid (WN.out.trans (by rw [if_pos (decide_eq_true hbk2)]))
                  have hbk3 : ((M : Int) == (K : Int)) = true := by rw [hbk2]; simp
                  clear hbk2
                  go_wp2_with (at_builtin; refine append_w rfl (.tmp 113) (.tmp 118) rfl _ m2 (wq (q + 1) (fun k => decide (k = K)) l j) rfl ((L4.out.quiet ((Below.refl _ _).alloc (Nat.le_refl _) _)).ow) (w6.heap.size + 1) (some ⟨w6.heap.size, 0, none⟩) 1 1 (fun e => by cases e) [r] (by rfl) (ls_new (E := RE) (w := w6) 36 r) (by omega) ?_; intro A7 c7 w7 hown7 hg7 hat7; have L7 := Lib.hid ((L4.out.quiet ((Below.refl _ _).alloc (Nat.le_refl _) _)).app hg7 hown7 hat7); clear hg7 hown7 hat7 c0 c1 c2' c3 c4 hlb)
                  go_roundg (i - (j + 1))
                  case measure => omega
                  case rel => exact ⟨j + 1, m2 + 1, A7, c7, rfl, by rw [NX.out], by go_num, by omega, by omega, by omega, by rw [WY.out]; exact L7.out⟩
                · have WY := Lib.hid (WN.out.trans (by rw [if_neg (by simpa using hbk2), List.append_nil]))
                  have hbk3 : ((M : Int) == (K : Int)) = false := by simp; omega
                  go_wp2_with fail
                  go_roundg (i - (j + 1))
                  case measure => omega
                  case rel => exact ⟨j + 1, m2, A2', c2x, rfl, by rw [NX.out], by go_num, by omega, by omega, by omega, by rw [WY.out]; exact L4.out⟩
              · have hwn := wq_no (k := q + 1) (q := fun k => decide (k = K)) HNUM.out.2.2 (by rw [XE.out.2.2]; exact hE0)
                have hE1 : (E == 0) = false := by simpa using hE0
                have WN := Lib.hid hwn
                clear hwn
                go_wp2_with fail
                go_roundg (i - (j + 1))
                case measure => omega
                case rel => exact ⟨j + 1, m2, A2', c2x, rfl, by rw [NX.out], by go_num, by omega, by omega, by omega, by rw [WN.out]; exact L4.out⟩
          · obtain rfl : j = i := by omega
            have j1 : ¬ (j : Int) < (j : Int) := by omega
            have HDR := Lib.hid (LL2.out.drop HLAY.out below II.out.live II.out.pend (by have := SS.out; omega) (by have := BB.out.len; omega) BB.out.o0 (by have := BB.out.o1; omega))
            have I5 := Lib.hid (II.out.drop (limit below K))
            have hparts := drop_parts II.out.live II.out.pend (dropped st.shown (limit below K))
            have hsum5 : fsum (dropSt st (dropped st.shown (limit below K))).shown ≤ 4194304 := by
              rw [I5.out.shown, hparts.1]
              have h9 := dels_sum (dropped st.shown (limit below K)) II.out.files.srt
              have := SS.out
              omega
            have hlen5 : (dropSt st (dropped st.shown (limit below K))).shown.length ≤ 65536 := by
              rw [I5.out.shown, hparts.1]
              have h9 : st.last.length ≤ 65536 := by have := BB.out.len; omega
              exact Nat.le_trans (dels_len _) h9
            have htold := I5.out.told
            rw [QQ.out, HWANT.out] at htold
            have HP5 := Lib.hid (And.intro hparts.2.1 (And.intro hsum5 (And.intro hlen5 htold)))
            obtain ⟨st5, hst5⟩ : ∃ s, dropSt st (dropped st.shown (limit below K)) = s := ⟨_, rfl⟩
            rw [hst5] at HDR HP5
            clear hparts hsum5 hlen5 htold hst5 I5
            go_wp2_with fail
            refine HDR.out.mono ?_
            rintro e w5 ⟨rfl, hl5⟩
            have HOP := Lib.hid (hl5.lx.open_ HLAY.out HP5.out.2.1 HP5.out.2.2.1)
            rw [HP5.out.2.2.2] at HOP
            have R5 := Lib.hid hl5.ow
            clear hl5 HDR
            go_wp2_with fail
            refine HOP.out.mono ?_
            rintro e w6 ⟨bl6, A6, n6, c6, rfl, hl6, ho6, hch6⟩
            obtain rfl : n6 = m2 := by rw [← ho6.1, ← R5.out.1]
            have R6 := Lib.hid (R5.out.chg hch6 (fun g hg e => e hg))
            have S1 := Lib.hid (same_r w6 w6.heap.size w6.heap.size n6 c6 c2x A6 A2' (wq (q + 1) (fun k => decide (k = K)) l j) ho6.ls R6.out.ls (Nat.le_refl _) (Nat.le_refl _) (by omega))
            have L6 := Lib.hid hl6
            clear hl6 ho6 hch6 HOP
            go_wp2_with fail
            refine S1.out.mono ?_
            rintro e w7 ⟨rfl, hb7⟩
            have L7 := Lib.hid (L6.out.quiet hb7)
            obtain ⟨F7, hF7, _⟩ := L7.out.disk
            have HPE := Lib.hid (pending_d w7 p F7 st5 hF7)
            rw [HP5.out.1] at HPE
            clear hb7 S1 hF7
            go_wp2_with fail
            refine HPE.out.mono ?_
            rintro e w8 ⟨rfl, rfl⟩
            go_wp2_with fail
            go_ret
            exact ⟨rfl, L7.out.bel⟩
      · have HWANT := Lib.hid (show wq (q + 1) (fun n => !decide ((n : Int) < limit below K)) l i = wq (q + 1) (fun k => decide (below ≤ (k : Int))) l i from wq_congr i (fun j _ => by
          have e1 : limit below K = below := by unfold limit; omega
          show (!decide (((2 + j / (q + 1) : Nat) : Int) < limit below K)) = decide (below ≤ ((2 + j / (q + 1) : Nat) : Int))
          rw [e1]
          by_cases e3 : below ≤ ((2 + j / (q + 1) : Nat) : Int)
          · rw [decide_eq_true e3, decide_eq_false (by omega)]; rfl
          · rw [decide_eq_false e3, decide_eq_true (by omega)]; rfl))
        have HDR := Lib.hid (L3.out.drop HLAY.out below II.out.live II.out.pend (by have := SS.out; omega) (by have := BB.out.len; omega) BB.out.o0 (by have := BB.out.o1; omega))
        have I5 := Lib.hid (II.out.drop (limit below K))
        have hparts := drop_parts II.out.live II.out.pend (dropped st.shown (limit below K))
        have hsum5 : fsum (dropSt st (dropped st.shown (limit below K))).shown ≤ 4194304 := by
          rw [I5.out.shown, hparts.1]
          have h9 := dels_sum (dropped st.shown (limit below K)) II.out.files.srt
          have := SS.out
          omega
        have hlen5 : (dropSt st (dropped st.shown (limit below K))).shown.length ≤ 65536 := by
          rw [I5.out.shown, hparts.1]
          have h9 : st.last.length ≤ 65536 := by have := BB.out.len; omega
          exact Nat.le_trans (dels_len _) h9
        have htold := I5.out.told
        rw [QQ.out, HWANT.out] at htold
        have HP5 := Lib.hid (And.intro hparts.2.1 (And.intro hsum5 (And.intro hlen5 htold)))
        obtain ⟨st5, hst5⟩ : ∃ s, dropSt st (dropped st.shown (limit below K)) = s := ⟨_, rfl⟩
        rw [hst5] at HDR HP5
        clear hparts hsum5 hlen5 htold hst5 I5
        go_wp2_with fail
        refine HDR.out.mono ?_
        rintro e w5 ⟨rfl, hl5⟩
        have HOP := Lib.hid (hl5.lx.open_ HLAY.out HP5.out.2.1 HP5.out.2.2.1)
        rw [HP5.out.2.2.2] at HOP
        have R5 := Lib.hid hl5.ow
        clear hl5 HDR
        go_wp2_with fail
        refine HOP.out.mono ?_
        rintro e w6 ⟨bl6, A6, n6, c6, rfl, hl6, ho6, hch6⟩
        obtain rfl : n6 = m := by rw [← ho6.1, ← R5.out.1]
        have R6 := Lib.hid (R5.out.chg hch6 (fun g hg e => e hg))
        have S1 := Lib.hid (same_r w6 w6.heap.size w6.heap.size n6 c6 cw A6 Aw (wq (q + 1) (fun k => decide (below ≤ (k : Int))) l i) ho6.ls R6.out.ls (Nat.le_refl _) (Nat.le_refl _) (by omega))
        have L6 := Lib.hid hl6
        clear hl6 ho6 hch6 HOP
        go_wp2_with fail
        refine S1.out.mono ?_
        rintro e w7 ⟨rfl, hb7⟩
        have L7 := Lib.hid (L6.out.quiet hb7)
        obtain ⟨F7, hF7, _⟩ := L7.out.disk
        have HPE := Lib.hid (pending_d w7 p F7 st5 hF7)
        rw [HP5.out.1] at HPE
        clear hb7 S1 hF7
        go_wp2_with fail
        refine HPE.out.mono ?_
        rintro e w8 ⟨rfl, rfl⟩
        go_wp2_with fail
        go_ret
        exact ⟨rfl, L7.out.bel⟩
end Go.Proofs.YtmegkemileailaaGreatDoor.lawCommitlogDrops
