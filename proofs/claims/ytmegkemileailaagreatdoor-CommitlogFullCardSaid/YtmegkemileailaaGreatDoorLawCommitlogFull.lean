/-
  The walk of the law CommitlogFull.
-/
import Derived.Test.YtmegkemileailaaGreatDoorLgC
namespace Go.Proofs.YtmegkemileailaaGreatDoor.lawCommitlogFull
open Go.ChangeShapes Go.WideShapes Go.ChangeAt Go.RowKit Go.Shelf Go.Maps Go.Sort plain words ord mem al cl uvs dk lg

set_option maxHeartbeats 8000000 in
set_option maxRecDepth 100000 in
theorem walk_ok (A : Option Addr) (n c : Nat) (rm : Int) (w : World) (hlay : LayS w) (h0 : IsLs RE FitR w A n c) (hw : (Lit.int .u8 rm).wf = true) :
    Calls Tryz.prog 3 #[.slice A n c, .int .u8 rm] w fun e w' => e = .returned (.bool true) ∧ Below w.heap.size w w' := by
  obtain ⟨l, hl, hfit, hnc, hcm, hA⟩ := h0
  have hrm := wf_u8 hw
  unfold maxLen at hcm
  clear hw
  by_cases g1 : 128 < n
  · have m1 : (128 : Int) < (n : Int) := by omega
    clear hl hfit
    go_enter Tryz.func3, Tryz.ntmps3
    go_wp2_with fail
    go_ret
    exact ⟨rfl, Below.refl _ _⟩
  have m1 : ¬ (128 : Int) < (n : Int) := by omega
  have HL := Lib.hid hl
  have HF := Lib.hid hfit
  have HLAY := Lib.hid hlay
  have HN := Lib.hid (new_d w rm)
  have hwr : IntKind.i64.wrap rm = rm := IntWalk.i64_in _ (by omega)
  clear hl hfit hlay
  go_enter Tryz.func3, Tryz.ntmps3
  go_wp2_with fail
  refine HN.out.mono ?_
  rintro e w1 ⟨p, rfl, hp, hd1, hb1⟩
  have hmax : max rm 0 = rm := by omega
  have HOP := Lib.hid (LW.first hd1 hb1 HLAY.out (by show fsum ([] : AL Nm) ≤ _; decide) (by show ([] : AL Nm).length ≤ _; decide))
  have B1 := Lib.hid hb1
  clear hd1 HN hb1
  go_wp2_with fail
  refine HOP.out.mono ?_
  rintro e w2 ⟨bl, A2, n2, c2, rfl, hlw, _⟩
  have L2 := Lib.hid (hlw.row (w' := w2.alloc (.cells #[] 36)) ((Below.refl _ _).alloc (Nat.le_refl _) _) (Ow.lit (E := RE) w2))
  clear hlw HOP
  have hI0 := LI.new rm
  have hn0 : nextN (newSt rm).shown = 1 := hI0.nextN
  rw [hn0] at L2
  have I0 := Lib.hid hI0
  have BD0 := Lib.hid (show Bd (newSt rm) [] 1 rm 0 from ⟨hmax, Int.le_refl 0, Int.le_refl 0, by show ((0 : Nat) : Int) ≤ rm; omega, Nat.le_refl _, Nat.le_refl _⟩)
  clear hI0 hn0 hmax
  go_wp2_with fail
  go_loopg [8, 9, 10, 11, 12, 13, 14] n (fun gg s8 s9 s10 s11 s12 s13 s14 wr => ∃ (i m N : Nat) (A8 : Option Addr) (c8 : Nat) (st : St) (hs : List (Nat × List Rec)) (want : List Rec), s8 = .slice A8 m c8 ∧ s9 = .int .i64 i ∧ i ≤ n ∧ n - i ≤ gg ∧ m ≤ i ∧ Aside (LW w wr p bl N st (.slice A8 m c8) m want) ∧ Aside (LI st hs N want) ∧ Aside (Bd st hs N rm i))
  case atStart => exact ⟨0, 0, 1, _, _, _, _, [], rfl, rfl, Nat.zero_le _, by omega, Nat.le_refl _, L2.out, I0.out, BD0.out⟩
  case round =>
    obtain ⟨i, m, N, A8, c8, st, hs, want, rfl, rfl, hin, hgg, hmi, LL, II, BB⟩ := hrel
    obtain ⟨wv, rfl⟩ : ∃ wv, wv = wr := ⟨wr, rfl⟩
    by_cases hlt : i < n
    · have i1 : (i : Int) < (n : Int) := by omega
      have i2 : (0 : Int) ≤ (i : Int) := by omega
      obtain ⟨r, hr⟩ := HL.out.get hlt
      obtain ⟨hnum, hid, _, _⟩ := HF.out r (List.mem_of_getElem? hr)
      unfold maxLen at hid
      obtain ⟨b, off, eA, _⟩ := rec_at (HL.out.below LL.out.bel (Nat.le_refl _)) hr
      subst eA
      have CK := Lib.hid (show ∀ u, Below w.heap.size w u → b < u.heap.size ∧ u.cell? ⟨b, off + i * 5, none⟩ = some (.int .i64 r.sp) ∧ u.cell? ⟨b, off + i * 5 + 1, none⟩ = some (.string (tx r.id)) ∧ u.cell? ⟨b, off + i * 5 + 2, none⟩ = some (.int .i64 r.t) ∧ u.cell? ⟨b, off + i * 5 + 3, none⟩ = some (.int .u64 r.v) ∧ u.cell? ⟨b, off + i * 5 + 4, none⟩ = some (.int .u64 r.s) from fun u hu => by
        obtain ⟨b', off', e, _, h⟩ := rec_at (HL.out.below hu (Nat.le_refl _)) hr
        cases e
        exact ⟨World.block_lt_of_cell? u _ h.1, h⟩)
      have HNUM := Lib.hid hnum
      have E1 := encode_y wv r hnum (by omega)
      unfold RetEnc at E1
      have hX := fun h => enc_le (good_of (r := r) h)
      obtain ⟨X, hX'⟩ : ∃ X, encB r = X := ⟨_, rfl⟩
      obtain ⟨lx, hlx⟩ : ∃ k, X.length = k := ⟨_, rfl⟩
      obtain ⟨E, hE⟩ : ∃ E, err r = E := ⟨_, rfl⟩
      rw [hX', hlx, hE] at E1
      have E1 := Lib.hid E1
      have XE := Lib.hid (And.intro hX' (And.intro hlx hE))
      have hlx0 : lx ≤ 200 := by
        rw [← hlx, ← hX']
        unfold encB
        split
        · rename_i h; exact hX h
        · simp
      have ST := Lib.hid (LI.step II.out BB.out (by omega) r hnum)
      have HWR := Lib.hid (fun (u : World) (hu : LW w u p bl N st (.slice A8 m c8) m want) => hu.write HLAY.out r hnum (by omega) (by have := BB.out.num; omega) (BB.out.small II.out.pend II.out.live (by omega) (by omega)) (fun he => BB.out.small2 II.out.pend II.out.live (by omega) (by omega) (by have := BB.out.num; omega) he) (by rw [BB.out.room]; omega) (by rw [BB.out.room]; omega))
      obtain ⟨U, hU⟩ : ∃ U, fsum st.shown = U := ⟨_, rfl⟩
      have hUr : (U : Int) ≤ rm := by rw [← hU, II.out.shown]; exact BB.out.sum
      have HU := Lib.hid hU
      clear hX' hlx hE hr hnum hX hU
      obtain ⟨hlb, c0, c1, c2', c3, c4⟩ := CK.out wv LL.out.bel
      go_wp2_with fail
      refine E1.out.mono ?_
      rintro e w3 ⟨A1, x1, rfl, own1, hb3, nil1⟩
      have L3 := Lib.hid (LL.out.quiet hb3)
      have USE := Lib.hid L3.out.used
      rw [HU.out] at USE
      clear own1 hb3 E1 c0 c1 c2' c3 c4 hlb
      go_wp2_with fail
      refine USE.out.mono ?_
      rintro e w4 ⟨rfl, rfl⟩
      have hw1 : IntKind.i64.wrap (rm - (U : Int)) = rm - (U : Int) := IntWalk.i64_in _ (by omega)
      obtain ⟨hlb, c0, c1, c2', c3, c4⟩ := CK.out w3 L3.out.bel
      have HW := Lib.hid (HWR.out w3 L3.out)
      clear USE
      rcases ST.out with ⟨he, hwq⟩ | ⟨he, hf, hwq, hli, hbd⟩ | ⟨he, hf, st', hs', hwq, hli, hbd, _⟩
      · rw [hwq, XE.out.2.2] at HW
        rw [XE.out.2.2] at he
        have hE1 : (E == 0) = false := by simpa using he
        clear hwq
        go_wp2_with fail
        refine HW.out.mono ?_
        rintro e w5 ⟨rfl, hl5⟩
        have L5 := Lib.hid hl5
        clear hl5 HW c0 c1 c2' c3 c4 hlb
        go_wp2_with fail
        go_roundg (n - (i + 1))
        case measure => omega
        case rel => exact ⟨i + 1, m, N, A8, c8, st, hs, want, rfl, by go_num, by omega, by omega, by omega, L5.out, II.out, ⟨BB.out.room, BB.out.o0, by have := BB.out.o1; omega, BB.out.sum, by have := BB.out.len; omega, by have := BB.out.num; omega⟩⟩
      · have hxe : lx = (enc r).length := by rw [← XE.out.2.1, ← XE.out.1, encB_ok he]
        rw [hwq] at HW
        rw [XE.out.2.2] at he
        rw [HU.out, ← hxe] at hf
        have hgt : rm - (U : Int) < (lx : Int) := by omega
        have HLI := Lib.hid hli
        have HBD := Lib.hid hbd
        subst he
        clear hwq hli hbd hf hxe
        go_wp2_with fail
        refine HW.out.mono ?_
        rintro e w5 ⟨rfl, hl5⟩
        have L5 := Lib.hid hl5
        clear hl5 HW c0 c1 c2' c3 c4 hlb
        go_wp2_with fail
        go_roundg (n - (i + 1))
        case measure => omega
        case rel => exact ⟨i + 1, m, N + 1, A8, c8, st, hs, want, rfl, by go_num, by omega, by omega, by omega, L5.out, HLI.out, HBD.out⟩
      · have hxe : lx = (enc r).length := by rw [← XE.out.2.1, ← XE.out.1, encB_ok he]
        rw [hwq] at HW
        rw [XE.out.2.2] at he
        rw [HU.out, ← hxe] at hf
        have hgt : ¬ rm - (U : Int) < (lx : Int) := by omega
        have HLI := Lib.hid hli
        have HBD := Lib.hid hbd
        subst he
        clear hwq hli hbd hf hxe
        go_wp2_with fail
        refine HW.out.mono ?_
        rintro e w5 ⟨rfl, hl5⟩
        have L5 := Lib.hid hl5
        clear hl5 HW c0 c1 c2' c3 c4 hlb
        obtain ⟨hlb, c0, c1, c2', c3, c4⟩ := CK.out w5 L5.out.bel
        go_wp2_with (at_builtin; refine append_w rfl (.tmp 68) (.tmp 73) rfl _ m want rfl ((L5.out.quiet ((Below.refl _ _).alloc (Nat.le_refl _) _)).ow) (w5.heap.size + 1) (some ⟨w5.heap.size, 0, none⟩) 1 1 (fun e => by cases e) [r] (by rfl) (ls_new (E := RE) (w := w5) 36 r) (by omega) ?_; intro A6 c6 w6 hown6 hg6 hat6; have L6 := Lib.hid ((L5.out.quiet ((Below.refl _ _).alloc (Nat.le_refl _) _)).app hg6 hown6 hat6))
        go_roundg (n - (i + 1))
        case measure => omega
        case rel => exact ⟨i + 1, m + 1, N, A6, c6, st', hs', want ++ [r], rfl, by go_num, by omega, by omega, by omega, L6.out, HLI.out, HBD.out⟩
    · have i1 : ¬ (i : Int) < (n : Int) := by omega
      have HOP2 := Lib.hid (LL.out.open_ HLAY.out (by rw [II.out.shown]; have := BB.out.sum; omega) (by rw [II.out.shown]; have := BB.out.len; omega))
      rw [II.out.told] at HOP2
      obtain ⟨U, hU⟩ : ∃ U, fsum st.shown = U := ⟨_, rfl⟩
      have hUr : (U : Int) ≤ rm := by rw [← hU, II.out.shown]; exact BB.out.sum
      have HU := Lib.hid hU
      clear hU
      go_wp2_with fail
      refine HOP2.out.mono ?_
      rintro e w3 ⟨bl', A3, n3, c3, rfl, hl3, _, ho3, _⟩
      obtain rfl : n3 = m := by rw [← ho3.1, ← hl3.ow.1]
      have L3 := Lib.hid hl3
      have S1 := Lib.hid (same_r w3 w3.heap.size w3.heap.size n3 c3 c8 A3 A8 want ho3.ls hl3.ow.ls (Nat.le_refl _) (Nat.le_refl _) (by omega))
      clear hl3 ho3 HOP2
      go_wp2_with fail
      refine S1.out.mono ?_
      rintro e w4 ⟨rfl, hb4⟩
      have L4 := Lib.hid (L3.out.quiet hb4)
      have USE := Lib.hid L4.out.used
      rw [HU.out] at USE
      clear hb4 S1
      go_wp2_with fail
      refine USE.out.mono ?_
      rintro e w5 ⟨rfl, rfl⟩
      go_wp2_with fail
      go_ret
      exact ⟨rfl, L4.out.bel⟩
end Go.Proofs.YtmegkemileailaaGreatDoor.lawCommitlogFull
