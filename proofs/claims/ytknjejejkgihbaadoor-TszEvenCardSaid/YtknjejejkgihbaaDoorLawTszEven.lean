/-
  The law TszEven: its walk.
-/
import Derived.Test.YtknjejejkgihbaaDoorTsEven
namespace Go.Proofs.YtknjejejkgihbaaDoor.lawTszEven
open Go.ChangeShapes Go.WideShapes Go.ChangeAt Go.RowKit plain words ord mem bitm uvs ts
theorem evs_pts {w : World} {H k : Nat} {v : Value} {F D V S : Int} (h : w.ownsRow H 39 3 v k (cs pE (evs F D V S k))) :
    ∃ A c, v = .slice A k c ∧ Pts w w.heap.size A k (evs F D V S k) := by
  rcases own_form h with ⟨e, e0⟩ | ⟨g, c, e, _⟩
  · subst e; subst e0; exact ⟨none, 0, rfl, ⟨rfl, own_rd h⟩⟩
  · subst e; exact ⟨some ⟨g, 0, none⟩, c, rfl, ⟨evs_len _ _ _ _ _, own_rd h⟩⟩
set_option maxHeartbeats 1000000 in
set_option maxRecDepth 100000 in
theorem walk_ok (F D V S N : Int) (w : World) (hlay : Lay w) (h0 : (Lit.int .u32 F).wf = true) (h1 : (Lit.int .u32 D).wf = true) (h2 : (Lit.int .u64 V).wf = true) (h3 : (Lit.int .u64 S).wf = true) (h4 : (Lit.int .u16 N).wf = true) :
    Calls Tryd.prog 9 #[.int .u32 F, .int .u32 D, .int .u64 V, .int .u64 S, .int .u16 N] w fun e w' => e = .returned (.bool true) ∧ Below w.heap.size w w' := by
  have hl2 := two_le hlay
  have bF : 0 ≤ F ∧ F < 4294967296 := by have := wf_u32 h0; omega
  have bD : 0 ≤ D ∧ D < 4294967296 := by have := wf_u32 h1; omega
  have bN : 0 ≤ N ∧ N < 65536 := by
    have : 0 ≤ N ∧ N ≤ 65535 := by simpa [Lit.wf, IntKind.min, IntKind.max, IntKind.signed, IntKind.bits] using h4
    omega
  have bV := wf_u64 h2
  have bS := wf_u64 h3
  clear h0 h1 h2 h3 h4
  obtain ⟨q, hq⟩ : ∃ q : Nat, N.tmod 513 = (q : Int) := ⟨(N % 513).toNat, by rw [Int.tmod_eq_emod_of_nonneg bN.1]; omega⟩
  have hq5 : q ≤ 512 := by rw [Int.tmod_eq_emod_of_nonneg bN.1] at hq; omega
  obtain ⟨m, hm⟩ : ∃ m, q + 1 = m := ⟨_, rfl⟩
  have wN : IntKind.i64.wrap N = N := IntWalk.i64_in _ (by omega)
  have wq : (q : Int) + 1 = (m : Int) := by omega
  have wm : IntKind.i64.wrap (m : Int) = (m : Int) := IntWalk.i64_in _ (by omega)
  have HLAY := Lib.hid hlay
  have HFD := Lib.hid (And.intro bF bD)
  have HVS := Lib.hid (And.intro bV bS)
  clear bF bD bN bV bS hlay
  by_cases hm5 : (512 : Int) < (m : Int)
  · go_enter Tryd.func9, Tryd.ntmps9
    go_wp2_with (fail)
    go_ret
    exact ⟨rfl, Below.refl _ _⟩
  · by_cases hD : D = 0
    · have hd1 : (D == 0) = true := by simp [hD]
      subst hD
      go_enter Tryd.func9, Tryd.ntmps9
      go_wp2_with (fail)
      go_ret
      exact ⟨rfl, Below.refl _ _⟩
    · have hd1 : (D == 0) = false := by simpa using hD
      obtain ⟨i0, hi, hz0, hz1, hz2⟩ := info_parts infoP
      have HLIT := Lib.hid (World.ownsRow_lit (w := w) (base := w.heap.size) (e := 39) (size := 3) #[] 0 (Nat.le_refl _) (by simp) rfl)
      have HB0 := Lib.hid (show Below w.heap.size w (w.alloc (.cells #[] 39)) from (Below.refl _ _).alloc (Nat.le_refl _) _)
      have HD := Lib.hid hD
      clear hD
      go_enter Tryd.func9, Tryd.ntmps9
      go_wp2_with (fail)
      go_loopg [12, 13] m (fun gg s12 s13 wr => ∃ (k : Nat) (v12 : Value), k ≤ m ∧ m - k ≤ gg ∧ s13 = .int .i64 k ∧ v12 = s12 ∧ Aside (k = 0 ∨ F + ((k : Int) - 1) * D ≤ 1099511627776) ∧ Aside (wr.ownsRow w.heap.size 39 3 v12 k (cs pE (evs F D V S k))) ∧ Aside (Below w.heap.size w wr))
      case atStart => exact ⟨0, _, Nat.zero_le _, by omega, rfl, rfl, .inl rfl, HLIT.out, HB0.out⟩
      case round =>
        clear HLIT HB0
        obtain ⟨k, v12, hk, hg, rfl, rfl, HT, OW, BW⟩ := hrel
        have hsw := BW.out.size
        by_cases hlt : k < m
        · have hltz : (k : Int) < (m : Int) := by omega
          obtain ⟨⟨f0, f1⟩, d0, d1⟩ := HFD.out
          have hkD : 0 ≤ (k : Int) * D := Int.mul_nonneg (by omega) d0
          have hkD2 : (k : Int) * D ≤ 512 * 4294967296 := by
            have := Int.mul_le_mul (show (k : Int) ≤ 512 by omega) (show D ≤ 4294967296 by omega) d0 (by omega)
            exact this
          obtain ⟨K, hK⟩ : ∃ K, (k : Int) * D = K := ⟨_, rfl⟩
          obtain ⟨T, hT⟩ : ∃ T, F + K = T := ⟨_, rfl⟩
          have wF : IntKind.i64.wrap F = F := IntWalk.i64_in _ (by omega)
          have wD : IntKind.i64.wrap D = D := IntWalk.i64_in _ (by omega)
          have wK : IntKind.i64.wrap K = K := IntWalk.i64_in _ (by omega)
          have wT : IntKind.i64.wrap T = T := IntWalk.i64_in _ (by omega)
          have hevs := Lib.hid (show evs F D V S (k + 1) = evs F D V S k ++ [(T, V, S)] by rw [evs_last, hK, hT])
          obtain ⟨N1, hN1⟩ : ∃ N1, wr.heap.size = N1 := ⟨_, rfl⟩
          obtain ⟨w1, hw1⟩ : ∃ w1, wr.alloc (.cells #[.int .i64 T, .int .u64 V, .int .u64 S] 39) = w1 := ⟨_, rfl⟩
          have hb1 : Below wr.heap.size wr w1 := by rw [← hw1]; exact (Below.refl _ _).alloc (Nat.le_refl _) _
          have hg1 : w1.heap[N1]? = some (.cells #[.int .i64 T, .int .u64 V, .int .u64 S] 39 (0, 0)) := by rw [← hw1, ← hN1]; exact alloc_new _ _
          have c0 : w1.cell? ⟨N1, 0, none⟩ = some (.int .i64 T) := by rw [cell_of_row _ _ _ _ _ _ hg1]; rfl
          have c1 : w1.cell? ⟨N1, 1, none⟩ = some (.int .u64 V) := by rw [cell_of_row _ _ _ _ _ _ hg1]; rfl
          have c2 : w1.cell? ⟨N1, 2, none⟩ = some (.int .u64 S) := by rw [cell_of_row _ _ _ _ _ _ hg1]; rfl
          have ho1 := own_keep OW.out hb1 (Nat.le_refl _)
          have hB1 := BW.out.trans (hb1.mono hsw)
          have HO1 := Lib.hid ho1
          have HB1 := Lib.hid hB1
          have HW1 := Lib.hid (And.intro hN1 hw1)
          have HTT := Lib.hid (And.intro hK hT)
          have hsz1 : w.heap.size ≤ w1.heap.size := hB1.size
          obtain ⟨w2, hw2⟩ : ∃ w2, w1.alloc (.cells #[.int .i64 T, .int .u64 V, .int .u64 S] 39) = w2 := ⟨_, rfl⟩
          have hb2 : Below w1.heap.size w1 w2 := by rw [← hw2]; exact (Below.refl _ _).alloc (Nat.le_refl _) _
          have hrd : Rd w2 (w1.heap.size + 1) (some ⟨w1.heap.size, 0, none⟩) (1 * 3) [.int .i64 T, .int .u64 V, .int .u64 S] := by rw [← hw2]; exact rd_new3 w1 T V S
          have ho2 := own_keep ho1 hb2 (Nat.le_refl _)
          have hB2 := hB1.trans (hb2.mono hsz1)
          have hsz2 : w.heap.size ≤ w2.heap.size := hB2.size
          have HTX := Lib.hid HT.out
          clear hb1 hg1 ho1 hB1 hb2 hkD hkD2 f0 f1 d0 d1
          by_cases hbig : 1099511627776 < T
          · clear hrd ho2 hB2 hw2
            go_wp2_with (fail)
            go_ret
            exact ⟨rfl, HB1.out⟩
          · go_wp2_with (at_builtin; refine wpList_append_rd rfl (.tmp 46) (.tmp 48) 22 rfl w.heap.size 39 i0 _ 3 24 Tryd.underlying22 hi hz0 hz1 hz2 rfl (by decide) v12 k (cs pE (evs F D V S k)) rfl ho2 (w1.heap.size + 1) _ 1 1 (fun e => by cases e) [.int .i64 T, .int .u64 V, .int .u64 S] rfl hrd (by intro u hu; simp at hu; rcases hu with rfl | rfl | rfl <;> rfl) (by unfold maxLen; omega) (by omega) hsz2 ?_; intro v4 w4 hown4 hg4 hnn4)
            have hown5 : w4.ownsRow w.heap.size 39 3 v4 (k + 1) (cs pE (evs F D V S (k + 1))) := by
              rw [hevs.out, cs_append, cs_one]
              exact hown4
            have HO5 := Lib.hid hown5
            have HB5 := Lib.hid (own_below hB2 ho2 hsz2 hg4)
            clear hown5 hown4 hg4 hnn4 ho2 hB2 hrd
            go_roundg (m - (k + 1))
            case measure => omega
            case rel => exact ⟨k + 1, v4, by omega, by omega, by go_num, rfl, .inr (by have := HTT.out; rw [show (((k + 1 : Nat) : Int) - 1) = (k : Int) from by omega, this.1]; omega), HO5.out, HB5.out⟩
        · have hkm : k = m := by omega
          subst hkm
          have hltz : ¬ (k : Int) < (k : Int) := by omega
          obtain ⟨A, c, rfl, hp⟩ := evs_pts OW.out
          have hDp : 0 < D := by have := HFD.out.2.1; have := HD.out; omega
          have hck := check_even D V S hDp k F HFD.out.1.1 (by omega) HT.out
          have hfit := fit_even D V S HVS.out.1 HVS.out.2 (by omega) k F HFD.out.1.1 HT.out
          have hen := enc_even D V S k F (by omega) (by omega)
          have HE := Lib.hid (encode_x wr (by omega) (HLAY.out.below BW.out hl2) wr.heap.size k c A _ hp hfit (Nat.le_refl _) (by omega))
          obtain ⟨M, hM⟩ : ∃ M, (encP (evs F D V S k)).length = M := ⟨_, rfl⟩
          rw [hM] at hen
          have HCK := Lib.hid (And.intro hck hM)
          obtain ⟨R, hR⟩ : ∃ R : Int, (3 * ((k : Int) - 1) + 67 + 7).tdiv 8 = R := ⟨_, rfl⟩
          have hR2 : (M : Int) ≤ 26 + R := by rw [← hR, Int.tdiv_eq_ediv_of_nonneg (by omega)]; omega
          have hR3 : 0 ≤ R ∧ R ≤ 1000 := by rw [← hR, Int.tdiv_eq_ediv_of_nonneg (by omega)]; omega
          have x1 : IntKind.i64.wrap ((k : Int) - 1) = (k : Int) - 1 := IntWalk.i64_in _ (by omega)
          have x2 : IntKind.i64.wrap (3 * ((k : Int) - 1)) = 3 * ((k : Int) - 1) := IntWalk.i64_in _ (by omega)
          have x3 : IntKind.i64.wrap (3 * ((k : Int) - 1) + 67) = 3 * ((k : Int) - 1) + 67 := IntWalk.i64_in _ (by omega)
          have x4 : IntKind.i64.wrap (3 * ((k : Int) - 1) + 67 + 7) = 3 * ((k : Int) - 1) + 67 + 7 := IntWalk.i64_in _ (by omega)
          have x5 : IntKind.i64.wrap R = R := IntWalk.i64_in _ (by omega)
          have x6 : IntKind.i64.wrap (26 + R) = 26 + R := IntWalk.i64_in _ (by omega)
          have x7 : (25 : Int) ≤ (M : Int) := by omega
          clear hck hp hfit hM hen
          go_wp2_with (fail)
          refine HE.out.mono ?_
          intro e w5 hr
          unfold RetEnc at hr
          rw [if_pos HCK.out.1, HCK.out.2] at hr
          obtain ⟨A5, c5, rfl, ho5, hb5⟩ := hr
          have HB5 := Lib.hid (BW.out.trans (hb5.mono hsw))
          clear ho5 hb5 HE
          go_wp2_with (fail)
          go_ret
          exact ⟨rfl, HB5.out⟩
end Go.Proofs.YtknjejejkgihbaaDoor.lawTszEven
