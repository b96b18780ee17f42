/-
  The walk of the law BitsBack.
-/
import Derived.Test.YtnjhdifnjkcmcaaStepBits
namespace Go.Proofs.Ytnjhdifnjkcmcaa.lawBitsBack
open Go.ChangeShapes Go.WideShapes Go.ChangeAt Go.RowKit plain words bitm bitc

set_option maxHeartbeats 4000000 in
set_option maxRecDepth 100000 in
theorem walk_core (a0 : Option Addr) (n c : Nat) (st : List (Nat × Int)) (w : World) (h : StepRow w w.heap.size a0 n st) (hn' : n ≤ 4096) :
    Calls Try.prog 7 #[.slice a0 n c] w fun e w' => e = .returned (.bool true) ∧ Below w.heap.size w w' := by
  have hlen := h.len
  have HLEN := Lib.hid hlen
  clear hlen
  obtain ⟨H0, hH0⟩ : ∃ H0, w.heap.size = H0 := ⟨_, rfl⟩
  rw [hH0] at h ⊢
  have HH0 := Lib.hid hH0
  go_enter Try.func7, Try.ntmps7
  go_wp2_with fail
  refine (newwriter_x _).mono ?_
  rintro e w1 ⟨rfl, hW1, hch1, hsz1⟩
  rw [hH0] at hW1 hsz1 ⊢
  have hb1 : Below H0 w w1 := hch1.below (by omega) (fun _ h => h.elim)
  clear hch1 hH0
  go_wp2_with fail
  go_loopw [4] (fun i wr => ∃ (k : Nat) (r : Option Nat), k ≤ n ∧ i = .int .i64 k ∧ IsW wr H0 r (stb (st.take k)) ∧ (∀ g, r = some g → H0 ≤ g) ∧ Below H0 w wr) (fun i _ => n - (intOf i).toNat)
  case atStart => exact ⟨0, none, Nat.zero_le _, rfl, hW1, (fun _ h => by cases h), hb1⟩
  case round =>
    clear hW1 hb1 hsz1
    obtain ⟨k, r, hk, rfl, hW, hr, hbel⟩ := hrel
    have hszr := hbel.size
    rw [HH0.out] at hszr
    by_cases hlt : k < n
    · obtain ⟨b, off, v, z, rfl, hbB, hst, hc0, hc1, hv, hz⟩ := (h.below hbel (Nat.le_refl _)).at_ k hlt
      have i1 : (0 : Int) ≤ (k : Int) := by omega
      have i2 : (k : Int) < (n : Int) := by omega
      have hl := stb_len (st.take k)
      have hl2 : (stb (st.take k)).length ≤ 1099511627776 := by rw [List.length_take, HLEN.out] at hl; omega
      have HL2 := Lib.hid hl2
      have HST := Lib.hid (stb_next hst)
      clear hl hst hl2
      go_wp2_with fail
      go_still_tail 11, (by kernel_rfl)
      change wpList _ _ _ _ _ wr.drew
      go_wp2_with fail
      refine (put_x _ H0 r _ v z hz hW.drew HL2.out hv).mono ?_
      rintro e w2 ⟨rfl, hch, r', hW', hr'⟩
      rw [← HST.out] at hW'
      go_wp2_with fail
      go_roundw
      case rel =>
        refine ⟨k + 1, r', by omega, by go_num, hW', fun g hg => ?_, ?_⟩
        · rcases hr' with e | ⟨g', e, e2⟩
          · exact hr g (e ▸ hg)
          · rw [hg] at e; cases e; exact Nat.le_trans hszr e2
        · refine (hbel.drew).trans (hch.below hszr (fun j hj => ?_))
          rcases hj with e | e
          · omega
          · exact hr j e.symm
      case measure => simp [intOf]; omega
    · have hkn : k = n := by omega
      subst hkn
      rw [take_all (by rw [HLEN.out]; exact Nat.le_refl _)] at hW
      have hl := stb_len st
      rw [HLEN.out] at hl
      have hplt := hW.lt
      obtain ⟨M, hM⟩ : ∃ M, (stb st).length = M := ⟨_, rfl⟩
      have hby := fun w h => bytes_x w H0 r _ h (by omega : (stb st).length ≤ 1099511627776)
      obtain ⟨L, hL⟩ : ∃ L, (M + 7) / 8 = L := ⟨_, rfl⟩
      rw [hM, hL] at hby
      have hplen : (pack (stb st)).length = L := by rw [pack_len, hM, hL]
      rw [hM] at hl
      obtain ⟨F, hF⟩ : ∃ F, 8 * L - M = F := ⟨_, rfl⟩
      have hF8 : F < 8 := by omega
      have hLM : M ≤ 8 * L := by omega
      have hL40 : L ≤ 1099511627776 := by omega
      have hfin : ((M : Int) + (F : Int) == 8 * (L : Int)) = true := by simp; omega
      have HM := Lib.hid hM
      have HF := Lib.hid hF
      have HP := Lib.hid hplen
      have HW := Lib.hid hW
      have HBY := Lib.hid hby
      clear hM hL hF hplen hW hby
      go_wp2_with fail
      refine (HBY.out _ HW.out).mono ?_
      rintro e w2 ⟨A2, cap2, rfl, hown2, hb2⟩
      have hA2 : A2 = none → cap2 = 0 := fun e => by
        rcases own_form hown2 with ⟨e1, _⟩ | ⟨_, _, e1, _⟩
        · cases e1; rfl
        · cases e1; cases e
      have hbs2 := own_bs hown2
      have hoc := own_cap hown2
      clear hown2
      go_wp2_with fail
      refine (newreader_x _ _ L cap2 A2 _ hbs2 hA2 (Nat.le_refl _) hL40).mono ?_
      rintro e w3 ⟨p, r3, rfl, hR, hp3, hr3, hb3⟩
      have hb23 := below_step hb2 hb3
      have hW3 := HW.out.chg (Chg.of_below hb23) (fun e => e) (fun _ _ e => e)
      have HW3 := Lib.hid hW3
      have hrlt : ∀ g, r = some g → g < wr.heap.size := fun g hg => by subst hg; exact HW.out.row_lt
      have hsz2 := hb2.size
      have hsz3 := hb3.size
      have hpH : H0 < p := by omega
      have hrp : ∀ g, r = some g → g ≠ p := fun g hg e => by have := hrlt g hg; omega
      have hbel3 : Below H0 w w3 := hbel.trans (hb23.mono hszr)
      clear hbs2 hW3 hb2 hb3 hb23 hrlt
      go_wp2_with fail
      obtain ⟨w5, hw5⟩ : ∃ w5, w5 = w3 := ⟨_, rfl⟩
      clear hw5 w5
      go_loopw [6] (fun i wr => ∃ (j : Nat), j ≤ k ∧ i = .int .i64 j ∧ IsR wr p r3 (pack (stb st)) (stb (st.take j)).length ∧ Chg (fun b => b = p) w3 wr) (fun i _ => k - (intOf i).toNat)
      case atStart => exact ⟨0, Nat.zero_le _, rfl, hR, Chg.refl _ _⟩
      case round =>
        clear hR
        obtain ⟨j, hj, rfl, hR, hch⟩ := hrel
        have hbelq : Below H0 w wr := hbel3.trans (hch.below (Nat.le_trans hszr (Nat.le_trans hsz2 hsz3)) (fun b hb => by omega))
        have HREL := Lib.hid hR
        clear hR
        by_cases hlt : j < k
        · obtain ⟨b, off, v, z, rfl, hbB, hst, hc0, hc1, hv, hz⟩ := (h.below hbelq (Nat.le_refl _)).at_ j hlt
          have i1 : (0 : Int) ≤ (j : Int) := by omega
          have i2 : (j : Int) < (k : Int) := by omega
          have hroom := stb_room hst
          have hval := nxt_stb hst
          have hnext := stb_next hst
          obtain ⟨N, hN⟩ : ∃ N, cl z = N := ⟨_, rfl⟩
          have hNz : (N : Int) = min (max z 0) 64 := by rw [← hN]; unfold cl; omega
          have hN64 : N ≤ 64 := by omega
          rw [hN] at hroom hval hnext
          have HN := Lib.hid hN
          have HNZ := Lib.hid hNz
          have HROOM := Lib.hid hroom
          have HVAL := Lib.hid hval
          have HNEXT := Lib.hid hnext
          clear hN hNz hroom hval hnext hst
          go_upto_region 12 with (fail)
          go_cut [7] (fun x wx => x = .int .i64 (N : Int) ∧ wx = wr)
          case first =>
            have hnz := HNZ.out
            rcases (show z < 0 ∨ z = 0 ∨ (0 < z ∧ z < 64) ∨ z = 64 ∨ 64 < z from by omega) with h1 | h1 | ⟨h1, h2⟩ | h1 | h1
            all_goals
              try subst h1
              clear hnz
              go_wp2_with fail
              go_meet
              have hnz := HNZ.out
              exact ⟨by congr 1; omega, rfl⟩
          case rest =>
            obtain ⟨rfl, rfl⟩ := hcut
            have hn1 := HN.out
            have hget := get_x wc p r3 (pack (stb st)) (stb (st.take j)).length z hz HREL.out (by rw [HP.out]; exact hL40) (by rw [HP.out]; have := HROOM.out; have := HM.out; omega) (by rw [HP.out, hn1]; have := HROOM.out; have := HM.out; omega)
            rw [hn1, HVAL.out] at hget
            have HGET := Lib.hid hget
            clear hget hn1
            go_wp2_with fail
            refine HGET.out.mono ?_
            rintro e w6 ⟨rfl, hR6, hch6⟩
            have hc6 : w6.cell? ⟨b, off + j * 2, none⟩ = some (.int .u64 (v : Int)) := by
              have hlt : b < wc.heap.size := by have := hbelq.size; rw [HH0.out] at this; omega
              have : w6.heap[b]? = wc.heap[b]? := hch6.block b hlt (fun e => by omega)
              rw [← hc0]
              simp only [World.cell?, this]
            have HREL6 := Lib.hid hR6
            have hchF := hch.trans hch6 (fun _ _ h => h)
            clear hR6 hch6 hch
            have hcl : ∀ X : Nat, ((X : Int) != (X : Int)) = false := fun X => by simp
            by_cases hN1 : N < 64
            · have hN1' : (N : Int) < 64 := by omega
              have hm := mask_u64 v N hv hN1
              obtain ⟨X, hX⟩ : ∃ X, v % 2 ^ N = X := ⟨_, rfl⟩
              rw [hX] at hm
              have hXi : (v : Int) % 2 ^ N = (X : Int) := by rw [← hX]; simp
              have hne := hcl X
              clear hX hcl hv
              go_wp2_with fail
              go_roundw
              case rel => exact ⟨j + 1, by omega, by go_num, by rw [HNEXT.out, List.length_append, bitsOf_len]; exact HREL6.out, hchF⟩
              case measure => simp [intOf]; omega
            · obtain rfl : N = 64 := by omega
              have hXi : (v : Int) % 18446744073709551616 = (v : Int) := by unfold lt64 at hv; omega
              have hne := hcl v
              clear hcl hv
              go_wp2_with fail
              go_roundw
              case rel => exact ⟨j + 1, by omega, by go_num, by rw [HNEXT.out, List.length_append, bitsOf_len]; exact HREL6.out, hchF⟩
              case measure => simp [intOf]; omega
        · have hjk : j = k := by omega
          subst hjk
          have hRf := HREL.out
          rw [take_all (by rw [HLEN.out]; exact Nat.le_refl _), HM.out] at hRf
          have hleft := fun w h => left_s w p r3 _ M h (by rw [HP.out]; exact hL40) (by rw [HP.out]; exact hLM) F (by rw [HP.out]; exact HF.out)
          have HLEFT := Lib.hid hleft
          have HRF := Lib.hid hRf
          have hWf := HW3.out.chg hch (fun e => by omega) (fun g hg e => hrp g hg e)
          have HWF := Lib.hid hWf
          have hlenx := fun w h => len_x w H0 r (stb st) h
          rw [HM.out] at hlenx
          have HLENX := Lib.hid hlenx
          have j1 : (0 : Int) ≤ (F : Int) := by omega
          have j2 : (F : Int) < 8 := by omega
          clear hleft hRf hWf hlenx hch h
          go_wp2_with fail
          refine (HLEFT.out _ HRF.out).mono ?_
          rintro e w' ⟨rfl, m1, rfl⟩
          go_wp2_with fail
          refine (HLEFT.out _ (HRF.out.drewN m1)).mono ?_
          rintro e w' ⟨rfl, m2, rfl⟩
          go_wp2_with fail
          refine (HLENX.out _ (HWF.out.chg (chg_drewN (fun _ => False) _ _) (fun e => e) (fun _ _ e => e))).mono ?_
          rintro e w' ⟨rfl, rfl⟩
          go_wp2_with fail
          refine (HLEFT.out _ (HRF.out.drewN _)).mono ?_
          rintro e w' ⟨rfl, m3, rfl⟩
          go_wp2_with fail
          refine (HBY.out _ (HWF.out.chg (chg_drewN (fun _ => False) _ _) (fun e => e) (fun _ _ e => e))).mono ?_
          rintro e w' ⟨A7, cap7, rfl, hown7, hb7⟩
          go_wp2_with fail
          go_ret
          exact ⟨rfl, (hbelq.trans (words.below_drewN H0 wr (m1 + m2 + m3))).trans (hb7.mono (by have := hbelq.size; rw [HH0.out] at this; exact this))⟩

theorem walk_ok (a0 : Option Addr) (len0 cap0 : Nat) (w : World) (w0 : IsPairs .u64 .i64 w a0 len0 cap0) :
    Calls Try.prog 7 #[.slice a0 len0 cap0] w fun e w' => e = .returned (.bool true) ∧ Below w.heap.size w w' := by
  obtain ⟨st, hst, hm⟩ := w0.steps
  unfold maxLen at hm
  by_cases h1 : len0 ≤ 4096
  · exact walk_core a0 len0 cap0 st w hst h1
  · go_enter Try.func7, Try.ntmps7
    go_wp2_with fail
    go_ret
    exact ⟨rfl, Below.refl _ _⟩
end Go.Proofs.Ytnjhdifnjkcmcaa.lawBitsBack
