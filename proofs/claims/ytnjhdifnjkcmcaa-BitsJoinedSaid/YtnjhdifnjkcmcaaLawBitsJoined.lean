/-
  The walk of the law BitsJoined.
-/
import Derived.Test.YtnjhdifnjkcmcaaThree
namespace Go.Proofs.Ytnjhdifnjkcmcaa.lawBitsJoined
open Go.ChangeShapes Go.WideShapes Go.ChangeAt Go.RowKit plain words bitm bitc

set_option maxHeartbeats 8000000 in
set_option maxRecDepth 100000 in
theorem walk_core (a0 a1 : Option Addr) (n c n1 c1 : Nat) (st su : List (Nat × Int)) (w : World) (h : StepRow w w.heap.size a0 n st) (h2 : StepRow w w.heap.size a1 n1 su) (hn' : n ≤ 1024) (hn1' : n1 ≤ 1024) :
    Calls Try.prog 4 #[.slice a0 n c, .slice a1 n1 c1] w fun e w' => e = .returned (.bool true) ∧ Below w.heap.size w w' := by
  have hlen := h.len
  have HLEN := Lib.hid hlen
  have hlen2 := h2.len
  have HLEN2 := Lib.hid hlen2
  clear hlen hlen2
  obtain ⟨H0, hH0⟩ : ∃ H0, w.heap.size = H0 := ⟨_, rfl⟩
  rw [hH0] at h h2 ⊢
  have HH0 := Lib.hid hH0
  go_enter Try.func4, Try.ntmps4
  go_wp2_with fail
  refine (newwriter_x _).mono ?_
  rintro e w1 ⟨rfl, hWx, hch1, hsz1⟩
  rw [hH0] at hWx hsz1 ⊢
  have hb1 : Below H0 w w1 := hch1.below (by omega) (fun _ h => h.elim)
  clear hch1 hH0
  go_wp2_with fail
  refine (newwriter_x _).mono ?_
  rintro e w2 ⟨rfl, hWy, hch2, hsz2⟩
  rw [hsz1] at hWy hsz2 ⊢
  have hb2 : Below H0 w w2 := hb1.trans (hch2.below (by omega) (fun _ h => h.elim))
  have hWx2 := hWx.chg hch2 (fun e => e) (fun _ _ e => e)
  clear hWx hch2 hb1
  go_wp2_with fail
  refine (newwriter_x _).mono ?_
  rintro e w3 ⟨rfl, hWz, hch3, hsz3⟩
  rw [hsz2] at hWz hsz3 ⊢
  have hb3 : Below H0 w w3 := hb2.trans (hch3.below (by omega) (fun _ h => h.elim))
  have hW3 : W3 w3 (H0 + 3) H0 none [] (H0 + 1) none [] (H0 + 1 + 1) none [] :=
    ⟨hWx2.chg hch3 (fun e => e) (fun _ _ e => e), hWy.chg hch3 (fun e => e) (fun _ _ e => e), hWz, by omega, by omega, by omega, by omega, by omega, by omega, by simp, by simp, by simp, by simp, by simp, by simp⟩
  have hq3 : H0 + 3 ≤ w3.heap.size := by omega
  have HW3 := Lib.hid hW3
  clear hWx2 hWy hWz hch3 hb2 hW3
  clear hsz1 hsz2 hsz3
  go_wp2_with fail
  go_loopw [8] (fun i wr => ∃ (k : Nat) (rx rz : Option Nat), k ≤ n ∧ i = .int .i64 k ∧ W3 wr (H0 + 3) H0 rx (stb (st.take k)) (H0 + 1) none [] (H0 + 1 + 1) rz (stb (st.take k)) ∧ H0 + 3 ≤ wr.heap.size ∧ Below H0 w wr) (fun i _ => n - (intOf i).toNat)
  case atStart => exact ⟨0, none, none, Nat.zero_le _, rfl, HW3.out, hq3, hb3⟩
  case round =>
    clear HW3 hb3 hq3
    obtain ⟨k, rx, rz, hk, rfl, hW, hsz, hbel⟩ := hrel
    by_cases hlt : k < n
    · obtain ⟨b, off, v, z, rfl, hbB, hst, hw0, hw1, hv, hz⟩ := h.at_ k hlt
      have hc0 : wr.cell? ⟨b, off + k * 2, none⟩ = some (.int .u64 (v : Int)) := (hbel.cell (p := ⟨b, off + k * 2, none⟩) hbB).trans hw0
      have hc1 : wr.cell? ⟨b, off + k * 2 + 1, none⟩ = some (.int .i64 z) := (hbel.cell (p := ⟨b, off + k * 2 + 1, none⟩) hbB).trans hw1
      have i1 : (0 : Int) ≤ (k : Int) := by omega
      have i2 : (k : Int) < (n : Int) := by omega
      have hl := stb_len (st.take k)
      have hl2 : (stb (st.take k)).length ≤ 1099511627776 := by rw [List.length_take, HLEN.out] at hl; omega
      have HL2 := Lib.hid hl2
      have HST := Lib.hid (stb_next hst)
      have HW := Lib.hid hW
      have HW0 := Lib.hid hw0
      have HW1 := Lib.hid hw1
      clear hl hst hl2 hW hw0 hw1
      go_wp2_with fail
      go_still_tail 11, (by kernel_rfl)
      change wpList _ _ _ _ _ wr.drew
      go_wp2_with fail
      refine (put_x _ H0 rx _ v z hz HW.out.a.drew HL2.out hv).mono ?_
      rintro e w2 ⟨rfl, hch, rx', hW', hr'⟩
      rw [← HST.out] at hW'
      have hW2 := (HW.out.keep (chg_drewN (fun _ => False) _ 1) (fun _ e => e.elim)).put hch hW' hr' hsz
      have hbel2 : Below H0 w w2 := (hbel.drew).trans (hch.below (by show H0 ≤ wr.heap.size; omega) (fun j hj => by
        rcases hj with e | e
        · omega
        · have := HW.out.ra j e.symm; omega))
      have hsz2 : H0 + 3 ≤ w2.heap.size := Nat.le_trans hsz hch.size
      have HW2 := Lib.hid hW2
      clear hc0 hc1 hch hW' hr' hW2
      have hc0 : w2.cell? ⟨b, off + k * 2, none⟩ = some (.int .u64 (v : Int)) := (hbel2.cell (p := ⟨b, off + k * 2, none⟩) hbB).trans HW0.out
      have hc1 : w2.cell? ⟨b, off + k * 2 + 1, none⟩ = some (.int .i64 z) := (hbel2.cell (p := ⟨b, off + k * 2 + 1, none⟩) hbB).trans HW1.out
      go_wp2_with fail
      go_still_tail 11, (by kernel_rfl)
      change wpList _ _ _ _ _ w2.drew
      go_wp2_with fail
      refine (put_x _ (H0 + 1 + 1) rz _ v z hz HW2.out.c.drew HL2.out hv).mono ?_
      rintro e w4 ⟨rfl, hch, rz', hW', hr'⟩
      rw [← HST.out] at hW'
      have hW4 := ((HW2.out.swap13.keep (chg_drewN (fun _ => False) _ 1) (fun _ e => e.elim)).put hch hW' hr' hsz2).swap13
      have hbel4 : Below H0 w w4 := (hbel2.drew).trans (hch.below (by show H0 ≤ w2.heap.size; omega) (fun j hj => by
        rcases hj with e | e
        · omega
        · have := HW2.out.rc j e.symm; omega))
      have hsz4 : H0 + 3 ≤ w4.heap.size := Nat.le_trans hsz2 hch.size
      have HW4 := Lib.hid hW4
      clear hc0 hc1 hch hW' hr' hW4
      go_wp2_with fail
      go_roundw
      case rel => exact ⟨k + 1, rx', rz', by omega, by go_num, HW4.out, hsz4, hbel4⟩
      case measure => simp [intOf]; omega
    · have hkn : k = n := by omega
      subst hkn
      rw [take_all (by rw [HLEN.out]; exact Nat.le_refl _)] at hW
      have hlx := stb_len st
      rw [HLEN.out] at hlx
      have HW := Lib.hid hW
      clear hW
      go_wp2_with fail
      go_loopw [9] (fun i wr => ∃ (j : Nat) (ry rz : Option Nat), j ≤ n1 ∧ i = .int .i64 j ∧ W3 wr (H0 + 3) H0 rx (stb st) (H0 + 1) ry (stb (su.take j)) (H0 + 1 + 1) rz (stb st ++ stb (su.take j)) ∧ H0 + 3 ≤ wr.heap.size ∧ Below H0 w wr) (fun i _ => n1 - (intOf i).toNat)
      case atStart => exact ⟨0, none, rz, Nat.zero_le _, rfl, by simpa [stb_nil] using HW.out, hsz, hbel⟩
      case round =>
        clear HW hbel hsz
        obtain ⟨j, ry, rz, hj, rfl, hW, hsz, hbel⟩ := hrel
        by_cases hlt : j < n1
        · obtain ⟨b, off, v, z, rfl, hbB, hst, hw0, hw1, hv, hz⟩ := h2.at_ j hlt
          have hc0 : wr.cell? ⟨b, off + j * 2, none⟩ = some (.int .u64 (v : Int)) := (hbel.cell (p := ⟨b, off + j * 2, none⟩) hbB).trans hw0
          have hc1 : wr.cell? ⟨b, off + j * 2 + 1, none⟩ = some (.int .i64 z) := (hbel.cell (p := ⟨b, off + j * 2 + 1, none⟩) hbB).trans hw1
          have i1 : (0 : Int) ≤ (j : Int) := by omega
          have i2 : (j : Int) < (n1 : Int) := by omega
          have hl := stb_len (su.take j)
          have hl2 : (stb (su.take j)).length ≤ 1099511627776 := by rw [List.length_take, HLEN2.out] at hl; omega
          have hl3 : (stb st ++ stb (su.take j)).length ≤ 1099511627776 := by rw [List.length_take, HLEN2.out] at hl; rw [List.length_append]; omega
          have HL2 := Lib.hid hl2
          have HL3 := Lib.hid hl3
          have HST := Lib.hid (stb_next hst)
          have HW := Lib.hid hW
          have HW0 := Lib.hid hw0
          have HW1 := Lib.hid hw1
          clear hl hst hl2 hl3 hW hw0 hw1
          go_wp2_with fail
          go_still_tail 11, (by kernel_rfl)
          change wpList _ _ _ _ _ wr.drew
          go_wp2_with fail
          refine (put_x _ (H0 + 1) ry _ v z hz HW.out.b.drew HL2.out hv).mono ?_
          rintro e w2 ⟨rfl, hch, ry', hW', hr'⟩
          rw [← HST.out] at hW'
          have hW2 := ((HW.out.swap12.keep (chg_drewN (fun _ => False) _ 1) (fun _ e => e.elim)).put hch hW' hr' hsz).swap12
          have hbel2 : Below H0 w w2 := (hbel.drew).trans (hch.below (by show H0 ≤ wr.heap.size; omega) (fun j hj => by
            rcases hj with e | e
            · omega
            · have := HW.out.rb j e.symm; omega))
          have hsz2 : H0 + 3 ≤ w2.heap.size := Nat.le_trans hsz hch.size
          have HW2 := Lib.hid hW2
          clear hc0 hc1 hch hW' hr' hW2
          have hc0 : w2.cell? ⟨b, off + j * 2, none⟩ = some (.int .u64 (v : Int)) := (hbel2.cell (p := ⟨b, off + j * 2, none⟩) hbB).trans HW0.out
          have hc1 : w2.cell? ⟨b, off + j * 2 + 1, none⟩ = some (.int .i64 z) := (hbel2.cell (p := ⟨b, off + j * 2 + 1, none⟩) hbB).trans HW1.out
          go_wp2_with fail
          go_still_tail 11, (by kernel_rfl)
          change wpList _ _ _ _ _ w2.drew
          go_wp2_with fail
          refine (put_x _ (H0 + 1 + 1) rz _ v z hz HW2.out.c.drew HL3.out hv).mono ?_
          rintro e w4 ⟨rfl, hch, rz', hW', hr'⟩
          rw [List.append_assoc, ← HST.out] at hW'
          have hW4 := ((HW2.out.swap13.keep (chg_drewN (fun _ => False) _ 1) (fun _ e => e.elim)).put hch hW' hr' hsz2).swap13
          have hbel4 : Below H0 w w4 := (hbel2.drew).trans (hch.below (by show H0 ≤ w2.heap.size; omega) (fun j hj => by
            rcases hj with e | e
            · omega
            · have := HW2.out.rc j e.symm; omega))
          have hsz4 : H0 + 3 ≤ w4.heap.size := Nat.le_trans hsz2 hch.size
          have HW4 := Lib.hid hW4
          clear hc0 hc1 hch hW' hr' hW4
          go_wp2_with fail
          go_roundw
          case rel => exact ⟨j + 1, ry', rz', by omega, by go_num, HW4.out, hsz4, hbel4⟩
          case measure => simp [intOf]; omega
        · have hjn : j = n1 := by omega
          subst hjn
          rw [take_all (by rw [HLEN2.out]; exact Nat.le_refl _)] at hW
          have hly := stb_len su
          rw [HLEN2.out] at hly
          have HW := Lib.hid hW
          obtain ⟨Lx, hLx⟩ : ∃ l, stb st = l := ⟨_, rfl⟩
          obtain ⟨Ly, hLy⟩ : ∃ l, stb su = l := ⟨_, rfl⟩
          rw [hLx] at hlx hW
          rw [hLy] at hly hW
          have HLX := Lib.hid hLx
          have HLY := Lib.hid hLy
          obtain ⟨Lz, hLz⟩ : ∃ l, Lx ++ Ly = l := ⟨_, rfl⟩
          rw [hLz] at hW
          have hlz : Lz.length ≤ 1099511627776 := by rw [← hLz, List.length_append]; omega
          have hlzs : Lz.length = Lx.length + Ly.length := by rw [← hLz, List.length_append]
          have HLZ := Lib.hid hLz
          obtain ⟨Mx, hMx⟩ : ∃ m, Lx.length = m := ⟨_, rfl⟩
          obtain ⟨My, hMy⟩ : ∃ m, Ly.length = m := ⟨_, rfl⟩
          obtain ⟨Mz, hMz⟩ : ∃ m, Lz.length = m := ⟨_, rfl⟩
          rw [hMx] at hlx
          rw [hMy] at hly
          rw [hMz] at hlz
          rw [hMx, hMy, hMz] at hlzs
          have HMX := Lib.hid hMx
          have HMY := Lib.hid hMy
          have HMZ := Lib.hid hMz
          have HZS := Lib.hid hlzs
          have HW := Lib.hid hW
          clear hLx hLy hLz hMx hMy hMz hlzs hW
          have HZS1 := HZS.out
          have hz40 : Lz.length ≤ 1099511627776 := by rw [HMZ.out]; omega
          obtain ⟨Pz, hPz⟩ : ∃ m, (pack Lz).length = m := ⟨_, rfl⟩
          have hPz40 : Pz ≤ 1099511627776 := by rw [← hPz, pack_len, HMZ.out]; omega
          have HPz := Lib.hid hPz
          clear hPz
          have hx40 : Lx.length ≤ 1099511627776 := by rw [HMX.out]; omega
          obtain ⟨Px, hPx⟩ : ∃ m, (pack Lx).length = m := ⟨_, rfl⟩
          have hPx40 : Px ≤ 1099511627776 := by rw [← hPx, pack_len, HMX.out]; omega
          have HPx := Lib.hid hPx
          clear hPx
          have hy40 : Ly.length ≤ 1099511627776 := by rw [HMY.out]; omega
          obtain ⟨Py, hPy⟩ : ∃ m, (pack Ly).length = m := ⟨_, rfl⟩
          have hPy40 : Py ≤ 1099511627776 := by rw [← hPy, pack_len, HMY.out]; omega
          have HPy := Lib.hid hPy
          clear hPy
          clear HZS1
          go_wp2_with fail
          refine (bytes_a _ _ _ Lz Pz HW.out.c hz40 HPz.out).mono ?_
          rintro e w4 ⟨Az, cz, rfl, hbsz, hAz, hbz⟩
          go_wp2_with fail
          refine (newreader_x _ _ _ cz Az _ hbsz hAz (Nat.le_refl _) hPz40).mono ?_
          rintro e w5 ⟨pz, rz', rfl, hRz, hpz, hrz, hbz'⟩
          have hbbz := below_step hbz hbz'
          have hWWz := HW.out.keep (Chg.of_below hbbz) (fun _ e => e.elim)
          have HWz := Lib.hid hWWz
          have HRz := Lib.hid hRz
          have hpzz : wr.heap.size ≤ pz := Nat.le_trans hbz.size hpz
          have hrzz : ∀ g, rz' = some g → wr.heap.size ≤ g := fun g hg => Nat.le_trans hbz.size (hrz g hg)
          have hltz := hRz.lt
          have hrlz : ∀ g, rz' = some g → g < w5.heap.size := fun g hg => by subst hg; exact hRz.row_lt
          clear hbsz hAz hbz hbz' hpz hrz hWWz hRz
          go_wp2_with fail
          refine (bytes_a _ _ _ Lx Px HWz.out.a hx40 HPx.out).mono ?_
          rintro e w6 ⟨Ax, cx, rfl, hbsx, hAx, hbx⟩
          go_wp2_with fail
          refine (newreader_x _ _ _ cx Ax _ hbsx hAx (Nat.le_refl _) hPx40).mono ?_
          rintro e w7 ⟨px, rx', rfl, hRx, hpx, hrx, hbx'⟩
          have hbbx := below_step hbx hbx'
          have hWWx := HWz.out.keep (Chg.of_below hbbx) (fun _ e => e.elim)
          have HWx := Lib.hid hWWx
          have HRx := Lib.hid hRx
          have hpzx : w5.heap.size ≤ px := Nat.le_trans hbx.size hpx
          have hrzx : ∀ g, rx' = some g → w5.heap.size ≤ g := fun g hg => Nat.le_trans hbx.size (hrx g hg)
          have hltx := hRx.lt
          have hrlx : ∀ g, rx' = some g → g < w7.heap.size := fun g hg => by subst hg; exact hRx.row_lt
          clear hbsx hAx hbx hbx' hpx hrx hWWx hRx
          go_wp2_with fail
          refine (bytes_a _ _ _ Ly Py HWx.out.b hy40 HPy.out).mono ?_
          rintro e w8 ⟨Ay, cy, rfl, hbsy, hAy, hby⟩
          go_wp2_with fail
          refine (newreader_x _ _ _ cy Ay _ hbsy hAy (Nat.le_refl _) hPy40).mono ?_
          rintro e w9 ⟨py, ry', rfl, hRy, hpy, hry, hby'⟩
          have hbby := below_step hby hby'
          have hWWy := HWx.out.keep (Chg.of_below hbby) (fun _ e => e.elim)
          have HWy := Lib.hid hWWy
          have HRy := Lib.hid hRy
          have hpzy : w7.heap.size ≤ py := Nat.le_trans hby.size hpy
          have hrzy : ∀ g, ry' = some g → w7.heap.size ≤ g := fun g hg => Nat.le_trans hby.size (hry g hg)
          have hlty := hRy.lt
          have hrly : ∀ g, ry' = some g → g < w9.heap.size := fun g hg => by subst hg; exact hRy.row_lt
          clear hbsy hAy hby hby' hpy hry hWWy hRy
          go_wp2_with fail
          have hRz9 := keepR (keepR HRz.out hbbx) hbby
          have hRx9 := keepR HRx.out hbby
          have hbel9 : Below H0 w w9 := ((hbel.trans (hbbz.mono (by omega))).trans (hbbx.mono (by have := hbbz.size; omega))).trans (hbby.mono (by have := hbbz.size; have := hbbx.size; omega))
          have hs5 := hbbz.size
          have hs7 := hbbx.size
          have hs9 := hbby.size
          have HRZ9 := Lib.hid hRz9
          have HRX9 := Lib.hid hRx9
          have hbb9 : Below wr.heap.size wr w9 := below_step (below_step hbbz hbbx) hbby
          have hkeep : ∀ (S : Nat → Prop) (w' : World), (∀ b, S b → wr.heap.size ≤ b) → Chg S w9 w' → W3 w' (H0 + 3) H0 rx Lx (H0 + 1) ry Ly (H0 + 1 + 1) rz Lz := fun S w' hS hch =>
            HW.out.keep (S := fun _ => False) ((Chg.of_below hbb9).trans hch (fun i hi e => absurd (hS i e) (by omega))) (fun _ e => e.elim)
          have HKEEP := Lib.hid hkeep
          clear hkeep hbb9
          clear hRz9 hRx9 HRz HRx HWx HWz
          go_loopw [13] (fun i wr => ∃ (q : Nat), q ≤ Mx ∧ i = .int .i64 q ∧ IsR wr pz rz' (pack Lz) (q) ∧ IsR wr px rx' (pack Lx) q ∧ Chg (fun b => b = pz ∨ b = px) w9 wr) (fun i _ => Mx - (intOf i).toNat)
          case atStart => exact ⟨0, Nat.zero_le _, rfl, HRZ9.out, HRX9.out, Chg.refl _ _⟩
          case round =>
            obtain ⟨q, hq, rfl, hRz, hRo, hch⟩ := hrel
            have hWq := HKEEP.out _ wr (fun b hb => by rcases hb with e | e <;> omega) hch
            have hlenq := len_m wr H0 _ _ Mx hWq.a HMX.out
            have HWQ := Lib.hid hWq
            have HRZ := Lib.hid hRz
            have HRO := Lib.hid hRo
            clear hWq hRz hRo
            by_cases hlt : q < Mx
            · obtain ⟨X, hX⟩ : ∃ X, val ((Lx.drop q).take 1) = X := ⟨_, rfl⟩
              have hXz : val ((Lz.drop (q)).take 1) = X := by rw [← hX, ← HLZ.out]; rw [bit_left _ _ _ (by rw [HMX.out]; exact hlt)]
              have hg1 := get_one wr pz rz' Lz (q) X HRZ.out hz40 (by have := HZS.out; rw [HMZ.out]; omega) hXz
              have hg2 := fun w h => get_one w px rx' Lx q X h hx40 (by rw [HMX.out]; omega) hX
              have hsame := nat_same X
              have HG1 := Lib.hid hg1
              have HG2 := Lib.hid hg2
              clear hg1 hg2 hX hXz
              go_wp2_with fail
              refine hlenq.mono ?_
              rintro e w' ⟨rfl, rfl⟩
              clear hlenq
              go_wp2_with fail
              refine HG1.out.mono ?_
              rintro e w10 ⟨rfl, hRz', hchz⟩
              have hRo' := HRO.out.chg hchz (fun e => by omega) (fun g hg e => by have := hrzx g hg; omega)
              have HRZ' := Lib.hid hRz'
              clear hRz'
              go_wp2_with fail
              refine (HG2.out _ hRo').mono ?_
              rintro e w11 ⟨rfl, hRo'', hcho⟩
              have hRz'' := HRZ'.out.chg hcho (fun e => by omega) (fun g hg e => by have := hrlz g hg; omega)
              have hch' := (hch.trans hchz (fun _ _ e => .inl e)).trans hcho (fun _ _ e => .inr e)
              have HRZ'' := Lib.hid hRz''
              have HRO'' := Lib.hid hRo''
              clear hRz'' hRo'' hcho hchz hRo' hch
              go_wp2_with fail
              go_roundw
              case rel => exact ⟨q + 1, by omega, by go_num, HRZ''.out, HRO''.out, hch'⟩
              case measure => simp [intOf]; omega
            · have hqm : q = Mx := by omega
              subst hqm
              go_wp2_with fail
              refine hlenq.mono ?_
              rintro e w' ⟨rfl, rfl⟩
              clear hlenq
              go_wp2_with fail
              have hRy3 := HRy.out.chg hch (fun e => by omega) (fun g hg e => by have := hrzy g hg; omega)
              have hbel10 : Below H0 w wr := hbel9.trans (hch.below (by omega) (fun b hb => by omega))
              have hsz10 := hch.size
              have HRY3 := Lib.hid hRy3
              have HCH3 := Lib.hid hch
              clear hch hRy3 HRX9 HRZ9
              obtain ⟨q0, rfl⟩ : ∃ q0, q0 = q := ⟨q, rfl⟩
              obtain ⟨w10, rfl⟩ : ∃ w10, w10 = wr := ⟨wr, rfl⟩
              have HMX0 := HMX
              have HRZ0 := HRZ
              have HRY0 := HRY3
              have HZS0 := HZS
              clear HRO HRY3 HWQ
              go_loopw [18] (fun i wr => ∃ (q : Nat), q ≤ My ∧ i = .int .i64 q ∧ IsR wr pz rz' (pack Lz) (q0 + q) ∧ IsR wr py ry' (pack Ly) q ∧ Chg (fun b => b = pz ∨ b = py) w10 wr) (fun i _ => My - (intOf i).toNat)
              case atStart => exact ⟨0, Nat.zero_le _, rfl, by rw [Nat.add_zero]; exact HRZ0.out, HRY0.out, Chg.refl _ _⟩
              case round =>
                obtain ⟨q, hq, rfl, hRz, hRo, hch⟩ := hrel
                have hWq := HKEEP.out (fun b => b = pz ∨ b = px ∨ b = py) wr (fun b hb => by rcases hb with e | e | e <;> omega) ((HCH3.out.mono (S' := fun b => b = pz ∨ b = px ∨ b = py) (fun b hb => hb.elim Or.inl (fun e => Or.inr (Or.inl e)))).trans hch (fun b _ hb => hb.elim Or.inl (fun e => Or.inr (Or.inr e))))
                have hlenq := len_m wr (H0 + 1) _ _ My hWq.b HMY.out
                have HWQ := Lib.hid hWq
                have HRZ := Lib.hid hRz
                have HRO := Lib.hid hRo
                clear hWq hRz hRo
                by_cases hlt : q < My
                · obtain ⟨X, hX⟩ : ∃ X, val ((Ly.drop q).take 1) = X := ⟨_, rfl⟩
                  have hXz : val ((Lz.drop (q0 + q)).take 1) = X := by rw [← HLZ.out, ← HMX0.out, bit_right]; exact hX
                  have hg1 := get_one wr pz rz' Lz (q0 + q) X HRZ.out hz40 (by have := HZS0.out; rw [HMZ.out]; omega) hXz
                  have hg2 := fun w h => get_one w py ry' Ly q X h hy40 (by rw [HMY.out]; omega) hX
                  have hsame := nat_same X
                  have HG1 := Lib.hid hg1
                  have HG2 := Lib.hid hg2
                  clear hg1 hg2 hX hXz
                  go_wp2_with fail
                  refine hlenq.mono ?_
                  rintro e w' ⟨rfl, rfl⟩
                  clear hlenq
                  go_wp2_with fail
                  refine HG1.out.mono ?_
                  rintro e w10 ⟨rfl, hRz', hchz⟩
                  have hRo' := HRO.out.chg hchz (fun e => by omega) (fun g hg e => by have := hrzy g hg; omega)
                  have HRZ' := Lib.hid hRz'
                  clear hRz'
                  go_wp2_with fail
                  refine (HG2.out _ hRo').mono ?_
                  rintro e w11 ⟨rfl, hRo'', hcho⟩
                  have hRz'' := HRZ'.out.chg hcho (fun e => by omega) (fun g hg e => by have := hrlz g hg; omega)
                  have hch' := (hch.trans hchz (fun _ _ e => .inl e)).trans hcho (fun _ _ e => .inr e)
                  have HRZ'' := Lib.hid hRz''
                  have HRO'' := Lib.hid hRo''
                  clear hRz'' hRo'' hcho hchz hRo' hch
                  go_wp2_with fail
                  go_roundw
                  case rel => exact ⟨q + 1, by omega, by go_num, HRZ''.out, HRO''.out, hch'⟩
                  case measure => simp [intOf]; omega
                · have hqm : q = My := by omega
                  subst hqm
                  go_wp2_with fail
                  refine hlenq.mono ?_
                  rintro e w' ⟨rfl, rfl⟩
                  clear hlenq
                  go_wp2_with fail
                  have hWf := HWQ
                  have hbelf : Below H0 w wr := hbel10.trans (hch.below (by omega) (fun b hb => by rcases hb with e | e <;> omega))
                  clear HRZ HRO hch HKEEP HRZ0 HRY0 HCH3
                  go_loop [23, 24] (fun x i => ∃ (q2 W2 : Nat), q2 ≤ k ∧ i = .int .i64 q2 ∧ x = .int .i64 W2 ∧ (stb (st.take q2)).length = W2) (fun _ i => k - (intOf i).toNat)
                  case atStart => exact ⟨0, 0, Nat.zero_le _, rfl, rfl, rfl⟩
                  case round =>
                    obtain ⟨q2, W2, hq2, rfl, rfl, hw2⟩ := hrel
                    by_cases hlt : q2 < k
                    · obtain ⟨b, off, v, z, rfl, hbB, hst, hw0, hw1, hv, hz⟩ := h.at_ q2 hlt
                      have hc1 : wr.cell? ⟨b, off + q2 * 2 + 1, none⟩ = some (.int .i64 z) := (hbelf.cell (p := ⟨b, off + q2 * 2 + 1, none⟩) hbB).trans hw1
                      have i1 : (0 : Int) ≤ (q2 : Int) := by omega
                      have i2 : (q2 : Int) < (k : Int) := by omega
                      have hnext := congrArg List.length (stb_next hst)
                      rw [List.length_append, bitsOf_len, hw2] at hnext
                      have hl := stb_len (st.take q2)
                      rw [hw2] at hl
                      have hW40 : W2 ≤ 1099511627776 := by rw [List.length_take, HLEN.out] at hl; omega
                      obtain ⟨N, hN⟩ : ∃ N, cl z = N := ⟨_, rfl⟩
                      have hNz : (N : Int) = min (max z 0) 64 := by rw [← hN]; unfold cl; omega
                      rw [hN] at hnext
                      have HNEXT := Lib.hid hnext
                      clear hN hnext hst hw0 hw1 hw2 hv hl
                      rcases (show z < 0 ∧ N = 0 ∨ z = 0 ∧ N = 0 ∨ (0 < z ∧ z < 64) ∧ z = (N : Int) ∨ z = 64 ∧ N = 64 ∨ 64 < z ∧ N = 64 from by omega) with ⟨h1, h3⟩ | ⟨h1, h3⟩ | ⟨⟨h1, h2⟩, h3⟩ | ⟨h1, h3⟩ | ⟨h1, h3⟩
                      all_goals
                        try subst h1
                        subst h3
                        clear hNz
                        go_wp2_with fail
                        go_round
                        case rel => exact ⟨q2 + 1, _, by omega, by go_num, by go_num, HNEXT.out⟩
                        case measure => simp [intOf]; omega
                    · have hqk : q2 = k := by omega
                      subst hqk
                      rw [take_all (by rw [HLEN.out]; exact Nat.le_refl _), HLX.out, HMX0.out] at hw2
                      subst hw2
                      have hx := len_m wr H0 _ _ _ hWf.out.a HMX0.out
                      have hy := len_m wr (H0 + 1) _ _ _ hWf.out.b HMY.out
                      have hz := len_m wr (H0 + 1 + 1) _ _ _ hWf.out.c HMZ.out
                      have HX := Lib.hid hx
                      have HY := Lib.hid hy
                      have HZ := Lib.hid hz
                      have hfin : ((Mz : Int) == (q0 : Int) + (q : Int)) = true := by have := HZS0.out; simp; omega
                      clear hx hy hz h
                      go_wp2_with fail
                      refine HX.out.mono ?_
                      rintro e w' ⟨rfl, rfl⟩
                      go_wp2_with fail
                      refine HZ.out.mono ?_
                      rintro e w' ⟨rfl, rfl⟩
                      go_wp2_with fail
                      refine HX.out.mono ?_
                      rintro e w' ⟨rfl, rfl⟩
                      go_wp2_with fail
                      refine HY.out.mono ?_
                      rintro e w' ⟨rfl, rfl⟩
                      go_wp2_with fail
                      go_ret
                      exact ⟨rfl, hbelf⟩

set_option maxRecDepth 100000 in
theorem walk_ok (a0 : Option Addr) (len0 cap0 : Nat) (a1 : Option Addr) (len1 cap1 : Nat) (w : World) (w0 : IsPairs .u64 .i64 w a0 len0 cap0) (w1 : IsPairs .u64 .i64 w a1 len1 cap1) :
    Calls Try.prog 4 #[.slice a0 len0 cap0, .slice a1 len1 cap1] w fun e w' => e = .returned (.bool true) ∧ Below w.heap.size w w' := by
  obtain ⟨st, hst, hm⟩ := w0.steps
  obtain ⟨su, hsu, hm1⟩ := w1.steps
  unfold maxLen at hm hm1
  by_cases h1 : len0 ≤ 1024
  · by_cases h2 : len1 ≤ 1024
    · exact walk_core a0 a1 len0 cap0 len1 cap1 st su w hst hsu h1 h2
    · have h1' : ¬ (1024 : Int) < (len0 : Int) := by omega
      have h2' : (1024 : Int) < (len1 : Int) := by omega
      go_enter Try.func4, Try.ntmps4
      go_wp2_with fail
      go_ret
      exact ⟨rfl, Below.refl _ _⟩
  · have h1' : (1024 : Int) < (len0 : Int) := by omega
    go_enter Try.func4, Try.ntmps4
    go_wp2_with fail
    go_ret
    exact ⟨rfl, Below.refl _ _⟩
end Go.Proofs.Ytnjhdifnjkcmcaa.lawBitsJoined
