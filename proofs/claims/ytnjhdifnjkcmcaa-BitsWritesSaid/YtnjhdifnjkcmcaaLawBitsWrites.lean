/-
  The walk of the law BitsWrites.
-/
import Derived.Test.YtnjhdifnjkcmcaaRefBytes
namespace Go.Proofs.Ytnjhdifnjkcmcaa.lawBitsWrites
open Go.ChangeShapes Go.WideShapes Go.ChangeAt Go.RowKit plain words bitm bitc

theorem refput_l (w : World) (base : Nat) (A : Option Addr) (L c : Nat) (X : List Bool) (V : Nat) (n : Int) (hn : -9223372036854775808 ≤ n ∧ n ≤ 9223372036854775807) (h : w.ownsRow base 5 1 (.slice A L c) L (u8s (bys X))) (hX : X.length = L) (hb : base ≤ w.heap.size) (hl : L ≤ 1099511627776) (hV : lt64 V)
    (Y : List Bool) (hY : X ++ bitsOf V (cl n) = Y) (L' : Nat) (hL' : Y.length = L') (R : Option Nat) (hR : (Value.slice A L c).ownBlock = R) :
    Calls Try.prog 23 #[.slice A L c, .int .u64 (V : Int), .int .i64 n] w fun e w' =>
      ∃ A' c' R', e = .returned (.slice A' L' c') ∧ w'.ownsRow base 5 1 (.slice A' L' c') L' (u8s (bys Y)) ∧ Chg (fun k => some k = R) w w' ∧ (Value.slice A' L' c').ownBlock = R' ∧ (R' = R ∨ ∃ g, R' = some g ∧ w.heap.size ≤ g) := by
  subst hY hL' hR
  refine (refput_x w base A L c X V n hn h hX hb hl hV).mono ?_
  rintro e w' ⟨A', c', rfl, hown, hch, hr⟩
  have e1 : (X ++ bitsOf V (cl n)).length = L + cl n := by rw [List.length_append, bitsOf_len, hX]
  rw [e1]
  exact ⟨A', c', _, rfl, hown, hch, rfl, hr⟩

set_option maxHeartbeats 8000000 in
set_option maxRecDepth 100000 in
theorem walk_core (a0 : Option Addr) (n c : Nat) (st : List (Nat × Int)) (w : World) (h : StepRow w w.heap.size a0 n st) (hn' : n ≤ 4096) :
    Calls Try.prog 5 #[.slice a0 n c] w fun e w' => e = .returned (.bool true) ∧ Below w.heap.size w w' := by
  have hlen := h.len
  have HLEN := Lib.hid hlen
  clear hlen
  obtain ⟨H0, hH0⟩ : ∃ H0, w.heap.size = H0 := ⟨_, rfl⟩
  rw [hH0] at h ⊢
  have HH0 := Lib.hid hH0
  go_enter Try.func5, Try.ntmps5
  go_wp2_with fail
  refine (newwriter_x _).mono ?_
  rintro e w1 ⟨rfl, hWx, hch1, hsz1⟩
  rw [hH0] at hWx hsz1 ⊢
  have hb1 : Below H0 w w1 := hch1.below (by omega) (fun _ h => h.elim)
  have hown := World.ownsRow_lit (w := w1) (base := H0 + 1) (e := 5) (size := 1) #[] 0 (by omega) (by simp) rfl
  have hb2 : Below H0 w (w1.alloc (.cells #[] 5)) := hb1.alloc (by omega) _
  have hWx2 : IsW (w1.alloc (.cells #[] 5)) H0 none [] := hWx.chg ((Chg.refl (fun _ => False) _).alloc _) (fun e => e) (fun _ _ e => e)
  have hs2 : (w1.alloc (.cells #[] 5)).heap.size = H0 + 2 := by simp; omega
  rw [hsz1] at hown
  have HOWN := Lib.hid hown
  have HW := Lib.hid hWx2
  have HB2 := Lib.hid hb2
  have HS2 := Lib.hid hs2
  clear hch1 hH0 hWx hown hWx2 hb1 hb2 hs2
  go_wp2_with fail
  clear hsz1
  go_loopw [4, 5] (fun v i wr => ∃ (k L c' : Nat) (rw' R : Option Nat) (A : Option Addr), k ≤ n ∧ i = .int .i64 k ∧ v = .slice A L c' ∧ (stb (st.take k)).length = L ∧ IsW wr H0 rw' (stb (st.take k)) ∧ wr.ownsRow (H0 + 1) 5 1 (.slice A L c') L (u8s (bys (stb (st.take k)))) ∧
      (Value.slice A L c').ownBlock = R ∧ (∀ g, R = some g → H0 + 1 ≤ g) ∧ (∀ g, rw' = some g → H0 + 1 ≤ g) ∧ (∀ g, rw' = some g → R ≠ some g) ∧ H0 + 2 ≤ wr.heap.size ∧ Below H0 w wr) (fun _ i _ => n - (intOf i).toNat)
  case atStart => exact ⟨0, 0, 0, none, some (H0 + 1), _, Nat.zero_le _, rfl, rfl, rfl, HW.out, HOWN.out, rfl, (fun g hg => by cases hg; omega), (fun _ h => by cases h), (fun _ h => by cases h), by rw [HS2.out]; exact Nat.le_refl _, HB2.out⟩
  case round =>
    clear HW HOWN HB2 HS2
    obtain ⟨k, L, c', rw', R, A, hk, rfl, rfl, hLe, hW, hown, hR, hRg, hrg, hne, hsz, hbel⟩ := hrel
    by_cases hlt : k < n
    · obtain ⟨b, off, v, z, rfl, hbB, hst, hw0, hw1, hv, hz⟩ := h.at_ k hlt
      have hc0 : wr.cell? ⟨b, off + k * 2, none⟩ = some (.int .u64 (v : Int)) := (hbel.cell (p := ⟨b, off + k * 2, none⟩) hbB).trans hw0
      have hc1 : wr.cell? ⟨b, off + k * 2 + 1, none⟩ = some (.int .i64 z) := (hbel.cell (p := ⟨b, off + k * 2 + 1, none⟩) hbB).trans hw1
      have i1 : (0 : Int) ≤ (k : Int) := by omega
      have i2 : (k : Int) < (n : Int) := by omega
      have hl := stb_len (st.take k)
      have hl2 : (stb (st.take k)).length ≤ 1099511627776 := by rw [List.length_take, HLEN.out] at hl; omega
      have hL40 : L ≤ 1099511627776 := by omega
      obtain ⟨L2, hL2⟩ : ∃ L2, (stb (st.take (k + 1))).length = L2 := ⟨_, rfl⟩
      have HL2' := Lib.hid hL2
      have HL2 := Lib.hid hl2
      have HST := Lib.hid (stb_next hst)
      have HW := Lib.hid hW
      have HOWN := Lib.hid hown
      have HW0 := Lib.hid hw0
      have HW1 := Lib.hid hw1
      have HLE := Lib.hid hLe
      have HRE := Lib.hid hR
      clear hl hst hl2 hW hw0 hw1 hown hL2 hLe hR
      go_wp2_with fail
      go_still_tail 11, (by kernel_rfl)
      change wpList _ _ _ _ _ wr.drew
      go_wp2_with fail
      refine (put_x _ H0 rw' _ v z hz HW.out.drew HL2.out hv).mono ?_
      rintro e w2 ⟨rfl, hch, rw2, hW', hr'⟩
      rw [← HST.out] at hW'
      have hown2 := own_chg (w := wr.drew) (HOWN.out : wr.drew.ownsRow _ _ _ _ _ _) hch (fun g hg e => by
        rw [HRE.out] at hg
        rcases e with e | e
        · have := hRg g hg; omega
        · exact hne g e.symm hg)
      have hbel2 : Below H0 w w2 := (hbel.drew).trans (hch.below (by show H0 ≤ wr.heap.size; omega) (fun j hj => by
        rcases hj with e | e
        · omega
        · have := hrg j e.symm; omega))
      have hsz2 : H0 + 2 ≤ w2.heap.size := Nat.le_trans hsz hch.size
      have hRlt : ∀ g, R = some g → g < wr.heap.size := fun g hg => (HOWN.out.lt g (HRE.out.trans hg)).2
      have hrg2 : ∀ g, rw2 = some g → H0 + 1 ≤ g := fun g hg => by
        rcases hr' with e | ⟨g', e, e2⟩
        · exact hrg g (e ▸ hg)
        · rw [hg] at e; cases e; have : wr.heap.size ≤ g := e2; omega
      have hne2 : ∀ g, rw2 = some g → R ≠ some g := fun g hg e0 => by
        rcases hr' with e | ⟨g', e, e2⟩
        · exact hne g (e ▸ hg) e0
        · rw [hg] at e; cases e; have : wr.heap.size ≤ g := e2; have := hRlt g e0; omega
      have HW2 := Lib.hid hW'
      have HOWN2 := Lib.hid hown2
      clear hc0 hc1 hch hW' hr' hown2 hne hrg hRlt
      have hc0 : w2.cell? ⟨b, off + k * 2, none⟩ = some (.int .u64 (v : Int)) := (hbel2.cell (p := ⟨b, off + k * 2, none⟩) hbB).trans HW0.out
      have hc1 : w2.cell? ⟨b, off + k * 2 + 1, none⟩ = some (.int .i64 z) := (hbel2.cell (p := ⟨b, off + k * 2 + 1, none⟩) hbB).trans HW1.out
      go_wp2_with fail
      go_still_tail 11, (by kernel_rfl)
      change wpList _ _ _ _ _ w2.drew
      go_wp2_with fail
      refine (refput_l w2.drew (H0 + 1) A L c' _ v z hz (HOWN2.out : w2.drew.ownsRow _ _ _ _ _ _) HLE.out (by show H0 + 1 ≤ w2.heap.size; omega) hL40 hv _ HST.out.symm L2 HL2'.out R HRE.out).mono ?_
      rintro e w4 ⟨A4, c4, R4, rfl, hown4, hch4, hR4, hr4⟩
      have hW4 : IsW w4 H0 rw2 (stb (st.take (k + 1))) := HW2.out.drew.chg hch4 (fun e => by have := hRg H0 e.symm; omega) (fun g hg e => hne2 g hg e.symm)
      have hbel4 : Below H0 w w4 := (hbel2.drew).trans (hch4.below (by show H0 ≤ w2.heap.size; omega) (fun j hj => by have := hRg j hj.symm; omega))
      have hsz4 : H0 + 2 ≤ w4.heap.size := Nat.le_trans hsz2 hch4.size
      have hRg4 : ∀ g, R4 = some g → H0 + 1 ≤ g := fun g hg => by
        rcases hr4 with e | ⟨g', e, e2⟩
        · exact hRg g (e ▸ hg)
        · rw [hg] at e; cases e; have : w2.heap.size ≤ g := e2; omega
      have hwlt : ∀ g, rw2 = some g → g < w2.heap.size := fun g hg => by subst hg; exact HW2.out.row_lt
      have hne4 : ∀ g, rw2 = some g → R4 ≠ some g := fun g hg e0 => by
        rcases hr4 with e | ⟨g', e, e2⟩
        · exact hne2 g hg (e ▸ e0)
        · rw [e0] at e; cases e; have : w2.heap.size ≤ g := e2; have := hwlt g hg; omega
      have hlen4 := len_m w4 H0 _ _ L2 hW4 HL2'.out
      have hsame := nat_same L2
      have HW4 := Lib.hid hW4
      have HOWN4 := Lib.hid hown4
      have HR4 := Lib.hid hR4
      clear hc0 hc1 hch4 hW4 hr4 hown4 hne2 hwlt hR4
      go_wp2_with fail
      refine hlen4.mono ?_
      rintro e w5 ⟨rfl, rfl⟩
      clear hlen4
      go_wp2_with fail
      go_roundw
      case rel => exact ⟨k + 1, L2, c4, rw2, R4, A4, by omega, by go_num, rfl, HL2'.out, HW4.out, HOWN4.out, HR4.out, hRg4, hrg2, hne4, hsz4, hbel4⟩
      case measure => simp [intOf]; omega
    · have hkn : k = n := by omega
      subst hkn
      rw [take_all (by rw [HLEN.out]; exact Nat.le_refl _)] at hLe hW hown
      have hl := stb_len st
      rw [HLEN.out, hLe] at hl
      have hL40 : L ≤ 1099511627776 := by omega
      have hbr := own_bs hown
      obtain ⟨M, hM⟩ : ∃ M, (pack (stb st)).length = M := ⟨_, rfl⟩
      have hM2 : (L + 7) / 8 = M := by rw [← hM, pack_len, hLe]
      have hkeep : ∀ w', Below wr.heap.size wr w' → IsW w' H0 rw' (stb st) ∧ Bs w' w'.heap.size A L (bys (stb st)) := fun w' hb =>
        ⟨hW.chg (Chg.of_below hb) (fun e => e) (fun _ _ e => e), (hbr.below hb (Nat.le_refl _)).more hb.size⟩
      have hxc : ∀ w', Below wr.heap.size wr w' → Calls Try.prog 20 #[.pointer (some ⟨H0, 0, none⟩)] w' (RetOwn w' (pack (stb st)) M) := fun w' hb => by
        have := bytes_x w' H0 rw' (stb st) (hkeep w' hb).1 (by rw [hLe]; exact hL40)
        rwa [hLe, hM2] at this
      have hyc : ∀ w', Below wr.heap.size wr w' → Calls Try.prog 24 #[.slice A L c'] w' (RetOwn w' (pack (stb st)) M) := fun w' hb => by
        have := refbytes_x w' A L c' (stb st) (hkeep w' hb).2 hLe hL40
        rwa [hM2] at this
      have HXC := Lib.hid hxc
      have HYC := Lib.hid hyc
      obtain ⟨Pk, hPk⟩ : ∃ Pk, pack (stb st) = Pk := ⟨_, rfl⟩
      clear hxc hyc hkeep hM hM2 hbr hW hown hLe hR hRg hrg hne h
      rw [hPk] at HXC HYC
      clear hPk
      have hb0 := Below.refl wr.heap.size wr
      go_wp2_with fail
      go_region_with (first | (go_at_call 20; refine (HXC.out _ (by first | exact hb0.drew | (have := hby; exact this))).mono ?_; rintro e w6 ⟨A6, cap6, rfl, hown6, hb6⟩; have hbx := below_step (by first | exact hb0.drew | exact hby) hb6; have hcx := conv_string (P := Try.prog) (c := cap6) (own_bs hown6) 23 9 5 Try.underlying23 Try.underlying9 Try.underlying5; try (have hcy2 := conv_string (P := Try.prog) (c := cap7) ((own_bs hown7).below hb6 (Nat.le_refl _)) 23 9 5 Try.underlying23 Try.underlying9 Try.underlying5)) | (go_at_call 24; refine (HYC.out _ (by first | exact hb0.drew | exact hbx)).mono ?_; rintro e w7 ⟨A7, cap7, rfl, hown7, hb7⟩; have hby := below_step (by first | exact hb0.drew | exact hbx) hb7; have hcy := conv_string (P := Try.prog) (c := cap7) (own_bs hown7) 23 9 5 Try.underlying23 Try.underlying9 Try.underlying5; try (have hcx2 := conv_string (P := Try.prog) (c := cap6) ((own_bs hown6).below hb7 (Nat.le_refl _)) 23 9 5 Try.underlying23 Try.underlying9 Try.underlying5)))
      all_goals
        go_wp2_with fail
        go_ret
        exact ⟨rfl, hbel.trans (hby.mono (by omega))⟩

set_option maxRecDepth 100000 in
theorem walk_ok (a0 : Option Addr) (len0 cap0 : Nat) (w : World) (w0 : IsPairs .u64 .i64 w a0 len0 cap0) :
    Calls Try.prog 5 #[.slice a0 len0 cap0] w fun e w' => e = .returned (.bool true) ∧ Below w.heap.size w w' := by
  obtain ⟨st, hst, hm⟩ := w0.steps
  unfold maxLen at hm
  by_cases h1 : len0 ≤ 4096
  · exact walk_core a0 len0 cap0 st w hst h1
  · go_enter Try.func5, Try.ntmps5
    go_wp2_with fail
    go_ret
    exact ⟨rfl, Below.refl _ _⟩
end Go.Proofs.Ytnjhdifnjkcmcaa.lawBitsWrites
