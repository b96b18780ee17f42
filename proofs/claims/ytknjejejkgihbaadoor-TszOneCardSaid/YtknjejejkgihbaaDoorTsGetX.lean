/-
  Reader.Get.
-/
import Derived.Test.YtknjejejkgihbaaDoorTsGet
namespace Go.Proofs.YtknjejejkgihbaaDoor.bitc
open Go.ChangeShapes Go.WideShapes Go.ChangeAt Go.RowKit plain words bitm

theorem IsR.parts {w : World} {p : Nat} {r : Option Nat} {bs : List UInt8} {k : Nat} (h : IsR w p r bs k) {L : Nat} (hL : bs.length = L) :
    ∃ A c, w.heap[p]? = some (.cells #[.slice A L c, .int .i64 (k : Int)] 100 (0, 0)) ∧ w.ownsRow 0 5 1 (.slice A L c) L (u8s bs) ∧ (Value.slice A L c).ownBlock = r ∧
      w.cell? ⟨p, 0, none⟩ = some (.slice A L c) ∧ w.cell? ⟨p, 1, none⟩ = some (.int .i64 (k : Int)) ∧ w.frozen? ⟨p, 1, none⟩ = false := by
  subst hL
  obtain ⟨v0, hp, hown, hr⟩ := h
  obtain ⟨A, c, rfl⟩ : ∃ A c, v0 = .slice A bs.length c := by
    rcases own_form hown with ⟨e, e2⟩ | ⟨g, cap, e, _⟩
    · rw [e2]; exact ⟨_, _, e⟩
    · exact ⟨_, _, e⟩
  exact ⟨A, c, hp, hown, hr, by rw [cell_of_row _ _ _ _ _ _ hp]; rfl, by rw [cell_of_row _ _ _ _ _ _ hp]; rfl, frozen_of_row _ _ _ _ _ hp⟩
/-- the reader behind the store of its place -/
theorem IsR.moved {w : World} {p : Nat} {r : Option Nat} {bs : List UInt8} {k : Nat} (h : IsR w p r bs k) (k' : Nat) (z : Int) (hz : z = (k' : Int)) : IsR (w.setCell ⟨p, 1, none⟩ (.int .i64 z)) p r bs k' := by
  subst hz
  obtain ⟨v0, hp, hown, hr⟩ := h
  refine ⟨v0, ?_, ?_, hr⟩
  · rw [heap_setCell_same _ p 1 _ _ _ hp]; simp
  · obtain ⟨h1, h2⟩ := hown
    refine ⟨h1, ?_⟩
    rcases h2 with h2 | ⟨g', cap', cur', e1, e2, e3, e4⟩
    · exact .inl h2
    · refine .inr ⟨g', cap', cur', e1, e2, (Below.heap_setCell _ ⟨p, 1, none⟩ _ g' (fun e => ?_)).trans e3, e4⟩
      simp only at e
      subst e
      rw [hp] at e3
      injection e3 with e3
      injection e3 with _ e3
      exact absurd e3 (by decide)
theorem left_s (w : World) (p : Nat) (r : Option Nat) (bs : List UInt8) (k : Nat) (h : IsR w p r bs k) (hl : bs.length ≤ 1099511627776) (hk : k ≤ 8 * bs.length) (F : Nat) (hF : 8 * bs.length - k = F) :
    Calls Tryd.prog 62 #[.pointer (some ⟨p, 0, none⟩)] w fun e w' => e = .returned (.int .i64 (F : Int)) ∧ ∃ m, w' = w.drewN m := by
  subst hF; exact left_x w p r bs k h hl hk

theorem get_no (w : World) (p : Nat) (r : Option Nat) (bs : List UInt8) (k : Nat) (n : Int) (hn : -9223372036854775808 ≤ n ∧ n ≤ 9223372036854775807) (h : IsR w p r bs k) (hl : bs.length ≤ 1099511627776) (hk : k ≤ 8 * bs.length) (hno : ¬ cl n ≤ 8 * bs.length - k) :
    Calls Tryd.prog 61 #[.pointer (some ⟨p, 0, none⟩), .int .i64 n] w fun e w' => e = .returned (.tuple #[.int .u64 0, .bool false]) ∧ ∃ m, w' = w.drewN m := by
  have hN := cl_le n
  obtain ⟨N, hNe⟩ : ∃ N, cl n = N := ⟨_, rfl⟩
  rw [hNe] at hN hno
  have hwid := width_x n w hn
  rw [hNe] at hwid
  obtain ⟨F, hF⟩ : ∃ F, 8 * bs.length - k = F := ⟨_, rfl⟩
  rw [hF] at hno
  have hleft := left_s w p r bs k h hl hk F hF
  have hlt : (F : Int) < (N : Int) := by omega
  clear hNe hF hl hk
  go_enter Tryd.func61, Tryd.ntmps61
  go_wp2_with fail
  refine hwid.mono ?_
  rintro e w' ⟨rfl, rfl⟩
  go_wp2_with fail
  refine hleft.mono ?_
  rintro e w' ⟨rfl, mm, rfl⟩
  go_wp2_with fail
  go_ret2
  exact ⟨rfl, mm, rfl⟩

theorem byte_shr (b : UInt8) (d : Nat) : IntKind.u64.wrap ((b.toNat : Int) / 2 ^ d) = ((b.toNat >>> d : Nat) : Int) := by
  have hb := b.toNat_lt
  have h1 : b.toNat / 2 ^ d ≤ b.toNat := Nat.div_le_self _ _
  have e : (b.toNat : Int) / 2 ^ d = ((b.toNat / 2 ^ d : Nat) : Int) := by simp
  rw [Nat.shiftRight_eq_div_pow, e, IntKind.wrap_u64]
  obtain ⟨y, hy⟩ : ∃ y, b.toNat / 2 ^ d = y := ⟨_, rfl⟩
  rw [hy] at h1 ⊢
  omega
theorem low_z (v k z : Nat) (hz : v % 2 ^ k = z) (w : World) (hk : k ≤ 8) :
    Calls Tryd.prog 53 #[.int .u64 (v : Int), .int .i64 k] w fun e w' => e = .returned (.int .u8 (z : Int)) ∧ w' = w := by
  subst hz; exact low_s v k w hk
theorem chg_drewN (S : Nat → Prop) (w : World) (n : Nat) : Chg S w (w.drewN n) := ⟨rfl, rfl, rfl, Nat.le_refl _, fun _ _ _ => rfl⟩
theorem IsR.drewN {w : World} {p : Nat} {r : Option Nat} {bs : List UInt8} {k : Nat} (h : IsR w p r bs k) (n : Nat) : IsR (w.drewN n) p r bs k :=
  h.chg (chg_drewN (fun _ => False) w n) (fun e => e) (fun _ _ e => e)
/-- all that one round asks of numbers -/
theorem round_facts (bs : List UInt8) (k N m s q f d : Nat) (b : UInt8) (V : Nat) (hm : m ≤ N) (hN : N ≤ 64) (hs : k + (N - m) = s) (hq : s / 8 = q) (hf : 8 - s % 8 = f) (hb : bs[q]? = some b) (hV : V = val (nxt bs k (N - m))) (hd : d ≤ m) (hdf : d ≤ f) :
    ∃ Y z V2, b.toNat >>> (f - d) = Y ∧ IntKind.u64.wrap ((b.toNat : Int) / 2 ^ (f - d)) = ((Y : Nat) : Int) ∧ Y % 2 ^ d = z ∧ (z : Int) ≤ 255 ∧ IntKind.u64.wrap (z : Int) = (z : Int) ∧ bits .or .u64 (IntKind.u64.wrap ((V : Int) * 2 ^ d)) (z : Int) = ((V2 : Nat) : Int) ∧ V2 = val (nxt bs k (N - (m - d))) := by
  have hz : (b.toNat >>> (f - d)) % 2 ^ d < 2 ^ d := Nat.mod_lt _ (Nat.two_pow_pos d)
  have hz8 : 2 ^ d ≤ 256 := by have := Nat.pow_le_pow_right (n := 2) (by omega) (show d ≤ 8 from by omega); simpa using this
  refine ⟨b.toNat >>> (f - d), (b.toNat >>> (f - d)) % 2 ^ d, V * 2 ^ d + (b.toNat >>> (f - d)) % 2 ^ d, rfl, byte_shr b (f - d), rfl, by omega, ?_, ?_, ?_⟩
  · rw [IntKind.wrap_u64]; omega
  · exact get_or V _ (N - m) d (by rw [hV]; exact nxt_val_lt _ _ _) hz (by omega)
  · subst hs
    subst hq
    rw [hV, show N - (m - d) = (N - m) + d from by omega, get_step bs k (N - m) d b hb (by omega), hf]
set_option maxHeartbeats 2000000 in
set_option maxRecDepth 100000 in
theorem get_x (w : World) (p : Nat) (r : Option Nat) (bs : List UInt8) (k : Nat) (n : Int) (hn : -9223372036854775808 ≤ n ∧ n ≤ 9223372036854775807) (h : IsR w p r bs k) (hl : bs.length ≤ 1099511627776) (hk : k ≤ 8 * bs.length) (hyes : cl n ≤ 8 * bs.length - k) :
    Calls Tryd.prog 61 #[.pointer (some ⟨p, 0, none⟩), .int .i64 n] w fun e w' =>
      e = .returned (.tuple #[.int .u64 (val (nxt bs k (cl n)) : Nat), .bool true]) ∧ IsR w' p r bs (k + cl n) ∧ Chg (fun j => j = p) w w' := by
  have hN := cl_le n
  obtain ⟨N, hNe⟩ : ∃ N, cl n = N := ⟨_, rfl⟩
  rw [hNe] at hN hyes
  have hwid := width_x n w hn
  rw [hNe] at hwid
  rw [hNe]
  obtain ⟨L, hL⟩ : ∃ L, bs.length = L := ⟨_, rfl⟩
  rw [hL] at hl hk hyes
  obtain ⟨F, hF⟩ : ∃ F, 8 * L - k = F := ⟨_, rfl⟩
  rw [hF] at hyes
  have hleft := left_s w p r bs k h (by omega) (by omega) F (by rw [hL]; exact hF)
  have hlt : ¬ (F : Int) < (N : Int) := by omega
  have hkN : k + N ≤ 8 * L := by omega
  obtain ⟨A0, c0, hp0, hown0, hr0, hc0, hc1, hfz⟩ := h.parts hL
  have HL := Lib.hid hL
  have HF := Lib.hid hF
  clear hNe hF hL hp0 hown0 hr0 hfz
  obtain ⟨T, hT⟩ : ∃ T, (k % 8 + N + 7) / 8 = T := ⟨_, rfl⟩
  have htou := touched_x k N
  rw [hT] at htou
  have HTOU := Lib.hid htou
  have HT := Lib.hid hT
  have hT9 : T ≤ 9 := by omega
  have H0 := Lib.hid h
  clear hT htou h
  go_enter Tryd.func61, Tryd.ntmps61
  go_wp2_with fail
  refine hwid.mono ?_
  rintro e w' ⟨rfl, rfl⟩
  clear hwid
  go_wp2_with fail
  refine hleft.mono ?_
  rintro e w' ⟨rfl, mm, rfl⟩
  clear hleft
  go_wp2_with fail
  refine (HTOU.out _ (by omega) (by omega)).mono ?_
  rintro e w' ⟨rfl, rfl⟩
  go_wp2_with fail
  go_loopw [1, 6, 21] (fun nn vv i wr => ∃ (m j V : Nat), nn = .int .i64 m ∧ i = .int .i64 j ∧ vv = .int .u64 (V : Int) ∧ m ≤ N ∧ j ≤ T ∧ V = val (nxt bs k (N - m)) ∧ IsR wr p r bs (k + (N - m)) ∧ Chg (fun j => j = p) w wr ∧ ((j < T ∧ ((k + (N - m)) % 8 + m + 7) / 8 = T - j) ∨ (j = T ∧ m = 0))) (fun _ _ i _ => T - (intOf i).toNat)
  case atStart =>
    refine ⟨N, 0, 0, rfl, rfl, rfl, Nat.le_refl _, Nat.zero_le _, ?_, ?_, ?_, ?_⟩
    · rw [Nat.sub_self]; rfl
    · rw [Nat.sub_self]; exact H0.out
    · exact ⟨rfl, rfl, rfl, Nat.le_refl _, fun _ _ _ => rfl⟩
    · have := HT.out
      rw [Nat.sub_self, Nat.add_zero]
      omega
  case round =>
    clear hc0 hc1
    obtain ⟨m, j, V, rfl, rfl, rfl, hm, hj, hV, hR, hchg, hst⟩ := hrel
    obtain ⟨s, hs⟩ : ∃ s, k + (N - m) = s := ⟨_, rfl⟩
    rw [hs] at hR hst
    have hs8 : s + m ≤ 8 * L := by omega
    obtain ⟨A, c, hp, hown, hrb, hc0, hc1, hfz⟩ := hR.parts HL.out
    have HR := Lib.hid hR
    have HS := Lib.hid hs
    have HV := Lib.hid hV
    have hs40 : s ≤ 8796093022208 := by omega
    have hVb : V < 2 ^ (N - m) := by rw [hV]; exact nxt_val_lt _ _ _
    have HVB := Lib.hid hVb
    have hV64 : lt64 V := by
      have := Nat.pow_le_pow_right (n := 2) (by omega) (show N - m ≤ 64 from by omega)
      unfold lt64
      exact Nat.lt_of_lt_of_le hVb (Nat.le_trans this (Nat.le_of_eq (by decide)))
    clear hs hV hVb hR hrb hp
    by_cases hjT : j < T
    · have hst' : (s % 8 + m + 7) / 8 = T - j := by omega
      have hsL : s / 8 < L := by omega
      obtain ⟨q, hq⟩ : ∃ q, s / 8 = q := ⟨_, rfl⟩
      rw [hq] at hsL
      obtain ⟨b, hb⟩ : ∃ b, bs[q]? = some b := ⟨bs[q]'(by rw [HL.out]; exact hsL), List.getElem?_eq_getElem _⟩
      obtain ⟨g, rfl, _, hgl, hLc, hcm⟩ := own_pos hown (by omega)
      have hcb := hown.cellAt q (by omega)
      rw [show (u8s bs)[q]? = some (.int .u8 (b.toNat : Int)) from by simp only [u8s, List.getElem?_map, hb]; rfl] at hcb
      have hbl := b.toNat_lt
      obtain ⟨f, hf⟩ : ∃ f, 8 - s % 8 = f := ⟨_, rfl⟩
      have hfi : (8 : Int) - (s : Int) % 8 = (f : Int) := by omega
      have hf8 : f ≤ 8 := by omega
      have hf1 : 1 ≤ f := by omega
      have hqi : (s : Int) / 8 = (q : Int) := by omega
      have hqi2 : (s : Int).tdiv 8 = (q : Int) := by rw [Int.tdiv_eq_ediv_of_nonneg (by omega)]; exact hqi
      have i1 : (0 : Int) ≤ (q : Int) := by omega
      have i2 : (q : Int) < (L : Int) := by omega
      have i4 : IntKind.i64.wrap (q : Int) = (q : Int) := IntWalk.i64_in _ (by omega)
      have HST := Lib.hid hst'
      have HF := Lib.hid hf
      have HQ := Lib.hid hq
      have HB := Lib.hid hb
      clear hf hst hst' hown hb hq
      unfold maxLen at hcm
      by_cases hmf : m < f
      · have hk1 : (m : Int) < (f : Int) := by omega
        have i6 : IntKind.i64.wrap ((f : Int) - (m : Int)) = (f : Int) - (m : Int) := IntWalk.i64_in _ (by omega)
        have i7 : (0 : Int) ≤ (f : Int) - (m : Int) := by omega
        obtain ⟨Y, z, V2, _, hYw, hz, hz255, hzw, hor, hV2⟩ := round_facts bs k N m s q f m b V hm hN HS.out HQ.out HF.out HB.out HV.out (by omega) (by omega)
        have hlow := fun w => low_z Y m z hz w (by omega)
        have HV2 := Lib.hid hV2
        have hst2 : s + m = k + (N - (m - m)) := by have := HS.out; omega
        have HST2 := Lib.hid hst2
        clear hz hV2 hst2
        go_wp2_with fail
        go_quiet (first | (go_at_call 53; exact Calls.quiet_of_same (hlow _)))
        go_wp2_with fail
        go_roundw
        case rel =>
          refine ⟨m - m, j + 1, V2, by go_num, by go_num, by go_num, by omega, by omega, HV2.out, ?_, ?_, ?_⟩
          · exact (HR.out.drewN _).moved _ _ (by have := HST2.out; omega)
          · exact (hchg.trans (chg_drewN _ _ _) (fun _ _ h => h)).setCell (fun _ => rfl) _
          · have h1 := HST.out
            have h2 := HF.out
            have h3 := HST2.out
            rw [← h3]
            exact .inr ⟨by omega, by omega⟩
        case measure => simp [intOf]; omega
      · have hk1 : ¬ (m : Int) < (f : Int) := by omega
        have i6 : IntKind.i64.wrap ((m : Int) - (f : Int)) = (m : Int) - (f : Int) := IntWalk.i64_in _ (by omega)
        have i7 : (0 : Int) ≤ (m : Int) - (f : Int) := by omega
        obtain ⟨Y, z, V2, hYe, _, hz, hz255, hzw, hor, hV2⟩ := round_facts bs k N m s q f f b V hm hN HS.out HQ.out HF.out HB.out HV.out (by omega) (by omega)
        rw [Nat.sub_self, Nat.shiftRight_zero] at hYe
        subst hYe
        have hlow := fun w => low_z b.toNat f z hz w (by omega)
        have HV2 := Lib.hid hV2
        have hst2 : s + f = k + (N - (m - f)) := by have := HS.out; omega
        have HST2 := Lib.hid hst2
        clear hz hV2 hst2
        go_wp2_with fail
        go_quiet (first | (go_at_call 53; exact Calls.quiet_of_same (hlow _)))
        go_wp2_with fail
        go_roundw
        case rel =>
          refine ⟨m - f, j + 1, V2, by go_num, by go_num, by go_num, by omega, by omega, HV2.out, ?_, ?_, ?_⟩
          · exact (HR.out.drewN _).moved _ _ (by have := HST2.out; omega)
          · exact (hchg.trans (chg_drewN _ _ _) (fun _ _ h => h)).setCell (fun _ => rfl) _
          · have h1 := HST.out
            have h2 := HF.out
            have h3 := HST2.out
            rw [← h3]
            by_cases e : m = f
            · exact .inr ⟨by omega, by omega⟩
            · exact .inl ⟨by omega, by omega⟩
        case measure => simp [intOf]; omega
    · have hm0 : m = 0 := by omega
      have hjT2 : j = T := by omega
      subst hm0
      subst hjT2
      go_wp2_with fail
      go_ret2
      have h1 := HV.out
      have h2 := HS.out
      rw [Nat.sub_zero] at h1 h2
      exact ⟨by rw [h1]; rfl, by rw [h2]; exact HR.out, hchg⟩
end Go.Proofs.YtknjejejkgihbaaDoor.bitc
