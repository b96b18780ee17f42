/-
  The walk of the law BloomMore.
-/
import Derived.Test.YtmnliieiiaedeaaBlmM
namespace Go.Proofs.Ytmnliieiiaedeaa.lawBloomMore
open Go.ChangeShapes Go.WideShapes Go.ChangeAt Go.RowKit plain words ord mem murmur blm

theorem infoS : (Try.prog.info? 9).map (fun i => (i.zero, i.size, i.bytes)) = some (some (.string ByteArray.empty), 1, 16) := by kernel_rfl
theorem strv_append (a b : List ByteArray) : strv (a ++ b) = strv a ++ strv b := by simp [strv]
theorem more_byte (ss ts : List ByteArray) (h1 : ss.length ≤ 4) (h2 : (ss ++ ts).length ≤ 4) (k : Nat) (a b : UInt8) (ha : (built ss)[k]? = some a) (hb : (built (ss ++ ts))[k]? = some b) : bits .andNot .u8 (a.toNat : Int) (b.toNat : Int) = 0 := by
  refine andNot_zero a b fun m hm => ?_
  rcases Nat.lt_or_ge m 8 with h8 | h8
  · have e1 : (8 * k + m) / 8 = k := by omega
    have e2 : (8 * k + m) % 8 = m := by omega
    have := built_more ss ts (by unfold bytesOf; omega) (8 * k + m) (by unfold bit; rw [e1, e2, List.getD_eq_getElem?_getD, ha]; exact hm)
    unfold bit at this
    rw [e1, e2, List.getD_eq_getElem?_getD, hb] at this
    exact this
  · have hl := a.toNat_lt
    have h8' : 2 ^ 8 ≤ 2 ^ m := Nat.pow_le_pow_right (by omega) h8
    rw [Nat.testBit_lt_two_pow (by omega)] at hm
    cases hm
set_option maxHeartbeats 8000000 in
set_option maxRecDepth 100000 in
theorem walk_core (a0 a1 : Option Addr) (n c n1 c1 : Nat) (ss ts : List ByteArray) (w : World) (h : Strs w w.heap.size a0 n ss) (h' : Strs w w.heap.size a1 n1 ts) (hA : a0 = none → c = 0) (hA1 : a1 = none → c1 = 0) (hn : n ≤ 9223372036854775807) (hn1 : n1 ≤ 9223372036854775807) (hm : ∀ s ∈ ss, s.size ≤ maxLen) (hm' : ∀ s ∈ ts, s.size ≤ maxLen) :
    Calls Try.prog 12 #[.slice a0 n c, .slice a1 n1 c1] w fun e w' => e = .returned (.bool true) ∧ Below w.heap.size w w' := by
  have HV := Lib.hid (heavy_x w w.heap.size n c a0 ss h hn hm)
  have HV1 := Lib.hid (heavy_x w w.heap.size n1 c1 a1 ts h' hn1 hm')
  have HST := Lib.hid h
  have HST1 := Lib.hid h'
  clear h h' hm hm'
  by_cases hbig : n ≤ 16384 ∧ n1 ≤ 16384
  · obtain ⟨hb0, hb1⟩ := hbig
    by_cases h4 : 4 < n + n1
    · have i0 : (4 : Int) < (n : Int) + (n1 : Int) := by omega
      go_enter Try.func12, Try.ntmps12
      go_wp2_with (fail)
      go_ret
      exact ⟨rfl, Below.refl _ _⟩
    · have i0 : ¬ (4 : Int) < (n : Int) + (n1 : Int) := by omega
      obtain ⟨is0, hi, hz0, hz1, hz2⟩ := info_parts infoS
      go_enter Try.func12, Try.ntmps12
      go_wp2_with (fail)
      refine HV.out.mono ?_
      rintro e w' ⟨b, rfl, hb, rfl⟩
      clear HV
      cases b with
      | true =>
        go_wp2_with (fail)
        go_ret
        exact ⟨rfl, Below.refl _ _⟩
      | false =>
        obtain ⟨_, hs⟩ := hb rfl
        have HS := Lib.hid hs
        clear hb hs
        go_wp2_with (fail)
        refine HV1.out.mono ?_
        rintro e w' ⟨b, rfl, hb, rfl⟩
        clear HV1
        cases b with
        | true =>
          go_wp2_with (fail)
          go_ret
          exact ⟨rfl, Below.refl _ _⟩
        | false =>
          obtain ⟨_, hs⟩ := hb rfl
          have HS1 := Lib.hid hs
          clear hb hs
          have X := Lib.hid (build_x w w.heap.size n c a0 ss HST.out (Nat.le_refl _) (by omega) (fun s hs => by have := HS.out s hs; omega))
          go_wp2_with (fail)
          refine X.out.mono ?_
          rintro e w1 ⟨p, g, rfl, hF, hp, hg, hb2⟩
          have hs1 := hb2.size
          have F1 := Lib.hid hF
          have B1 := Lib.hid hb2
          have hlit := World.ownsRow_lit (w := w1) (base := w1.heap.size) (e := 9) (size := 1) #[] 0 (Nat.le_refl _) (by simp) rfl
          obtain ⟨N1, hN1⟩ : ∃ N1, w1.heap.size = N1 := ⟨_, rfl⟩
          obtain ⟨w2, hw2⟩ : ∃ w2, w1.alloc (.cells #[] 9) = w2 := ⟨_, rfl⟩
          have hb3 : Below w1.heap.size w1 w2 := by rw [← hw2]; exact (Below.refl _ _).alloc (Nat.le_refl _) _
          have hs2 := hb3.size
          rw [hw2, hN1] at hlit
          have HL := Lib.hid hlit
          have F2 := F1
          have B12 := Lib.hid hb3
          have HW := Lib.hid (And.intro hN1 hw2)
          have hrd : Rd w2 w.heap.size a0 (n * 1) (strv ss) := by rw [Nat.mul_one]; exact HST.out.below (B1.out.trans (hb3.mono hs1)) (Nat.le_refl _)
          have hNs : w.heap.size ≤ N1 := by omega
          have hN2 : N1 ≤ w2.heap.size := by omega
          clear hF hb2 hb3 hlit hN1 hw2 X F2
          go_wp2_with (first | (at_builtin; refine wpList_append_rd rfl (.tmp 33) (.tmp 34) 22 rfl N1 9 is0 (.string ByteArray.empty) 1 16 Try.underlying22 hi hz0 hz1 hz2 rfl (by decide) _ 0 [] rfl HL.out w.heap.size a0 n c hA (strv ss) rfl hrd (strv_one ss) (by unfold maxLen; omega) (by omega) (by omega) ?_; intro v3 w3 hown3 hg3 hnn3; simp only [Nat.zero_add, List.nil_append] at hown3; have hbw3 : Below w1.heap.size w1 w3 := own_below B12.out (by rw [HW.out.1]; exact HL.out) (by omega) hg3; have hb3 : Below N1 w1 w3 := HW.out.1 ▸ hbw3; have hs3 : N1 ≤ w3.heap.size := (by have := hb3.size; have := HW.out.1; omega); have hbx : Below w.heap.size w w3 := B1.out.trans (hb3.mono hNs); have hrd1 : Rd w3 w.heap.size a1 (n1 * 1) (strv ts) := (by rw [Nat.mul_one]; exact HST1.out.below hbx (Nat.le_refl _)); have O3 := Lib.hid hown3; have B3 := Lib.hid hb3; clear hown3 hg3 hnn3 hbw3 hb3 hbx hrd) | (at_builtin; refine wpList_append_rd rfl (.tmp 36) (.tmp 37) 22 rfl N1 9 is0 (.string ByteArray.empty) 1 16 Try.underlying22 hi hz0 hz1 hz2 rfl (by decide) _ n (strv ss) rfl O3.out w.heap.size a1 n1 c1 hA1 (strv ts) rfl hrd1 (strv_one ts) (by unfold maxLen; omega) (by omega) (by omega) ?_; intro v4 w4 hown4 hg4 hnn4; rw [← strv_append] at hown4; have HB4 := Lib.hid (own_below B3.out O3.out hs3 hg4); have HO4 := Lib.hid hown4; clear hown4 hg4 hnn4 hrd1) | (rw [HW.out.1, HW.out.2]) | (rw [HW.out.2]))
          obtain ⟨A4, c4, rfl⟩ : ∃ A c, v4 = .slice A (n + n1) c := by
            rcases own_form HO4.out with ⟨e1, e0⟩ | ⟨g, cap, e1, _⟩
            · rw [e0]; exact ⟨none, 0, e1⟩
            · exact ⟨_, cap, e1⟩
          have HRD := Lib.hid (show Strs w4 w4.heap.size A4 (n + n1) (ss ++ ts) by have := own_rd HO4.out; rwa [Nat.mul_one] at this)
          have Y := Lib.hid (build_x w4 w4.heap.size (n + n1) c4 A4 (ss ++ ts) HRD.out (Nat.le_refl _) (by omega) (fun s hs => by rcases List.mem_append.1 hs with hs | hs; (have := HS.out s hs; omega); (have := HS1.out s hs; omega)))
          have hb4 : Below w1.heap.size w1 w4 := by rw [HW.out.1]; exact HB4.out
          have F4 := Lib.hid (F1.out.below hb4)
          have B4 := Lib.hid (B1.out.trans (hb4.mono hs1))
          have hs4 : w.heap.size ≤ w4.heap.size := by have := hb4.size; omega
          clear F1 O3 HO4 HL hb4
          refine Y.out.mono ?_
          rintro e w5 ⟨p2, g2, rfl, hG, hp2, hg2, hb5⟩
          have F5 := Lib.hid (F4.out.below hb5)
          have G5 := Lib.hid hG
          have B5 := Lib.hid (B4.out.trans (hb5.mono hs4))
          have hs5 : w.heap.size ≤ w5.heap.size := by have := hb5.size; omega
          have hl8 : (built ss).length = 8 := by rw [built_len, HST.out.len_]; unfold bytesOf; omega
          have hl8' : (built (ss ++ ts)).length = 8 := by rw [built_len, List.length_append, HST.out.len_, HST1.out.len_]; unfold bytesOf; omega
          have hmore : ∀ (k : Nat) (a b : UInt8), (built ss)[k]? = some a → (built (ss ++ ts))[k]? = some b → bits .andNot .u8 (a.toNat : Int) (b.toNat : Int) = 0 := fun k a b => more_byte ss ts (by rw [HST.out.len_]; omega) (by rw [List.length_append, HST.out.len_, HST1.out.len_]; omega) k a b
          have HMORE := Lib.hid hmore
          have HL8 := Lib.hid (And.intro hl8 hl8')
          have X1 := Lib.hid (bytes_x w5 p g (built ss) F5.out (by omega))
          rw [hl8] at X1
          clear hG hb5 Y F4 hl8 hl8' hmore HRD
          go_wp2_with (fail)
          refine X1.out.mono ?_
          rintro e w6 ⟨A6, c6, rfl, hown6, hb6⟩
          have X2 := Lib.hid (bytes_x w6 p2 g2 (built (ss ++ ts)) (G5.out.below hb6) (by rw [HL8.out.2]; omega))
          rw [HL8.out.2] at X2
          have O6 := Lib.hid hown6
          have B6 := Lib.hid (B5.out.trans (hb6.mono hs5))
          have hs6 : w.heap.size ≤ w6.heap.size := by have := hb6.size; omega
          clear hown6 hb6 X1
          go_wp2_with (fail)
          refine X2.out.mono ?_
          rintro e w7 ⟨A7, c7, rfl, hown7, hb7⟩
          have O7 := Lib.hid hown7
          have O67 := Lib.hid (own_keep O6.out hb7 (Nat.le_refl _))
          have B7 := Lib.hid (B6.out.trans (hb7.mono hs6))
          clear hown7 hb7 X2 O6
          go_wp2_with (fail)
          go_loopw [12] (fun i wr => ∃ (k : Nat), k ≤ 8 ∧ i = .int .i64 k ∧ Aside (Below w7.heap.size w7 wr)) (fun i _ => 8 - (intOf i).toNat)
          case atStart => exact ⟨0, Nat.zero_le _, rfl, Below.refl _ _⟩
          case round =>
            obtain ⟨k, hk, rfl, BR⟩ := hrel
            by_cases hlt : k < 8
            · have i1 : (k : Int) < 8 := by omega
              have i2 : (0 : Int) ≤ (k : Int) := by omega
              obtain ⟨gA, cA, e6, -, hgA, -, -⟩ := (own_form O67.out).resolve_left (fun e => by have := e.2; omega)
              obtain ⟨gB, cB, e7, -, hgB, -, -⟩ := (own_form O7.out).resolve_left (fun e => by have := e.2; omega)
              obtain ⟨rfl, rfl⟩ : A6 = some ⟨gA, 0, none⟩ ∧ c6 = cA := by injection e6 with a b c; exact ⟨a, c⟩
              obtain ⟨rfl, rfl⟩ : A7 = some ⟨gB, 0, none⟩ ∧ c7 = cB := by injection e7 with a b c; exact ⟨a, c⟩
              obtain ⟨x, hx⟩ : ∃ x, (built ss)[k]? = some x := ⟨_, List.getElem?_eq_getElem (by rw [HL8.out.1]; exact hlt)⟩
              obtain ⟨y, hy⟩ : ∃ y, (built (ss ++ ts))[k]? = some y := ⟨_, List.getElem?_eq_getElem (by rw [HL8.out.2]; exact hlt)⟩
              have c0 := O67.out.cellAt k (by omega)
              have c1 := O7.out.cellAt k (by omega)
              rw [show (u8s (built ss))[k]? = some (.int .u8 (x.toNat : Int)) from by simp only [u8s, List.getElem?_map, hx]; rfl] at c0
              rw [show (u8s (built (ss ++ ts)))[k]? = some (.int .u8 (y.toNat : Int)) from by simp only [u8s, List.getElem?_map, hy]; rfl] at c1
              have hand := HMORE.out k x y hx hy
              have hxl := x.toNat_lt
              have hyl := y.toNat_lt
              have c0 := (BR.out.cell (p := ⟨gA, k, none⟩) hgA).trans c0
              have c1 := (BR.out.cell (p := ⟨gB, k, none⟩) hgB).trans c1
              have q0 := Wb.at_ c0
              have q1 := Wb.at_ c1
              have hgA' : gA < wr.heap.size := by have := BR.out.size; omega
              have hgB' : gB < wr.heap.size := by have := BR.out.size; omega
              clear hx hy c0 c1 e6 e7
              go_wp2_with (fail)
              refine wp_region_plan [([0, 1, 2, 3, 4, 5, 6, 7, 8, 9], none)] (by kernel_rfl) (by kernel_rfl) ?_
              refine seg_end _ (by dsimp only [pick, at_]) ?_
              repeat (go_big_quiet_step (fail))
              refine wpQuiet_nil ?_
              refine NoPanic.normal ?_
              go_wp2_with (fail)
              go_roundw
              case rel => exact ⟨k + 1, by omega, by go_num, BR.out.drew⟩
              case measure => simp [intOf]; omega
            · have hk8 : k = 8 := by omega
              subst hk8
              go_wp2_with (fail)
              go_ret
              exact ⟨rfl, B7.out.trans (BR.out.mono (by have := B7.out.size; omega))⟩
  · obtain ⟨Z, hZ⟩ : ∃ Z, IntKind.i64.wrap ((n : Int) + (n1 : Int)) = Z := ⟨_, rfl⟩
    have HB := Lib.hid hbig
    clear hbig
    by_cases hz4 : 4 < Z
    · go_enter Try.func12, Try.ntmps12
      go_wp2_with (fail)
      go_ret
      exact ⟨rfl, Below.refl _ _⟩
    · go_enter Try.func12, Try.ntmps12
      go_wp2_with (fail)
      refine HV.out.mono ?_
      rintro e w' ⟨b, rfl, hb, rfl⟩
      clear HV
      cases b with
      | true =>
        go_wp2_with (fail)
        go_ret
        exact ⟨rfl, Below.refl _ _⟩
      | false =>
        have H1 := Lib.hid (hb rfl).1
        clear hb
        go_wp2_with (fail)
        refine HV1.out.mono ?_
        rintro e w' ⟨b, rfl, hb, rfl⟩
        clear HV1
        cases b with
        | true =>
          go_wp2_with (fail)
          go_ret
          exact ⟨rfl, Below.refl _ _⟩
        | false => exact absurd ⟨H1.out, (hb rfl).1⟩ HB.out
theorem walk_ok (a0 : Option Addr) (len0 cap0 : Nat) (a1 : Option Addr) (len1 cap1 : Nat) (w : World) (w0 : IsStrs w a0 len0 cap0) (w1 : IsStrs w a1 len1 cap1) :
    Calls Try.prog 12 #[.slice a0 len0 cap0, .slice a1 len1 cap1] w fun e w' => e = .returned (.bool true) ∧ Below w.heap.size w w' := by
  obtain ⟨ss, h1, h2, h3, h4, h5⟩ := w0
  obtain ⟨ts, g1, g2, g3, g4, g5⟩ := w1
  unfold maxLen at h4 g4
  exact walk_core a0 a1 len0 cap0 len1 cap1 ss ts w h1 g1 h5 g5 (by omega) (by omega) h2 g2
end Go.Proofs.Ytmnliieiiaedeaa.lawBloomMore
