/-
  The walk of the law BloomHas.
-/
import Derived.Test.YtmnliieiiaedeaaBlmM
namespace Go.Proofs.Ytmnliieiiaedeaa.lawBloomHas
open Go.ChangeShapes Go.WideShapes Go.ChangeAt Go.RowKit plain words ord mem murmur blm

set_option maxHeartbeats 8000000 in
set_option maxRecDepth 100000 in
theorem walk_core (a0 : Option Addr) (n c : Nat) (ss : List ByteArray) (w : World) (h : Strs w w.heap.size a0 n ss) (hn : n ≤ 9223372036854775807) (hm : ∀ s ∈ ss, s.size ≤ maxLen) :
    Calls Try.prog 10 #[.slice a0 n c] w fun e w' => e = .returned (.bool true) ∧ Below w.heap.size w w' := by
  have HV := Lib.hid (heavy_x w w.heap.size n c a0 ss h hn hm)
  have HST := Lib.hid h
  clear h hm
  go_enter Try.func10, Try.ntmps10
  go_wp2_with (fail)
  refine HV.out.mono ?_
  rintro e w' ⟨b, rfl, hb, rfl⟩
  clear HV
  cases b with
  | true =>
    go_wp2_with (fail)
    go_ret
    exact ⟨rfl, Below.refl _ _⟩
  | false =>
    obtain ⟨hn2, hs⟩ := hb rfl
    have HS := Lib.hid hs
    clear hb hs
    by_cases h2048 : 2048 < n
    · have i0 : (2048 : Int) < (n : Int) := by omega
      go_wp2_with (fail)
      go_ret
      exact ⟨rfl, Below.refl _ _⟩
    · have i0 : ¬ (2048 : Int) < (n : Int) := by omega
      have X := Lib.hid (build_x w w.heap.size n c a0 ss HST.out (Nat.le_refl _) (by omega) (fun s hs => by have := HS.out s hs; omega))
      go_wp2_with (fail)
      refine X.out.mono ?_
      rintro e w1 ⟨p, g, rfl, hF, hp, hg, hb1⟩
      have hs1 := hb1.size
      have hlen : (built ss).length ≤ 4096 := by rw [built_len]; unfold bytesOf; have := HST.out.len_; omega
      have hpos : 8 ≤ (built ss).length := by rw [built_len]; unfold bytesOf; omega
      have hgl : goodLen (built ss).length = true := by
        have : (built ss).length % 2 = 0 := by rw [built_len]; unfold bytesOf; omega
        simp [goodLen, hlen, hpos, this]
      have hall : ∀ s ∈ ss, hasB (built ss) s = true := has_built ss
      obtain ⟨bs, hbs⟩ : ∃ bs, built ss = bs := ⟨_, rfl⟩
      rw [hbs] at hF hlen hpos hgl hall
      obtain ⟨L, hL⟩ : ∃ L, bs.length = L := ⟨_, rfl⟩
      rw [hL] at hlen hpos hgl
      have HL := Lib.hid hL
      have HGL := Lib.hid hgl
      have HALL := Lib.hid hall
      have HY := Lib.hid (bytes_x w1 p g bs hF (by omega))
      rw [hL] at HY
      have F1 := Lib.hid hF
      have B1 := Lib.hid hb1
      clear hF hb1 X hbs hL hgl hall
      go_wp2_with (fail)
      refine HY.out.mono ?_
      rintro e w2 ⟨A2, c2, rfl, hown2, hb2⟩
      have hA2 : A2 = none → c2 = 0 := fun e => by
        rcases own_form hown2 with ⟨e1, _⟩ | ⟨_, _, e1, _⟩
        · injection e1
        · injection e1 with e1; rw [e] at e1; cases e1
      have HP := Lib.hid (parse_x w2 w2.heap.size L c2 A2 bs (own_bs hown2) hA2 (Nat.le_refl _) HGL.out)
      have F2 := Lib.hid (F1.out.below hb2)
      have B2 := Lib.hid (B1.out.trans (hb2.mono hs1))
      clear hown2 hb2 hA2 HY F1
      go_wp2_with (fail)
      refine HP.out.mono ?_
      rintro e w3 ⟨p', g', rfl, hG, hp', hg', hb3⟩
      have F3 := Lib.hid (F2.out.below hb3)
      have G3 := Lib.hid hG
      have B3 := Lib.hid (B2.out.trans (hb3.mono B2.out.size))
      clear hG hb3 HP F2
      go_wp2_with (fail)
      go_loopw [7] (fun i wr => ∃ (k : Nat), k ≤ n ∧ i = .int .i64 k ∧ Aside (Below w3.heap.size w3 wr)) (fun i _ => n - (intOf i).toNat)
      case atStart => exact ⟨0, Nat.zero_le _, rfl, Below.refl _ _⟩
      case round =>
        obtain ⟨k, hk, rfl, BR⟩ := hrel
        by_cases hlt : k < n
        · have i1 : (k : Int) < (n : Int) := by omega
          have i2 : (0 : Int) ≤ (k : Int) := by omega
          have BW := Lib.hid (B3.out.trans (BR.out.mono B3.out.size))
          obtain ⟨b, off, s, rfl, hbB, hsk, hcs⟩ := HST.out.get hlt
          have hsz : s.size ≤ 65536 := by have := HS.out s (List.mem_of_getElem? hsk); omega
          have c0 : wr.cell? ⟨b, off + k, none⟩ = some (.string s) := (BW.out.cell (p := ⟨b, off + k, none⟩) hbB).trans hcs
          have l0 := World.block_lt_of_cell? wr _ c0
          have HX := Lib.hid (has_x wr p g bs (F3.out.below BR.out) (by rw [HL.out]; omega) (by rw [HL.out]; omega) s hsz)
          have hhb := HALL.out s (List.mem_of_getElem? hsk)
          rw [hhb] at HX
          have HHB := Lib.hid hhb
          have HCS := Lib.hid (And.intro hcs hbB)
          clear hsk hcs hhb
          go_wp2_with (fail)
          refine HX.out.mono ?_
          rintro e w4 ⟨rfl, hb4⟩
          have B4 := Lib.hid (BR.out.trans (hb4.mono BR.out.size))
          have HY := Lib.hid (has_x w4 p' g' bs (G3.out.below B4.out) (by rw [HL.out]; omega) (by rw [HL.out]; omega) s hsz)
          rw [HHB.out] at HY
          have c4 : w4.cell? ⟨b, off + k, none⟩ = some (.string s) := ((B3.out.trans (B4.out.mono B3.out.size)).cell (p := ⟨b, off + k, none⟩) HCS.out.2).trans HCS.out.1
          have l4 := World.block_lt_of_cell? w4 _ c4
          clear hb4 HX c0 l0
          go_wp2_with (fail)
          refine HY.out.mono ?_
          rintro e w5 ⟨rfl, hb5⟩
          have B5 := Lib.hid (B4.out.trans (hb5.mono B4.out.size))
          clear hb5 HY c4 l4
          go_wp2_with (fail)
          go_roundw
          case rel => exact ⟨k + 1, by omega, by go_num, B5.out⟩
          case measure => simp [intOf]; omega
        · have i1 : ¬ (k : Int) < (n : Int) := by omega
          have F4 := Lib.hid (F3.out.below BR.out)
          have G4 := Lib.hid (G3.out.below BR.out)
          have B4 := Lib.hid (B3.out.trans (BR.out.mono B3.out.size))
          obtain ⟨w4, rfl⟩ : ∃ w4, w4 = wr := ⟨wr, rfl⟩
          clear BR B3 F3 G3
          go_wp2_with (fail)
          have HB1 := Lib.hid (bytes_x w4.drew p g bs (F4.out.below (Below.refl _ _).drew) (by rw [HL.out]; omega))
          rw [HL.out] at HB1
          refine wp_region_plan [([0, 3], some (1, false)), ([2], some (4, false)), ([5, 6, 7, 8], some (9, false)), ([10, 11, 12, 13], none)] (by kernel_rfl) (by kernel_rfl) ?_
          refine seg_act _ (by dsimp only [pick, at_]) _ (by dsimp only [pick, at_]) ?_
          repeat (go_big_quiet_step (fail))
          refine wpQuiet_nil ?_
          intro K1 h1 h2
          clear h1
          go_wp2_with (fail)
          refine HB1.out.mono ?_
          rintro e w5 ⟨A5, c5, rfl, hown5, hb5⟩
          have hb5w : Below w4.heap.size w4 w5 := (Below.refl _ _).drew.trans hb5
          have q5 := own_conv hown5
          have F5 := Lib.hid (F4.out.below hb5w)
          have G5 := Lib.hid (G4.out.below hb5w)
          have B5 := Lib.hid (B4.out.trans (hb5w.mono B4.out.size))
          have HB5 := Lib.hid hb5w
          clear hown5 hb5 hb5w F4 G4 HB1
          go_wp2_with (fail)
          refine h2 _ _ HB5.out ?_
          clear h2
          have HB2 := Lib.hid (bytes_x w5 p' g' bs G5.out (by rw [HL.out]; omega))
          rw [HL.out] at HB2
          refine seg_act _ (by dsimp only [pick, at_]) _ (by dsimp only [pick, at_]) ?_
          repeat (go_big_quiet_step (fail))
          refine wpQuiet_nil ?_
          intro K1 h1 h2
          clear h1 q5
          go_wp2_with (fail)
          refine HB2.out.mono ?_
          rintro e w6 ⟨A6, c6, rfl, hown6, hb6⟩
          have q6 := own_conv hown6
          have F6 := Lib.hid (F5.out.below hb6)
          have B6 := Lib.hid (B5.out.trans (hb6.mono B5.out.size))
          have HB6 := Lib.hid hb6
          clear hown6 hb6 F5 HB2
          go_wp2_with (fail)
          refine h2 _ _ HB6.out ?_
          clear h2
          have HB3 := Lib.hid (bytes_x w6 p g bs F6.out (by rw [HL.out]; omega))
          rw [HL.out] at HB3
          refine seg_act _ (by dsimp only [pick, at_]) _ (by dsimp only [pick, at_]) ?_
          repeat (go_big_quiet_step (fail))
          refine wpQuiet_nil ?_
          intro K1 h1 h2
          clear h1 q6
          go_wp2_with (fail)
          refine HB3.out.mono ?_
          rintro e w7 ⟨A7, c7, rfl, hown7, hb7⟩
          have B7 := Lib.hid (B6.out.trans (hb7.mono B6.out.size))
          have HB7 := Lib.hid hb7
          have hL8 : (8 : Int) ≤ (L : Int) := by omega
          clear hown7 hb7 F6 HB3
          go_wp2_with (fail)
          refine h2 _ _ HB7.out ?_
          clear h2
          refine seg_end _ (by dsimp only [pick, at_]) ?_
          repeat (go_big_quiet_step (fail))
          refine wpQuiet_nil ?_
          refine NoPanic.normal ?_
          go_wp2_with (fail)
          go_ret
          exact ⟨rfl, B7.out⟩
theorem walk_ok (a0 : Option Addr) (len0 cap0 : Nat) (w : World) (w0 : IsStrs w a0 len0 cap0) :
    Calls Try.prog 10 #[.slice a0 len0 cap0] w fun e w' => e = .returned (.bool true) ∧ Below w.heap.size w w' := by
  obtain ⟨ss, h1, h2, h3, h4, _⟩ := w0
  unfold maxLen at h4
  exact walk_core a0 len0 cap0 ss w h1 (by omega) h2
end Go.Proofs.Ytmnliieiiaedeaa.lawBloomHas
