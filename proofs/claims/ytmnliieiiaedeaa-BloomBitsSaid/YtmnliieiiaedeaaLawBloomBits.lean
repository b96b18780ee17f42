/-
  The walk of the law BloomBits.
-/
import Derived.Test.YtmnliieiiaedeaaBlmL
namespace Go.Proofs.Ytmnliieiiaedeaa.lawBloomBits
open Go.ChangeShapes Go.WideShapes Go.ChangeAt Go.RowKit plain words ord mem murmur blm

set_option maxHeartbeats 8000000 in
set_option maxRecDepth 100000 in
theorem walk_core (a0 a1 : Option Addr) (n c n1 c1 : Nat) (ss ts : List ByteArray) (w : World) (h : Strs w w.heap.size a0 n ss) (h' : Strs w w.heap.size a1 n1 ts) (hn : n ≤ 9223372036854775807) (hn1 : n1 ≤ 9223372036854775807) (hm : ∀ s ∈ ss, s.size ≤ maxLen) (hm' : ∀ s ∈ ts, s.size ≤ maxLen) :
    Calls Try.prog 9 #[.slice a0 n c, .slice a1 n1 c1] w fun e w' => e = .returned (.bool true) ∧ Below w.heap.size w w' := by
  have HV := Lib.hid (heavy_x w w.heap.size n c a0 ss h hn hm)
  have HV1 := Lib.hid (heavy_x w w.heap.size n1 c1 a1 ts h' hn1 hm')
  have HST := Lib.hid h
  have HST1 := Lib.hid h'
  clear h h' hm hm'
  go_enter Try.func9, Try.ntmps9
  go_wp2_with (fail)
  refine HV.out.mono ?_
  rintro e w' ⟨b, rfl, hb, rfl⟩
  clear HV
  cases b with
  | true =>
    go_wp2_with (fail)
    go_ret
    exact ⟨rfl, Below.refl _ _⟩
  | false =>
    obtain ⟨hn2, hs⟩ := hb rfl
    have HS := Lib.hid hs
    clear hb hs
    go_wp2_with (fail)
    refine HV1.out.mono ?_
    rintro e w' ⟨b, rfl, hb, rfl⟩
    clear HV1
    cases b with
    | true =>
      go_wp2_with (fail)
      go_ret
      exact ⟨rfl, Below.refl _ _⟩
    | false =>
      obtain ⟨hn3, hs⟩ := hb rfl
      have HS1 := Lib.hid hs
      clear hb hs
      by_cases h2048 : 2048 < n
      · have X := Lib.hid (build_no_x w n c a0 h2048)
        have Y := Lib.hid (build_no_y w n c a0 h2048)
        go_wp2_with (fail)
        refine X.out.mono ?_
        rintro e w' ⟨rfl, rfl⟩
        go_wp2_with (fail)
        refine Y.out.mono ?_
        rintro e w' ⟨rfl, rfl⟩
        go_wp2_with (fail)
        go_ret
        exact ⟨rfl, Below.refl _ _⟩
      · have X := Lib.hid (build_x w w.heap.size n c a0 ss HST.out (Nat.le_refl _) (by omega) (fun s hs => by have := HS.out s hs; omega))
        go_wp2_with (fail)
        refine X.out.mono ?_
        rintro e w1 ⟨p, g, rfl, hF, hp, hg, hb1⟩
        have hs1 := hb1.size
        have Y := Lib.hid (build_y w1 w.heap.size n c a0 ss (HST.out.below hb1 (Nat.le_refl _)) hs1 (by omega) (fun s hs => by have := HS.out s hs; omega))
        have HF := Lib.hid hF
        have B1 := Lib.hid hb1
        clear hF hb1 X
        go_wp2_with (fail)
        refine Y.out.mono ?_
        rintro e w2 ⟨p', g', rfl, hG, hp', hg', hb2⟩
        have F2 := Lib.hid (HF.out.below hb2)
        have G2 := Lib.hid hG
        have B2 := Lib.hid (B1.out.trans (hb2.mono hs1))
        clear hG hb2 Y HF
        go_wp2_with (fail)
        have hlen : (built ss).length ≤ 65536 := by rw [built_len]; unfold bytesOf; have := HST.out.len_; omega
        have hpos : 0 < (built ss).length := by rw [built_len]; unfold bytesOf; omega
        have HLN := Lib.hid (And.intro hlen hpos)
        obtain ⟨bs, hbs⟩ : ∃ bs, built ss = bs := ⟨_, rfl⟩
        rw [hbs] at F2 G2 HLN
        clear hlen hpos
        obtain ⟨ng, cg, hng, hcg, hvg⟩ := G2.out.conv
        have HNG := Lib.hid hng
        clear hng
        have hp2 := G2.out.lt
        have q0 := Wb.at_ hcg
        have HBY := Lib.hid (bytes_x w2.drew p g bs (F2.out.below (Below.refl _ _).drew) HLN.out.1)
        refine wp_region_plan [([0, 3, 4, 5, 6, 7], some (1, false)), ([2, 8], none)] (by kernel_rfl) (by kernel_rfl) ?_
        refine seg_act _ (by dsimp only [pick, at_]) _ (by dsimp only [pick, at_]) ?_
        repeat (go_big_quiet_step (fail))
        refine wpQuiet_nil ?_
        intro K1 h1 h2
        clear q0 h1 hvg hcg
        go_wp2_with (fail)
        refine HBY.out.mono ?_
        rintro e w3 ⟨A3, c3, rfl, hown3, hb3⟩
        obtain ⟨L3, hL3⟩ : ∃ L3, bs.length = L3 := ⟨_, rfl⟩
        rw [hL3] at hown3 ⊢
        have q3 := own_conv hown3
        have hb3w : Below w2.heap.size w2 w3 := (Below.refl _ _).drew.trans hb3
        have F3 := Lib.hid (F2.out.below hb3w)
        have G3 := Lib.hid (G2.out.below hb3w)
        have B3 := Lib.hid (B2.out.trans (hb3w.mono B2.out.size))
        have HB3 := Lib.hid hb3w
        clear hown3 hb3 hb3w
        go_wp2_with (fail)
        refine h2 _ _ HB3.out ?_
        clear h2
        refine seg_end _ (by dsimp only [pick, at_]) ?_
        repeat (go_big_quiet_step (fail))
        refine wpQuiet_nil ?_
        refine NoPanic.normal ?_
        clear q3
        go_wp2_with (fail)
        clear HBY HNG
        go_loopw [9] (fun i wr => ∃ (k : Nat), k ≤ n1 ∧ i = .int .i64 k ∧ Aside (Below w3.heap.size w3 wr)) (fun i _ => n1 - (intOf i).toNat)
        case atStart => exact ⟨0, Nat.zero_le _, rfl, Below.refl _ _⟩
        case round =>
          obtain ⟨k, hk, rfl, BR⟩ := hrel
          by_cases hlt : k < n1
          · have i1 : (k : Int) < (n1 : Int) := by omega
            have i2 : (0 : Int) ≤ (k : Int) := by omega
            have BW := Lib.hid (B3.out.trans (BR.out.mono B3.out.size))
            obtain ⟨b, off, s, rfl, hbB, hsk, hcs⟩ := HST1.out.get hlt
            have hsz : s.size ≤ 65536 := by have := HS1.out s (List.mem_of_getElem? hsk); omega
            have c0 : wr.cell? ⟨b, off + k, none⟩ = some (.string s) := (BW.out.cell (p := ⟨b, off + k, none⟩) hbB).trans hcs
            have l0 := World.block_lt_of_cell? wr _ c0
            have HX := Lib.hid (has_x wr.drew p g bs ((F3.out.below BR.out).below (Below.refl _ _).drew) HLN.out.2 HLN.out.1 s hsz)
            clear hsk hcs
            obtain ⟨hb, hhb⟩ : ∃ hb, hasB bs s = hb := ⟨_, rfl⟩
            rw [hhb] at HX
            have HHB := Lib.hid hhb
            clear hhb
            have hbb : (hb != hb) = false := by simp
            go_wp2_with (fail)
            have q0 := Wb.at_ c0
            refine wp_region_plan [([0, 1, 2, 3, 4, 6, 7, 8, 9, 10], some (5, false)), ([], some (11, false)), ([12], none)] (by kernel_rfl) (by kernel_rfl) ?_
            refine seg_act _ (by dsimp only [pick, at_]) _ (by dsimp only [pick, at_]) ?_
            repeat (go_big_quiet_step (fail))
            refine wpQuiet_nil ?_
            intro K1 h1 h2
            clear q0 h1
            go_wp2_with (fail)
            refine HX.out.mono ?_
            rintro e w4 ⟨rfl, hb4⟩
            have hb4w : Below wr.heap.size wr w4 := (Below.refl _ _).drew.trans hb4
            have B4 := Lib.hid (BR.out.trans (hb4w.mono BR.out.size))
            have HY := Lib.hid (has_y w4 p' g' bs (G3.out.below B4.out) HLN.out.2 HLN.out.1 s hsz)
            rw [HHB.out] at HY
            have HB4 := Lib.hid hb4w
            clear hb4 hb4w HX
            go_wp2_with (fail)
            refine h2 _ _ HB4.out ?_
            clear h2
            refine seg_act _ (by dsimp only [pick, at_]) _ (by dsimp only [pick, at_]) ?_
            repeat (go_big_quiet_step (fail))
            refine wpQuiet_nil ?_
            intro K1 h1 h2
            clear h1
            go_wp2_with (fail)
            refine HY.out.mono ?_
            rintro e w5 ⟨rfl, hb5⟩
            have B5 := Lib.hid (B4.out.trans (hb5.mono B4.out.size))
            have HB5 := Lib.hid hb5
            clear hb5 HY
            go_wp2_with (fail)
            refine h2 _ _ HB5.out ?_
            clear h2
            refine seg_end _ (by dsimp only [pick, at_]) ?_
            repeat (go_big_quiet_step (fail))
            refine wpQuiet_nil ?_
            refine NoPanic.normal ?_
            go_wp2_with (fail)
            go_roundw
            case rel => exact ⟨k + 1, by omega, by go_num, B5.out⟩
            case measure => simp [intOf]; omega
          · have i1 : ¬ (k : Int) < (n1 : Int) := by omega
            go_wp2_with (fail)
            go_ret
            exact ⟨rfl, B3.out.trans (BR.out.mono B3.out.size)⟩
theorem walk_ok (a0 : Option Addr) (len0 cap0 : Nat) (a1 : Option Addr) (len1 cap1 : Nat) (w : World) (w0 : IsStrs w a0 len0 cap0) (w1 : IsStrs w a1 len1 cap1) :
    Calls Try.prog 9 #[.slice a0 len0 cap0, .slice a1 len1 cap1] w fun e w' => e = .returned (.bool true) ∧ Below w.heap.size w w' := by
  obtain ⟨ss, h1, h2, h3, h4, _⟩ := w0
  obtain ⟨ts, g1, g2, g3, g4, _⟩ := w1
  unfold maxLen at h4 g4
  exact walk_core a0 a1 len0 cap0 len1 cap1 ss ts w h1 g1 (by omega) (by omega) h2 g2
end Go.Proofs.Ytmnliieiiaedeaa.lawBloomBits
