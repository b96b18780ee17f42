/-
  The walk of the law BloomParses.
-/
import Derived.Test.YtmnliieiiaedeaaBlmM
namespace Go.Proofs.Ytmnliieiiaedeaa.lawBloomParses
open Go.ChangeShapes Go.WideShapes Go.ChangeAt Go.RowKit plain words ord mem murmur blm

theorem _root_.Go.Proofs.Ytmnliieiiaedeaa.blm.IsF.chg {T : TypeId} {w w' : World} {p g : Nat} {bs : List UInt8} {S : Nat → Prop} (h : IsF T w p g bs) (hc : Chg S w w') (hp : ¬ S p) (hg : ¬ S g) : IsF T w' p g bs := by
  obtain ⟨c, n, h1, h2, h3⟩ := h
  exact ⟨c, n, h1, hc.blk h2 hp, own_chg h3 hc (fun g' hg' => by cases hg'; exact hg)⟩
set_option maxHeartbeats 8000000 in
set_option maxRecDepth 100000 in
theorem walk_core (a0 a1 : Option Addr) (n c n1 c1 : Nat) (bs : List UInt8) (ts : List ByteArray) (w : World) (h : Bs w w.heap.size a0 n bs) (hA : a0 = none → c = 0) (h' : Strs w w.heap.size a1 n1 ts) (hn : n ≤ 9223372036854775807) (hn1 : n1 ≤ 9223372036854775807) (hm' : ∀ s ∈ ts, s.size ≤ maxLen) :
    Calls Try.prog 11 #[.slice a0 n c, .slice a1 n1 c1] w fun e w' => e = .returned (.bool true) ∧ Below w.heap.size w w' := by
  by_cases hbig : 16384 < n
  · have i0 : (16384 : Int) < (n : Int) := by omega
    go_enter Try.func11, Try.ntmps11
    go_wp2_with (fail)
    go_ret
    exact ⟨rfl, Below.refl _ _⟩
  · have i0 : ¬ (16384 : Int) < (n : Int) := by omega
    have HV1 := Lib.hid (heavy_x w w.heap.size n1 c1 a1 ts h' hn1 hm')
    have HST1 := Lib.hid h'
    have HBS := Lib.hid h
    obtain ⟨ib, hi, hz0, hz1, hz2⟩ := info_parts mem.infoB
    have hlit := World.ownsRow_lit (w := w) (base := w.heap.size) (e := 5) (size := 1) #[] 0 (Nat.le_refl _) (by simp) rfl
    obtain ⟨w1, hw1⟩ : ∃ w1, w.alloc (.cells #[] 5) = w1 := ⟨_, rfl⟩
    rw [hw1] at hlit
    have hb1 : Below w.heap.size w w1 := by rw [← hw1]; exact (Below.refl _ _).alloc (Nat.le_refl _) _
    have hs1 := hb1.size
    have B1 := Lib.hid hb1
    have hrd : Rd w1 w.heap.size a0 (n * 1) (u8s bs) := by rw [Nat.mul_one]; exact h.below hb1 (Nat.le_refl _)
    have HL := Lib.hid hlit
    have HW1 := Lib.hid hw1
    have HBL := Lib.hid h.len_
    clear hlit hw1 h h' hb1 hm' hbig
    go_enter Try.func11, Try.ntmps11
    go_wp2_with (fail)
    refine HV1.out.mono ?_
    rintro e w' ⟨b, rfl, hb, rfl⟩
    clear HV1
    cases b with
    | true =>
      go_wp2_with (fail)
      go_ret
      exact ⟨rfl, Below.refl _ _⟩
    | false =>
      obtain ⟨hn3, hs⟩ := hb rfl
      have HS1 := Lib.hid hs
      clear hb hs
      go_wp2_with (first | (at_builtin; refine wpList_append_rd rfl (.tmp 20) (.tmp 21) 57 rfl w.heap.size 5 ib (.int .u8 0) 1 1 Try.underlying57 hi hz0 hz1 hz2 rfl (by decide) _ 0 [] rfl HL.out w.heap.size a0 n c hA (u8s bs) rfl hrd (u8s_one bs) (by unfold maxLen; omega) (by omega) (by omega) ?_; intro v2 w2 hown2 hg2 hnn2; simp only [Nat.zero_add, List.nil_append] at hown2; obtain ⟨A2, c2, rfl⟩ : ∃ A c, v2 = .slice A n c := (by rcases own_form hown2 with ⟨e1, e0⟩ | ⟨g, cap, e1, _⟩; (subst e0; exact ⟨none, 0, e1⟩); exact ⟨_, cap, e1⟩); have B2 := Lib.hid (own_below B1.out HL.out hs1 hg2); have O2 := Lib.hid hown2; have hs2 := hg2.size; clear hown2 hg2 hnn2 hrd) | (rw [HW1.out]))
      have hA2 : A2 = none → c2 = 0 := fun e => by
        rcases own_form O2.out with ⟨e1, _⟩ | ⟨_, _, e1, _⟩
        · injection e1
        · injection e1 with e1; rw [e] at e1; cases e1
      have hws : w.heap.size ≤ w2.heap.size := by omega
      cases hgl : goodLen n with
      | false =>
        have X := Lib.hid (parse_x_no w2 n c2 A2 hn hgl)
        have Y := Lib.hid (parse_y_no w2 n c a0 hn hgl)
        refine X.out.mono ?_
        rintro e w' ⟨rfl, rfl⟩
        go_wp2_with (fail)
        refine Y.out.mono ?_
        rintro e w' ⟨rfl, rfl⟩
        have k0 := conv_string (P := Try.prog) (c := c2) (own_bs O2.out) 57 9 5 Try.underlying57 Try.underlying9 Try.underlying5
        have k1 := conv_string (P := Try.prog) (c := c) (HBS.out.below B2.out (Nat.le_refl _)) 57 9 5 Try.underlying57 Try.underlying9 Try.underlying5
        go_wp2_with (fail)
        clear k0 k1
        have HBLL := Lib.hid (show bs.length = n from HBL.out)
        go_loopw [10] (fun i wr => ∃ (k : Nat) (ys : List UInt8), k ≤ n ∧ i = .int .i64 k ∧ Aside (ys.length = n) ∧ wr.ownsRow w.heap.size 5 1 (.slice A2 n c2) n (u8s ys) ∧ Chg (fun g => (Value.slice A2 n c2).ownBlock = some g) w2 wr) (fun i _ => n - (intOf i).toNat)
        case atStart => exact ⟨0, bs, Nat.zero_le _, rfl, HBLL.out, O2.out, Chg.refl _ _⟩
        case round =>
          obtain ⟨k, ys, hk, rfl, HYS, hown, hch⟩ := hrel
          by_cases hlt : k < n
          · obtain ⟨gr, cap, e5, hg1, hg2, hg3, hg4⟩ : ∃ g cap, Value.slice A2 n c2 = .slice (some ⟨g, 0, none⟩) n cap ∧ w.heap.size ≤ g ∧ g < wr.heap.size ∧ n ≤ cap ∧ cap ≤ maxLen := by
              rcases own_form hown with ⟨_, e⟩ | e
              · omega
              · exact e
            obtain ⟨rfl, rfl⟩ : A2 = some ⟨gr, 0, none⟩ ∧ c2 = cap := by injection e5 with a b c; exact ⟨a, c⟩
            have hy : ys[k]? = some (ys[k]'(by have := HYS.out; omega)) := List.getElem?_eq_getElem _
            obtain ⟨y, hye⟩ : ∃ y, ys[k]'(by have := HYS.out; omega) = y := ⟨_, rfl⟩
            rw [hye] at hy
            have hcell := hown.cellAt k (by omega)
            rw [show (u8s ys)[k]? = some (.int .u8 (y.toNat : Int)) from by simp only [u8s, List.getElem?_map, hy]; rfl] at hcell
            have hfr := hown.frozenAt k
            obtain ⟨y2, hy2⟩ := byte_of ((y.toNat : Int) + 1)
            have hst := (hown.stored k (.int .u8 (y2.toNat : Int))).1
            rw [u8s_set] at hst
            have hc2 := hch.setCell (p := ⟨gr, k, none⟩) (fun _ => rfl) (.int .u8 (y2.toNat : Int))
            have hy3 : ((y.toNat : Int) + 1) % 256 = (y2.toNat : Int) := hy2.symm
            have hyl := y.toNat_lt
            have i3 : (0 : Int) ≤ (k : Int) := by omega
            have i4 : (k : Int) < (n : Int) := by omega
            have HYS2 := Lib.hid (show (ys.set k y2).length = n by rw [List.length_set]; exact HYS.out)
            have HST := Lib.hid hst
            have HC2 := Lib.hid hc2
            clear hst hc2 hy hye hown hy2 e5
            go_wp2_with fail
            go_roundw
            case rel => exact ⟨k + 1, ys.set k y2, by omega, by go_num, HYS2.out, HST.out, HC2.out⟩
            case measure => simp [intOf]; omega
          · have i4 : ¬ (k : Int) < (n : Int) := by omega
            have B5 := Lib.hid (B2.out.trans (hch.below hws (fun b e => (O2.out.lt b e).1)))
            obtain ⟨w5, rfl⟩ : ∃ w5, w5 = wr := ⟨wr, rfl⟩
            clear hown hch X Y O2
            go_wp2_with (fail)
            go_loopw [11] (fun i wr => i = .int .i64 0 ∧ wr = w5) (fun _ _ => 0)
            case atStart => exact ⟨rfl, rfl⟩
            case round =>
              obtain ⟨rfl, rfl⟩ := hrel
              by_cases h0 : (0 : Int) < (n1 : Int)
              · go_wp2_with (fail)
                refine wp_region_plan [([0, 1, 2, 3, 6, 7], some (4, false)), ([5, 8, 9, 10], none)] (by kernel_rfl) (by kernel_rfl) ?_
                refine seg_act _ (by dsimp only [pick, at_]) _ (by dsimp only [pick, at_]) ?_
                repeat (go_big_quiet_step (fail))
                refine wpQuiet_nil ?_
                intro K1 h1 h2
                clear h1
                go_wp2_with (fail)
                refine h2 _ _ (Below.refl _ _).drew ?_
                clear h2
                refine seg_end _ (by dsimp only [pick, at_]) ?_
                repeat (go_big_quiet_step (fail))
                refine wpQuiet_nil ?_
                refine NoPanic.normal ?_
                go_wp2_with (fail)
                go_ret
                exact ⟨rfl, B5.out.drew⟩
              · go_wp2_with (fail)
                refine wp_region_plan [([0, 1, 2, 3, 6, 7], some (4, false)), ([5, 8, 9, 10], none)] (by kernel_rfl) (by kernel_rfl) ?_
                refine seg_act _ (by dsimp only [pick, at_]) _ (by dsimp only [pick, at_]) ?_
                repeat (go_big_quiet_step (fail))
                refine wpQuiet_nil ?_
                intro K1 h1 h2
                clear h1
                go_wp2_with (fail)
                refine h2 _ _ (Below.refl _ _).drew ?_
                clear h2
                refine seg_end _ (by dsimp only [pick, at_]) ?_
                repeat (go_big_quiet_step (fail))
                refine wpQuiet_nil ?_
                refine NoPanic.normal ?_
                go_wp2_with (fail)
                go_ret
                exact ⟨rfl, B5.out.drew⟩
      | true =>
        have X := Lib.hid (parse_x w2 w2.heap.size n c2 A2 bs (own_bs O2.out) hA2 (Nat.le_refl _) hgl)
        refine X.out.mono ?_
        rintro e w3 ⟨p, g, rfl, hF, hp, hg, hb3⟩
        have Y := Lib.hid (parse_y w3 w.heap.size n c a0 bs (HBS.out.below (B2.out.trans (hb3.mono hws)) (Nat.le_refl _)) hA (by have := hb3.size; omega) hgl)
        have F3 := Lib.hid hF
        have B3 := Lib.hid (B2.out.trans (hb3.mono hws))
        have hs3 := hb3.size
        have O3 := Lib.hid (own_keep O2.out hb3 (Nat.le_refl _))
        clear hF hb3 X
        go_wp2_with (fail)
        refine Y.out.mono ?_
        rintro e w4 ⟨p', g', rfl, hG, hp', hg', hb4⟩
        have F4 := Lib.hid (F3.out.below hb4)
        have G4 := Lib.hid hG
        have B4 := Lib.hid (B3.out.trans (hb4.mono (by omega)))
        have hs4 := hb4.size
        have O4 := Lib.hid (own_keep O3.out hb4 (Nat.le_refl _))
        clear hG hb4 Y F3 O3 B3
        have k0 := conv_string (P := Try.prog) (c := c2) (own_bs O4.out) 57 9 5 Try.underlying57 Try.underlying9 Try.underlying5
        have k1 := conv_string (P := Try.prog) (c := c) (HBS.out.below B4.out (Nat.le_refl _)) 57 9 5 Try.underlying57 Try.underlying9 Try.underlying5
        go_wp2_with (fail)
        clear k0 k1
        have HBLL := Lib.hid (show bs.length = n from HBL.out)
        go_loopw [10] (fun i wr => ∃ (k : Nat) (ys : List UInt8), k ≤ n ∧ i = .int .i64 k ∧ Aside (ys.length = n) ∧ wr.ownsRow w.heap.size 5 1 (.slice A2 n c2) n (u8s ys) ∧ Chg (fun g => (Value.slice A2 n c2).ownBlock = some g) w4 wr) (fun i _ => n - (intOf i).toNat)
        case atStart => exact ⟨0, bs, Nat.zero_le _, rfl, HBLL.out, O4.out, Chg.refl _ _⟩
        case round =>
          obtain ⟨k, ys, hk, rfl, HYS, hown, hch⟩ := hrel
          by_cases hlt : k < n
          · obtain ⟨gr, cap, e5, hg1, hg2, hg3, hg4⟩ : ∃ g cap, Value.slice A2 n c2 = .slice (some ⟨g, 0, none⟩) n cap ∧ w.heap.size ≤ g ∧ g < wr.heap.size ∧ n ≤ cap ∧ cap ≤ maxLen := by
              rcases own_form hown with ⟨_, e⟩ | e
              · omega
              · exact e
            obtain ⟨rfl, rfl⟩ : A2 = some ⟨gr, 0, none⟩ ∧ c2 = cap := by injection e5 with a b c; exact ⟨a, c⟩
            have hy : ys[k]? = some (ys[k]'(by have := HYS.out; omega)) := List.getElem?_eq_getElem _
            obtain ⟨y, hye⟩ : ∃ y, ys[k]'(by have := HYS.out; omega) = y := ⟨_, rfl⟩
            rw [hye] at hy
            have hcell := hown.cellAt k (by omega)
            rw [show (u8s ys)[k]? = some (.int .u8 (y.toNat : Int)) from by simp only [u8s, List.getElem?_map, hy]; rfl] at hcell
            have hfr := hown.frozenAt k
            obtain ⟨y2, hy2⟩ := byte_of ((y.toNat : Int) + 1)
            have hst := (hown.stored k (.int .u8 (y2.toNat : Int))).1
            rw [u8s_set] at hst
            have hc2 := hch.setCell (p := ⟨gr, k, none⟩) (fun _ => rfl) (.int .u8 (y2.toNat : Int))
            have hy3 : ((y.toNat : Int) + 1) % 256 = (y2.toNat : Int) := hy2.symm
            have hyl := y.toNat_lt
            have i3 : (0 : Int) ≤ (k : Int) := by omega
            have i4 : (k : Int) < (n : Int) := by omega
            have HYS2 := Lib.hid (show (ys.set k y2).length = n by rw [List.length_set]; exact HYS.out)
            have HST := Lib.hid hst
            have HC2 := Lib.hid hc2
            clear hst hc2 hy hye hown hy2 e5
            go_wp2_with fail
            go_roundw
            case rel => exact ⟨k + 1, ys.set k y2, by omega, by go_num, HYS2.out, HST.out, HC2.out⟩
            case measure => simp [intOf]; omega
          · have i4 : ¬ (k : Int) < (n : Int) := by omega
            have hbl : ∀ b, (Value.slice A2 n c2).ownBlock = some b → b < w2.heap.size := fun b e => own_lt O2.out e
            have F5 := Lib.hid (F4.out.chg hch (fun e => by have := hbl _ e; omega) (fun e => by have := hbl _ e; omega))
            have G5 := Lib.hid (G4.out.chg hch (fun e => by have := hbl _ e; omega) (fun e => by have := hbl _ e; omega))
            have B5 := Lib.hid (B4.out.trans (hch.below (by omega) (fun b e => (O2.out.lt b e).1)))
            obtain ⟨w5, rfl⟩ : ∃ w5, w5 = wr := ⟨wr, rfl⟩
            obtain ⟨gd1, gd2, gd3⟩ := good_parts hgl
            have hws5 : w.heap.size ≤ w5.heap.size := by have := hch.size; omega
            clear hown hch O2 O4 F4 G4 B4 hbl
            go_wp2_with (fail)
            go_loopw [11] (fun i wr => ∃ (k : Nat), k ≤ n1 ∧ i = .int .i64 k ∧ Aside (Below w5.heap.size w5 wr)) (fun i _ => n1 - (intOf i).toNat)
            case atStart => exact ⟨0, Nat.zero_le _, rfl, Below.refl _ _⟩
            case round =>
              obtain ⟨k, hk, rfl, BR⟩ := hrel
              have BW := Lib.hid (B5.out.trans (BR.out.mono hws5))
              by_cases hlt : k < n1
              · have i1 : (k : Int) < (n1 : Int) := by omega
                have i2 : (0 : Int) ≤ (k : Int) := by omega
                obtain ⟨b, off, s, rfl, hbB, hsk, hcs⟩ := HST1.out.get hlt
                have hsz : s.size ≤ 65536 := by have := HS1.out s (List.mem_of_getElem? hsk); omega
                have c0 : wr.cell? ⟨b, off + k, none⟩ = some (.string s) := (BW.out.cell (p := ⟨b, off + k, none⟩) hbB).trans hcs
                have l0 := World.block_lt_of_cell? wr _ c0
                have HX := Lib.hid (has_x wr.drew p g bs ((F5.out.below BR.out).below (Below.refl _ _).drew) (by rw [HBL.out]; omega) (by rw [HBL.out]; omega) s hsz)
                clear hsk hcs
                obtain ⟨hb, hhb⟩ : ∃ hb, hasB bs s = hb := ⟨_, rfl⟩
                rw [hhb] at HX
                have HHB := Lib.hid hhb
                clear hhb
                have hbb : (hb != hb) = false := by simp
                go_wp2_with (fail)
                have q0 := Wb.at_ c0
                refine wp_region_plan [([0, 1, 2, 3, 4, 6, 7, 8, 9, 10], some (5, false)), ([], some (11, false)), ([12], none)] (by kernel_rfl) (by kernel_rfl) ?_
                refine seg_act _ (by dsimp only [pick, at_]) _ (by dsimp only [pick, at_]) ?_
                repeat (go_big_quiet_step (fail))
                refine wpQuiet_nil ?_
                intro K1 h1 h2
                clear q0 h1
                go_wp2_with (fail)
                refine HX.out.mono ?_
                rintro e w6 ⟨rfl, hb6⟩
                have hb6w : Below wr.heap.size wr w6 := (Below.refl _ _).drew.trans hb6
                have B6 := Lib.hid (BR.out.trans (hb6w.mono BR.out.size))
                have HY := Lib.hid (has_y w6 p' g' bs (G5.out.below B6.out) (by rw [HBL.out]; omega) (by rw [HBL.out]; omega) s hsz)
                rw [HHB.out] at HY
                have HB6 := Lib.hid hb6w
                clear hb6 hb6w HX
                go_wp2_with (fail)
                refine h2 _ _ HB6.out ?_
                clear h2
                refine seg_act _ (by dsimp only [pick, at_]) _ (by dsimp only [pick, at_]) ?_
                repeat (go_big_quiet_step (fail))
                refine wpQuiet_nil ?_
                intro K1 h1 h2
                clear h1
                go_wp2_with (fail)
                refine HY.out.mono ?_
                rintro e w7 ⟨rfl, hb7⟩
                have B7 := Lib.hid (B6.out.trans (hb7.mono B6.out.size))
                have HB7 := Lib.hid hb7
                clear hb7 HY
                go_wp2_with (fail)
                refine h2 _ _ HB7.out ?_
                clear h2
                refine seg_end _ (by dsimp only [pick, at_]) ?_
                repeat (go_big_quiet_step (fail))
                refine wpQuiet_nil ?_
                refine NoPanic.normal ?_
                go_wp2_with (fail)
                go_roundw
                case rel => exact ⟨k + 1, by omega, by go_num, B7.out⟩
                case measure => simp [intOf]; omega
              · have i1 : ¬ (k : Int) < (n1 : Int) := by omega
                obtain ⟨w6, rfl⟩ : ∃ w6, w6 = wr := ⟨wr, rfl⟩
                go_wp2_with (fail)
                have HBY := Lib.hid (bytes_x w6.drew p g bs ((F5.out.below BR.out).below (Below.refl _ _).drew) (by rw [HBL.out]; omega))
                rw [HBL.out] at HBY
                have q1 : ∀ u : Wb w6, (convert 57 9 (.slice a0 n c)).run Try.prog u.w = .ok (.string ⟨bs.toArray⟩) u.w := fun u =>
                  conv_string ((HBS.out.below BW.out (Nat.le_refl _)).below u.h (by have := BW.out.size; omega)) 57 9 5 Try.underlying57 Try.underlying9 Try.underlying5
                refine wp_region_plan [([0, 1, 2, 3, 6, 7], some (4, false)), ([5, 8, 9, 10], none)] (by kernel_rfl) (by kernel_rfl) ?_
                refine seg_act _ (by dsimp only [pick, at_]) _ (by dsimp only [pick, at_]) ?_
                repeat (go_big_quiet_step (fail))
                refine wpQuiet_nil ?_
                intro K1 h1 h2
                clear h1 q1
                go_wp2_with (fail)
                refine HBY.out.mono ?_
                rintro e w7 ⟨A7, c7, rfl, hown7, hb7⟩
                have q5 := own_conv hown7
                have hb7w : Below w6.heap.size w6 w7 := (Below.refl _ _).drew.trans hb7
                have B7 := Lib.hid (BW.out.trans (hb7w.mono BW.out.size))
                have HB7 := Lib.hid hb7w
                clear hown7 hb7 hb7w HBY
                go_wp2_with (fail)
                refine h2 _ _ HB7.out ?_
                clear h2
                refine seg_end _ (by dsimp only [pick, at_]) ?_
                repeat (go_big_quiet_step (fail))
                refine wpQuiet_nil ?_
                refine NoPanic.normal ?_
                go_wp2_with (fail)
                go_ret
                exact ⟨rfl, B7.out⟩
theorem walk_ok (a0 : Option Addr) (len0 cap0 : Nat) (z0 : List Int) (a1 : Option Addr) (len1 cap1 : Nat) (w : World) (w0 : IsRow .u8 w a0 len0 cap0 z0) (w1 : IsStrs w a1 len1 cap1) :
    Calls Try.prog 11 #[.slice a0 len0 cap0, .slice a1 len1 cap1] w fun e w' => e = .returned (.bool true) ∧ Below w.heap.size w w' := by
  obtain ⟨bs, hb, hl, _, hA⟩ := w0.bytes
  obtain ⟨ts, g1, g2, g3, g4, _⟩ := w1
  unfold maxLen at g4 hl
  exact walk_core a0 a1 len0 cap0 len1 cap1 bs ts w hb hA g1 (by omega) (by omega) g2
end Go.Proofs.Ytmnliieiiaedeaa.lawBloomParses
