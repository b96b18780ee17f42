/-
  The walk of the law BloomOrder.
-/
import Derived.Test.YtmnliieiiaedeaaBlmM
namespace Go.Proofs.Ytmnliieiiaedeaa.lawBloomOrder
open Go.ChangeShapes Go.WideShapes Go.ChangeAt Go.RowKit plain words ord mem murmur blm

theorem infoS : (Try.prog.info? 9).map (fun i => (i.zero, i.size, i.bytes)) = some (some (.string ByteArray.empty), 1, 16) := by kernel_rfl
theorem rev_step (ss : List ByteArray) (m : Nat) (s : ByteArray) (h : ss[m]? = some s) : (ss.drop (m + 1)).reverse ++ [s] = (ss.drop m).reverse := by
  have hl : m < ss.length := by
    rcases Nat.lt_or_ge m ss.length with h' | h'
    · exact h'
    · rw [List.getElem?_eq_none h'] at h; cases h
  rw [List.getElem?_eq_getElem hl] at h
  cases h
  rw [List.drop_eq_getElem_cons hl, List.reverse_cons]
theorem strv_append (a b : List ByteArray) : strv (a ++ b) = strv a ++ strv b := by simp [strv]
set_option maxHeartbeats 8000000 in
set_option maxRecDepth 100000 in
theorem walk_core (a0 : Option Addr) (n c : Nat) (ss : List ByteArray) (ot : ByteArray) (w : World) (h : Strs w w.heap.size a0 n ss) (hn : n ≤ 9223372036854775807) (hm : ∀ s ∈ ss, s.size ≤ maxLen) (hot : ot.size ≤ 9223372036854775807) :
    Calls Try.prog 8 #[.slice a0 n c, .string ot] w fun e w' => e = .returned (.bool true) ∧ Below w.heap.size w w' := by
  have HV := Lib.hid (heavy_x w w.heap.size n c a0 ss h hn hm)
  have HST := Lib.hid h
  obtain ⟨O, hO⟩ : ∃ O, ot.size = O := ⟨_, rfl⟩
  have HO := Lib.hid hO
  rw [hO] at hot
  clear h hm
  go_enter Try.func8, Try.ntmps8
  go_wp2_with (fail)
  refine HV.out.mono ?_
  rintro e w' ⟨b, rfl, hb, rfl⟩
  clear HV
  cases b with
  | true =>
    go_wp2_with (fail)
    go_ret
    exact ⟨rfl, Below.refl _ _⟩
  | false =>
    obtain ⟨hn2, hs⟩ := hb rfl
    have HS := Lib.hid hs
    clear hb hs
    by_cases h2048 : 2048 < n
    · have i0 : (2048 : Int) < (n : Int) := by omega
      go_wp2_with (fail)
      go_ret
      exact ⟨rfl, Below.refl _ _⟩
    · have i0 : ¬ (2048 : Int) < (n : Int) := by omega
      by_cases h4096 : 4096 < O
      · have i1 : (4096 : Int) < (O : Int) := by omega
        go_wp2_with (fail)
        go_ret
        exact ⟨rfl, Below.refl _ _⟩
      · have i1 : ¬ (4096 : Int) < (O : Int) := by omega
        have hlit := World.ownsRow_lit (w := w) (base := w.heap.size) (e := 9) (size := 1) #[] 0 (Nat.le_refl _) (by simp) rfl
        obtain ⟨w1, hw1⟩ : ∃ w1, w.alloc (.cells #[] 9) = w1 := ⟨_, rfl⟩
        rw [hw1] at hlit
        have B1 := Lib.hid (show Below w.heap.size w w1 by rw [← hw1]; exact (Below.refl _ _).alloc (Nat.le_refl _) _)
        obtain ⟨H0, hH0⟩ : ∃ H0, w.heap.size = H0 := ⟨_, rfl⟩
        rw [hH0] at hlit HST B1
        have HL := Lib.hid hlit
        have HW1 := Lib.hid (And.intro hH0 hw1)
        clear hlit hw1 hH0 h2048 h4096
        go_wp2_with (first | (rw [HW1.out.1, HW1.out.2]) | (rw [HW1.out.2]) | (rw [HW1.out.1]))
        obtain ⟨is0, hi, hz0, hz1, hz2⟩ := info_parts infoS
        go_loopw [5, 6] (fun v i wr => ∃ (m : Nat), m ≤ n ∧ i = .int .i64 ((m : Int) - 1) ∧ Aside (wr.ownsRow H0 9 1 v (n - m) (strv (ss.drop m).reverse) ∧ Below H0 w wr)) (fun _ i _ => (intOf i + 1).toNat)
        case atStart =>
          refine ⟨n, Nat.le_refl _, rfl, ?_, B1.out⟩
          rw [List.drop_of_length_le (by rw [HST.out.len_]; exact Nat.le_refl _), Nat.sub_self]
          exact HL.out
        case round =>
          clear HL B1
          obtain ⟨m, hm, rfl, HO5⟩ := hrel
          rcases Nat.eq_zero_or_pos m with hm0 | hm0
          · subst hm0
            have j0 : ¬ (0 : Int) ≤ ((0 : Nat) : Int) - 1 := by omega
            obtain ⟨w5, rfl⟩ : ∃ w5, w5 = wr := ⟨wr, rfl⟩
            have hob := HO5.out.1
            rw [Nat.sub_zero, List.drop_zero] at hob
            obtain ⟨A5, c5, rfl⟩ : ∃ A5 c5, u5 = .slice A5 n c5 := by
              rcases own_form hob with ⟨e1, e0⟩ | ⟨g, cap, e1, _⟩
              · subst e0; exact ⟨none, 0, e1⟩
              · exact ⟨_, cap, e1⟩
            have B5 := Lib.hid HO5.out.2
            have hsz5 : H0 ≤ w5.heap.size := by have := B5.out.size; have := HW1.out.1; omega
            have HRD := Lib.hid (show Strs w5 w5.heap.size A5 n ss.reverse by have := own_rd hob; rwa [Nat.mul_one] at this)
            have X1 := Lib.hid (build_x w5 H0 n c a0 ss (HST.out.below B5.out (Nat.le_refl _)) hsz5 (by omega) (fun s hs => by have := HS.out s hs; omega))
            clear HO5 hob hi hz0 hz1 hz2 j0
            have j0 : ¬ (0 : Int) ≤ -1 := by omega
            go_wp2_with (fail)
            refine X1.out.mono ?_
            rintro e w6 ⟨p, g, rfl, hF, hp, hg, hb6⟩
            have hs6 := hb6.size
            have X2 := Lib.hid (build_x w6 w5.heap.size n c5 A5 ss.reverse (HRD.out.below hb6 (Nat.le_refl _)) hs6 (by omega) (fun s hs => by have := HS.out s (by simpa using hs); omega))
            rw [built_mem ss.reverse ss (by simp) (fun s => by simp)] at X2
            have F6 := Lib.hid hF
            have B6 := Lib.hid (B5.out.trans (hb6.mono hsz5))
            clear hF hb6 X1 HRD
            go_wp2_with (fail)
            refine X2.out.mono ?_
            rintro e w7 ⟨p2, g2, rfl, hF2, hp2, hg2, hb7⟩
            have hs7 := hb7.size
            have X3 := Lib.hid (build_x w7 w7.heap.size 0 0 none [] (Rd.nil _ _ _) (Nat.le_refl _) (by omega) (fun s hs => by cases hs))
            have F7 := Lib.hid (F6.out.below hb7)
            have G7 := Lib.hid hF2
            have B7 := Lib.hid (B6.out.trans (hb7.mono (by omega)))
            clear hF2 hb7 X2 F6
            go_wp2_with (fail)
            refine X3.out.mono ?_
            rintro e w8 ⟨p3, g3, rfl, hF3, hp3, hg3, hb8⟩
            have hs8 := hb8.size
            have F8 := Lib.hid (F7.out.below hb8)
            have G8 := Lib.hid (G7.out.below hb8)
            have H8 := Lib.hid hF3
            have B8 := Lib.hid (B7.out.trans (hb8.mono (by omega)))
            clear hF3 hb8 X3 F7 G7
            go_wp2_with (fail)
            have hlen : (built ss).length ≤ 65536 := by rw [built_len]; unfold bytesOf; have := HST.out.len_; omega
            have hl8 : (built []).length = 8 := by rw [built_len]; decide
            have hno : hasB (built []) ot = false := built_none ot
            obtain ⟨bs, hbs⟩ : ∃ bs, built ss = bs := ⟨_, rfl⟩
            obtain ⟨es, hes⟩ : ∃ es, built [] = es := ⟨_, rfl⟩
            rw [hbs] at F8 G8 hlen
            rw [hes] at H8 hl8 hno
            obtain ⟨L, hL⟩ : ∃ L, bs.length = L := ⟨_, rfl⟩
            have HLL := Lib.hid (And.intro hL (And.intro hl8 hno))
            have HB1 := Lib.hid (bytes_x w8.drew p g bs (F8.out.below (Below.refl _ _).drew) hlen)
            rw [hL] at HB1 hlen
            clear hbs hes hL hl8 hno
            refine wp_region_plan [([0, 3], some (1, false)), ([2], some (4, false)), ([5, 6, 7, 8, 9], some (10, false)), ([11, 12, 13, 14], some (15, false)), ([16, 17, 18, 19], none)] (by kernel_rfl) (by kernel_rfl) ?_
            refine seg_act _ (by dsimp only [pick, at_]) _ (by dsimp only [pick, at_]) ?_
            repeat (go_big_quiet_step (fail))
            refine wpQuiet_nil ?_
            intro K1 h1 h2
            clear h1
            go_wp2_with (fail)
            refine HB1.out.mono ?_
            rintro e x1 ⟨A6, c6, rfl, hown6, hb9⟩
            have hb9w : Below w8.heap.size w8 x1 := (Below.refl _ _).drew.trans hb9
            have q5 := own_conv hown6
            have G9 := Lib.hid (G8.out.below hb9w)
            have H9 := Lib.hid (H8.out.below hb9w)
            have B9 := Lib.hid (B8.out.trans (hb9w.mono (by omega)))
            have HB9 := Lib.hid hb9w
            have hs9 := hb9w.size
            clear hown6 hb9 hb9w F8 G8 H8 HB1
            go_wp2_with (fail)
            refine h2 _ _ HB9.out ?_
            clear h2
            have HB2 := Lib.hid (bytes_x x1 p2 g2 bs G9.out (by rw [HLL.out.1]; exact hlen))
            rw [HLL.out.1] at HB2
            refine seg_act _ (by dsimp only [pick, at_]) _ (by dsimp only [pick, at_]) ?_
            repeat (go_big_quiet_step (fail))
            refine wpQuiet_nil ?_
            intro K1 h1 h2
            clear h1 q5
            go_wp2_with (fail)
            refine HB2.out.mono ?_
            rintro e x2 ⟨A7, c7, rfl, hown7, hb10⟩
            have q6 := own_conv hown7
            have H10 := Lib.hid (H9.out.below hb10)
            have B10 := Lib.hid (B9.out.trans (hb10.mono (by omega)))
            have HB10 := Lib.hid hb10
            have hs10 := hb10.size
            clear hown7 hb10 G9 H9 HB2
            go_wp2_with (fail)
            refine h2 _ _ HB10.out ?_
            clear h2
            have HH := Lib.hid (has_x x2 p3 g3 es H10.out (by rw [HLL.out.2.1]; omega) (by rw [HLL.out.2.1]; omega) ot (by rw [HO.out]; omega))
            rw [HLL.out.2.2] at HH
            refine seg_act _ (by dsimp only [pick, at_]) _ (by dsimp only [pick, at_]) ?_
            repeat (go_big_quiet_step (fail))
            refine wpQuiet_nil ?_
            intro K1 h1 h2
            clear h1 q6
            go_wp2_with (fail)
            refine HH.out.mono ?_
            rintro e x3 ⟨rfl, hb11⟩
            have H11 := Lib.hid (H10.out.below hb11)
            have B11 := Lib.hid (B10.out.trans (hb11.mono (by omega)))
            have HB11 := Lib.hid hb11
            have hs11 := hb11.size
            clear hb11 H10 HH
            go_wp2_with (fail)
            refine h2 _ _ HB11.out ?_
            clear h2
            have HB4 := Lib.hid (bytes_x x3 p3 g3 es H11.out (by rw [HLL.out.2.1]; omega))
            rw [HLL.out.2.1] at HB4
            refine seg_act _ (by dsimp only [pick, at_]) _ (by dsimp only [pick, at_]) ?_
            repeat (go_big_quiet_step (fail))
            refine wpQuiet_nil ?_
            intro K1 h1 h2
            clear h1
            go_wp2_with (fail)
            refine HB4.out.mono ?_
            rintro e x4 ⟨A8, c8, rfl, hown8, hb12⟩
            have B12 := Lib.hid (B11.out.trans (hb12.mono (by omega)))
            have HB12 := Lib.hid hb12
            clear hown8 hb12 H11 HB4
            go_wp2_with (fail)
            refine h2 _ _ HB12.out ?_
            clear h2
            refine seg_end _ (by dsimp only [pick, at_]) ?_
            repeat (go_big_quiet_step (fail))
            refine wpQuiet_nil ?_
            refine NoPanic.normal ?_
            go_wp2_with (fail)
            go_ret
            exact ⟨rfl, by rw [HW1.out.1]; exact B12.out⟩
          · obtain ⟨m, rfl⟩ : ∃ m', m = m' + 1 := ⟨m - 1, by omega⟩
            have e1 : ((m + 1 : Nat) : Int) - 1 = (m : Int) := by omega
            rw [e1]
            have j0 : (0 : Int) ≤ (m : Int) := by omega
            have j1 : (m : Int) < (n : Int) := by omega
            obtain ⟨b, off, s, rfl, hbB, hsk, hcs⟩ := HST.out.get (show m < n by omega)
            have c0 : wr.cell? ⟨b, off + m, none⟩ = some (.string s) := (HO5.out.2.cell (p := ⟨b, off + m, none⟩) hbB).trans hcs
            have l0 := World.block_lt_of_cell? wr _ c0
            have hszr : H0 ≤ wr.heap.size := by have := HO5.out.2.size; have := HW1.out.1; omega
            obtain ⟨w2, hw2⟩ : ∃ w2, wr.alloc (.cells #[.string s] 9) = w2 := ⟨_, rfl⟩
            have hb2 : Below wr.heap.size wr w2 := by rw [← hw2]; exact (Below.refl _ _).alloc (Nat.le_refl _) _
            have g2 : w2.heap[wr.heap.size]? = some (.cells #[.string s] 9 (0, 0)) := by rw [← hw2]; exact alloc_new _ _
            obtain ⟨N, hN⟩ : ∃ N, wr.heap.size = N := ⟨_, rfl⟩
            rw [hN] at g2
            have hrd : Rd w2 w2.heap.size (some ⟨N, 0, none⟩) (1 * 1) [.string s] := ⟨rfl, fun j hj => by
              obtain rfl : j = 0 := by omega
              exact ⟨N, 0, _, rfl, blk_lt g2, rfl, by rw [cell_of_row _ _ _ _ _ _ g2]; rfl⟩⟩
            have hsz2 := hb2.size
            have O2 := Lib.hid (own_keep HO5.out.1 hb2 (Nat.le_refl _))
            have BB2 := Lib.hid (HO5.out.2.trans (hb2.mono hszr))
            have HW2 := Lib.hid (And.intro hN hw2)
            have HSK := Lib.hid hsk
            have h2le : n - (m + 1) ≤ 2048 := by omega
            obtain ⟨Q, hQ⟩ : ∃ Q, n - (m + 1) = Q := ⟨_, rfl⟩
            rw [hQ] at O2 h2le
            have HQ := Lib.hid hQ
            clear hw2 hN g2 hb2 hsk hcs hQ
            go_wp2_with (first | (at_builtin; refine wpList_append_rd rfl (.tmp 33) (.tmp 38) 22 rfl H0 9 is0 (.string ByteArray.empty) 1 16 Try.underlying22 hi hz0 hz1 hz2 rfl (by decide) _ Q _ rfl O2.out w2.heap.size (some ⟨N, 0, none⟩) 1 1 (fun e => by cases e) [.string s] rfl hrd (by intro u hu; simp at hu; subst hu; rfl) (by unfold maxLen; omega) (by omega) (by omega) ?_; intro v5 w5 hown5 hg5 hnn5; have HG5 := Lib.hid (own_below BB2.out O2.out (by omega) hg5); have HO5' := Lib.hid hown5; clear hown5 hg5 hnn5) | (rw [HW2.out.1, HW2.out.2]) | (rw [HW2.out.2]))
            go_roundw
            case rel =>
              refine ⟨m, by omega, by first | rfl | go_num, ?_, HG5.out⟩
              have := HO5'.out
              rw [show ([Value.string s] : List Value) = strv [s] from rfl, ← strv_append, rev_step ss m s HSK.out] at this
              rw [show n - m = Q + 1 by have := HQ.out; omega]
              exact this
            case measure => simp [intOf] <;> omega
theorem walk_ok (a0 : Option Addr) (len0 cap0 : Nat) (a1 : ByteArray) (w : World) (w0 : IsStrs w a0 len0 cap0) (w1 : a1.size ≤ maxLen) :
    Calls Try.prog 8 #[.slice a0 len0 cap0, .string a1] w fun e w' => e = .returned (.bool true) ∧ Below w.heap.size w w' := by
  obtain ⟨ss, h1, h2, h3, h4, _⟩ := w0
  unfold maxLen at h4 w1
  exact walk_core a0 len0 cap0 ss a1 w h1 (by omega) h2 (by omega)
end Go.Proofs.Ytmnliieiiaedeaa.lawBloomOrder
