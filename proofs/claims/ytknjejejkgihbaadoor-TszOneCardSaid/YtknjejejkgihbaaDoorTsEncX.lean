/-
  Tsz: Encode, the program's.
-/
import Derived.Test.YtknjejejkgihbaaDoorTsPoint
import Derived.Test.YtknjejejkgihbaaDoorTsGet
namespace Go.Proofs.YtknjejejkgihbaaDoor.ts
open Go.ChangeShapes Go.WideShapes Go.ChangeAt Go.RowKit plain words ord mem bitm uvs uvc

set_option maxHeartbeats 1000000 in
set_option maxRecDepth 100000 in
theorem encode_x (w : World) (hl2 : 2 ≤ w.heap.size) (hlay : Lay w) (B n c : Nat) (A : Option Addr) (l : List Pt) (h : Pts w B A n l) (hf : ∀ x ∈ l, FitP x) (hB : B ≤ w.heap.size) (hn : n ≤ 100000) :
    Calls Tryd.prog 11 #[.slice A n c] w (RetEnc w l) := by
  have HCK := Lib.hid (check_tx w B n c A l h hB (by omega))
  by_cases hc : checkP l = 0
  · have HH := Lib.hid h
    have HC := Lib.hid hc
    have HF := Lib.hid hf
    have HLAY := Lib.hid hlay
    clear h hc hf hlay
    go_enter Tryd.func11, Tryd.ntmps11
    go_wp2_with (fail)
    refine HCK.out.mono ?_
    rintro e w1 ⟨rfl, hb1⟩
    rw [HC.out]
    have hs1 := hb1.size
    have HB1 := Lib.hid hb1
    clear hb1 HCK
    go_wp2_with (fail)
    refine (bitc.newwriter_x w1).mono ?_
    rintro e w2 ⟨rfl, hw2, hc2, hz2⟩
    have hb2 : Below w1.heap.size w1 w2 := (chg_of hc2).to_below
    have HW2 := Lib.hid hw2
    have HB2 := Lib.hid (HB1.out.trans (hb2.mono hs1))
    have HZ2 := Lib.hid hz2
    clear hw2 hc2 hz2 hb2 HB1
    obtain ⟨pw, hpw⟩ : ∃ pw, w1.heap.size = pw := ⟨_, rfl⟩
    obtain ⟨pe, hpe⟩ : ∃ pe, w2.heap.size = pe := ⟨_, rfl⟩
    have hpp : pe = pw + 1 := by have := HZ2.out; omega
    obtain ⟨w3, hw3⟩ : ∃ w3, w2.alloc (.cells (encC pw 0 0 0 none 0 none) 51) = w3 := ⟨_, rfl⟩
    have hb3 : Below w2.heap.size w2 w3 := by rw [← hw3]; exact (Below.refl _ _).alloc (Nat.le_refl _) _
    have PW3 : PW w.heap.size w3 pe pw none [] 0 0 0 none 0 none := by
      have hwr := HW2.out
      rw [hpw] at hwr
      have hb := HB2.out.trans (hb3.mono HB2.out.size)
      refine ⟨?_, hwr.chg (chg_to (Chg.of_below hb3)) (fun e => e) (fun _ _ e => e), by omega, (fun e => by cases e), by omega, by omega, (fun g e => by cases e), HLAY.out.below hb hl2, hl2⟩
      rw [← hw3, ← hpe]; exact alloc_new _ _
    have HPW := Lib.hid PW3
    have HB3 := Lib.hid (HB2.out.trans (hb3.mono HB2.out.size))
    have HW3 := Lib.hid (show w2.alloc (.cells #[.pointer (some ⟨pw, 0, none⟩), .int .i64 0, .int .i64 0, .int .u64 0, .bool false, .int .i64 0, .int .i64 0, .int .u64 0, .bool false, .int .i64 0, .int .i64 0] 51) = w3 from hw3)
    have HPP := Lib.hid (And.intro hpw hpe)
    clear hpw hpe hw3 hb3 PW3 HW2 HZ2 HB2 hpp
    go_wp2_with (fail)
    rw [HPP.out.1, HPP.out.2, HW3.out]
    go_loopg [6, 7, 17] n (fun gg s6 s7 s17 wr => ∃ (k : Nat) (X : List Bool) (r : Option Nat) (t d v s : Nat) (a b : Win), k ≤ n ∧ n - k ≤ gg ∧ s17 = .int .i64 k ∧ d ≤ 1099511627776 ∧ lt64 v ∧ lt64 s ∧ Aside (∀ m, k = m + 1 → l[m]? = some ((t : Int), (v : Int), (s : Int))) ∧ Aside (St l k (d : Int) X a b) ∧ Aside (PW w.heap.size wr pe pw r X (t : Int) (d : Int) v a s b) ∧ Aside (Below w.heap.size w wr))
    case atStart => exact ⟨0, [], none, 0, 0, 0, 0, none, none, by omega, by omega, rfl, by omega, by unfold lt64; omega, by unfold lt64; omega, (fun m e => by omega), St.start l, HPW.out, HB3.out⟩
    case round =>
      clear HPW HB3 HW3 HPP
      obtain ⟨k, X, r, t, d, v, s, a, b, hk, hg, rfl, hd, hv, hs, HL, HST, HPW, HB⟩ := hrel
      have hXl : X.length ≤ 222 * n := by have h1 := HST.out.len HF.out; rwa [HH.out.1] at h1
      by_cases hlt : k < n
      · obtain ⟨p, hp⟩ : ∃ p, l[k]? = some p := ⟨_, List.getElem?_eq_getElem (by rw [HH.out.1]; exact hlt)⟩
        obtain ⟨pt, pv, ps, rfl, hpt, hpv, hps⟩ := three_nat hp HF.out HC.out
        obtain ⟨b0, off, rfl, hb0, d0, d1, d2⟩ := Pts.at_ HH.out hlt hp
        have hb0w : b0 < w.heap.size := by omega
        replace d0 := (HB.out.cell (p := ⟨b0, _, none⟩) hb0w).trans d0
        replace d1 := (HB.out.cell (p := ⟨b0, _, none⟩) hb0w).trans d1
        replace d2 := (HB.out.cell (p := ⟨b0, _, none⟩) hb0w).trans d2
        simp only at d0 d1 d2
        obtain ⟨N, hN⟩ : ∃ N, wr.heap.size = N := ⟨_, rfl⟩
        obtain ⟨w4, hw4⟩ : ∃ w4, wr.alloc (.cells #[.int .i64 (pt : Int), .int .u64 (pv : Int), .int .u64 (ps : Int)] 39) = w4 := ⟨_, rfl⟩
        have hb4 : Below wr.heap.size wr w4 := by rw [← hw4]; exact (Below.refl _ _).alloc (Nat.le_refl _) _
        have hg4 : w4.heap[N]? = some (.cells #[.int .i64 (pt : Int), .int .u64 (pv : Int), .int .u64 (ps : Int)] 39 (0, 0)) := by rw [← hw4, ← hN]; exact alloc_new _ _
        have P4 := Lib.hid (HPW.out.below hb4)
        have B4 := Lib.hid (HB.out.trans (hb4.mono HB.out.size))
        obtain ⟨m0, m1, m2⟩ := cells3 hg4
        have i1 : (0 : Int) ≤ (k : Int) := by omega
        have i2 : (k : Int) < (n : Int) := by omega
        have HPT := Lib.hid hp
        have HW4 := Lib.hid hw4
        have HN := Lib.hid hN
        clear hp hw4 hN hb4 hg4
        have hkk : k = 0 ∨ ∃ m, k = m + 1 := by
          cases k with
          | zero => exact .inl rfl
          | succ m => exact .inr ⟨m, rfl⟩
        rcases hkk with rfl | ⟨m, hm⟩
        · obtain ⟨hd0, rfl, rfl, rfl⟩ := HST.out.zero
          obtain rfl : d = 0 := by omega
          have HQ := Lib.hid (first_x w.heap.size w4 pe pw r [] _ _ v none s none P4.out (by simp) pt pv ps hpt hpv hps)
          have hst := St.first HPT.out
          simp only [Int.toNat_natCast] at hst
          have HST1 := Lib.hid hst
          clear hst hd0
          simp only [Nat.zero_mul, Nat.add_zero] at d0 d1 d2
          go_wp2_with (fail)
          rw [HW4.out]
          refine HQ.out.mono ?_
          rintro e w5 ⟨rfl, hk5, r5, X5, HX5, hp5, hr5⟩
          have P5 := Lib.hid hp5
          have B5 := Lib.hid (B4.out.trans (P4.out.bel B4.out.size hk5))
          have HST2 := Lib.hid (show St l 1 0 X5 none none by rw [HX5.out, List.nil_append]; exact HST1.out)
          have HLL := Lib.hid (show ∀ m, 1 = m + 1 → l[m]? = some ((pt : Int), (pv : Int), (ps : Int)) from fun m e => by obtain rfl : m = 0 := by omega
                                                                                                                          exact HPT.out)
          clear hk5 hp5 hr5 HQ m0 m1 m2 d0 d1 d2
          go_wp2_with (fail)
          go_roundg (n - 1)
          case measure => omega
          case rel => exact ⟨1, X5, r5, pt, 0, pv, ps, none, none, by omega, by omega, rfl, by omega, hpv, hps, HLL.out, HST2.out, P5.out, B5.out⟩
        · have hq := HL.out m hm
          obtain ⟨qt, qv, qs, hqe, hqt, _, _⟩ := three_nat hq HF.out HC.out
          have htt : t ≤ 1099511627776 := by
            have := congrArg Prod.fst hqe
            simp only at this
            omega
          subst hm
          have hlt2 := check_two HC.out HPT.out hq
          simp only at hlt2
          have hst := HST.out.next HPT.out hq HF.out
          have hnx := HST.out.win
          simp only [Int.toNat_natCast] at hst
          obtain ⟨D, hD⟩ : ∃ D : Nat, (pt : Int) - (t : Int) = (D : Int) := ⟨pt - t, by omega⟩
          rw [hD] at hst
          have hDl : D ≤ 1099511627776 := by omega
          have HQ := Lib.hid (next_x w.heap.size w4 pe pw r X t D d v a s b P4.out (by omega) pt pv ps hpt hpv hps hD hd hv hs hnx.1 hnx.2)
          obtain ⟨k, hk1⟩ : ∃ k, m + 1 = k := ⟨_, rfl⟩
          have hxz := xor_lt pv v hpv hv
          have HST1 := Lib.hid hst
          have hkz : ((k : Int) == 0) = false := by simp; omega
          rw [hk1] at d0 d1 d2 i1 i2 hlt hk
          have HK := Lib.hid hk1
          clear hst hD hnx hqe hlt2 hk1 hq HL HST
          rw [HK.out]
          go_wp2_with (fail)
          rw [HW4.out]
          refine HQ.out.mono ?_
          rintro e w5 ⟨rfl, hk5, r5, X5, HX5, hp5, hr5⟩
          have P5 := Lib.hid hp5
          have B5 := Lib.hid (B4.out.trans (P4.out.bel B4.out.size hk5))
          have HST2 := Lib.hid (HX5.out ▸ HST1.out)
          have HLL := Lib.hid (show ∀ j, k + 1 = j + 1 → l[j]? = some ((pt : Int), (pv : Int), (ps : Int)) from fun j e => by
            obtain rfl : j = k := by omega
            rw [← HK.out]; exact HPT.out)
          have hk1 := HK.out
          rw [hk1] at HST2
          clear hk5 hp5 hr5 HQ m0 m1 m2 d0 d1 d2 hk1
          go_wp2_with (fail)
          go_roundg (n - (k + 1))
          case measure => have := HK.out; omega
          case rel => exact ⟨k + 1, X5, r5, pt, D, pv, ps, _, _, by omega, by omega, by go_num, by omega, hpv, hps, HLL.out, HST2.out, P5.out, B5.out⟩
      · have hkn : k = n := by omega
        subst hkn
        have hX := HST.out.done (by rw [HH.out.1]; exact Nat.le_refl _)
        have HXB := Lib.hid hX
        clear hX
        have hnm : (k : Int) % 18446744073709551616 = (k : Int) := by omega
        obtain ⟨⟨k0, _, _⟩, _⟩ := HPW.out.cells
        have q0 := Wb.at_ k0
        have hpel : pe < wr.heap.size := blk_lt HPW.out.enc
        obtain ⟨M, hM⟩ : ∃ M, (X.length + 7) / 8 = M := ⟨_, rfl⟩
        obtain ⟨U, hU⟩ : ∃ U, (uv k).length = U := ⟨_, rfl⟩
        have hU1 := uv_len k
        rw [hU] at hU1
        have hMl : M ≤ 22200001 := by omega
        have HUV := uvarint_x wr.drew 0 0 0 none [] k (Rd.nil _ _ _) (Nat.zero_le _) (by omega) (by omega)
        rw [List.nil_append] at HUV
        unfold RetBytes at HUV
        rw [hU] at HUV
        replace HUV := Lib.hid HUV
        have HM := Lib.hid hM
        have HU := Lib.hid hU
        clear hM hU k0
        obtain ⟨i0, hi, hz0, hz1, hz2⟩ := info_parts bitc.infoB
        go_wp2_with (fail)
        refine wp_region_plan [([0, 1, 2, 4, 5], some (3, false)), ([], some (6, false)), ([], some (7, true)), ([8, 9], none)] (by kernel_rfl) (by kernel_rfl) ?_
        refine seg_act _ (by dsimp only [pick, at_]) _ (by dsimp only [pick, at_]) ?_
        repeat (go_big_quiet_step (fail))
        refine wpQuiet_nil ?_
        intro K1 h1 h2
        clear h1 q0
        go_wp2_with (fail)
        refine HUV.out.mono ?_
        rintro e w5 ⟨A5, c5, rfl, ho5, hb5⟩
        have HO5 := Lib.hid ho5
        have HB5 := Lib.hid hb5
        clear ho5 hb5 HUV
        have P5 := Lib.hid (HPW.out.drew.below HB5.out)
        go_wp2_with (fail)
        refine h2 _ _ ((Below.refl _ wr).drew.trans HB5.out) ?_
        clear h2
        refine seg_act _ (by dsimp only [pick, at_]) _ (by dsimp only [pick, at_]) ?_
        repeat (go_big_quiet_step (fail))
        refine wpQuiet_nil ?_
        intro K1 h1 h2
        clear h1
        have HBY := bitc.bytes_x w5 pw r X P5.out.wr (by omega)
        rw [HM.out] at HBY
        replace HBY := Lib.hid HBY
        go_wp2_with (fail)
        refine HBY.out.mono ?_
        rintro e w6 ⟨A6, c6, rfl, ho6, hb6⟩
        have hnil : A6 = none → c6 = 0 := by
          intro e
          rcases own_form ho6 with ⟨e2, _⟩ | ⟨g, c, e2, _⟩
          · cases e2; rfl
          · rw [e] at e2; cases e2
        have hbs6 : Rd w6 w6.heap.size A6 (M * 1) (u8s (pack X)) := own_rd ho6
        have HR6 := Lib.hid hbs6
        have HB6 := Lib.hid hb6
        have HO6 := Lib.hid (own_keep (own_base HO5.out (show w.heap.size ≤ wr.drew.heap.size from HB.out.size)) hb6 (Nat.le_refl _))
        have HBB := Lib.hid (((HB.out.drew.trans (HB5.out.mono HB.out.size)).trans (hb6.mono (Nat.le_trans HB.out.size HB5.out.size))))
        clear ho6 hb6 hbs6 HBY
        go_wp2_with (fail)
        refine h2 _ _ HB6.out ?_
        clear h2
        refine seg_write _ (by dsimp only [pick, at_]) _ (by dsimp only [pick, at_]) ?_
        repeat (go_big_quiet_step (fail))
        refine wpQuiet_nil ?_
        intro K1 h1
        go_wp2_with (at_builtin; refine wpList_append_rd rfl _ _ 23 rfl w.heap.size 5 i0 (.int .u8 0) 1 1 Tryd.underlying23 hi hz0 hz1 hz2 rfl (by decide) _ U (u8s (uv k)) rfl HO6.out w6.heap.size A6 M c6 hnil (u8s (pack X)) rfl HR6.out (u8s_one _) (by unfold maxLen; omega) (by omega) HBB.out.size ?_; intro v9 w9 ho9 hg9 hn9; obtain ⟨g9, c9, rfl, _, _, _, _⟩ := (own_form ho9).resolve_left (fun e => by omega); have HO9 := Lib.hid ho9; have HG9 := Lib.hid hg9; clear ho9 hg9 hn9)
        refine seg_end _ (by dsimp only [pick, at_]) ?_
        repeat (go_big_quiet_step (fail))
        refine wpQuiet_nil ?_
        refine NoPanic.normal ?_
        go_wp2_with (fail)
        go_ret2
        unfold RetEnc
        rw [if_pos HC.out]
        have hlen : (encP l).length = U + M := by
          unfold encP
          rw [List.length_append, pack_len, HH.out.1, HU.out, ← HXB.out, HM.out]
        have henc : u8s (encP l) = u8s (uv k) ++ u8s (pack X) := by unfold encP; rw [HH.out.1, HXB.out, u8s_append]
        rw [hlen, henc]
        exact ⟨_, _, rfl, HO9.out, HBB.out.grown HG9.out HBB.out.size (fun j e => (HO6.out.lt j e).1)⟩
  · have hc2 := Lib.hid (show RetEnc w l = fun e w' => e = .returned (.tuple #[.slice none 0 0, .int .i64 (checkP l)]) ∧ Below w.heap.size w w' by funext e w'; unfold RetEnc; rw [if_neg hc])
    obtain ⟨z, hz⟩ : ∃ z, checkP l = z := ⟨_, rfl⟩
    rw [hz] at HCK hc2 hc
    have hzz : ((z == 0) : Bool) = false := by simpa using hc
    have hzz2 : ((z != 0) : Bool) = true := by simpa using hc
    clear hz h hf hlay
    rw [hc2.out]
    go_enter Tryd.func11, Tryd.ntmps11
    go_wp2_with (fail)
    refine HCK.out.mono ?_
    rintro e w1 ⟨rfl, hb1⟩
    have HB1 := Lib.hid hb1
    clear hb1 HCK
    go_wp2_with (fail)
    go_ret2
    exact ⟨rfl, HB1.out⟩
end Go.Proofs.YtknjejejkgihbaaDoor.ts
