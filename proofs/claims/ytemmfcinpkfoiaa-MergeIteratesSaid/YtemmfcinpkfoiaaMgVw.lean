/-
  The document's View, Merge, Cut.
-/
import Derived.Test.YtemmfcinpkfoiaaMgHalf
namespace Go.Proofs.Ytemmfcinpkfoiaa.mg
open Go.ChangeShapes Go.WideShapes Go.ChangeAt Go.RowKit Go.Shelf plain words ord mem rg

theorem Views.short {l : List Pt} (h : l.length ≤ 1) : Views l l := Views.self (by
  match l, h with
  | [], _ => exact .nil
  | [a], _ => exact List.pairwise_singleton _ _)
theorem Views.both {a b x y v : List Pt} (ha : Views a x) (hb : Views b y) (h : Views (x ++ y) v) : Views (a ++ b) v :=
  h.trans (fun p hp => List.mem_append.2 ((List.mem_append.1 hp).imp (ha.from_ p) (hb.from_ p))) (fun p hp => by
    rcases List.mem_append.1 hp with hp | hp
    · obtain ⟨q, hq, h⟩ := ha.best p hp
      exact ⟨q, List.mem_append.2 (.inl hq), h⟩
    · obtain ⟨q, hq, h⟩ := hb.best p hp
      exact ⟨q, List.mem_append.2 (.inr hq), h⟩)
set_option maxRecDepth 100000 in
set_option maxHeartbeats 4000000 in
theorem viewr_x (N : Nat) : ∀ (w : World) (B n c : Nat) (A : Option Addr) (l : List Pt), n ≤ N → Ls PE w B A n l → (A = none → c = 0) → B ≤ w.heap.size → n ≤ c → c ≤ 9223372036854775807 → n ≤ 90000 →
    Calls Try.prog 18 #[.slice A n c] w (RetV w l) := by
  induction N using Nat.strongRecOn with
  | ind N ih =>
    intro w B n c A l hN h hA hB hnc hcm hn
    obtain ⟨w1, hw1⟩ : ∃ w1, w.alloc (.cells #[] 24) = w1 := ⟨_, rfl⟩
    have hb1 : Below w.heap.size w w1 := by rw [← hw1]; exact (Below.refl _ _).alloc (Nat.le_refl _) _
    have hs0 : HS w w1 (.slice (some ⟨w.heap.size, 0, none⟩) 0 0) [] := by rw [← hw1]; exact ⟨Rw.of_ow (Ow.lit w), fun g hg => by cases hg; exact Nat.le_refl _, (Below.refl _ _).alloc (Nat.le_refl _) _⟩
    have S := Lib.hid hs0
    have HL := Lib.hid h
    have HLN := Lib.hid h.1
    have W1 := Lib.hid hw1
    have B1 := Lib.hid hb1
    have IH := Lib.hid ih
    clear hs0 h hw1 hb1 ih
    by_cases h1 : n ≤ 1
    · have h1' : (n : Int) ≤ 1 := by omega
      have hl1 := HL.out.below B1.out hB
      have hrow1 := S.out.out
      go_enter Try.func18, Try.ntmps18
      go_wp2_with (at_builtin; rw [W1.out]; refine append_q rfl (.tmp 8) (.tmp 9) rfl _ 0 [] (by rfl) hrow1 B A n c hA l (by rfl) hl1 (by omega) ?_; intro v9 w9 hown9 hgrow9 hat9; have S9 := Lib.hid (S.out.app hown9 hgrow9 hat9); clear hown9 hgrow9 hat9 hl1 hrow1)
      go_ret
      have := S9.out
      rw [List.nil_append] at this
      exact this.ret (Views.short (by rw [HLN.out]; exact h1)) (Nat.le_refl _)
    · obtain ⟨mid, hmid⟩ : ∃ mid, n / 2 = mid := ⟨_, rfl⟩
      have h1' : ¬ (n : Int) ≤ 1 := by omega
      obtain ⟨b, off, rfl, hbB⟩ := Rd.some_of HL.out.2 (show 0 < n * PE.k from Nat.mul_pos (by omega) PE.pos)
      have q0 : Int.tdiv (n : Int) 2 = (mid : Int) := by rw [Int.tdiv_eq_ediv_of_nonneg (by omega)]; omega
      have q0' : (n : Int) / 2 = (mid : Int) := by omega
      have q1 : IntKind.i64.wrap (mid : Int) = (mid : Int) := by go_arith
      have m0 : (0 : Int) ≤ (mid : Int) := by omega
      have m1 : (mid : Int) ≤ (n : Int) := by omega
      have m2 : (mid : Int) ≤ (c : Int) := by omega
      have m3 : ¬ c = mid := by omega
      have m3' : (c == mid) = false := by simpa using m3
      have HM := Lib.hid (show 0 < mid ∧ mid < n from by omega)
      clear hmid
      go_enter Try.func18, Try.ntmps18
      go_wp2_with fail
      rw [W1.out]
      refine wp_region_plan [([0, 1, 2, 3, 4, 6, 7, 8, 9, 10], some (5, false)), ([], some (11, false)), ([], some (12, false)), ([13], none)] (by kernel_rfl) (by kernel_rfl) ?_
      refine seg_act _ (by dsimp only [pick, at_]) _ (by dsimp only [pick, at_]) ?_
      repeat (go_big_quiet_step (fail))
      refine wpQuiet_nil ?_
      intro K1 g1 g2
      clear g1
      go_wp2_with (fail)
      have hbd : Below w1.heap.size w1 w1.drew := (Below.refl _ _).drew
      have hBs : B ≤ w1.heap.size := Nat.le_trans hB B1.out.size
      have hL1 := (HL.out.below B1.out hB).below hbd hBs
      refine (IH.out mid (Nat.lt_of_lt_of_le HM.out.2 hN) w1.drew B mid c (some ⟨b, off, none⟩) (l.take mid) (Nat.le_refl _) (hL1.take (Nat.le_of_lt HM.out.2)) hA hBs (by omega) hcm (by omega)).mono ?_
      rintro e w2 ⟨A2, c2, o2, rfl, ho2, hv2, hl2, hb2⟩
      have hb12 : Below w1.heap.size w1 w2 := hbd.trans hb2
      have hs2 := hb12.size
      have HO2 := Lib.hid ho2
      have HV2 := Lib.hid hv2
      have HL2 := Lib.hid hl2
      have HB2 := Lib.hid hb12
      clear hbd hL1 ho2 hv2 hl2 hb2 hb12
      go_wp2_with (fail)
      refine g2 _ _ HB2.out ?_
      clear g2
      refine seg_act _ (by dsimp only [pick, at_]) _ (by dsimp only [pick, at_]) ?_
      refine wpQuiet_nil ?_
      intro K2 g1 g2
      clear g1
      go_wp2_with (fail)
      have hBs2 : B ≤ w2.heap.size := Nat.le_trans hBs hs2
      have hL2 := (HL.out.below B1.out hB).below HB2.out hBs
      have hlt : n - mid < n := by have := HM.out; omega
      refine (IH.out (n - mid) (Nat.lt_of_lt_of_le hlt hN) w2 B (n - mid) (c - mid) (some ⟨b, off + mid * 3, none⟩) (l.drop mid) (Nat.le_refl _) (hL2.drop (Nat.le_of_lt HM.out.2)) (fun e => by cases e) hBs2 (by omega) (by omega) (by omega)).mono ?_
      rintro e w3 ⟨A3, c3, o3, rfl, ho3, hv3, hl3, hb3⟩
      have hs3 := hb3.size
      have HO3 := Lib.hid ho3
      have HV3 := Lib.hid hv3
      have HL3 := Lib.hid hl3
      have HB3 := Lib.hid hb3
      have HB13 := Lib.hid (HB2.out.trans (hb3.mono hs2))
      clear hL2 ho3 hv3 hl3 hb3
      go_wp2_with (fail)
      refine g2 _ _ (by first | exact HB13.out | exact HB3.out) ?_
      clear g2
      refine seg_act _ (by dsimp only [pick, at_]) _ (by dsimp only [pick, at_]) ?_
      refine wpQuiet_nil ?_
      intro K3 g1 g2
      clear g1
      go_wp2_with (fail)
      have hla : Ls PE w3 w3.heap.size A2 o2.length o2 := (HO2.out.row.ls.below HB3.out (Nat.le_refl _)).more hs3
      have hlb : Ls PE w3 w3.heap.size A3 o3.length o3 := HO3.out.row.ls
      have e2 : o2.length ≤ mid := by have := HL2.out; rw [List.length_take] at this; omega
      have e3 : o3.length ≤ n - mid := by have := HL3.out; rw [List.length_drop, HLN.out] at this; exact this
      refine (half_x w3 w3.heap.size o2.length c2 o3.length c3 A2 A3 o2 o3 hla hlb (Nat.le_refl _) HV2.out.rise HV3.out.rise (by omega)).mono ?_
      rintro e w4 ⟨A4, c4, o4, rfl, ho4, hv4, hl4, hb4⟩
      have HO4 := Lib.hid ho4
      have HV4 := Lib.hid hv4
      have HL4 := Lib.hid hl4
      have HB4 := Lib.hid hb4
      have HB14 := Lib.hid (HB13.out.trans (hb4.mono (Nat.le_trans hs2 hs3)))
      clear hla hlb ho4 hv4 hl4 hb4
      go_wp2_with (fail)
      refine g2 _ _ (by first | exact HB14.out | exact HB4.out) ?_
      clear g2
      refine seg_end _ (by dsimp only [pick, at_]) ?_
      repeat (go_big_quiet_step (fail))
      refine wpQuiet_nil (NoPanic.normal ?_)
      go_wp2_with (fail)
      go_ret
      have hw1s := B1.out.size
      have hbase : w.heap.size ≤ w3.heap.size := Nat.le_trans hw1s (Nat.le_trans hs2 hs3)
      refine ⟨A4, c4, o4, rfl, ⟨HO4.out.row, fun g hg => Nat.le_trans hbase (HO4.out.own g hg)⟩, ?_, ?_, B1.out.trans (HB14.out.mono hw1s)⟩
      · have := HV2.out.both HV3.out HV4.out
        rwa [List.take_append_drop] at this
      · have h4 := HL4.out
        rw [List.length_append] at h4
        rw [HLN.out]
        omega
theorem view_y (w : World) (B n c : Nat) (A : Option Addr) (l : List Pt) (h : Ls PE w B A n l) (hA : A = none → c = 0) (hB : B ≤ w.heap.size) (hnc : n ≤ c) (hcm : c ≤ 9223372036854775807) (hn : n ≤ 90000) :
    Calls Try.prog 18 #[.slice A n c] w (RetV w l) := viewr_x n w B n c A l (Nat.le_refl _) h hA hB hnc hcm hn
set_option maxRecDepth 100000 in
set_option maxHeartbeats 4000000 in
theorem merge_y (w : World) (B n c : Nat) (A : Option Addr) (ls : List It) (h : Lists w B n A ls) (hB : B ≤ w.heap.size) (hn : n ≤ 90000) (hN : (pts ls).length ≤ 90000) :
    Calls Try.prog 21 #[.slice A n c] w (RetV w (pts ls)) := by
  have HL := Lib.hid h
  have HLL := Lib.hid h.row.1
  have HS0 := Lib.hid (show HS w (w.alloc (.cells #[] 24)) (.slice (some ⟨w.heap.size, 0, none⟩) 0 0) (pts (ls.take 0)) from ⟨Rw.of_ow (Ow.lit w), fun g hg => by cases hg; exact Nat.le_refl _, (Below.refl _ _).alloc (Nat.le_refl _) _⟩)
  clear h
  go_enter Try.func21, Try.ntmps21
  go_wp2_with fail
  go_loopg [3, 4] n (fun gg s3 s4 wr => ∃ (i : Nat), s4 = .int .i64 i ∧ i ≤ n ∧ n - i ≤ gg ∧ Aside (HS w wr s3 (pts (ls.take i))))
  case atStart => exact ⟨0, rfl, Nat.zero_le _, by omega, HS0.out⟩
  case round =>
    clear HS0
    obtain ⟨i, rfl, hi, hg, S⟩ := hrel
    obtain ⟨wv, rfl⟩ : ∃ wv, wv = wr := ⟨wr, rfl⟩
    obtain ⟨vo, rfl⟩ : ∃ vo, vo = u3 := ⟨u3, rfl⟩
    by_cases hlt : i < n
    · obtain ⟨x, hx⟩ := HL.out.row.get hlt
      have hLv := HL.out.below S.out.bel hB
      obtain ⟨b, off, hA, hbB, hc⟩ := hLv.row.at_ hx
      have hx0 := hc 0 (by decide)
      simp only [HE, Nat.mul_one, Nat.add_zero, itE, It.val, List.getElem?_cons_zero] at hx0
      have hxi := hLv.ok x (List.mem_of_getElem? hx)
      have htk := take_succ_at hx
      have hpt : pts (ls.take (i + 1)) = pts (ls.take i) ++ x.l := by rw [htk, pts_snoc]
      have hlen : (pts (ls.take i)).length + x.l.length ≤ (pts ls).length := by
        rw [← List.length_append, ← hpt]
        have : pts ls = pts (ls.take (i + 1)) ++ pts (ls.drop (i + 1)) := by
          unfold pts
          rw [← List.flatMap_append, List.take_append_drop]
        rw [this, List.length_append]
        omega
      have i1 : (i : Int) < (n : Int) := by omega
      have i0 : (0 : Int) ≤ (i : Int) := by omega
      have hsz := S.out.bel.size
      have hbl : b < wv.heap.size := World.block_lt_of_cell? wv _ hx0
      have hrow := S.out.out
      have hls := hxi.ls
      have hni := hxi.nil
      have HPT := Lib.hid hpt
      subst hA
      clear hx hLv hc hxi htk hpt
      go_wp2_with (at_builtin; refine append_q rfl (.tmp 12) (.tmp 16) rfl vo _ (pts (ls.take i)) (by rfl) hrow B x.A x.l.length x.c hni x.l (by rfl) hls (by omega) ?_; intro v9 w9 hown9 hgrow9 hat9; have S9 := Lib.hid (S.out.app hown9 hgrow9 hat9); clear hown9 hgrow9 hat9 hls hrow)
      go_roundg (n - (i + 1))
      case measure => omega
      case rel =>
        refine ⟨i + 1, by go_num, by omega, by omega, ?_⟩
        show HS _ _ _ _
        rw [HPT.out]
        exact S9.out
    · have i1 : ¬ (i : Int) < (n : Int) := by omega
      have hs := S.out
      rw [List.take_of_length_le (by rw [HLL.out]; omega)] at hs
      obtain ⟨A1, c1, rfl, hc1, hc2, hA1⟩ := hs.out.form
      have HSS := Lib.hid hs
      clear hs
      go_wp2_with fail
      refine (view_y wv wv.heap.size (pts ls).length c1 A1 (pts ls) HSS.out.out.ls hA1 (Nat.le_refl _) hc1 hc2 hN).mono ?_
      rintro e w2 ⟨A2, c2, o, rfl, ho, hv, hl, hb⟩
      have HO := Lib.hid ho
      have HV := Lib.hid hv
      have HB2 := Lib.hid hb
      clear ho hv hb
      go_wp2_with fail
      go_ret
      have hsz := HSS.out.bel.size
      exact ⟨A2, c2, o, rfl, ⟨HO.out.row, fun g hg => Nat.le_trans hsz (HO.out.own g hg)⟩, HV.out, hl, HSS.out.bel.trans (HB2.out.mono hsz)⟩
end Go.Proofs.Ytemmfcinpkfoiaa.mg
