/-
  Index: the program's entry.
-/
import Derived.Test.YtcebmlcdhapnkaaIdxReadX
namespace Go.Proofs.Ytcebmlcdhapnkaa.idx
open Go.ChangeShapes Go.WideShapes Go.ChangeAt Go.RowKit plain words ord mem uvs uvc Go.Lib

theorem info4x : (Try.prog.info? 68).map (·.size) = some 4 := by kernel_rfl
/-- the first k bytes as a number -/
def pk (l : List UInt8) (k : Nat) : Nat := (l.take k).foldl (fun a c => a * 256 + c.toNat) 0
theorem pk_step {l : List UInt8} {k : Nat} {c : UInt8} (h : l[k]? = some c) : pk l (k + 1) = pk l k * 256 + c.toNat := by
  unfold pk
  rw [take_succ_of h, List.foldl_append]
  rfl
theorem pk_lt (l : List UInt8) (k : Nat) : pk l k < 256 ^ k := by
  induction k with
  | zero => simp [pk]
  | succ k ih =>
    rw [Nat.pow_succ]
    cases h : l[k]? with
    | none =>
      have : pk l (k + 1) = pk l k := by
        unfold pk
        have hk : l.length ≤ k := by simpa using h
        rw [List.take_of_length_le (by omega), List.take_of_length_le hk]
      omega
    | some c =>
      rw [pk_step h]
      have := c.toNat_lt
      omega
theorem pk_four {l : List UInt8} (h : 4 ≤ l.length) : sum4 l = ((pk l 4 : Nat) : Int) := by
  match l, h with
  | a :: b :: c :: d :: l, _ => simp [sum4, pk]
theorem or_low (s c : Nat) (hs : s < 16777216) (hc : c < 256) : bits .or .u32 ((s : Int) * 256) (c : Int) = ((s * 256 + c : Nat) : Int) := by
  have := or_hi 8 256 (s * 256) c (by decide) (by omega) hc (by omega)
  rwa [show ((s * 256 : Nat) : Int) = (s : Int) * 256 from by simp] at this
theorem chg_set4 {S : Nat → Prop} {a w : World} (h : Chg S a w) {g : Nat} (hg : a.heap.size ≤ g) (v0 v1 v2 v3 : Value) : Chg S a ((((w.setCell ⟨g, 0, none⟩ v0).setCell ⟨g, 1, none⟩ v1).setCell ⟨g, 2, none⟩ v2).setCell ⟨g, 3, none⟩ v3) :=
  (((h.setCell (p := ⟨g, 0, none⟩) (fun e => absurd e (by simp only; omega)) v0).setCell (p := ⟨g, 1, none⟩) (fun e => absurd e (by simp only; omega)) v1).setCell (p := ⟨g, 2, none⟩) (fun e => absurd e (by simp only; omega)) v2).setCell (p := ⟨g, 3, none⟩) (fun e => absurd e (by simp only; omega)) v3
theorem chg_at4 (w : World) (g : Nat) (v0 v1 v2 v3 : Value) : Chg (fun b => b = g) w ((((w.setCell ⟨g, 0, none⟩ v0).setCell ⟨g, 1, none⟩ v1).setCell ⟨g, 2, none⟩ v2).setCell ⟨g, 3, none⟩ v3) :=
  ((((Chg.refl (fun b => b = g) w).setCell (p := ⟨g, 0, none⟩) (fun _ => rfl) v0).setCell (p := ⟨g, 1, none⟩) (fun _ => rfl) v1).setCell (p := ⟨g, 2, none⟩) (fun _ => rfl) v2).setCell (p := ⟨g, 3, none⟩) (fun _ => rfl) v3
def RetEnt (w : World) (p B : Nat) (bs : List UInt8) (e : Ending) (w' : World) : Prop := e = .returned (.tuple #[eV (re bs).1, .bool (!decide ((re bs).2 = 0))]) ∧ ((re bs).2 ≠ 0 → IsRd w' p B (bs.drop (re bs).2)) ∧ Chg (fun b => b = p) w w'
theorem ent_no {w w' : World} {p B : Nat} {bs : List UInt8} (h : re bs = noE) (hc : Chg (fun b => b = p) w w') : RetEnt w p B bs (.returned (.tuple #[.agg #[.string ⟨#[]⟩, .int .i64 0, .int .i64 0, .int .u32 0], .bool false])) w' := by
  unfold RetEnt
  rw [h]
  exact ⟨rfl, fun e => absurd rfl e, hc⟩
set_option maxHeartbeats 2000000 in
set_option maxRecDepth 100000 in
theorem entry_r (w : World) (p B : Nat) (bs : List UInt8) (h : IsRd w p B bs) (hn : bs.length ≤ 1099511627776) :
    Calls Try.prog 50 #[.pointer (some ⟨p, 0, none⟩)] w (RetEnt w p B bs) := by
  obtain ⟨hp1, hp2⟩ := h.lt
  obtain ⟨wb, hwb⟩ : ∃ wb, w.alloc (.cells #[.string ⟨#[]⟩, .int .i64 0, .int .i64 0, .int .u32 0] 68) = wb := ⟨_, rfl⟩
  have hbb : Below w.heap.size w wb := by rw [← hwb]; exact below_al _ _
  have gr : IsV 68 wb w.heap.size (.string ⟨#[]⟩) (.int .i64 0) (.int .i64 0) (.int .u32 0) := by rw [← hwb]; exact alloc_new _ _
  have hpr : w.heap.size ≠ p := by omega
  have HTX := Lib.hid (text_r wb p B bs (h.below hbb hp2) hn)
  obtain ⟨S, t, hSt⟩ : ∃ S t, rt bs = (S, t) := ⟨_, _, rfl⟩
  have hE0 := re0 (l := bs)
  rw [hSt] at HTX hE0
  have HE0 := Lib.hid hE0
  have HST := Lib.hid hSt
  have HWB := Lib.hid hwb
  have HCB := Lib.hid ((Chg.of_below hbb).mono (S' := fun b => b = p) (fun _ _ e => e.elim))
  have GR := Lib.hid gr
  clear h hE0 hSt hbb gr hwb
  go_enter Try.func50, Try.ntmps50
  go_wp2_with (fail)
  rw [HWB.out]
  refine HTX.out.mono ?_
  rintro e w1 ⟨rfl, ⟨k, hk, hr1, hk1⟩, hc1⟩
  have HC1 := Lib.hid (chg_trans HCB.out hc1)
  have GR1 := Lib.hid (hc1.blk GR.out hpr)
  obtain ⟨V1, N1, hVN1⟩ : ∃ V N, rn (bs.drop k) = (V, N) := ⟨_, _, rfl⟩
  have HN1 := Lib.hid (number_r w1 p B (bs.drop k) hr1 (by rw [List.length_drop]; omega))
  have hV1 := rn_facts (bs.drop k)
  rw [hVN1] at HN1 hV1
  have hV1 : V1 ≤ 2147483647 := hV1.1
  have HRN1 := Lib.hid hVN1
  have HK1 := Lib.hid hk1
  clear hr1 hc1 hVN1 GR HCB HTX hk1 HWB
  go_wp2_with (fail)
  refine HN1.out.mono ?_
  rintro e w2 ⟨rfl, hr2, hc2⟩
  have HC2 := Lib.hid (chg_trans HC1.out hc2)
  have GR2 := Lib.hid (hc2.blk GR1.out hpr)
  rw [List.drop_drop] at hr2
  obtain ⟨V2, N2, hVN2⟩ : ∃ V N, rn (bs.drop (k + N1)) = (V, N) := ⟨_, _, rfl⟩
  have HN2 := Lib.hid (number_r w2 p B (bs.drop (k + N1)) hr2 (by rw [List.length_drop]; omega))
  have hV2 := rn_facts (bs.drop (k + N1))
  rw [hVN2] at HN2 hV2
  have hV2 : V2 ≤ 2147483647 := hV2.1
  have HRN2 := Lib.hid hVN2
  clear hr2 hc2 hVN2 GR1 HC1 HN1
  go_wp2_with (fail)
  refine HN2.out.mono ?_
  rintro e w3 ⟨rfl, hr3, hc3⟩
  have HC3 := Lib.hid (chg_trans HC2.out hc3)
  have GR3 := Lib.hid (hc3.blk GR2.out hpr)
  rw [List.drop_drop] at hr3
  have HR3 := Lib.hid hr3
  have hs3 := HC3.out.size
  obtain ⟨A, c, g, hb, _, hnc, hcm⟩ := id hr3
  obtain ⟨L, hL⟩ : ∃ L, (bs.drop (k + N1 + N2)).length = L := ⟨_, rfl⟩
  rw [hL] at g hb hnc
  have c0 : w3.cell? ⟨p, 0, none⟩ = some (.slice A L c) := by rw [cell_of_row _ _ _ _ _ _ g]; rfl
  have hp3 : p < w3.heap.size := blk_lt g
  have G := Lib.hid g
  have HB := Lib.hid hb
  have HLD := Lib.hid hL
  obtain ⟨⟨z0, z1, z2, z3⟩, f0, f1, f2, f3⟩ := isv_cells GR3.out
  clear hr3 hc3 g hb hL GR2 HC2 HN2
  by_cases ht : t = 0
  · have hdz : decide (t = 0) = true := by simpa using ht
    have E1 := Lib.hid (HE0.out ht)
    go_wp2_with (fail)
    (try simp only [Exit.inBlock, Exit.then])
    refine bodyPost_ret (ret_cell rfl _ _ w.heap.size 68 _ _ _ rfl (set4 GR3.out) Try.underlying68 rfl info4x) rfl ?_
    exact ent_no E1.out (chg_set4 HC3.out (Nat.le_refl _) _ _ _ _)
  · have hdz : decide (t = 0) = false := by simpa using ht
    obtain rfl : k = t := HK1.out ht
    by_cases hN1 : N1 = 0
    · have hdz1 : decide (N1 = 0) = true := by simpa using hN1
      have E1 := Lib.hid (re1 HST.out (by rw [HRN1.out]; exact hN1))
      go_wp2_with (fail)
      (try simp only [Exit.inBlock, Exit.then])
      refine bodyPost_ret (ret_cell rfl _ _ w.heap.size 68 _ _ _ rfl (set4 GR3.out) Try.underlying68 rfl info4x) rfl ?_
      exact ent_no E1.out (chg_set4 HC3.out (Nat.le_refl _) _ _ _ _)
    · have hdz1 : decide (N1 = 0) = false := by simpa using hN1
      by_cases hN2 : N2 = 0
      · have hdz2 : decide (N2 = 0) = true := by simpa using hN2
        have E1 := Lib.hid (re2 (V2 := V2) (N2 := N2) HST.out HRN1.out HRN2.out (.inl hN2))
        go_wp2_with (fail)
        (try simp only [Exit.inBlock, Exit.then])
        refine bodyPost_ret (ret_cell rfl _ _ w.heap.size 68 _ _ _ rfl (set4 GR3.out) Try.underlying68 rfl info4x) rfl ?_
        exact ent_no E1.out (chg_set4 HC3.out (Nat.le_refl _) _ _ _ _)
      · have hdz2 : decide (N2 = 0) = false := by simpa using hN2
        have hLe := HLD.out
        rw [List.length_drop] at hLe
        by_cases h4 : L < 4
        · have hi4 : (L : Int) < 4 := by omega
          have E1 := Lib.hid (re2 (V2 := V2) (N2 := N2) HST.out HRN1.out HRN2.out (.inr (by omega)))
          go_wp2_with (fail)
          (try simp only [Exit.inBlock, Exit.then])
          refine bodyPost_ret (ret_cell rfl _ _ w.heap.size 68 _ _ _ rfl (set4 GR3.out) Try.underlying68 rfl info4x) rfl ?_
          exact ent_no E1.out (chg_set4 HC3.out (Nat.le_refl _) _ _ _ _)
        · have hi4 : ¬ (L : Int) < 4 := by omega
          have E1 := Lib.hid (re3 (V2 := V2) (N2 := N2) HST.out HRN1.out HRN2.out ht hN1 hN2 (by omega))
          obtain ⟨T, hT⟩ : ∃ T, bs.drop (k + N1 + N2) = T := ⟨_, rfl⟩
          rw [hT] at HB HLD HR3 E1
          have hp4 := pk_four (l := T) (by rw [HLD.out]; omega)
          obtain ⟨b, off, rfl, hbB⟩ := Rd.some_of HB.out (show 0 < L by omega)
          have i3 : (4 : Int) ≤ (c : Int) := by omega
          obtain ⟨w4, hw4⟩ : ∃ w4, w3.alloc (.cells #[.string S, .int .i64 (V1 : Int), .int .i64 (V2 : Int), .int .u32 0] 68) = w4 := ⟨_, rfl⟩
          have hb4 : Below w3.heap.size w3 w4 := by rw [← hw4]; exact below_al _ _
          have g4 : IsV 68 w4 w3.heap.size (.string S) (.int .i64 (V1 : Int)) (.int .i64 (V2 : Int)) (.int .u32 0) := by rw [← hw4]; exact alloc_new _ _
          have d0 : w4.cell? ⟨p, 0, none⟩ = some (.slice (some ⟨b, off, none⟩) L c) := by rw [cell_of_row _ _ _ _ _ _ (blk_below hb4 G.out hp3)]; rfl
          have G4 := Lib.hid g4
          have HB4 := Lib.hid hb4
          have HP4 := Lib.hid hp4
          have hs4 := hb4.size
          have hq4 : w3.heap.size < w4.heap.size := blk_lt g4
          have HT := Lib.hid hT
          have HW4 := Lib.hid hw4
          clear g4 hb4 hp4 hLe hT z0 z1 z2 z3 f0 f1 f2 f3 hw4 d0
          go_wp2_with (fail)
          rw [HW4.out]
          go_loopg [57] 4 (fun gg s57 wr => ∃ j : Nat, j ≤ 4 ∧ 4 - j ≤ gg ∧ s57 = .int .i64 j ∧ Aside (IsV 68 wr w3.heap.size (.string S) (.int .i64 (V1 : Int)) (.int .i64 (V2 : Int)) (.int .u32 ((pk T j : Nat) : Int))) ∧ Aside (Chg (fun b => b = w3.heap.size) w4 wr))
          case atStart => exact ⟨0, Nat.zero_le _, by omega, rfl, G4.out, Chg.refl _ _⟩
          case round =>
            obtain ⟨j, hj, hg, rfl, GV, CW⟩ := hrel
            have hsw := CW.out.size
            have hrl := blk_lt GR3.out
            have hBw := rd_chg (HB.out.below HB4.out (by omega)) CW.out (by omega) (fun b' off' e => by cases e; omega)
            obtain ⟨⟨a0, a1, a2, a3⟩, b0, b1, b2, b3⟩ := isv_cells GV.out
            have hbw : b < wr.heap.size := by omega
            have hqw : w3.heap.size < wr.heap.size := by omega
            by_cases hlt : j < 4
            · obtain ⟨b', off', x, e, _, g0, y0⟩ := Bs.get hBw (show j < L by omega)
              cases e
              have hst := Lib.hid (pk_step g0)
              have hpl := pk_lt T j
              have hp3 : 256 ^ j ≤ 256 ^ 3 := Nat.pow_le_pow_right (by omega) (by omega)
              have hx := x.toNat_lt
              obtain ⟨P, hP⟩ : ∃ P, pk T j = P := ⟨_, rfl⟩
              rw [hP] at GV hst a3 hpl
              have hP24 : P < 16777216 := by omega
              have hol := or_low P x.toNat hP24 hx
              have hsh : (P : Int) * 256 % 4294967296 = (P : Int) * 256 := by omega
              have i1 : (0 : Int) ≤ (j : Int) := by omega
              have i2 : (j : Int) < 4 := by omega
              have GV2 := Lib.hid (isv_set3 GV.out (.int .u32 ((P * 256 + x.toNat : Nat) : Int)))
              clear hpl hp3 hP g0 hBw
              have GV3 : IsV 68 (wr.setCell ⟨w3.heap.size, 3, none⟩ (.int .u32 ((P : Int) * 256 + (x.toNat : Int)))) w3.heap.size (.string S) (.int .i64 (V1 : Int)) (.int .i64 (V2 : Int)) (.int .u32 ((pk T (j + 1) : Nat) : Int)) := by
                rw [hst.out, Int.natCast_add, Int.natCast_mul]
                exact isv_set3 GV.out _
              have GV4 := Lib.hid GV3
              clear GV3 GV2
              go_wp2_with (fail)
              go_roundg (4 - (j + 1))
              case measure => omega
              case rel => exact ⟨j + 1, by omega, by omega, by go_num, GV4.out, CW.out.setCell (p := ⟨w3.heap.size, 3, none⟩) (fun _ => rfl) _⟩
            · obtain rfl : j = 4 := by omega
              have hi4 : ¬ ((4 : Nat) : Int) < 4 := by omega
              have hGw := CW.out.blk (blk_below HB4.out G.out hp3) (show ¬ p = w3.heap.size by omega)
              have c0' : wr.cell? ⟨p, 0, none⟩ = some (.slice (some ⟨b, off, none⟩) L c) := by rw [cell_of_row _ _ _ _ _ _ hGw]; rfl
              have hfz := frozen_of_row _ _ 0 _ _ hGw
              have hGR := CW.out.blk (blk_below HB4.out GR3.out (by omega)) (show ¬ w.heap.size = w3.heap.size by omega)
              obtain ⟨⟨z0, z1, z2, z3⟩, f0, f1, f2, f3⟩ := isv_cells hGR
              have hpq : p ≠ w3.heap.size := by omega
              have hqp : w3.heap.size ≠ p := by omega
              have hrq : w.heap.size ≠ w3.heap.size := by omega
              have hcut := Lib.hid (bs_cut hBw (show 4 ≤ L by omega) hnc)
              have HGW := Lib.hid hGw
              have HGR := Lib.hid hGR
              have i4 : (4 : Int) ≤ (L : Int) := by omega
              have i5 : (L : Int) ≤ (c : Int) := by omega
              clear hBw hGw hGR c0
              have HC4 := Lib.hid ((chg_trans HC3.out ((Chg.of_below HB4.out).mono (fun _ _ e => e.elim))).trans CW.out (fun i hi e => absurd e (by omega)))
              go_wp2_with (fail)
              all_goals
                (try simp only [Exit.inBlock, Exit.then])
                refine bodyPost_ret (ret_cell rfl _ _ w.heap.size 68 _ _ _ rfl (set4 (isv_other (g' := p) (i := 0) HGR.out hpr _)) Try.underlying68 rfl info4x) rfl ?_
                have h3 := hcut.out
                first | rw [if_pos rfl] at h3 | rw [if_pos (by assumption)] at h3 | rw [if_neg (by assumption)] at h3
                rw [← HT.out, List.drop_drop] at h3
                have hd9 : decide (k + N1 + N2 + 4 = 0) = false := by simp
                unfold RetEnt
                rw [E1.out, HP4.out]
                refine ⟨by simp only [hd9]; rfl, fun _ => ?_, chg_set4 (HC4.out.setCell (p := ⟨p, 0, none⟩) (fun _ => rfl) _) (Nat.le_refl _) _ _ _ _⟩
                refine IsRd.chg (S := fun b => b = w.heap.size) ?_ (chg_at4 _ _ _ _ _ _) (by omega) (by intro b hb; omega)
                refine IsRd.set HGW.out h3 (by rw [← List.drop_drop, HT.out, List.length_drop, HLD.out]) hp1 (by omega) (by omega)
end Go.Proofs.Ytcebmlcdhapnkaa.idx
