/-
  Index: the document's Read.
-/
import Derived.Test.YtcebmlcdhapnkaaIdxReadY
import Derived.Laws.ResultCell
namespace Go.Proofs.Ytcebmlcdhapnkaa.idx
open Go.ChangeShapes Go.WideShapes Go.ChangeAt Go.RowKit plain words ord mem uvs uvc Go.Lib

theorem or_hi (i M x y : Nat) (hM : 2 ^ i = M) (hx : x % M = 0) (hy : y < M) (h : x + y < 4294967296) : bits .or .u32 (x : Int) (y : Int) = ((x + y : Nat) : Int) := by
  subst hM
  rw [u32_or_nat x y (by omega) (by omega), Nat.or_comm, or_add i y x hy hx, Nat.add_comm]
/-- four bytes, the document's way -/
theorem sum_y (a b c d : Nat) (ha : a < 256) (hb : b < 256) (hc : c < 256) (hd : d < 256) :
    bits .or .u32 (bits .or .u32 (bits .or .u32 ((a : Int) * 16777216) ((b : Int) * 65536)) ((c : Int) * 256)) (d : Int) = ((((a * 256 + b) * 256 + c) * 256 + d : Nat) : Int) := by
  have e1 := or_hi 24 16777216 (a * 16777216) (b * 65536) (by decide) (by omega) (by omega) (by omega)
  have e2 := or_hi 16 65536 (a * 16777216 + b * 65536) (c * 256) (by decide) (by omega) (by omega) (by omega)
  have e3 := or_hi 8 256 (a * 16777216 + b * 65536 + c * 256) d (by decide) (by omega) (by omega) (by omega)
  have c1 : ((a * 16777216 : Nat) : Int) = (a : Int) * 16777216 := by simp
  have c2 : ((b * 65536 : Nat) : Int) = (b : Int) * 65536 := by simp
  have c3 : ((c * 256 : Nat) : Int) = (c : Int) * 256 := by simp
  rw [c1, c2] at e1
  rw [c3] at e2
  have e4 : a * 16777216 + b * 65536 + c * 256 + d = ((a * 256 + b) * 256 + c) * 256 + d := by omega
  rw [e1, e2, e3, e4]
abbrev eV (x : En) : Value := .agg #[.string x.1, .int .i64 x.2.1, .int .i64 x.2.2.1, .int .u32 x.2.2.2]
def noE : En × Nat := ((⟨#[]⟩, 0, 0, 0), 0)
theorem re0 {l : List UInt8} (h : (rt l).2 = 0) : re l = noE := by unfold re; rw [if_pos (.inl h)]; rfl
theorem re1 {l : List UInt8} {S : ByteArray} {t : Nat} (h : rt l = (S, t)) (h1 : (rn (l.drop t)).2 = 0) : re l = noE := by unfold re; rw [h, if_pos (.inr (.inl h1))]; rfl
theorem re2 {l : List UInt8} {S : ByteArray} {t V1 N1 V2 N2 : Nat} (h : rt l = (S, t)) (h1 : rn (l.drop t) = (V1, N1)) (h2 : rn (l.drop (t + N1)) = (V2, N2)) (h3 : N2 = 0 ∨ l.length < t + N1 + N2 + 4) : re l = noE := by
  unfold re
  rw [h]
  simp only
  rw [h1]
  simp only
  rw [h2, if_pos (.inr (.inr h3))]
  rfl
theorem re3 {l : List UInt8} {S : ByteArray} {t V1 N1 V2 N2 : Nat} (h : rt l = (S, t)) (h1 : rn (l.drop t) = (V1, N1)) (h2 : rn (l.drop (t + N1)) = (V2, N2)) (e0 : t ≠ 0) (e1 : N1 ≠ 0) (e2 : N2 ≠ 0) (h3 : t + N1 + N2 + 4 ≤ l.length) : re l = ((S, (V1 : Int), (V2 : Int), sum4 (l.drop (t + N1 + N2))), t + N1 + N2 + 4) := by
  unfold re
  rw [h]
  simp only
  rw [h1]
  simp only
  rw [h2, if_neg (by simp only; omega)]
theorem sum4_of {l : List UInt8} {M m1 m2 m3 : Nat} {x0 x1 x2 x3 : UInt8} (e1 : M + 1 = m1) (e2 : M + 2 = m2) (e3 : M + 3 = m3) (h0 : l[M]? = some x0) (h1 : l[m1]? = some x1) (h2 : l[m2]? = some x2) (h3 : l[m3]? = some x3) :
    sum4 (l.drop M) = ((((x0.toNat * 256 + x1.toNat) * 256 + x2.toNat) * 256 + x3.toNat : Nat) : Int) := by
  subst e1 e2 e3
  obtain ⟨k0, rfl⟩ := List.getElem?_eq_some_iff.1 h0
  obtain ⟨k1, rfl⟩ := List.getElem?_eq_some_iff.1 h1
  obtain ⟨k2, rfl⟩ := List.getElem?_eq_some_iff.1 h2
  obtain ⟨k3, rfl⟩ := List.getElem?_eq_some_iff.1 h3
  rw [List.drop_eq_getElem_cons k0, List.drop_eq_getElem_cons k1, List.drop_eq_getElem_cons k2, List.drop_eq_getElem_cons k3]
  rfl
/-- a row of four cells that is a variable *-/
abbrev IsV (T : TypeId) (w : World) (g : Nat) (a b c d : Value) : Prop := w.heap[g]? = some (.cells #[a, b, c, d] T (0, 0))
theorem set4 {T : TypeId} {w : World} {g : Nat} {a b c d a' b' c' d' : Value} (h : IsV T w g a b c d) : IsV T ((((w.setCell ⟨g, 0, none⟩ a').setCell ⟨g, 1, none⟩ b').setCell ⟨g, 2, none⟩ c').setCell ⟨g, 3, none⟩ d') g a' b' c' d' := by
  have h0 := heap_setCell_same w g 0 _ _ a' h
  have h1 := heap_setCell_same _ g 1 _ _ b' h0
  have h2 := heap_setCell_same _ g 2 _ _ c' h1
  have h3 := heap_setCell_same _ g 3 _ _ d' h2
  simpa using h3
theorem below_set4 {B : Nat} {a w : World} (h : Below B a w) {g : Nat} (hg : B ≤ g) (v0 v1 v2 v3 : Value) : Below B a ((((w.setCell ⟨g, 0, none⟩ v0).setCell ⟨g, 1, none⟩ v1).setCell ⟨g, 2, none⟩ v2).setCell ⟨g, 3, none⟩ v3) :=
  (((h.setCell (p := ⟨g, 0, none⟩) hg v0).setCell (p := ⟨g, 1, none⟩) hg v1).setCell (p := ⟨g, 2, none⟩) hg v2).setCell (p := ⟨g, 3, none⟩) hg v3
theorem isv_set0 {T : TypeId} {w : World} {g : Nat} {a b c d : Value} (h : IsV T w g a b c d) (x : Value) : IsV T (w.setCell ⟨g, 0, none⟩ x) g x b c d := by simpa using heap_setCell_same w g 0 _ _ x h
theorem isv_set1 {T : TypeId} {w : World} {g : Nat} {a b c d : Value} (h : IsV T w g a b c d) (x : Value) : IsV T (w.setCell ⟨g, 1, none⟩ x) g a x c d := by simpa using heap_setCell_same w g 1 _ _ x h
theorem isv_set2 {T : TypeId} {w : World} {g : Nat} {a b c d : Value} (h : IsV T w g a b c d) (x : Value) : IsV T (w.setCell ⟨g, 2, none⟩ x) g a b x d := by simpa using heap_setCell_same w g 2 _ _ x h
theorem isv_set3 {T : TypeId} {w : World} {g : Nat} {a b c d : Value} (h : IsV T w g a b c d) (x : Value) : IsV T (w.setCell ⟨g, 3, none⟩ x) g a b c x := by simpa using heap_setCell_same w g 3 _ _ x h
theorem isv_other {T : TypeId} {w : World} {g g' i : Nat} {a b c d : Value} (h : IsV T w g a b c d) (hn : g ≠ g') (x : Value) : IsV T (w.setCell ⟨g', i, none⟩ x) g a b c d := (Below.heap_setCell w ⟨g', i, none⟩ x g hn).trans h
theorem info4 : (Try.prog.info? 81).map (·.size) = some 4 := by kernel_rfl
theorem isv_cells {T : TypeId} {w : World} {g : Nat} {a b c d : Value} (h : IsV T w g a b c d) : (w.cell? ⟨g, 0, none⟩ = some a ∧ w.cell? ⟨g, 1, none⟩ = some b ∧ w.cell? ⟨g, 2, none⟩ = some c ∧ w.cell? ⟨g, 3, none⟩ = some d) ∧ w.frozen? ⟨g, 0, none⟩ = false ∧ w.frozen? ⟨g, 1, none⟩ = false ∧ w.frozen? ⟨g, 2, none⟩ = false ∧ w.frozen? ⟨g, 3, none⟩ = false :=
  ⟨⟨by rw [cell_of_row _ _ _ _ _ _ h]; rfl, by rw [cell_of_row _ _ _ _ _ _ h]; rfl, by rw [cell_of_row _ _ _ _ _ _ h]; rfl, by rw [cell_of_row _ _ _ _ _ _ h]; rfl⟩, frozen_of_row _ _ 0 _ _ h, frozen_of_row _ _ 1 _ _ h, frozen_of_row _ _ 2 _ _ h, frozen_of_row _ _ 3 _ _ h⟩
theorem ret_cell {P : Program} {fn : Func} {p u : Tmp} {ty : TypeId} (h : fn.results = #[.cell p ty, .tmp u]) (tmps : Array Value) (w : World) (g : Nat) (t : TypeId) (cs : Array Value) (fr : Nat × Nat) (d : TypeDesc)
    (hp : tmps.getD p undef = .pointer (some ⟨g, 0, none⟩)) (hg : w.heap[g]? = some (.cells cs t fr))
    (hu : P.underlying ty = some d) (hd : (match d with | .struct _ | .array _ _ => true | _ => false) = true) (hi : (P.info? ty).map (·.size) = some cs.size) :
    (results fn tmps).run P w = .ok (.tuple #[.agg cs, tmps.getD u undef]) w := by
  have hp' : tmps[p]?.getD undef = .pointer (some ⟨g, 0, none⟩) := by simpa using hp
  rw [results_cell_tmp h]
  simp [hp', asAddr, Result.andThen, run_loadVar_row w g t ty cs fr d hg hu hd hi]
set_option maxHeartbeats 1000000 in
set_option maxRecDepth 100000 in
theorem read_y (w : World) (B n c : Nat) (A : Option Addr) (bs : List UInt8) (h : Bs w B A n bs) (hB : B ≤ w.heap.size) (hnc : n ≤ c) (hcm : c ≤ 9223372036854775807) (hn : n ≤ 1099511627776) :
    Calls Try.prog 51 #[.slice A n c] w fun e w' => e = .returned (.tuple #[eV (re bs).1, .int .i64 ((re bs).2 : Int)]) ∧ Below w.heap.size w w' := by
  have hl := h.len_
  have hN1 := rt_le bs
  obtain ⟨wb, hwb⟩ : ∃ wb, (w.alloc (.cells #[.string ⟨#[]⟩, .int .i64 0, .int .i64 0, .int .u32 0] 81)).alloc (.cells #[.string ⟨#[]⟩, .int .i64 0, .int .i64 0, .int .u32 0] 81) = wb := ⟨_, rfl⟩
  have hbb : Below w.heap.size w wb := by rw [← hwb]; exact (below_al _ _).alloc (by simp) _
  have gr : IsV 81 wb w.heap.size (.string ⟨#[]⟩) (.int .i64 0) (.int .i64 0) (.int .u32 0) := by rw [← hwb]; exact alloc_old _ (alloc_new _ _)
  have gq : IsV 81 wb (w.heap.size + 1) (.string ⟨#[]⟩) (.int .i64 0) (.int .i64 0) (.int .u32 0) := by
    rw [← hwb]
    have := alloc_new (w.alloc (.cells #[.string ⟨#[]⟩, .int .i64 0, .int .i64 0, .int .u32 0] 81)) (.cells #[.string ⟨#[]⟩, .int .i64 0, .int .i64 0, .int .u32 0] 81)
    rwa [World.size_alloc] at this
  have hsb := hbb.size
  have hlb : w.heap.size + 1 < wb.heap.size := blk_lt gq
  have HNM := Lib.hid (name_y wb B n c A bs (h.below hbb hB) (by omega) hnc hcm hn)
  have KN := Lib.hid (fun (u : World) (hu : Below w.heap.size w u) (k : Nat) (hk : k ≤ n) (A' : Option Addr) (c' : Nat) (hb : Bs w B A' (n - k) (bs.drop k)) (h1 : n - k ≤ c') (h2 : c' ≤ 9223372036854775807) => number_y u B (n - k) c' A' (bs.drop k) (hb.below hu hB) (by have := hu.size; omega) h1 h2 (by omega))
  have HH := Lib.hid h
  have HWB := Lib.hid hwb
  have HBB := Lib.hid hbb
  have GR := Lib.hid gr
  have GQ := Lib.hid gq
  obtain ⟨S, t, hSt⟩ : ∃ S t, rt bs = (S, t) := ⟨_, _, rfl⟩
  rw [hSt, hl] at hN1
  have hE0 := re0 (l := bs)
  rw [hSt] at HNM hE0
  simp only at hN1 hE0
  have HE0 := Lib.hid hE0
  have HST := Lib.hid hSt
  have HL := Lib.hid hl
  clear h hbb gr gq hSt hwb hl hE0
  go_enter Try.func51, Try.ntmps51
  go_wp2_with (fail)
  rw [HWB.out]
  refine HNM.out.mono ?_
  rintro e w1 ⟨rfl, hb1⟩
  have hs1 := hb1.size
  have GR1 := Lib.hid (blk_below hb1 GR.out (by omega))
  have GQ1 := Lib.hid (blk_below hb1 GQ.out hlb)
  have HB1 := Lib.hid (HBB.out.trans (hb1.mono hsb))
  clear hb1 HNM GR GQ HBB HWB
  by_cases ht : t = 0
  · have hnz : ((t : Int) == 0) = true := by simp; omega
    have E1 := Lib.hid (HE0.out ht)
    obtain ⟨⟨c0, c1, c2, c3⟩, f0, f1, f2, f3⟩ := isv_cells GR1.out
    go_wp2_with (fail)
    (try simp only [Exit.inBlock, Exit.then])
    refine bodyPost_ret (ret_cell rfl _ _ w.heap.size 81 _ _ _ rfl (set4 GR1.out) Try.underlying81 rfl info4) rfl ?_
    rw [E1.out]
    exact ⟨rfl, below_set4 HB1.out (Nat.le_refl _) _ _ _ _⟩
  · have hnz : ((t : Int) == 0) = false := by simp; omega
    obtain ⟨⟨c0, _, _, _⟩, f0, _, _, _⟩ := isv_cells GQ1.out
    obtain ⟨b, off, rfl, hbB⟩ := Rd.some_of HH.out (show 0 < n by omega)
    obtain ⟨A1, hA1, hA1e, _⟩ := bs_rest HH.out t hN1 hnc
    have HA1 := Lib.hid (hA1e _ _ rfl ▸ hA1)
    obtain ⟨V1, N1, hVN1⟩ : ∃ V N, rn (bs.drop t) = (V, N) := ⟨_, _, rfl⟩
    have hr1 := rn_facts (bs.drop t)
    rw [hVN1, List.length_drop, HL.out] at hr1
    have hV1 : V1 ≤ 2147483647 := hr1.1
    have hNl1 : N1 ≤ n - t := hr1.2.1
    have HRN1 := Lib.hid hVN1
    have i1 : (0 : Int) ≤ (t : Int) := by omega
    have i2 : (t : Int) ≤ (n : Int) := by omega
    have i3 : (n : Int) ≤ (c : Int) := by omega
    clear hA1 hA1e hr1 hVN1 HE0
    have GQ2 := Lib.hid (isv_set0 GQ1.out (.string S))
    have GR2 := Lib.hid (isv_other (g' := w.heap.size + 1) (i := 0) GR1.out (by omega) (.string S))
    have HB2 := Lib.hid (HB1.out.setCell (p := ⟨w.heap.size + 1, 0, none⟩) (Nat.le_succ _) (.string S))
    clear GQ1 GR1 HB1
    have h3 := HA1.out
    by_cases hct : c = t
    · rw [if_pos hct] at h3
      have H3 := Lib.hid h3
      subst hct
      clear h3 HA1
      go_wp2_with (fail)
      refine (number_y _ B 0 0 _ [] (Rd.nil _ _ _) (by have := HB2.out.size; omega) (Nat.le_refl _) (by omega) (by omega)).mono ?_
      rintro e w3 ⟨rfl, hb3⟩
      have GR3 := Lib.hid (blk_below hb3 GR2.out (blk_lt GR2.out))
      have HB3 := Lib.hid (HB2.out.trans (hb3.mono HB2.out.size))
      obtain rfl : N1 = 0 := by omega
      have E1 := Lib.hid (re1 HST.out (by rw [HRN1.out]))
      obtain ⟨⟨d0, d1, d2, d3⟩, e0, e1, e2, e3⟩ := isv_cells GR3.out
      rw [show rn [] = (0, 0) from rfl]
      clear hb3
      go_wp2_with (fail)
      (try simp only [Exit.inBlock, Exit.then])
      refine bodyPost_ret (ret_cell rfl _ _ w.heap.size 81 _ _ _ rfl (set4 GR3.out) Try.underlying81 rfl info4) rfl ?_
      rw [E1.out]
      exact ⟨rfl, below_set4 HB3.out (Nat.le_refl _) _ _ _ _⟩
    · rw [if_neg hct] at h3
      have H3 := Lib.hid h3
      clear h3 HA1
      go_wp2_with (fail)
      refine (KN.out _ HB2.out t hN1 _ _ H3.out (by omega) (by omega)).mono ?_
      rintro e w3 ⟨rfl, hb3⟩
      have GR3 := Lib.hid (blk_below hb3 GR2.out (blk_lt GR2.out))
      have GQ3 := Lib.hid (blk_below hb3 GQ2.out (blk_lt GQ2.out))
      have HB3 := Lib.hid (HB2.out.trans (hb3.mono HB2.out.size))
      rw [HRN1.out]
      clear hb3 GR2 GQ2 HB2 c0 f0
      by_cases hN : N1 = 0
      · have hnz : ((N1 : Int) == 0) = true := by simp; omega
        have E1 := Lib.hid (re1 HST.out (by rw [HRN1.out]; exact hN))
        obtain ⟨⟨c0, c1, c2, c3⟩, f0, f1, f2, f3⟩ := isv_cells GR3.out
        go_wp2_with (fail)
        (try simp only [Exit.inBlock, Exit.then])
        refine bodyPost_ret (ret_cell rfl _ _ w.heap.size 81 _ _ _ rfl (set4 GR3.out) Try.underlying81 rfl info4) rfl ?_
        rw [E1.out]
        exact ⟨rfl, below_set4 HB3.out (Nat.le_refl _) _ _ _ _⟩
      · have hnz1 : ((N1 : Int) == 0) = false := by simp; omega
        obtain ⟨⟨_, c1, _, _⟩, _, f1, _, _⟩ := isv_cells GQ3.out
        have GQ4 := Lib.hid (isv_set1 GQ3.out (.int .i64 (V1 : Int)))
        have GR4 := Lib.hid (isv_other (g' := w.heap.size + 1) (i := 1) GR3.out (by omega) (.int .i64 (V1 : Int)))
        have HB4 := Lib.hid (HB3.out.setCell (p := ⟨w.heap.size + 1, 1, none⟩) (Nat.le_succ _) (.int .i64 (V1 : Int)))
        obtain ⟨M1, hM1⟩ : ∃ M : Nat, t + N1 = M := ⟨_, rfl⟩
        have hw1 : IntKind.i64.wrap ((t : Int) + (N1 : Int)) = (M1 : Int) := by rw [IntWalk.i64_in _ (by omega)]; omega
        have hMn : M1 ≤ n := by omega
        have hA2 := bs_cut HH.out hMn hnc
        obtain ⟨V2, N2, hVN2⟩ : ∃ V N, rn (bs.drop M1) = (V, N) := ⟨_, _, rfl⟩
        have hr2 := rn_facts (bs.drop M1)
        rw [hVN2, List.length_drop, HL.out] at hr2
        have hV2 : V2 ≤ 2147483647 := hr2.1
        have hNl2 : N2 ≤ n - M1 := hr2.2.1
        have HRN2 := Lib.hid hVN2
        have HM1 := Lib.hid hM1
        have j1 : (0 : Int) ≤ (M1 : Int) := by omega
        have j2 : (M1 : Int) ≤ (n : Int) := by omega
        clear hr2 hVN2 GQ3 GR3 HB3 hM1
        by_cases hcm1 : c = M1
        · obtain rfl : N2 = 0 := by omega
          have E1 := Lib.hid (re2 (V2 := V2) (N2 := 0) HST.out HRN1.out (by rw [HM1.out]; exact HRN2.out) (.inl rfl))
          subst hcm1
          clear hA2
          go_wp2_with (fail)
          refine (number_y _ B 0 0 _ [] (Rd.nil _ _ _) (by have := HB4.out.size; omega) (Nat.le_refl _) (by omega) (by omega)).mono ?_
          rintro e w5 ⟨rfl, hb5⟩
          have GR5 := Lib.hid (blk_below hb5 GR4.out (blk_lt GR4.out))
          have HB5 := Lib.hid (HB4.out.trans (hb5.mono HB4.out.size))
          obtain ⟨⟨d0, d1, d2, d3⟩, e0, e1, e2, e3⟩ := isv_cells GR5.out
          rw [show rn [] = (0, 0) from rfl]
          clear hb5
          go_wp2_with (fail)
          (try simp only [Exit.inBlock, Exit.then])
          refine bodyPost_ret (ret_cell rfl _ _ w.heap.size 81 _ _ _ rfl (set4 GR5.out) Try.underlying81 rfl info4) rfl ?_
          rw [E1.out]
          exact ⟨rfl, below_set4 HB5.out (Nat.le_refl _) _ _ _ _⟩
        · rw [if_neg hcm1] at hA2
          have H4 := Lib.hid hA2
          clear hA2
          go_wp2_with (fail)
          refine (KN.out _ HB4.out M1 hMn _ _ H4.out (by omega) (by omega)).mono ?_
          rintro e w5 ⟨rfl, hb5⟩
          have GR5 := Lib.hid (blk_below hb5 GR4.out (blk_lt GR4.out))
          have GQ5 := Lib.hid (blk_below hb5 GQ4.out (blk_lt GQ4.out))
          have HB5 := Lib.hid (HB4.out.trans (hb5.mono HB4.out.size))
          rw [HRN2.out]
          clear hb5 GR4 GQ4 HB4 c1 f1
          have hs5 := HB5.out.size
          have hw2 : IntKind.i64.wrap ((n : Int) - (M1 : Int)) = (n : Int) - (M1 : Int) := IntWalk.i64_in _ (by omega)
          have hw3 : IntKind.i64.wrap ((n : Int) - (M1 : Int) - (N2 : Int)) = (n : Int) - (M1 : Int) - (N2 : Int) := IntWalk.i64_in _ (by omega)
          by_cases hN2 : N2 = 0
          · have hnz : ((N2 : Int) == 0) = true := by simp; omega
            have E1 := Lib.hid (re2 (V2 := V2) (N2 := N2) HST.out HRN1.out (by rw [HM1.out]; exact HRN2.out) (.inl hN2))
            obtain ⟨⟨c0, c1, c2, c3⟩, f0, f1, f2, f3⟩ := isv_cells GR5.out
            go_wp2_with (fail)
            (try simp only [Exit.inBlock, Exit.then])
            refine bodyPost_ret (ret_cell rfl _ _ w.heap.size 81 _ _ _ rfl (set4 GR5.out) Try.underlying81 rfl info4) rfl ?_
            rw [E1.out]
            exact ⟨rfl, below_set4 HB5.out (Nat.le_refl _) _ _ _ _⟩
          · have hnz2 : ((N2 : Int) == 0) = false := by simp; omega
            by_cases h4 : n < M1 + N2 + 4
            · have hi4 : (n : Int) - (M1 : Int) - (N2 : Int) < 4 := by omega
              have E1 := Lib.hid (re2 (V2 := V2) (N2 := N2) HST.out HRN1.out (by rw [HM1.out]; exact HRN2.out) (.inr (by rw [HL.out, HM1.out]; exact h4)))
              obtain ⟨⟨c0, c1, c2, c3⟩, f0, f1, f2, f3⟩ := isv_cells GR5.out
              go_wp2_with (fail)
              (try simp only [Exit.inBlock, Exit.then])
              refine bodyPost_ret (ret_cell rfl _ _ w.heap.size 81 _ _ _ rfl (set4 GR5.out) Try.underlying81 rfl info4) rfl ?_
              rw [E1.out]
              exact ⟨rfl, below_set4 HB5.out (Nat.le_refl _) _ _ _ _⟩
            · have hi4 : ¬ (n : Int) - (M1 : Int) - (N2 : Int) < 4 := by omega
              obtain ⟨M2, hM2⟩ : ∃ M : Nat, M1 + N2 = M := ⟨_, rfl⟩
              have hw4 : IntKind.i64.wrap ((M1 : Int) + (N2 : Int)) = (M2 : Int) := by rw [IntWalk.i64_in _ (by omega)]; omega
              have E1 := Lib.hid (re3 (V2 := V2) (N2 := N2) HST.out HRN1.out (by rw [HM1.out]; exact HRN2.out) ht hN hN2 (by rw [HL.out, HM1.out]; omega))
              have HM2 := Lib.hid hM2
              have k1 : (0 : Int) ≤ (M2 : Int) := by omega
              have k2 : (M2 : Int) < (n : Int) := by omega
              have hM2n : M2 + 4 ≤ n := by omega
              obtain ⟨⟨_, _, c2, _⟩, _, _, f2, _⟩ := isv_cells GQ5.out
              have GQ6 := Lib.hid (isv_set2 GQ5.out (.int .i64 (V2 : Int)))
              have GR6 := Lib.hid (isv_other (g' := w.heap.size + 1) (i := 2) GR5.out (by omega) (.int .i64 (V2 : Int)))
              have HB6 := Lib.hid (HB5.out.setCell (p := ⟨w.heap.size + 1, 2, none⟩) (Nat.le_succ _) (.int .i64 (V2 : Int)))
              clear hM2 GQ5 GR5 HB5
              go_wp2_with (fail)
              obtain ⟨w6, hw6⟩ : ∃ w6, w5.setCell ⟨w.heap.size + 1, 2, none⟩ (.int .i64 (V2 : Int)) = w6 := ⟨_, rfl⟩
              have hs6 : w5.heap.size ≤ w6.heap.size := by rw [← hw6]; simp [World.setCell]
              rw [hw6] at GQ6 GR6 HB6
              simp only [hw6]
              have H6 := HH.out.below HB6.out hB
              obtain ⟨m1, hm1⟩ : ∃ m, M2 + 1 = m := ⟨_, rfl⟩
              obtain ⟨m2, hm2⟩ : ∃ m, M2 + 2 = m := ⟨_, rfl⟩
              obtain ⟨m3, hm3⟩ : ∃ m, M2 + 3 = m := ⟨_, rfl⟩
              obtain ⟨b', off', x0, e, _, g0, y0⟩ := Bs.get H6 (show M2 < n by omega)
              cases e
              obtain ⟨b', off', x1, e, _, g1, y1⟩ := Bs.get H6 (show m1 < n by omega)
              cases e
              obtain ⟨b', off', x2, e, _, g2, y2⟩ := Bs.get H6 (show m2 < n by omega)
              cases e
              obtain ⟨b', off', x3, e, _, g3, y3⟩ := Bs.get H6 (show m3 < n by omega)
              cases e
              have HS4 := Lib.hid (sum4_of hm1 hm2 hm3 g0 g1 g2 g3)
              have l0 := x0.toNat_lt
              have l1 := x1.toNat_lt
              have l2 := x2.toNat_lt
              have l3 := x3.toNat_lt
              have HSY := Lib.hid (sum_y x0.toNat x1.toNat x2.toNat x3.toNat l0 l1 l2 l3)
              have v1 : IntKind.i64.wrap ((M2 : Int) + 1) = (m1 : Int) := by rw [IntWalk.i64_in _ (by omega)]; omega
              have v2 : IntKind.i64.wrap ((M2 : Int) + 2) = (m2 : Int) := by rw [IntWalk.i64_in _ (by omega)]; omega
              have v3 : IntKind.i64.wrap ((M2 : Int) + 3) = (m3 : Int) := by rw [IntWalk.i64_in _ (by omega)]; omega
              have k3 : (0 : Int) ≤ (m1 : Int) := by omega
              have k4 : (m1 : Int) < (n : Int) := by omega
              have k5 : (0 : Int) ≤ (m2 : Int) := by omega
              have k6 : (m2 : Int) < (n : Int) := by omega
              have k7 : (0 : Int) ≤ (m3 : Int) := by omega
              have k8 : (m3 : Int) < (n : Int) := by omega
              have hbw : b < w6.heap.size := by omega
              obtain ⟨⟨a0, a1, a2, a3⟩, b0, b1, b2, b3⟩ := isv_cells GQ6.out
              have q0 := Wb.at_ y0
              have q1 := Wb.at_ y1
              have q2 := Wb.at_ y2
              have q3 := Wb.at_ y3
              clear H6 g0 g1 g2 g3 y0 y1 y2 y3 hm1 hm2 hm3 c2 f2 hw6
              refine wp_region_plan [([0, 1, 2, 3, 4, 5, 6, 7, 8, 9, 10, 11, 12, 13, 14, 15, 16, 17, 18, 19, 20, 21, 22, 23, 24, 25, 26, 27, 28, 29], some (30, true)), ([], none)] (by kernel_rfl) (by kernel_rfl) ?_
              refine seg_write _ (by dsimp only [pick, at_]) _ (by dsimp only [pick, at_]) ?_
              repeat (go_big_quiet_step (fail))
              refine wpQuiet_nil ?_
              intro K4 h4
              clear q0 q1 q2 q3
              go_wp2_with (fail)
              refine seg_end _ (by dsimp only [pick, at_]) ?_
              refine wpQuiet_nil (NoPanic.normal ?_)
              rw [HSY.out]
              clear h4
              obtain ⟨Z, hZ⟩ : ∃ Z : Int, ((((x0.toNat * 256 + x1.toNat) * 256 + x2.toNat) * 256 + x3.toNat : Nat) : Int) = Z := ⟨_, rfl⟩
              obtain ⟨m4, hm4⟩ : ∃ m, M2 + 4 = m := ⟨_, rfl⟩
              have v4 : IntKind.i64.wrap ((M2 : Int) + 4) = (m4 : Int) := by rw [IntWalk.i64_in _ (by omega)]; omega
              have hE : re bs = ((S, (V1 : Int), (V2 : Int), Z), m4) := by
                rw [E1.out, HM1.out, HM2.out, HS4.out, hZ, hm4]
              have HE := Lib.hid hE
              rw [hZ]
              obtain ⟨w7, hw7⟩ : ∃ w7, (w6.setCell ⟨w.heap.size + 1, 3, none⟩ (.int .u32 Z)).drew = w7 := ⟨_, rfl⟩
              have GQ7 : IsV 81 w7 (w.heap.size + 1) (.string S) (.int .i64 (V1 : Int)) (.int .i64 (V2 : Int)) (.int .u32 Z) := by rw [← hw7]; exact isv_set3 GQ6.out (.int .u32 Z)
              have GR7 : IsV 81 w7 w.heap.size (.string ⟨#[]⟩) (.int .i64 0) (.int .i64 0) (.int .u32 0) := by rw [← hw7]; exact isv_other GR6.out (by omega) (.int .u32 Z)
              have hB7 : Below w.heap.size w w7 := by rw [← hw7]; exact (HB6.out.setCell (p := ⟨w.heap.size + 1, 3, none⟩) (Nat.le_succ _) (.int .u32 Z)).drew
              have HB7 := Lib.hid hB7
              have HR7 := Lib.hid GR7
              rw [hw7]
              obtain ⟨⟨d0, d1, d2, d3⟩, e0, e1, e2, e3⟩ := isv_cells GR7
              obtain ⟨⟨c0, c1, c2, c3⟩, _⟩ := isv_cells GQ7
              clear hE E1 HSY HS4 hm4 hZ a0 a1 a2 a3 b0 b1 b2 b3 GQ6 GR6 HB6 hB7 GR7 GQ7 hw7
              go_wp2_with (fail)
              (try simp only [Exit.inBlock, Exit.then])
              refine bodyPost_ret (ret_cell rfl _ _ w.heap.size 81 _ _ _ rfl (set4 HR7.out) Try.underlying81 rfl info4) rfl ?_
              rw [HE.out]
              exact ⟨rfl, below_set4 HB7.out (Nat.le_refl _) _ _ _ _⟩
end Go.Proofs.Ytcebmlcdhapnkaa.idx
