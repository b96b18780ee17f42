/-
  Index: the program's Find over what Encode laid down.
-/
import Derived.Test.YtcebmlcdhapnkaaIdxBegin
namespace Go.Proofs.Ytcebmlcdhapnkaa.idx
open Go.ChangeShapes Go.WideShapes Go.ChangeAt Go.RowKit plain words ord mem uvs uvc Go.Lib

theorem ret_cell3 {P : Program} {fn : Func} {p u v : Tmp} {ty : TypeId} (h : fn.results = #[.cell p ty, .tmp u, .tmp v]) (tmps : Array Value) (w : World) (g : Nat) (t : TypeId) (cs : Array Value) (fr : Nat × Nat) (d : TypeDesc)
    (hp : tmps.getD p undef = .pointer (some ⟨g, 0, none⟩)) (hg : w.heap[g]? = some (.cells cs t fr))
    (hu : P.underlying ty = some d) (hd : (match d with | .struct _ | .array _ _ => true | _ => false) = true) (hi : (P.info? ty).map (·.size) = some cs.size) :
    (results fn tmps).run P w = .ok (.tuple #[.agg cs, tmps.getD u undef, tmps.getD v undef]) w := by
  have hp' : tmps[p]?.getD undef = .pointer (some ⟨g, 0, none⟩) := by simpa using hp
  simp only [results, h]
  simp [Sem.run_bind, Result.andThen, hp', asAddr, run_loadVar_row w g t ty cs fr d hg hu hd hi]
def rf (l : List En) (nm : ByteArray) : Option En × Nat := match st l nm ((l.length + 3) / 4) with
  | none => (none, 0)
  | some k => fg l nm 4 k 0
def enOr : Option En → En
  | none => (⟨#[]⟩, 0, 0, 0)
  | some x => x
def RetFind (w : World) (l : List En) (nm : ByteArray) (e : Ending) (w' : World) : Prop := e = .returned (.tuple #[eV (enOr (rf l nm).1), .int .i64 ((rf l nm).2 : Int), .bool (rf l nm).1.isSome]) ∧ Below w.heap.size w w'
theorem find_no {w w' : World} {l : List En} {nm : ByteArray} {c : Nat} (h : rf l nm = (none, c)) (hb : Below w.heap.size w w') : RetFind w l nm (.returned (.tuple #[.agg #[.string ⟨#[]⟩, .int .i64 0, .int .i64 0, .int .u32 0], .int .i64 (c : Int), .bool false])) w' := by
  unfold RetFind
  rw [h]
  exact ⟨rfl, hb⟩
theorem find_yes {w w' : World} {l : List En} {nm : ByteArray} {c : Nat} {s : ByteArray} {o z u : Int} (h : rf l nm = (some (s, o, z, u), c)) (hb : Below w.heap.size w w') : RetFind w l nm (.returned (.tuple #[.agg #[.string s, .int .i64 o, .int .i64 z, .int .u32 u], .int .i64 (c : Int), .bool true])) w' := by
  unfold RetFind
  rw [h]
  exact ⟨rfl, hb⟩
theorem idx_drop (l : List En) (k : Nat) : (idxB l).drop (idxB (l.take k)).length = idxB (l.drop k) := by
  have : idxB l = idxB (l.take k) ++ idxB (l.drop k) := by
    conv => lhs; rw [← List.take_append_drop k l]
    simp only [idxB, List.flatMap_append]
  rw [this, List.drop_left]
theorem idx_next {l : List En} {k : Nat} {x : En} (hx : l[k]? = some x) : idxB (l.drop k) = oneE x ++ idxB (l.drop (k + 1)) := by
  obtain ⟨hk, rfl⟩ := List.getElem?_eq_some_iff.1 hx
  unfold idxB
  rw [List.drop_eq_getElem_cons hk, List.flatMap_cons]
theorem fg_end {l : List En} {nm : ByteArray} {f k c : Nat} (hx : l[k]? = none) : fg l nm f k c = (none, c) := by
  cases f with
  | zero => rfl
  | succ f => unfold fg; rw [hx]
theorem fg_eq {l : List En} {nm : ByteArray} {f k c : Nat} {x : En} (hx : l[k]? = some x) (h : x.1.toList = nm.toList) : fg l nm (f + 1) k c = (some x, c + 1) := by
  unfold fg; rw [hx]; simp [h]
theorem fg_gt {l : List En} {nm : ByteArray} {f k c : Nat} {x : En} (hx : l[k]? = some x) (h : x.1.toList ≠ nm.toList) (h2 : sle x.1 nm = false) : fg l nm (f + 1) k c = (none, c + 1) := by
  unfold fg; rw [hx]; simp [h, h2]
theorem fg_go {l : List En} {nm : ByteArray} {f k c : Nat} {x : En} (hx : l[k]? = some x) (h : x.1.toList ≠ nm.toList) (h2 : sle x.1 nm = true) : fg l nm (f + 1) k c = fg l nm f (k + 1) (c + 1) := by
  conv => lhs; unfold fg
  rw [hx]; simp [h, h2]
set_option maxHeartbeats 4000000 in
set_option maxRecDepth 100000 in
theorem find_x (w : World) (B n c n' c' : Nat) (A A' : Option Addr) (l : List En) (nm : ByteArray) (h : Bs w B A n (idxB l)) (hB : B ≤ w.heap.size) (hnc : n ≤ c) (hcm : c ≤ 9223372036854775807) (hn : n ≤ 1000000000) (h' : Bs w B A' n' (sumB l)) (hnc' : n' ≤ c') (hcm' : c' ≤ 9223372036854775807) (hn' : n' ≤ 1000000000) (hO : ∀ x ∈ l, OkE x) :
    Calls Try.prog 36 #[.slice A n c, .slice A' n' c', .string nm] w (RetFind w l nm) := by
  have hl := h.len_
  obtain ⟨wb, hwb⟩ : ∃ wb, w.alloc (.cells #[.string ⟨#[]⟩, .int .i64 0, .int .i64 0, .int .u32 0] 68) = wb := ⟨_, rfl⟩
  have hbb : Below w.heap.size w wb := by rw [← hwb]; exact below_al _ _
  have gr : IsV 68 wb w.heap.size (.string ⟨#[]⟩) (.int .i64 0) (.int .i64 0) (.int .u32 0) := by rw [← hwb]; exact alloc_new _ _
  have hsb := hbb.size
  have hbg := begin_x wb B n' c' A' l nm (h'.below hbb hB) (by omega) hnc' hcm' hn' hO (by omega)
  rw [hl] at hbg
  have HBG := Lib.hid hbg
  have HH := Lib.hid h
  have HO := Lib.hid hO
  have HL := Lib.hid hl
  have HWB := Lib.hid hwb
  have HBB := Lib.hid hbb
  have GR := Lib.hid gr
  have hlt := blk_lt gr
  have HRF := Lib.hid (show rf l nm = _ from rfl)
  obtain ⟨S, hS⟩ : ∃ S, st l nm ((l.length + 3) / 4) = S := ⟨_, rfl⟩
  rw [hS] at HBG
  have HS := Lib.hid hS
  clear h h' hO hl hwb hbb gr hbg hS HRF
  go_enter Try.func36, Try.ntmps36
  go_wp2_with (fail)
  go_step3
  go_wp2_with (fail)
  rw [HWB.out]
  refine HBG.out.mono ?_
  rintro e w1 ⟨rfl, hb1⟩
  have hs1 := hb1.size
  have GR1 := Lib.hid (blk_below hb1 GR.out hlt)
  have HB1 := Lib.hid (HBB.out.trans (hb1.mono hsb))
  clear hb1 HBG GR HBB HWB
  cases S with
  | none =>
    have E1 := Lib.hid (show rf l nm = (none, 0) by unfold rf; rw [HS.out])
    obtain ⟨⟨c0, c1, c2, c3⟩, f0, f1, f2, f3⟩ := isv_cells GR1.out
    simp only [soff, Option.isSome]
    go_wp2_with (fail)
    (try simp only [Exit.inBlock, Exit.then, Exit.noGoto_ret])
    refine bodyPost_ret (ret_cell3 rfl _ _ w.heap.size 68 _ _ _ rfl (set4 GR1.out) Try.underlying68 rfl info4x) rfl ?_
    exact find_no E1.out (below_set4 HB1.out (Nat.le_refl _) _ _ _ _)
  | some k =>
    have E1 := Lib.hid (show rf l nm = fg l nm 4 k 0 by unfold rf; rw [HS.out])
    have hkl := st_lt HS.out
    obtain ⟨F, hF⟩ : ∃ F, (idxB (l.take k)).length = F := ⟨_, rfl⟩
    have hdr := idx_drop l k
    rw [hF] at hdr
    have hFn : F < n := by
      have h1 := congrArg List.length hdr
      rw [List.length_drop, HL.out] at h1
      obtain ⟨x, hx⟩ : ∃ x, l[k]? = some x := ⟨_, List.getElem?_eq_getElem hkl⟩
      rw [idx_next hx, List.length_append] at h1
      have := one_pos x
      omega
    obtain ⟨b, off, rfl, hbB⟩ := Rd.some_of HH.out (show 0 < n by omega)
    have hcF : ¬ c = F := by omega
    have i1 : (0 : Int) ≤ (F : Int) := by omega
    have i2 : (F : Int) ≤ (n : Int) := by omega
    have i3 : (n : Int) ≤ (c : Int) := by omega
    obtain ⟨w2, hw2⟩ : ∃ w2, w1.alloc (.cells #[.slice (some ⟨b, off + F, none⟩) (n - F) (c - F)] 86) = w2 := ⟨_, rfl⟩
    have hb2 : Below w1.heap.size w1 w2 := by rw [← hw2]; exact below_al _ _
    have hr2 : IsRd w2 w1.heap.size B (idxB (l.drop k)) := by
      have hlen : (idxB (l.drop k)).length = n - F := by rw [← hdr, List.length_drop, HL.out]
      refine ⟨some ⟨b, off + F, none⟩, c - F, ?_, ?_, by omega, by omega, by omega⟩
      · rw [← hw2, hlen]; exact alloc_new _ _
      · rw [hlen, ← hdr]
        exact ((bs_dropped HH.out (by omega)).below HB1.out hB).below hb2 (by omega)
    have HR2 := Lib.hid hr2
    have GR2 := Lib.hid (blk_below hb2 GR1.out (by omega))
    have HB2 := Lib.hid (HB1.out.trans (hb2.mono (by omega)))
    have HW2 := Lib.hid hw2
    have HLN := Lib.hid (show (idxB (l.drop k)).length ≤ 1000000000 by rw [← hdr, List.length_drop]; have := HL.out; omega)
    have hpr : w.heap.size < w1.heap.size := by omega
    clear hw2 hr2 hb2 hdr GR1 HB1
    simp only [soff, Option.isSome]
    rw [hF]
    clear hF
    go_wp2_with (fail)
    go_step3
    go_wp2_with (fail)
    rw [HW2.out]
    clear HW2
    go_loopg [12] 4 (fun gg s12 wr => ∃ j : Nat, j ≤ 4 ∧ 4 - j ≤ gg ∧ s12 = .int .i64 j ∧ Aside (rf l nm = fg l nm (4 - j) (k + j) j) ∧ Aside ((idxB (l.drop (k + j))).length ≤ 1000000000) ∧ Aside (IsRd wr w1.heap.size B (idxB (l.drop (k + j)))) ∧ Aside (IsV 68 wr w.heap.size (.string ⟨#[]⟩) (.int .i64 0) (.int .i64 0) (.int .u32 0)) ∧ Aside (Below w.heap.size w wr))
    case atStart => exact ⟨0, by omega, by omega, rfl, E1.out, HLN.out, HR2.out, GR2.out, HB2.out⟩
    case round =>
      clear HR2 GR2 HB2 E1 HLN
      obtain ⟨j, hj, hg, rfl, EQ, LN, HI, GV, BW⟩ := hrel
      have hsw := BW.out.size
      obtain ⟨A0, c0, gp, hb, _, hmc, hcm⟩ := id HI.out
      obtain ⟨m, hm⟩ : ∃ m, (idxB (l.drop (k + j))).length = m := ⟨_, rfl⟩
      rw [hm] at gp hb hmc
      have e0 : wr.cell? ⟨w1.heap.size, 0, none⟩ = some (.slice A0 m c0) := by rw [cell_of_row _ _ _ _ _ _ gp]; rfl
      have hpw : w1.heap.size < wr.heap.size := blk_lt gp
      have HM := Lib.hid hm
      obtain ⟨⟨z0, z1, z2, z3⟩, f0, f1, f2, f3⟩ := isv_cells GV.out
      clear gp hb hm
      by_cases hj4 : j = 4
      · subst hj4
        have E2 := Lib.hid (show rf l nm = (none, 4) from EQ.out)
        go_wp2_with (fail)
        (try simp only [Exit.inBlock, Exit.then, Exit.noGoto_ret])
        refine bodyPost_ret (ret_cell3 rfl _ _ w.heap.size 68 _ _ _ rfl (set4 GV.out) Try.underlying68 rfl info4x) rfl ?_
        exact find_no E2.out (below_set4 BW.out (Nat.le_refl _) _ _ _ _)
      · have hj5 : (j : Int) < 4 := by omega
        cases hx : l[k + j]? with
        | none =>
          have hkl2 : l.length ≤ k + j := by simpa using hx
          obtain rfl : m = 0 := by rw [← HM.out, List.drop_of_length_le hkl2]; rfl
          have E2 := Lib.hid (EQ.out.trans (fg_end hx))
          clear hx
          go_wp2_with (fail)
          (try simp only [Exit.inBlock, Exit.then, Exit.noGoto_ret])
          refine bodyPost_ret (ret_cell3 rfl _ _ w.heap.size 68 _ _ _ rfl (set4 GV.out) Try.underlying68 rfl info4x) rfl ?_
          exact find_no E2.out (below_set4 BW.out (Nat.le_refl _) _ _ _ _)
        | some x =>
          have hOx := HO.out x (List.mem_of_getElem? hx)
          have hst := idx_next hx
          have hre := re_one x hOx (idxB (l.drop (k + j + 1)))
          rw [← hst] at hre
          have hop := one_pos x
          have hm0 : (0 : Int) < (m : Int) := by
            have := HM.out
            rw [hst, List.length_append] at this
            omega
          have HEN := Lib.hid (entry_r wr w1.heap.size B _ HI.out (by have := LN.out; omega))
          unfold RetEnt at HEN
          rw [hre] at HEN
          have hdr : (idxB (l.drop (k + j))).drop (oneE x).length = idxB (l.drop (k + (j + 1))) := by rw [hst, List.drop_left]; rfl
          have HDR := Lib.hid hdr
          have HLN2 := Lib.hid (show (idxB (l.drop (k + (j + 1)))).length ≤ 1000000000 by rw [← hdr, List.length_drop]; have := LN.out; omega)
          obtain ⟨xs, xo, xz, xm⟩ := x
          obtain ⟨q, hq⟩ : ∃ q, (oneE (xs, xo, xz, xm)).length = q := ⟨_, rfl⟩
          rw [hq] at HEN HDR hop
          simp only at HEN
          have hdz : decide (q = 0) = false := decide_eq_false (show ¬ q = 0 by omega)
          have hq0 : q ≠ 0 := by omega
          have HX := Lib.hid hx
          have hwj : IntKind.i64.wrap ((j : Int) + 1) = ((j + 1 : Nat) : Int) := by rw [IntWalk.i64_in _ (by omega)]; omega
          clear hst hre hdr hq hx LN z0 z1 z2 z3 f0 f1 f2 f3
          go_wp2_with (fail)
          refine HEN.out.mono ?_
          rintro e w3 ⟨rfl, hir, hc3⟩
          have hi3 := hir hq0
          rw [HDR.out] at hi3
          have hs3 := hc3.size
          have gv3 := hc3.blk GV.out (show ¬ w.heap.size = w1.heap.size by omega)
          have HB3 := BW.out.trans (hc3.below (B := w.heap.size) (by omega) (fun k e => by omega))
          simp only [eV]
          obtain ⟨w5, hw5⟩ : ∃ w5, w3.alloc (.cells #[.string xs, .int .i64 xo, .int .i64 xz, .int .u32 xm] 68) = w5 := ⟨_, rfl⟩
          have hb5 : Below w3.heap.size w3 w5 := by rw [← hw5]; exact below_al _ _
          have g5 : IsV 68 w5 w3.heap.size (.string xs) (.int .i64 xo) (.int .i64 xz) (.int .u32 xm) := by rw [← hw5]; exact alloc_new _ _
          obtain ⟨⟨d0, d1, d2, d3⟩, _⟩ := isv_cells g5
          have GV5 := Lib.hid (blk_below hb5 gv3 (by omega))
          have HI5 := Lib.hid (hi3.below hb5 (by omega))
          have HB5 := Lib.hid (HB3.trans (hb5.mono (by omega)))
          obtain ⟨⟨z0, z1, z2, z3⟩, f0, f1, f2, f3⟩ := isv_cells GV5.out
          have hlt5 : w3.heap.size < w5.heap.size := blk_lt g5
          have hne5 : w3.heap.size ≠ w.heap.size := by omega
          clear hc3 hb5 g5 gv3 hi3 hir HB3 HEN HI GV BW e0
          cases hq1 : (xs.toList == nm.toList) with
          | true =>
            have E2 := Lib.hid (EQ.out.trans (show fg l nm (4 - j) (k + j) j = (some (xs, xo, xz, xm), j + 1) by rw [show 4 - j = (3 - j) + 1 from by omega]; exact fg_eq HX.out (by simpa using hq1)))
            go_wp2_with (fail)
            (try simp only [Exit.inBlock, Exit.then, Exit.noGoto_ret])
            refine bodyPost_ret (ret_cell3 rfl _ _ w.heap.size 68 _ _ _ rfl (set4 GV5.out) Try.underlying68 rfl info4x) rfl ?_
            exact find_yes E2.out (below_set4 HB5.out (Nat.le_refl _) _ _ _ _)
          | false =>
            have hne : xs.toList ≠ nm.toList := by simpa using hq1
            have HNE := Lib.hid hne
            clear hne
            cases hs : sle xs nm with
            | false =>
              have E2 := Lib.hid (EQ.out.trans (show fg l nm (4 - j) (k + j) j = (none, j + 1) by rw [show 4 - j = (3 - j) + 1 from by omega]; exact fg_gt HX.out HNE.out hs))
              unfold sle at hs
              rw [hq1, Bool.or_false] at hs
              go_wp2_with (fail)
              (try simp only [Exit.inBlock, Exit.then, Exit.noGoto_ret])
              refine bodyPost_ret (ret_cell3 rfl _ _ w.heap.size 68 _ _ _ rfl (set4 GV5.out) Try.underlying68 rfl info4x) rfl ?_
              exact find_no E2.out (below_set4 HB5.out (Nat.le_refl _) _ _ _ _)
            | true =>
              have E2 := Lib.hid (EQ.out.trans (show fg l nm (4 - j) (k + j) j = fg l nm (4 - (j + 1)) (k + (j + 1)) (j + 1) by rw [show 4 - j = (4 - (j + 1)) + 1 from by omega]; exact fg_go HX.out HNE.out hs))
              unfold sle at hs
              rw [hq1, Bool.or_false] at hs
              go_wp2_with (fail)
              go_roundg (4 - (j + 1))
              case measure => omega
              case rel => exact ⟨j + 1, by omega, by omega, by go_num, E2.out, HLN2.out, HI5.out, GV5.out, HB5.out⟩
end Go.Proofs.Ytcebmlcdhapnkaa.idx
