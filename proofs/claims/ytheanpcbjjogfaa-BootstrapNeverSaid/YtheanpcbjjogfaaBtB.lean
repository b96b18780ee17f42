/-
  Boots: Wants, Got of nothing.
-/
import Derived.Test.YtheanpcbjjogfaaBtA
namespace Go.Proofs.Ytheanpcbjjogfaa.bt
open Go.ChangeShapes Go.WideShapes Go.ChangeAt Go.RowKit Go.Shelf plain words ord mem pm Go.Maps

def notGot (gs : List Int) (l : List Int) : List Int := l.filter fun x => !pm.has gs x
theorem notGot_nil (gs : List Int) : notGot gs [] = [] := rfl
theorem notGot_snoc {gs l : List Int} {i : Nat} {x : Int} (h : l[i]? = some x) : notGot gs (l.take (i + 1)) = notGot gs (l.take i) ++ (if pm.has gs x = true then [] else [x]) := by
  unfold notGot
  rw [List.take_add_one, h, List.filter_append]
  cases hb : pm.has gs x <;> simp [hb]
def BS.wants (s : BS) : List Int := if (decide (s.left.length = 0) || s.av) = true then [] else notGot s.gs (s.src :: s.ot)
theorem ret_nn_nil (w w' : World) (hb : Below w.heap.size w w') : RetNn w [] (.returned (.slice none 0 0)) w' := ⟨none, 0, rfl, Ow.nil _ _, hb⟩
set_option maxHeartbeats 2000000 in
set_option maxRecDepth 100000 in
theorem wants_x (w : World) (g B : Nat) (s : BS) (h : Bt w g B s) (hB : B ≤ w.heap.size) :
    Calls Try.prog 11 #[.pointer (some ⟨g, 0, none⟩)] w (RetNn w s.wants) := by
  obtain ⟨⟨c0, c1, c2, c3, c4⟩, hlt⟩ := h.cells8
  have HD := Lib.hid (done_x w g B s h hB)
  have HGV := Lib.hid (fun (u : World) (hu : Below w.heap.size w u) (x : Int) (hx : (Lit.int .i64 x).wf = true) => gave_x u g B s (h.below hu (Nat.le_refl _)) x hx)
  have HSW := Lib.hid h.sw
  have HOW := Lib.hid h.ow
  have HLS := Lib.hid (fun (u : World) (hu : Below w.heap.size w u) => (h.below hu (Nat.le_refl _)).o.ls)
  have HOA := Lib.hid (show s.oA = none → s.oc = 0 from by
    obtain ⟨A, c, e, hh, _⟩ := h.o.form
    injection e with e1 _ e3
    rw [e1, e3]; exact hh)
  have hoL := h.ot_
  have HC := Lib.hid (fun (u : World) (hu : Below w.heap.size w u) => ((h.below hu (Nat.le_refl _)).cells8).1)
  obtain ⟨dn, hdn⟩ : ∃ dn, decide (s.left.length = 0) = dn := ⟨_, rfl⟩
  obtain ⟨l, hl⟩ : ∃ l, s.wants = l := ⟨_, rfl⟩
  have HWE := Lib.hid (show l = if (dn || s.av) = true then [] else notGot s.gs (s.src :: s.ot) by rw [← hl, ← hdn]; rfl)
  rw [hl]
  rw [hdn] at HD
  clear h hl hdn
  obtain ⟨f, t, uA, uc, un, av, src, oA, oc, ot, gb, pk, n, D, gs⟩ := s
  simp only at c0 c1 c2 c3 c4 HGV HSW HOW HLS hoL HC HWE HOA
  obtain ⟨T, hT⟩ : ∃ T, ot.length = T := ⟨_, rfl⟩
  rw [hT] at c3 HLS hoL
  simp only [hT] at HC
  have HT := Lib.hid hT
  clear hT
  go_enter Try.func11, Try.ntmps11
  go_wp2_with (fail)
  refine HD.out.mono ?_
  rintro e w1 ⟨rfl, hw1⟩
  have H1 := Lib.hid hw1
  have hs1 := hw1.size
  clear hw1 c0 c1 c2 c3 c4
  obtain ⟨c0, c1, c2, c3, c4⟩ := HC.out w1 H1.out
  have hl1 : g < w1.heap.size := by omega
  cases dn with
  | true =>
    have HL := Lib.hid (show l = [] by rw [HWE.out]; rfl)
    go_wp2_with (fail)
    go_ret
    rw [HL.out]
    exact ret_nn_nil _ _ H1.out
  | false =>
    cases av with
    | true =>
      have HL := Lib.hid (show l = [] by rw [HWE.out]; rfl)
      go_wp2_with (fail)
      go_ret
      rw [HL.out]
      exact ret_nn_nil _ _ H1.out
    | false =>
      obtain ⟨L, hL⟩ : ∃ L, src :: ot = L := ⟨_, rfl⟩
      have HL := Lib.hid (show l = notGot gs L by rw [HWE.out, ← hL]; rfl)
      have HLW := Lib.hid (show ∀ x ∈ L, (Lit.int .i64 x).wf = true by
        intro x hx; rw [← hL] at hx
        rcases List.mem_cons.1 hx with rfl | hx
        · exact HSW.out
        · exact HOW.out x hx)
      have HLL := Lib.hid (show L.length = T + 1 by rw [← hL, List.length_cons, HT.out])
      have HLE := Lib.hid (show [src] ++ ot = L by rw [← hL]; rfl)
      clear hL HWE
      have q0 := Wb.at_ c2
      have q1 := Wb.at_ c3
      go_wp2_with (fail)
      refine wp_region_plan [([0, 1, 2, 3, 5, 6, 7, 8, 11], some (4, false)), ([], some (9, true)), ([10], none)] (by kernel_rfl) (by kernel_rfl) ?_
      refine seg_act _ (by dsimp only [pick, ord.at_]) _ (by dsimp only [pick, ord.at_]) ?_
      repeat (go_big_quiet_step (fail))
      refine wpQuiet_nil ?_
      intro K1 h1 h2
      clear h1
      go_wp2_with (fail)
      obtain ⟨w2, hw2⟩ : ∃ w2, (w1.alloc (.cells #[.int .i64 src] 3)).drew = w2 := ⟨_, rfl⟩
      have hbd : Below w1.heap.size w1 w2 := by rw [← hw2]; exact (below_al _ _).drew
      have HO2 := Lib.hid (show Ow NE w2 w1.heap.size (.slice (some ⟨w1.heap.size, 0, none⟩) 1 1) 1 [src] by
        rw [← hw2]
        exact ⟨rfl, own_keep (World.ownsRow_lit (w := w1) (base := w1.heap.size) (e := 3) (size := 1) #[.int .i64 src] 1 (Nat.le_refl _) (by first | rfl | decide) (by first | rfl | decide)) (Below.refl _ _).drew (Nat.le_refl _)⟩)
      have HB2 := Lib.hid (H1.out.trans (hbd.mono hs1))
      have hs2 := HB2.out.size
      have hs12 := hbd.size
      have HLT := Lib.hid ((HLS.out w2 HB2.out))
      rw [hw2]
      have HBD := Lib.hid hbd
      clear hw2 hbd
      refine h2 _ _ HBD.out ?_
      refine seg_write _ (by dsimp only [pick, ord.at_]) _ (by dsimp only [pick, ord.at_]) ?_
      repeat (go_big_quiet_step (fail))
      refine wpQuiet_nil ?_
      intro K2 g2
      go_wp2_with (at_builtin; refine app_n rfl (.tmp 18) (.tmp 22) rfl w1.heap.size _ 1 [src] rfl HO2.out w2.heap.size oA T oc HOA.out ot (by rfl) HLT.out (by omega) (by omega) ?_; intro A3 c3' w3 hown3 hg3 _ h3a h3b hs3; have HO3 := Lib.hid hown3; have HB3 := Lib.hid (H1.out.trans ((HO2.out.below_grown (HBD.out) hg3 (by omega)).mono hs1)); clear hown3 hg3)
      refine seg_end _ (by dsimp only [pick, ord.at_]) ?_
      repeat (go_big_quiet_step (fail))
      refine wpQuiet_nil ?_
      refine NoPanic.normal ?_
      have hO3 := HO3.out
      simp only [HLE.out] at hO3
      obtain ⟨M, hM⟩ : ∃ M, 1 + T = M := ⟨_, rfl⟩
      rw [hM] at hO3
      have HO4 := Lib.hid hO3
      have HLM := Lib.hid (show L.length = M by rw [HLL.out]; omega)
      have hMb : M ≤ 1000001 := by omega
      have hM1 : 1 + T ≤ M := by omega
      have hM2 : M ≤ 1 + T := by omega
      have hs03 := HB3.out.size
      have hc5 : ((1 + T : Nat) : Int) = (M : Int) := by rw [hM]
      have HC3 := Lib.hid (show Below w3.heap.size w3 w3 from Below.refl _ _)
      have hbase : w.heap.size ≤ w3.heap.size := hs03
      rw [hM]
      clear hO3 HO3 hM hc5 HO2 q0 q1 c0 c1 c2 c3 c4
      go_wp2_with (fail)
      go_loopg [3, 5, 25] M (fun gg s3 s5 s25 wr => ∃ (i : Nat) (A : Option Addr) (c m : Nat), s25 = .int .i64 i ∧ s3 = .slice A m c ∧ i ≤ M ∧ M - i ≤ gg ∧ m ≤ i ∧ Aside (Ow NE wr w3.heap.size (.slice A m c) m (notGot gs (L.take i))) ∧ Aside (Below w3.heap.size w3 wr))
      case atStart => exact ⟨0, none, 0, 0, rfl, rfl, by omega, by omega, by omega, Ow.nil _ _, Below.refl _ _⟩
      case round =>
        obtain ⟨i, A, c, m, rfl, rfl, hi, hg, hm, HO, HB⟩ := hrel
        have hsr := HB.out.size
        have HBW := Lib.hid (HB3.out.trans (HB.out.mono hs03))
        by_cases hlt2 : i < M
        · have hltz : (i : Int) < (M : Int) := by omega
          have hltz2 : (i : Int) < 1 + (T : Int) := by omega
          have i0 : (0 : Int) ≤ (i : Int) := by omega
          obtain ⟨x, hx⟩ : ∃ x, L[i]? = some x := ⟨_, List.getElem?_eq_getElem (by rw [HLM.out]; exact hlt2)⟩
          obtain ⟨b4, off4, hA4, hb4, e0⟩ := num_at ((HO4.out.below HB.out (Nat.le_refl _)).ls) hx
          subst hA4
          have HGX := Lib.hid (HGV.out wr HBW.out x (HLW.out x (List.mem_of_getElem? hx)))
          have HSN := Lib.hid (notGot_snoc (gs := gs) hx)
          obtain ⟨bx, hbx⟩ : ∃ bx, pm.has gs x = bx := ⟨_, rfl⟩
          rw [hbx] at HGX HSN
          obtain ⟨wv, hwv⟩ : ∃ wv, wv = wr := ⟨wr, rfl⟩
          obtain rfl := hwv
          clear hx hbx
          go_wp2_with (fail)
          refine HGX.out.mono ?_
          rintro e w5 ⟨rfl, hw5⟩
          have HB5 := Lib.hid (HB.out.trans (hw5.mono hsr))
          have HO5 := Lib.hid (HO.out.below hw5 (Nat.le_refl _))
          have hs5 := hw5.size
          clear hw5 e0
          cases bx with
          | true =>
            go_wp2_with (fail)
            go_roundg (M - (i + 1))
            case measure => omega
            case rel => exact ⟨i + 1, A, c, m, by go_num, rfl, by omega, by omega, by omega, (show Ow NE w5 w3.heap.size (.slice A m c) m (notGot gs (L.take (i + 1))) by rw [HSN.out]; simpa using HO5.out), HB5.out⟩
          | false =>
            obtain ⟨w6, hw6⟩ : ∃ w6, w5.alloc (.cells #[.int .i64 x] 3) = w6 := ⟨_, rfl⟩
            have hb6 : Below w5.heap.size w5 w6 := by rw [← hw6]; exact below_al _ _
            have HL6 := Lib.hid (show Ls NE w6 (w5.heap.size + 1) (some ⟨w5.heap.size, 0, none⟩) 1 [x] by rw [← hw6]; exact ls_new (E := NE) (w := w5) 3 x)
            have HO6 := Lib.hid (HO5.out.below hb6 (Nat.le_refl _))
            have hs6 := hb6.size
            have HB6 := Lib.hid (HB5.out.trans (hb6.mono (by omega)))
            clear hb6
            go_wp2_with (at_builtin; refine app_n rfl (.tmp 33) (.tmp 35) rfl w3.heap.size _ m _ rfl HO6.out (w5.heap.size + 1) (some ⟨w5.heap.size, 0, none⟩) 1 1 (fun e => by cases e) [x] (by rfl) HL6.out (by omega) (by omega) ?_; intro A9 c9 w9 hown9 hg9 _ h9a h9b hs9; have HO9 := Lib.hid hown9; have HB9 := Lib.hid (HO6.out.below_grown HB6.out hg9 (by omega)); clear hown9 hg9)
            go_roundg (M - (i + 1))
            case measure => omega
            case rel => exact ⟨i + 1, A9, c9, m + 1, by go_num, rfl, by omega, by omega, by omega, by rw [HSN.out]; exact HO9.out, HB9.out⟩
        · obtain rfl : i = M := by omega
          have hltz : ¬ (i : Int) < 1 + (T : Int) := by omega
          have HF := Lib.hid (show notGot gs (L.take i) = l by rw [HL.out, List.take_of_length_le (by rw [HLM.out]; exact Nat.le_refl _)])
          have HM := Lib.hid (show m = l.length by have := HO.out.1; rw [HF.out] at this; exact this.symm)
          go_wp2_with (fail)
          go_ret
          have h1 := HO.out
          rw [HF.out, HM.out] at h1
          exact ⟨A, c, by rw [HM.out]; rfl, h1.base hs03, HBW.out⟩
theorem add_nil (w : World) (g B : Nat) (s : BS) (h : Bt w g B s) :
    Calls Try.prog 18 #[.pointer (some ⟨g, 0, none⟩), .slice none 0 0] w fun e w' => e = .returned (.tuple #[]) ∧ Below w.heap.size w w' := by
  have hmf : ∀ (fn : Fn) (first cap : Array Value) (w : World), (Instr.makeFunc fn first cap).run Try.prog w = .ok (.func fn first cap) w := fun _ _ _ _ => rfl
  have HB := Lib.hid (below_al w (.cells #[.pointer (some ⟨g, 0, none⟩)] 34))
  clear h
  go_enter Try.func18, Try.ntmps18
  go_wp2_with (fail)
  go_loopg [6, 10] 0 (fun gg s6 s10 wr => s10 = .int .i64 0 ∧ Aside (Below w.heap.size w wr))
  case atStart => exact ⟨rfl, HB.out⟩
  case round =>
    obtain ⟨rfl, HW⟩ := hrel
    go_wp2_with (fail)
    go_end0
    exact ⟨rfl, HW.out⟩
def BS.ok (s : BS) (x : Int) : Bool := !s.av && (x == s.src || pm.has s.ot x)
def BS.got (s : BS) (x : Int) : BS := { s with D := s.D.put (.int .i64 x) (.agg []), n := s.n + 1, gs := x :: s.gs }
theorem Bt.got {w w' : World} {g B : Nat} {s : BS} (h : Bt w g B s) {x : Int} (hw : (Lit.int .i64 x).wf = true) (hn : s.n < 1000000) (hm : OwnSet w' s.gb (s.n + 1) (s.D.put (.int .i64 x) (.agg []))) (hc : Chg (fun k => k = s.gb) w w') : Bt w' g B (s.got x) := by
  have hg : g ≠ s.gb := h.m.ne h.box
  refine ⟨hc.blk h.box hg, ⟨h.u.1, own_chg h.u.2 hc (fun k hk e => ?_)⟩, h.o.chg hc (fun k hk e => ?_), hm, fun y => ?_, h.lo, h.lg, h.un_, h.ot_, by show s.n + 1 ≤ 1000000; omega, h.sw, h.ow⟩
  · obtain ⟨cur, hcur⟩ := own_type h.u.2 hk
    exact h.m.ne hcur e
  · obtain ⟨cur, hcur⟩ := h.o.type hk
    exact h.m.ne hcur e
  · show Maps.has (s.D.put (.int .i64 x) (.agg [])) (.int .i64 y) = pm.has (x :: s.gs) y
    by_cases e : y = x
    · subst e
      rw [has_put_same h.m.isMap (by simp [WideAt.IsKeyLit])]
      simp [pm.has]
    · rw [has_put_other (fun e2 => e (by injection e2)), h.has]
      simp [pm.has, Ne.symm e]
def RetGot (w : World) (g B : Nat) (s : BS) (b : Bool) (s' : BS) (e : Ending) (w' : World) : Prop := e = .returned (.bool b) ∧ Bt w' g B s' ∧ Chg (fun k => k = s.gb) w w'
set_option maxHeartbeats 2000000 in
set_option maxRecDepth 100000 in
theorem got_nil (w : World) (g B : Nat) (s : BS) (h : Bt w g B s) (hB : B ≤ w.heap.size) (hn : s.n < 1000000) (x : Int) (hx : (Lit.int .i64 x).wf = true) :
    Calls Try.prog 12 #[.pointer (some ⟨g, 0, none⟩), .int .i64 x, .slice none 0 0] w (RetGot w g B s (s.ok x) (if s.ok x = true then s.got x else s)) := by
  obtain ⟨⟨c0, c1, c2, c3, c4⟩, hlt⟩ := h.cells8
  have HH := Lib.hid h
  have HLS := Lib.hid h.o.ls
  have hoL := h.ot_
  have HB0 := Lib.hid (Below.refl w.heap.size w)
  have HAD := Lib.hid (fun (u : World) (hu : Below w.heap.size w u) => add_nil u g B s (h.below hu (Nat.le_refl _)))
  have HC := Lib.hid (fun (u : World) (hu : Below w.heap.size w u) => ((h.below hu (Nat.le_refl _)).cells8).1)
  have HM := Lib.hid (fun (u : World) (hu : Below w.heap.size w u) => (h.below hu (Nat.le_refl _)).m)
  have HFIN := Lib.hid (fun (u u' : World) (hu : Below w.heap.size w u) (hm : OwnSet u' s.gb (s.n + 1) (s.D.put (.int .i64 x) (.agg []))) (hg : u.grownBy u' (some s.gb)) => And.intro ((h.below hu (Nat.le_refl _)).got hx hn hm ((Chg.refl (fun k => k = s.gb) u).grown hg (fun k hk _ => by injection hk with hk; exact hk.symm))) (((Chg.of_below hu).mono (S' := fun k => k = s.gb) (fun _ _ e => e.elim)).grown hg (fun k hk _ => by injection hk with hk; exact hk.symm)))
  have hkey := keyOf_int_mk Try.underlying3 hx
  have HOK := Lib.hid (show s.ok x = (!s.av && (x == s.src || pm.has s.ot x)) from rfl)
  obtain ⟨ok, hok⟩ : ∃ ok, s.ok x = ok := ⟨_, rfl⟩
  rw [hok] at HOK ⊢
  have HST := Lib.hid (show (if true = true then s.got x else s) = s.got x from if_pos rfl)
  obtain ⟨s2, hs2⟩ : ∃ s2, s.got x = s2 := ⟨_, rfl⟩
  rw [hs2] at HFIN
  obtain ⟨s3, hs3⟩ : ∃ s3, (if ok = true then s.got x else s) = s3 := ⟨_, rfl⟩
  have HT3 := Lib.hid (show ok = true → s3 = s2 from fun e => by rw [← hs3, ← hs2, if_pos e])
  have HF3 := Lib.hid (show ok = false → s3 = s from fun e => by rw [← hs3, e]; rfl)
  rw [hs3]
  clear h hok hs2 hs3 hx HST
  obtain ⟨f, t, uA, uc, un, av, src, oA, oc, ot, gb, pk, n, D, gs⟩ := s
  simp only at c0 c1 c2 c3 c4 HLS hoL HC HM HOK HFIN hn
  obtain ⟨T, hT⟩ : ∃ T, ot.length = T := ⟨_, rfl⟩
  rw [hT] at c3 HLS hoL
  simp only [hT] at HC
  have HCN := Lib.hid (contains_x w w.heap.size T oc oA ot HLS.out (Nat.le_refl _) (by omega) x)
  clear hT
  go_enter Try.func12, Try.ntmps12
  cases av with
  | true =>
    have HO := Lib.hid (show ok = false by rw [HOK.out]; rfl)
    go_wp2_with (fail)
    go_ret
    rw [HO.out, HF3.out HO.out]
    exact ⟨rfl, HH.out, Chg.refl _ _⟩
  | false =>
    by_cases hxs : x = src
    · subst hxs
      have HO := Lib.hid (show ok = true by rw [HOK.out]; simp)
      have HA := Lib.hid (HAD.out w HB0.out)
      go_wp2_with (fail)
      refine HA.out.mono ?_
      rintro e w1 ⟨rfl, hw1⟩
      have H1 := Lib.hid hw1
      have hown := HM.out w1 hw1
      have hs1 := hw1.size
      clear hw1 c0 c1 c2 c3 c4
      obtain ⟨c0, c1, c2, c3, c4⟩ := HC.out w1 H1.out
      have hl1 : g < w1.heap.size := by omega
      go_wp2_with (at_mapUpdate; refine wpList_mapUpdate_own _ rfl _ _ _ 57 rfl 3 69 keyed_int Try.underlying57 unitElem gb n D rfl hown (by unfold maxLen; omega) _ _ (.int .i64 x) rfl rfl hkey (.agg []) [] unitElem_mk ?_; intro w2 hown2 hgrow2)
      have HF := Lib.hid (HFIN.out w1 _ H1.out hown2 hgrow2)
      clear hown2 hgrow2 hown
      go_wp2_with (fail)
      go_ret
      rw [HO.out, HT3.out HO.out]
      exact ⟨rfl, HF.out.1, HF.out.2⟩
    · have hxz : (x != src) = true := by simp [hxs]
      obtain ⟨bo, hbo⟩ : ∃ bo, pm.has ot x = bo := ⟨_, rfl⟩
      have HO := Lib.hid (show ok = bo by rw [HOK.out, hbo, show (x == src) = false by simp [hxs]]; simp)
      rw [hbo] at HCN
      clear hbo hxs
      go_wp2_with (fail)
      refine HCN.out.mono ?_
      rintro e w1 ⟨rfl, hw1⟩
      have H1 := Lib.hid hw1
      have hs1 := hw1.size
      have HA := Lib.hid (HAD.out w1 hw1)
      clear hw1 c0 c1 c2 c3 c4
      cases bo with
      | false =>
        go_wp2_with (fail)
        go_ret
        rw [HO.out, HF3.out HO.out]
        exact ⟨rfl, HH.out.below H1.out (Nat.le_refl _), (Chg.of_below H1.out).mono (fun _ _ e => e.elim)⟩
      | true =>
        go_wp2_with (fail)
        refine HA.out.mono ?_
        rintro e w3 ⟨rfl, hw3⟩
        have H3 := Lib.hid (H1.out.trans (hw3.mono H1.out.size))
        have hown := HM.out w3 H3.out
        have hs3 := H3.out.size
        clear hw3
        obtain ⟨c0, c1, c2, c3, c4⟩ := HC.out w3 H3.out
        have hl3 : g < w3.heap.size := by omega
        go_wp2_with (at_mapUpdate; refine wpList_mapUpdate_own _ rfl _ _ _ 57 rfl 3 69 keyed_int Try.underlying57 unitElem gb n D rfl hown (by unfold maxLen; omega) _ _ (.int .i64 x) rfl rfl hkey (.agg []) [] unitElem_mk ?_; intro w4 hown4 hgrow4)
        have HF := Lib.hid (HFIN.out w3 _ H3.out hown4 hgrow4)
        clear hown4 hgrow4 hown
        go_wp2_with (fail)
        go_ret
        rw [HO.out, HT3.out HO.out]
        exact ⟨rfl, HF.out.1, HF.out.2⟩
end Go.Proofs.Ytheanpcbjjogfaa.bt
