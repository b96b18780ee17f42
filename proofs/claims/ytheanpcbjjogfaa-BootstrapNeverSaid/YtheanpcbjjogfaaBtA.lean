/-
  Boots: how one lies in memory; gave, Left, Done, Wants, Got.
-/
import Derived.Test.YtheanpcbjjogfaaPmDE
import Derived.Test.YtheanpcbjjogfaaRgClone
import Derived.Maps.OwnSet
import Derived.Maps.OwnOps
namespace Go.Proofs.Ytheanpcbjjogfaa.bt
open Go.ChangeShapes Go.WideShapes Go.ChangeAt Go.RowKit Go.Shelf plain words ord mem pm Go.Maps

abbrev Dt := DataW Unit
theorem keyed_int : Keyed Try.prog 3 := int_keyed Try.underlying3
theorem zero_unit (w : World) : (zeroValue 69).run Try.prog w = .ok (.agg #[]) w := by kernel_rfl
abbrev OwnSet (w : World) (b n : Nat) (D : Dt) : Prop := w.ownsMap Try.prog 3 unitElem b n D
theorem OwnSet.chg {S : Nat → Prop} {w w' : World} {b n : Nat} {D : Dt} (h : OwnSet w b n D) (hc : Chg S w w') (hb : ¬ S b) : OwnSet w' b n D := by
  obtain ⟨es, clock, h1, F, h2, h3⟩ := h
  exact ⟨es, clock, hc.blk h1 hb, F, h2, h3⟩
theorem OwnSet.lt {w : World} {b n : Nat} {D : Dt} (h : OwnSet w b n D) : b < w.heap.size := by
  obtain ⟨es, clock, h1, _⟩ := h
  exact blk_lt h1
theorem OwnSet.ne {w : World} {b n g : Nat} {D : Dt} {cur : Array Value} {t : TypeId} {f : Nat × Nat} (h : OwnSet w b n D) (hg : w.heap[g]? = some (.cells cur t f)) : g ≠ b := by
  rintro rfl
  obtain ⟨es, clock, h1, _⟩ := h
  rw [h1] at hg
  injection hg with e
  cases e
/-- what a boot has -/
structure BS where
  f : Int
  t : Int
  uA : Option Addr
  uc : Nat
  un : List rg.R
  av : Bool
  src : Int
  oA : Option Addr
  oc : Nat
  ot : List Int
  gb : Nat
  pk : Nat
  n : Nat
  D : Dt
  gs : List Int
def BS.cells (s : BS) : Array Value := #[.int .i64 s.f, .int .i64 s.t, .slice s.uA s.un.length s.uc, .bool s.av, .int .i64 s.src, .slice s.oA s.ot.length s.oc, .map (some s.gb), .map (some s.pk)]
structure Bt (w : World) (g B : Nat) (s : BS) : Prop where
  box : w.heap[g]? = some (.cells s.cells 60 (0, 0))
  u : rg.Own w B (.slice s.uA s.un.length s.uc) s.un.length s.un
  o : Ow NE w B (.slice s.oA s.ot.length s.oc) s.ot.length s.ot
  m : OwnSet w s.gb s.n s.D
  has : ∀ x : Int, Maps.has s.D (.int .i64 x) = pm.has s.gs x
  lo : B ≤ g
  lg : B ≤ s.gb
  un_ : s.un.length ≤ 1000000
  ot_ : s.ot.length ≤ 1000000
  few : s.n ≤ 1000000
  sw : (Lit.int .i64 s.src).wf = true
  ow : ∀ x ∈ s.ot, (Lit.int .i64 x).wf = true
section
variable {w w' : World} {g B : Nat} {s : BS}
theorem Bt.cells8 (h : Bt w g B s) : (w.cell? ⟨g, 2, none⟩ = some (.slice s.uA s.un.length s.uc) ∧ w.cell? ⟨g, 3, none⟩ = some (.bool s.av) ∧ w.cell? ⟨g, 4, none⟩ = some (.int .i64 s.src) ∧ w.cell? ⟨g, 5, none⟩ = some (.slice s.oA s.ot.length s.oc) ∧ w.cell? ⟨g, 6, none⟩ = some (.map (some s.gb))) ∧ g < w.heap.size :=
  ⟨⟨by rw [cell_of_row _ _ _ _ _ _ h.box]; rfl, by rw [cell_of_row _ _ _ _ _ _ h.box]; rfl, by rw [cell_of_row _ _ _ _ _ _ h.box]; rfl, by rw [cell_of_row _ _ _ _ _ _ h.box]; rfl, by rw [cell_of_row _ _ _ _ _ _ h.box]; rfl⟩, blk_lt h.box⟩
theorem Bt.below {C : Nat} (h : Bt w g B s) (hb : Below C w w') (hC : w.heap.size ≤ C) : Bt w' g B s := by
  have hs := hb.size
  have hl := blk_lt h.box
  refine ⟨blk_below hb h.box (by omega), h.u.below hb hC, h.o.below hb hC, ?_, h.has, h.lo, h.lg, h.un_, h.ot_, h.few, h.sw, h.ow⟩
  obtain ⟨es, clock, h1, F, h2, h3⟩ := h.m
  exact ⟨es, clock, blk_below hb h1 (by have := blk_lt h1; omega), F, h2, h3⟩
theorem Bt.drew (h : Bt w g B s) : Bt w.drew g B s := h.below (Below.refl w.heap.size w).drew (Nat.le_refl _)
end
set_option maxHeartbeats 1000000 in
theorem gave_x (w : World) (g B : Nat) (s : BS) (h : Bt w g B s) (x : Int) (hx : (Lit.int .i64 x).wf = true) :
    Calls Try.prog 21 #[.pointer (some ⟨g, 0, none⟩), .int .i64 x] w fun e w' => e = .returned (.bool (pm.has s.gs x)) ∧ Below w.heap.size w w' := by
  have hown := h.m
  have hh := h.has x
  obtain ⟨⟨_, _, _, _, c4⟩, hlt⟩ := h.cells8
  have hkey := keyOf_int_mk Try.underlying3 hx
  have HB0 := Lib.hid (Below.refl w.heap.size w)
  have HH := Lib.hid hh
  clear h hh hx
  go_enter Try.func21, Try.ntmps21
  go_wp2_with (at_lookup; refine wpList_lookup_own_unit _ rfl _ _ 57 rfl 3 69 keyed_int Try.underlying57 (zero_unit _) s.gb s.n s.D rfl hown _ _ rfl hkey ?_)
  go_ret
  exact ⟨by simp [HH.out], HB0.out.alloc (Nat.le_refl _) _⟩
def full (gs ot : List Int) : Bool := match ot with | [a, b] => pm.has gs a && pm.has gs b | _ => false
theorem full_not {gs ot : List Int} (h : ot.length ≠ 2) : full gs ot = false := by
  match ot, h with
  | [], _ => rfl
  | [_], _ => rfl
  | [_, _], h => simp at h
  | _ :: _ :: _ :: _, _ => rfl
def BS.met (s : BS) : Bool := !s.av && (pm.has s.gs s.src || full s.gs s.ot)
def BS.left (s : BS) : List rg.R := if s.met then [] else s.un
theorem ret_nil (w w' : World) (hb : Below w.heap.size w w') : rg.RetRg w w.heap.size [] (.returned (.slice none 0 0)) w' := ⟨_, rfl, rg.Own.nil _ _, hb⟩
theorem ret_after {w w1 w2 : World} {l : List rg.R} {e : Ending} (hb : Below w.heap.size w w1) (h : rg.RetRg w1 w1.heap.size l e w2) : rg.RetRg w w.heap.size l e w2 := by
  obtain ⟨v, h1, h2, h3⟩ := h
  exact ⟨v, h1, h2.base hb.size, hb.trans (h3.mono hb.size)⟩
set_option maxHeartbeats 1000000 in
theorem left_x (w : World) (g B : Nat) (s : BS) (h : Bt w g B s) (hB : B ≤ w.heap.size) :
    Calls Try.prog 20 #[.pointer (some ⟨g, 0, none⟩)] w (rg.RetRg w w.heap.size s.left) := by
  obtain ⟨⟨c0, c1, c2, c3, c4⟩, hlt⟩ := h.cells8
  have HBT := Lib.hid (fun (u : World) (hu : Below w.heap.size w u) => h.below hu (Nat.le_refl _))
  have HCL := Lib.hid (fun (u : World) (hu : Below w.heap.size w u) => rg.clone_rg u u.heap.size s.un.length s.uc s.uA s.un (h.below hu (Nat.le_refl _)).u.rgs (h.u.addr).1 (Nat.le_refl _) h.un_)
  have HGV := Lib.hid (fun (u : World) (hu : Below w.heap.size w u) (x : Int) (hx : (Lit.int .i64 x).wf = true) => gave_x u g B s (h.below hu (Nat.le_refl _)) x hx)
  have HSW := Lib.hid h.sw
  have HOW := Lib.hid h.ow
  have HLS := Lib.hid (fun (u : World) (hu : Below w.heap.size w u) => (h.below hu (Nat.le_refl _)).o.ls)
  have HR := Lib.hid (Below.refl w.heap.size w)
  have HME := Lib.hid (show s.left = if (!s.av && (pm.has s.gs s.src || full s.gs s.ot)) = true then [] else s.un from rfl)
  have hoL := h.ot_
  have HC := Lib.hid (fun (u : World) (hu : Below w.heap.size w u) => ((h.below hu (Nat.le_refl _)).cells8).1)
  obtain ⟨l, hl⟩ : ∃ l, s.left = l := ⟨_, rfl⟩
  rw [hl] at HME ⊢
  clear h hl
  obtain ⟨f, t, uA, uc, un, av, src, oA, oc, ot, gb, pk, n, D, gs⟩ := s
  simp only at c0 c1 c2 c3 c4 HCL HGV HSW HOW HLS HME hoL HC
  obtain ⟨U, hU⟩ : ∃ U, un.length = U := ⟨_, rfl⟩
  obtain ⟨T, hT⟩ : ∃ T, ot.length = T := ⟨_, rfl⟩
  rw [hU] at c0 HCL
  rw [hT] at c3 HLS hoL
  simp only [hU, hT] at HC
  have HT := Lib.hid hT
  clear hU hT
  go_enter Try.func20, Try.ntmps20
  cases av with
  | true =>
    have HL := Lib.hid (show l = un by rw [HME.out]; simp)
    go_wp2_with (fail)
    refine (HCL.out w HR.out).mono ?_
    rintro e w1 ⟨v, rfl, hv, hb⟩
    have HV := Lib.hid (show rg.RetRg w w.heap.size l (.returned v) w1 by rw [HL.out]; exact ⟨v, rfl, hv, hb⟩)
    clear hv hb
    go_wp2_with (fail)
    go_ret
    exact HV.out
  | false =>
    have HG1 := Lib.hid (HGV.out w HR.out src HSW.out)
    obtain ⟨b1, hb1⟩ : ∃ b1, pm.has gs src = b1 := ⟨_, rfl⟩
    rw [hb1] at HG1 HME
    clear hb1
    go_wp2_with (fail)
    refine HG1.out.mono ?_
    rintro e w1 ⟨rfl, hw1⟩
    have H1 := Lib.hid hw1
    clear hw1 c0 c1 c2 c3 c4
    obtain ⟨c0, c1, c2, c3, c4⟩ := HC.out w1 H1.out
    have hl1 : g < w1.heap.size := by have := H1.out.size; omega
    cases b1 with
    | true =>
      have HL := Lib.hid (show l = [] by rw [HME.out]; simp)
      go_wp2_with (fail)
      go_ret
      rw [HL.out]
      exact ret_nil _ _ H1.out
    | false =>
      by_cases hT2 : T = 2
      · subst hT2
        have ht2 : (((2 : Nat) : Int) == 2) = true := rfl
        obtain ⟨a, b, hab⟩ : ∃ a b, ot = [a, b] := by
          match ot, HT.out with
          | [a, b], _ => exact ⟨a, b, rfl⟩
        subst hab
        have HLa := Lib.hid (show l = if (pm.has gs a && pm.has gs b) = true then [] else un by rw [HME.out]; rfl)
        obtain ⟨bo, off, rfl, hbo, e0⟩ := num_at (HLS.out w1 H1.out) (i := 0) (x := a) rfl
        have HGa := Lib.hid (HGV.out w1 H1.out a (HOW.out a (by simp)))
        obtain ⟨b2, hb2⟩ : ∃ b2, pm.has gs a = b2 := ⟨_, rfl⟩
        rw [hb2] at HGa HLa
        simp only [Nat.add_zero] at e0
        clear hb2
        go_wp2_with (fail)
        refine HGa.out.mono ?_
        rintro e w2 ⟨rfl, hw2⟩
        have H2 := Lib.hid (H1.out.trans (hw2.mono H1.out.size))
        clear hw2 c0 c1 c2 c3 c4 e0
        obtain ⟨c0, c1, c2, c3, c4⟩ := HC.out w2 H2.out
        have hl2 : g < w2.heap.size := by have := H2.out.size; omega
        cases b2 with
        | true =>
          obtain ⟨bo', off', e', hbo', e0⟩ := num_at (HLS.out w2 H2.out) (i := 1) (x := b) rfl
          cases e'
          have HGb := Lib.hid (HGV.out w2 H2.out b (HOW.out b (by simp)))
          obtain ⟨b3, hb3⟩ : ∃ b3, pm.has gs b = b3 := ⟨_, rfl⟩
          rw [hb3] at HGb HLa
          clear hb3
          go_wp2_with (fail)
          refine HGb.out.mono ?_
          rintro e w3 ⟨rfl, hw3⟩
          have H3 := Lib.hid (H2.out.trans (hw3.mono H2.out.size))
          clear hw3 c0 c1 c2 c3 c4 e0
          obtain ⟨c0, c1, c2, c3, c4⟩ := HC.out w3 H3.out
          have hl3 : g < w3.heap.size := by have := H3.out.size; omega
          cases b3 with
          | true =>
            have HL := Lib.hid (show l = [] by rw [HLa.out]; simp)
            go_wp2_with (fail)
            go_ret
            rw [HL.out]
            exact ret_nil _ _ H3.out
          | false =>
            have HL := Lib.hid (show l = un by rw [HLa.out]; simp)
            go_wp2_with (fail)
            refine (HCL.out w3 H3.out).mono ?_
            intro e w4 hr
            have HV := Lib.hid (ret_after H3.out hr)
            obtain ⟨v, rfl, hv, hb⟩ := hr
            clear hv hb
            go_wp2_with (fail)
            go_ret
            rw [HL.out]
            exact HV.out
        | false =>
          have HL := Lib.hid (show l = un by rw [HLa.out]; simp)
          go_wp2_with (fail)
          refine (HCL.out w2 H2.out).mono ?_
          intro e w4 hr
          have HV := Lib.hid (ret_after H2.out hr)
          obtain ⟨v, rfl, hv, hb⟩ := hr
          clear hv hb
          go_wp2_with (fail)
          go_ret
          rw [HL.out]
          exact HV.out
      · have ht2 : ((T : Int) == 2) = false := by simp; omega
        have HL := Lib.hid (show l = un by rw [HME.out, full_not (by rw [HT.out]; exact hT2)]; simp)
        go_wp2_with (fail)
        refine (HCL.out w1 H1.out).mono ?_
        intro e w4 hr
        have HV := Lib.hid (ret_after H1.out hr)
        obtain ⟨v, rfl, hv, hb⟩ := hr
        clear hv hb
        go_wp2_with (fail)
        go_ret
        rw [HL.out]
        exact HV.out
theorem done_x (w : World) (g B : Nat) (s : BS) (h : Bt w g B s) (hB : B ≤ w.heap.size) :
    Calls Try.prog 10 #[.pointer (some ⟨g, 0, none⟩)] w fun e w' => e = .returned (.bool (decide (s.left.length = 0))) ∧ Below w.heap.size w w' := by
  have HL := Lib.hid (left_x w g B s h hB)
  obtain ⟨l, hl⟩ : ∃ l, s.left = l := ⟨_, rfl⟩
  rw [hl] at HL ⊢
  obtain ⟨N, hN⟩ : ∃ N, l.length = N := ⟨_, rfl⟩
  rw [hN]
  have HN := Lib.hid hN
  clear h hl hN
  go_enter Try.func10, Try.ntmps10
  go_wp2_with (fail)
  refine HL.out.mono ?_
  rintro e w1 ⟨v, rfl, hv, hb⟩
  have hv2 := hv
  rw [HN.out] at hv2
  obtain ⟨A, c, rfl⟩ : ∃ A c, v = .slice A N c := by
    rcases own_form hv2.2 with ⟨rfl, e⟩ | ⟨gg, cap, rfl, _⟩
    · exact ⟨none, 0, by rw [e]⟩
    · exact ⟨_, _, rfl⟩
  have HB := Lib.hid hb
  clear hv hv2 hb
  by_cases h0 : N = 0
  · subst h0
    go_wp2_with (fail)
    go_ret
    exact ⟨by simp, HB.out⟩
  · have hz : ((N : Int) == 0) = false := by simp; omega
    go_wp2_with (fail)
    go_ret
    exact ⟨by simp [h0], HB.out⟩
end Go.Proofs.Ytheanpcbjjogfaa.bt
