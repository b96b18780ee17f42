/-
  Boots with their points: what stays, what is added; Local, and Got where nothing is to be given.
-/
import Derived.Test.YtheanpcbjjogfaaBtN
import Derived.Test.YtheanpcbjjogfaaBtS
import Derived.Test.YtheanpcbjjogfaaRgProg4
namespace Go.Proofs.Ytheanpcbjjogfaa.bt
open Go.ChangeShapes Go.WideShapes Go.ChangeAt Go.RowKit Go.Shelf plain words ord mem pm Go.Maps
open mg (Pt PE)
open al (AL Nm)

/-- a boot and its points -/
structure BP (w : World) (g B : Nat) (s : BS) (F : Nat → Prop) (es : AL Ent) : Prop where
  bt : Bt w g B s
  pts : Pts w B F s.pk es
  g_ : ¬ F g
  gb_ : ¬ F s.gb
  u_ : ∀ k, (Value.slice s.uA s.un.length s.uc).ownBlock = some k → ¬ F k
  o_ : ∀ k, (Value.slice s.oA s.ot.length s.oc).ownBlock = some k → ¬ F k
section
variable {w w' : World} {g B : Nat} {s : BS} {F : Nat → Prop} {es : AL Ent}
theorem Bt.chg {S : Nat → Prop} (h : Bt w g B s) (hc : Chg S w w') (h1 : ¬ S g) (h2 : ¬ S s.gb) (h3 : ∀ k, (Value.slice s.uA s.un.length s.uc).ownBlock = some k → ¬ S k) (h4 : ∀ k, (Value.slice s.oA s.ot.length s.oc).ownBlock = some k → ¬ S k) : Bt w' g B s :=
  ⟨hc.blk h.box h1, ⟨h.u.1, own_chg h.u.2 hc h3⟩, h.o.chg hc h4, h.m.chg hc h2, h.has, h.lo, h.lg, h.un_, h.ot_, h.few, h.sw, h.ow⟩
theorem BP.below {C : Nat} (h : BP w g B s F es) (hb : Below C w w') (hC : w.heap.size ≤ C) : BP w' g B s F es :=
  ⟨h.bt.below hb hC, h.pts.below hb hC, h.g_, h.gb_, h.u_, h.o_⟩
theorem NewP.bp {st : BS} (h : NewP w B g st) (hb : Bt w g B st) : BP w g B st (fun k => k = st.pk) [] :=
  ⟨hb, h.pts, fun e => by have := h.g_; omega, fun e => by have := h.gb_; omega, fun k hk e => by have := h.u_ k hk; omega, fun k hk e => by have := h.o_ k hk; omega⟩
/-- more points -/
theorem BP.added {es' : AL Ent} (h : BP w g B s F es) (hp : Pts w' B (Ext F w w') s.pk es') (hc : Chg F w w') : BP w' g B s (Ext F w w') es' := by
  have hlt : ∀ k, k < w.heap.size → ¬ F k → ¬ Ext F w w' k := fun k hk hn e => by
    rcases e with e | e
    · exact hn e
    · omega
  exact ⟨h.bt.chg hc h.g_ h.gb_ h.u_ h.o_, hp, hlt g (blk_lt h.bt.box) h.g_, hlt _ h.bt.m.lt h.gb_, fun k hk => hlt k (h.bt.u.2.lt k hk).2 (h.u_ k hk), fun k hk => hlt k (h.bt.o.lt k hk).2 (h.o_ k hk)⟩
end
def BS.setU (s : BS) (A : Option Addr) (c : Nat) (un : List rg.R) : BS := { s with uA := A, uc := c, un := un }
def RetLoc (w : World) (g B : Nat) (s : BS) (F : Nat → Prop) (es : AL Ent) (l : List SerV) (un : List rg.R) (e : Ending) (w' : World) : Prop :=
  e = .returned (.tuple #[]) ∧ ∃ F' es' A c, BP w' g B (s.setU A c un) F' es' ∧ Chg (fun k => F k ∨ k = g) w w' ∧ (∀ k, F' k → F k ∨ w.heap.size ≤ k) ∧ es'.length ≤ es.length + l.length ∧ ∀ r, cont es' r = addS s.f s.t l (cont es) r
set_option maxRecDepth 100000 in
set_option maxHeartbeats 2000000 in
theorem local_x (w : World) (g B : Nat) (s : BS) (F : Nat → Prop) (es : AL Ent) (hp : BP w g B s F es) (hB : B ≤ w.heap.size) (rf rt : Int) (B2 n c : Nat) (A : Option Addr) (l : List SerV) (hl : Sers w B2 n A l) (hB2 : ∀ k, F k → B2 ≤ k) (hB2w : B2 ≤ w.heap.size)
    (hn : n ≤ 2048) (hls : ∀ s ∈ l, s.l.length ≤ 2048) (hco : ∀ r, (cont es r).length ≤ 100000000) (hes : es.length ≤ 100000000) (hsl : (rg.subP (rg.normR s.un) (rf, rt)).length ≤ 1000000) :
    Calls Try.prog 9 #[.pointer (some ⟨g, 0, none⟩), .agg #[.int .i64 rf, .int .i64 rt], .slice A n c] w (RetLoc w g B s F es l (if s.av = true then rg.subP (rg.normR s.un) (rf, rt) else s.un)) := by
  obtain ⟨w1, hw1⟩ : ∃ w1, w.alloc (.cells #[.int .i64 rf, .int .i64 rt] 27) = w1 := ⟨_, rfl⟩
  have hb1 : Below w.heap.size w w1 := by rw [← hw1]; exact below_a3 _ _
  have hr1 : w1.heap[w.heap.size]? = some (.cells #[.int .i64 rf, .int .i64 rt] 27 (0, 0)) := by rw [← hw1]; exact alloc_new _ _
  have hl1 : w.heap.size < w1.heap.size := blk_lt hr1
  have hF1 : ¬ F w.heap.size := fun e => by have := hp.pts.hi _ e; omega
  have HBP1 := Lib.hid (hp.below hb1 (Nat.le_refl _))
  have HL1 := Lib.hid (hl.below hb1 hB2w)
  obtain ⟨un', hun'⟩ : ∃ un', (if s.av = true then rg.subP (rg.normR s.un) (rf, rt) else s.un) = un' := ⟨_, rfl⟩
  have HUN := Lib.hid hun'
  rw [hun']
  obtain ⟨f, t, uA, uc, un, av, src, oA, oc, ot, gb, pk, nn, D, gs⟩ := s
  have HADD := Lib.hid (add_x w1 B F pk es HBP1.out.pts (by omega) g f t _ _ _ _ _ HBP1.out.bt.box hp.g_ B2 n c A l HL1.out hB2 (by omega) hn hls hco hes)
  have HHP := Lib.hid hp
  have HW1 := Lib.hid hw1
  have HB1 := Lib.hid hb1
  have HR1 := Lib.hid hr1
  have HSL := Lib.hid hsl
  have HHI := Lib.hid (show ∀ k, F k → k < w.heap.size from hp.pts.hi)
  have hgw := blk_lt hp.bt.box
  have HGF := Lib.hid hp.g_
  clear hp hl hw1 hb1 hr1 hsl hun' hco hes hls hB2
  go_enter Try.func9, Try.ntmps9
  go_wp2_with (fail)
  rw [HW1.out]
  go_wp2_with (fail)
  refine HADD.out.mono ?_
  rintro e w2 ⟨rfl, es2, hp2, hc2, hle2, hco2⟩
  have hbp2 := HBP1.out.added hp2 hc2
  have hs2 := hc2.size
  have HBP2 := Lib.hid hbp2
  have HC2 := Lib.hid hc2
  have HLE2 := Lib.hid hle2
  have HCO2 := Lib.hid hco2
  have hbx := hbp2.bt.box
  have hg2 : g < w2.heap.size := blk_lt hbx
  have c3 : w2.cell? ⟨g, 3, none⟩ = some (.bool av) := by rw [cell_of_row _ _ _ _ _ _ hbx]; rfl
  have r2 := hc2.blk HR1.out hF1
  have HC12 := Lib.hid (show Chg F w w2 from ((Chg.of_below HB1.out).mono (S' := F) (fun _ _ e => e.elim)).trans hc2 (fun _ _ e => e))
  clear hp2 hc2 hle2 hco2 hbp2
  cases av with
  | false =>
    have HU := Lib.hid (show un = un' by rw [← HUN.out]; simp)
    go_wp2_with (fail)
    go_end0
    refine ⟨rfl, Ext F w1 w2, es2, uA, uc, ?_, HC12.out.mono (fun k _ hk => .inl hk), fun k hk => ?_, HLE2.out, HCO2.out⟩
    · have h1 := HBP2.out
      rw [← HU.out]
      exact h1
    · rcases hk with hk | hk
      · exact .inl hk
      · exact .inr (by omega)
  | true =>
    have HU := Lib.hid (show rg.subP (rg.normR un) (rf, rt) = un' by rw [← HUN.out]; simp)
    obtain ⟨U, hU⟩ : ∃ U, un.length = U := ⟨_, rfl⟩
    have HUL := Lib.hid hU
    have c2 : w2.cell? ⟨g, 2, none⟩ = some (.slice uA U uc) := by rw [cell_of_row _ _ _ _ _ _ hbx, ← hU]; rfl
    have f2 : w2.frozen? ⟨g, 2, none⟩ = false := frozen_of_row _ _ 2 _ _ hbx
    have y0 : w2.cell? ⟨w.heap.size, 0, none⟩ = some (.int .i64 rf) := by rw [cell_of_row _ _ _ _ _ _ r2]; rfl
    have y1 : w2.cell? ⟨w.heap.size, 1, none⟩ = some (.int .i64 rt) := by rw [cell_of_row _ _ _ _ _ _ r2]; rfl
    have hl2 : w.heap.size < w2.heap.size := by omega
    have q0 := Wb.at_ c2
    have q1 := Wb.at_ y0
    have q2 := Wb.at_ y1
    have hub := HBP2.out.bt.un_
    have hrg := (HBP2.out.bt.u.rgs)
    have had := (HBP2.out.bt.u.addr).1
    simp only [hU] at hub hrg had
    have HSUB := Lib.hid (rg.sub_x w2.drew w2.heap.size U uc uA un ⟨hrg.1, hrg.2.drew⟩ had (Nat.le_refl _) hub (rf, rt))
    clear hU hrg had y0 y1
    go_wp2_with (fail)
    refine wp_region_plan [([0, 1, 2, 3, 4, 5], some (6, false)), ([7, 8], some (9, true)), ([], none)] (by kernel_rfl) (by kernel_rfl) ?_
    refine seg_act _ (by dsimp only [pick, ord.at_]) _ (by dsimp only [pick, ord.at_]) ?_
    repeat (go_big_quiet_step (fail))
    refine wpQuiet_nil ?_
    intro K1 h1 h2
    clear h1 q0 q1 q2
    go_wp2_with (fail)
    refine HSUB.out.mono ?_
    rintro e w3 ⟨v3, rfl, ho3, hb3⟩
    rw [HU.out] at ho3
    obtain ⟨M, hM⟩ : ∃ M, un'.length = M := ⟨_, rfl⟩
    rw [hM] at ho3
    obtain ⟨A3, c3', rfl⟩ : ∃ A3 c3', v3 = .slice A3 M c3' := by
      rcases own_form ho3.2 with ⟨rfl, e⟩ | ⟨gg, cap, rfl, _⟩
      · exact ⟨none, 0, by rw [e]⟩
      · exact ⟨_, _, rfl⟩
    have HB3 := Lib.hid (show Below w2.heap.size w2 w3 from (Below.refl w2.heap.size w2).drew.trans hb3)
    have HO3 := Lib.hid (show rg.Own w3 w2.heap.size (.slice A3 M c3') M un' from ho3)
    have HM := Lib.hid hM
    have hs3 := HB3.out.size
    have hbx3 := blk_below HB3.out hbx hg2
    have hg3 : g < w3.heap.size := blk_lt hbx3
    have c23 : w3.cell? ⟨g, 2, none⟩ = some (.slice uA U uc) := by rw [cell_of_row _ _ _ _ _ _ hbx3, ← HUL.out]; rfl
    have f23 : w3.frozen? ⟨g, 2, none⟩ = false := frozen_of_row _ _ 2 _ _ hbx3
    have HX3 := Lib.hid hbx3
    clear hb3 ho3 hM c2 f2 c3 hbx hbx3
    go_wp2_with (fail)
    refine h2 _ _ HB3.out ?_
    clear h2
    refine seg_write _ (by dsimp only [pick, ord.at_]) _ (by dsimp only [pick, ord.at_]) ?_
    repeat (go_big_quiet_step (fail))
    refine wpQuiet_nil ?_
    intro K2 h3
    go_wp2_with (fail)
    refine seg_end _ (by dsimp only [pick, ord.at_]) ?_
    repeat (go_big_quiet_step (fail))
    refine wpQuiet_nil ?_
    refine NoPanic.normal ?_
    have hfin : ∃ w4, w3.setCell ⟨g, 2, none⟩ (.slice A3 M c3') = w4 ∧ RetLoc w g B ⟨f, t, uA, uc, un, true, src, oA, oc, ot, gb, pk, nn, D, gs⟩ F es l un' (.returned (.tuple #[])) w4 := by
      have hMM := HM.out
      subst hMM
      refine ⟨_, rfl, rfl, Ext F w1 w2, es2, A3, c3', ?_, ?_, fun k hk => ?_, HLE2.out, HCO2.out⟩
      · have hb := HBP2.out.below HB3.out (Nat.le_refl _)
        have hch : Chg (fun k => k = g) w3 (w3.setCell ⟨g, 2, none⟩ (.slice A3 un'.length c3')) := chg_set w3 g 2 _
        have hgs : g ≠ gb := fun e => by
          obtain ⟨es, clock, h1, _⟩ := hb.bt.m
          have h2 := hb.bt.box
          simp only at h1
          rw [e, h1] at h2
          injection h2 with e2
          cases e2
        refine ⟨⟨?_, ⟨rfl, ?_⟩, ?_, ?_, hb.bt.has, hb.bt.lo, hb.bt.lg, ?_, hb.bt.ot_, hb.bt.few, hb.bt.sw, hb.bt.ow⟩, ?_, hb.g_, hb.gb_, ?_, hb.o_⟩
        · rw [heap_setCell_same _ _ _ _ _ _ HX3.out]
          simp only [BS.cells, BS.setU]
          rfl
        · have h1 := own_base (own_chg HO3.out.2 hch (fun k hk e => by have := (HO3.out.2.lt k hk).1; omega)) (show B ≤ w2.heap.size by omega)
          exact h1
        · exact hb.bt.o.chg hch (fun k hk e => by
            obtain ⟨cur, hcur⟩ := hb.bt.o.type hk
            have h2 := hb.bt.box
            rw [e, h2] at hcur
            injection hcur with e2
            injection e2 with _ e3
            revert e3; decide)
        · exact hb.bt.m.chg hch (fun e => hgs e.symm)
        · show un'.length ≤ 1000000
          rw [← HU.out]; exact HSL.out
        · exact hb.pts.chg hch (fun k hk e => hb.g_ (e ▸ hk))
        · intro k hk e
          have h1 : (Value.slice A3 un'.length c3').ownBlock = some k := hk
          have h2 := (HO3.out.2.lt k h1).1
          rcases e with e | e
          · have := HHI.out k e; omega
          · omega
      · refine ((HC12.out.mono (S' := fun k => F k ∨ k = g) (fun k _ hk => .inl hk)).then_below HB3.out).trans (chg_set w3 g 2 _) (fun k _ e => .inr e)
      · rcases hk with hk | hk
        · exact .inl hk
        · exact .inr (by omega)
    obtain ⟨w4, hw4, hret⟩ := hfin
    have HRET := Lib.hid hret
    rw [hw4]
    clear hret hw4
    go_wp2_with (fail)
    go_end0
    exact HRET.out
end Go.Proofs.Ytheanpcbjjogfaa.bt
/-
  Boots: Got of one that is there; a single range, normal, and less itself.
-/
namespace Go.Proofs.Ytheanpcbjjogfaa.bt
open Go.ChangeShapes Go.WideShapes Go.ChangeAt Go.RowKit Go.Shelf plain words ord mem pm Go.Maps
open mg (Pt PE)
open al (AL Nm)

theorem got_av (w : World) (g B : Nat) (s : BS) (h : Bt w g B s) (hav : s.av = true) (x : Int) (v : Value) :
    Calls Try.prog 12 #[.pointer (some ⟨g, 0, none⟩), .int .i64 x, v] w fun e w' => e = .returned (.bool false) ∧ w' = w := by
  obtain ⟨⟨c0, c1, c2, c3, c4⟩, hlt⟩ := h.cells8
  rw [hav] at c1
  clear h hav
  go_enter Try.func12, Try.ntmps12
  go_wp2_with (fail)
  go_ret
  exact ⟨rfl, rfl⟩
theorem norm_one (f t : Int) : rg.normR [(f, t)] = if t ≤ f then [] else [(f, t)] := by
  by_cases h : t ≤ f
  · simp [rg.normR, rg.addR, rg.keepR, h]
  · simp [rg.normR, rg.addR, rg.keepR, h]; rfl
theorem sub_self (f t : Int) : rg.subP (rg.normR (rg.normR [(f, t)])) (f, t) = [] := by
  rw [rg.normR_idem, norm_one]
  by_cases h : t ≤ f
  · rw [if_pos h]; unfold rg.subP; rw [if_pos h]
  · rw [if_neg h]
    unfold rg.subP
    rw [if_neg h]
    simp [rg.cutR, rg.keepR]
    omega
end Go.Proofs.Ytheanpcbjjogfaa.bt
