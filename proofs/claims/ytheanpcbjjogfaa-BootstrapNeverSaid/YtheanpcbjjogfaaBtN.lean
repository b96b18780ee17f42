/-
  Boots: the program's New.
-/
import Derived.Test.YtheanpcbjjogfaaBtB
import Derived.Test.YtheanpcbjjogfaaBtP
import Derived.Test.YtheanpcbjjogfaaRgNorm
import Derived.Test.YtheanpcbjjogfaaPmC
namespace Go.Proofs.Ytheanpcbjjogfaa.bt
open Go.ChangeShapes Go.WideShapes Go.ChangeAt Go.RowKit Go.Shelf plain words ord mem pm Go.Maps

theorem chg_set (w : World) (g o : Nat) (u : Value) : Chg (fun k => k = g) w (w.setCell ⟨g, o, none⟩ u) := Chg.setCell (S := fun k => k = g) (Chg.refl _ _) (p := ⟨g, o, none⟩) (fun _ => rfl) u
def othersOf (n : Int) (l : List O) : List Int := (l.filter fun o => o.1 != n && o.2.1 == 2).map (·.1)
theorem othersOf_snoc {n : Int} {l : List O} {i : Nat} {x : O} (h : l[i]? = some x) : othersOf n (l.take (i + 1)) = othersOf n (l.take i) ++ (if (x.1 != n && x.2.1 == 2) = true then [x.1] else []) := by
  unfold othersOf
  rw [List.take_add_one, h, List.filter_append, List.map_append]
  cases hb : (x.1 != n && x.2.1 == 2) <;> simp [hb]
theorem othersOf_len (n : Int) (l : List O) : (othersOf n l).length ≤ l.length := by
  unfold othersOf
  rw [List.length_map]
  exact List.length_filter_le _ _
theorem rise_len8 {α : Type} {f : α → Int} : ∀ (l : List α) (a : Int), Rise f l → (∀ x ∈ l, a ≤ f x ∧ f x < 8) → a ≤ 8 → (l.length : Int) ≤ 8 - a
  | [], a, _, _, h => by simp; omega
  | x :: l, a, hr, hb, h => by
    have hp := List.pairwise_cons.1 hr
    have hx := hb x (by simp)
    have := rise_len8 l (f x + 1) hp.2 (fun y hy => ⟨by have := hp.1 y hy; omega, (hb y (by simp [hy])).2⟩) (by omega)
    simp only [List.length_cons]
    omega
theorem ok_ll {val : List O → O → Prop} {nodes : List Int} {l : List O} (h : ShardBy val nodes l) : l.length ≤ 8 := by
  have h1 := rise_len8 l 0 h.rise (fun x hx => (h.each x hx).1) (by omega)
  omega
theorem wf_small {x : Int} (h : -1 ≤ x) (h2 : x < 8) : (Lit.int .i64 x).wf = true := by
  have : x = -1 ∨ x = 0 ∨ x = 1 ∨ x = 2 ∨ x = 3 ∨ x = 4 ∨ x = 5 ∨ x = 6 ∨ x = 7 := by omega
  rcases this with rfl | rfl | rfl | rfl | rfl | rfl | rfl | rfl | rfl <;> decide
theorem from_small {nodes : List Int} {l : List O} (h : ShardOk nodes l) {o : O} (ho : o ∈ l) : -1 ≤ o.2.2 ∧ o.2.2 < 8 := by
  obtain ⟨_, h2, _⟩ := h.each o ho
  rcases h2 with ⟨_, b⟩ | ⟨_, x, b, _⟩ | ⟨_, b, _⟩
  · omega
  · obtain ⟨hx, e⟩ := (find_iff h.rise _ _).1 b
    obtain ⟨⟨h3, h4⟩, _⟩ := h.each x hx
    omega
  · omega
theorem fnd_mem {l : List O} {n : Int} (h : fis (byNode n) l = true) : fnd (byNode n) l ∈ l ∧ (fnd (byNode n) l).1 = n := by
  unfold fis at h
  unfold fnd
  obtain ⟨o, ho⟩ := Option.isSome_iff_exists.1 h
  rw [ho]
  exact ⟨List.mem_of_find?_eq_some ho, by have := List.find?_some ho; simpa [byNode] using this⟩
theorem others_node {n x : Int} {nodes : List Int} {l : List O} (h : ShardOk nodes l) (hx : x ∈ othersOf n l) : 0 ≤ x ∧ x < 8 := by
  unfold othersOf at hx
  obtain ⟨o, ho, rfl⟩ := List.mem_map.1 hx
  exact (h.each o (List.mem_filter.1 ho).1).1
theorem shard_idx {ss : List (List O)} {s n : Int} (h : fis (byNode n) (shardAt ss s) = true) : ∃ k : Nat, s = (k : Int) ∧ k < ss.length := by
  have hne : shardAt ss s ≠ [] := fun e => by rw [e] at h; cases h
  by_cases h0 : s < 0
  · exact absurd (by unfold shardAt; rw [if_pos h0]) hne
  · obtain ⟨k, rfl⟩ : ∃ k : Nat, s = (k : Int) := ⟨s.toNat, by omega⟩
    refine ⟨k, rfl, ?_⟩
    rcases Nat.lt_or_ge k ss.length with h1 | h1
    · exact h1
    · exact absurd (shardAt_out h1) hne
noncomputable def newE (p : Pl) (s n : Int) : Int := if chk p ≠ 0 then 50 else if (!fis (byNode n) (shardAt p.ss s) || (fnd (byNode n) (shardAt p.ss s)).2.1 == 3) = true then 140 else 0
structure NewS (p : Pl) (s n f t : Int) (st : BS) : Prop where
  f_ : st.f = f
  t_ : st.t = t
  un_ : st.un = rg.normR [(f, t)]
  av_ : st.av = ((fnd (byNode n) (shardAt p.ss s)).2.1 == 2)
  src_ : st.src = (fnd (byNode n) (shardAt p.ss s)).2.2
  ot_ : st.ot = othersOf n (shardAt p.ss s)
  gs_ : st.gs = []
  n_ : st.n = 0
/-- the points of a new boot: none, in a map apart from the rest -/
structure NewP (w : World) (B g : Nat) (st : BS) : Prop where
  pts : Pts w B (fun k => k = st.pk) st.pk []
  box : w.heap[g]? = some (.cells st.cells 60 (0, 0))
  g_ : g < st.pk
  gb_ : st.gb < st.pk
  u_ : ∀ k, (Value.slice st.uA st.un.length st.uc).ownBlock = some k → k < st.pk
  o_ : ∀ k, (Value.slice st.oA st.ot.length st.oc).ownBlock = some k → k < st.pk
def RetNew (w : World) (p : Pl) (s n f t : Int) (e : Ending) (w' : World) : Prop :=
  (newE p s n = 0 ∧ ∃ g st, e = .returned (.tuple #[.pointer (some ⟨g, 0, none⟩), .int .i64 0]) ∧ Bt w' g w.heap.size st ∧ NewS p s n f t st ∧ Below w.heap.size w w' ∧ NewP w' w.heap.size g st) ∨
  (newE p s n ≠ 0 ∧ e = .returned (.tuple #[.pointer none, .int .i64 (newE p s n)]) ∧ Below w.heap.size w w')
/-- while the others are gathered -/
structure NB (W wr : World) (g : Nat) (f t : Int) (uA : Option Addr) (U uc : Nat) (av : Bool) (src : Int) (oA : Option Addr) (m oc : Nat) (l : List Int) : Prop where
  box : wr.heap[g]? = some (.cells #[.int .i64 f, .int .i64 t, .slice uA U uc, .bool av, .int .i64 src, .slice oA m oc, .map none, .map none] 60 (0, 0))
  ow : Ow NE wr (g + 1) (.slice oA m oc) m l
  ch : Chg (fun k => k = g) W wr
section
variable {W wr w' : World} {g : Nat} {f t : Int} {uA : Option Addr} {U uc : Nat} {av : Bool} {src : Int} {oA : Option Addr} {m oc : Nat} {l : List Int}
theorem NB.below (h : NB W wr g f t uA U uc av src oA m oc l) (hb : Below wr.heap.size wr w') : NB W w' g f t uA U uc av src oA m oc l :=
  ⟨blk_below hb h.box (blk_lt h.box), h.ow.below hb (Nat.le_refl _), h.ch.then_below hb⟩
theorem NB.cell (h : NB W wr g f t uA U uc av src oA m oc l) : wr.cell? ⟨g, 5, none⟩ = some (.slice oA m oc) ∧ wr.frozen? ⟨g, 5, none⟩ = false ∧ g < wr.heap.size :=
  ⟨by rw [cell_of_row _ _ _ _ _ _ h.box]; rfl, frozen_of_row _ _ 5 _ _ h.box, blk_lt h.box⟩
theorem NB.app {oA' : Option Addr} {m' oc' : Nat} {l' : List Int} (h : NB W wr g f t uA U uc av src oA m oc l) (hW : W.heap.size = g + 1) (ho : Ow NE w' (g + 1) (.slice oA' m' oc') m' l') (hg : wr.grownBy w' (Value.slice oA m oc).ownBlock) :
    NB W (w'.setCell ⟨g, 5, none⟩ (.slice oA' m' oc')) g f t uA U uc av src oA' m' oc' l' ∧ w'.cell? ⟨g, 5, none⟩ = some (.slice oA m oc) ∧ w'.frozen? ⟨g, 5, none⟩ = false ∧ g < w'.heap.size := by
  have hgl := blk_lt h.box
  have hb' : w'.heap[g]? = some (.cells #[.int .i64 f, .int .i64 t, .slice uA U uc, .bool av, .int .i64 src, .slice oA m oc, .map none, .map none] 60 (0, 0)) :=
    (hg.block g hgl (fun e => by have := (h.ow.lt g e.symm).1; omega)).trans h.box
  refine ⟨⟨by rw [heap_setCell_same _ _ _ _ _ _ hb']; rfl, ho.chg (chg_set w' g 5 _) (fun k hk e => by have := (ho.lt k hk).1; omega), ?_⟩, by rw [cell_of_row _ _ _ _ _ _ hb']; rfl, frozen_of_row _ _ 5 _ _ hb', blk_lt hb'⟩
  exact (h.ch.grown hg (fun k hk hlt => by have := (h.ow.lt k hk).1; omega)).setCell (p := ⟨g, 5, none⟩) (fun _ => rfl) _
end
set_option maxHeartbeats 4000000 in
set_option maxRecDepth 100000 in
theorem new_x (w : World) (B : Nat) (v : PV) (h : PVok w B v) (hB : B ≤ w.heap.size) (s n f t : Int) :
    Calls Try.prog 6 #[v.val, .int .i64 s, .int .i64 n, .agg #[.int .i64 f, .int .i64 t]] w (RetNew w v.pl s n f t) := by
  obtain ⟨w3, hw3⟩ : ∃ w3, (w.alloc (boxO v)).alloc (.cells #[.int .i64 f, .int .i64 t] 27) = w3 := ⟨_, rfl⟩
  have hb3 : Below w.heap.size w w3 := by rw [← hw3]; exact (below_al _ _).trans ((below_al _ _).mono (by simp))
  have gp : pm.Boxed w3 w.heap.size v := by rw [← hw3]; exact alloc_old _ (alloc_new _ _)
  have gr : w3.heap[w.heap.size + 1]? = some (.cells #[.int .i64 f, .int .i64 t] 27 (0, 0)) := by
    rw [← hw3]; have := alloc_new (w.alloc (boxO v)) (.cells #[.int .i64 f, .int .i64 t] 27); rwa [World.size_alloc] at this
  have hl3 : w.heap.size + 1 < w3.heap.size := blk_lt gr
  have HOK := Lib.hid (fun (u : World) (hu : Below w3.heap.size w3 u) => ((h.below hb3 hB).below hu (by omega)))
  have HCK := Lib.hid (pcheck_x w3 B v (HOK.out w3 (Below.refl _ _)) (by omega))
  have HFP := Lib.hid (fun (u : World) (hu : Below w3.heap.size w3 u) => pfind_x u B v (HOK.out u hu) (by have := hu.size; omega) s n)
  have HB3 := Lib.hid hb3
  have HGP := Lib.hid gp
  have HGR := Lib.hid gr
  have HW3 := Lib.hid hw3
  obtain ⟨p, hp⟩ : ∃ p, v.pl = p := ⟨_, rfl⟩
  rw [hp] at HCK HFP ⊢
  have HPV := Lib.hid hp
  have HNE := Lib.hid (show newE p s n = if chk p ≠ 0 then 50 else if (!fis (byNode n) (shardAt p.ss s) || (fnd (byNode n) (shardAt p.ss s)).2.1 == 3) = true then 140 else 0 from rfl)
  obtain ⟨ne, hne⟩ : ∃ ne, newE p s n = ne := ⟨_, rfl⟩
  have HRET := Lib.hid (show RetNew w p s n f t = fun e w' => (ne = 0 ∧ ∃ g st, e = .returned (.tuple #[.pointer (some ⟨g, 0, none⟩), .int .i64 0]) ∧ Bt w' g w.heap.size st ∧ NewS p s n f t st ∧ Below w.heap.size w w' ∧ NewP w' w.heap.size g st) ∨ (ne ≠ 0 ∧ e = .returned (.tuple #[.pointer none, .int .i64 ne]) ∧ Below w.heap.size w w') by rw [← hne]; rfl)
  rw [hne] at HNE
  obtain ⟨ck, hck⟩ : ∃ ck, chk p = ck := ⟨_, rfl⟩
  rw [hck] at HCK HNE
  have HCKE := Lib.hid hck
  obtain ⟨o, ho⟩ : ∃ o, fnd (byNode n) (shardAt p.ss s) = o := ⟨_, rfl⟩
  obtain ⟨q, hq⟩ : ∃ q, fis (byNode n) (shardAt p.ss s) = q := ⟨_, rfl⟩
  rw [ho, hq] at HFP HNE
  have HFO := Lib.hid ho
  have HFQ := Lib.hid hq
  obtain ⟨o1, o2, o3⟩ := o
  obtain ⟨ver, nA, nc, nodes, sA, sc, rs⟩ := v
  obtain ⟨N, hN⟩ : ∃ N, rs.length = N := ⟨_, rfl⟩
  have HN := Lib.hid hN
  simp only [PV.val, boxO, pm.Boxed, hN] at HCK HFP HW3 HGP ⊢
  have HVC := Lib.hid (fun (u : World) (hu : Below w3.heap.size w3 u) => (isv3_cells (blk_below hu HGP.out (by omega))).1)
  have HRC := Lib.hid (fun (u : World) (hu : Below w3.heap.size w3 u) => (show u.cell? ⟨w.heap.size + 1, 0, none⟩ = some (.int .i64 f) ∧ u.cell? ⟨w.heap.size + 1, 1, none⟩ = some (.int .i64 t) from ⟨by rw [cell_of_row _ _ _ _ _ _ (blk_below hu HGR.out (by omega))]; rfl, by rw [cell_of_row _ _ _ _ _ _ (blk_below hu HGR.out (by omega))]; rfl⟩))
  obtain ⟨c0, c1, c2⟩ := HVC.out w3 (Below.refl _ _)
  clear h hw3 hb3 gp gr hp hck ho hq hne hN
  go_enter Try.func6, Try.ntmps6
  go_wp2_with (fail)
  rw [HW3.out]
  go_wp2_with (fail)
  refine HCK.out.mono ?_
  rintro e w4 ⟨rfl, hb4⟩
  have HB4 := Lib.hid hb4
  have hs4 := hb4.size
  clear hb4 c0 c1 c2
  obtain ⟨c0, c1, c2⟩ := HVC.out w4 HB4.out
  have hl4 : w.heap.size < w4.heap.size := by omega
  by_cases hk0 : ck = 0
  · subst hk0
    go_wp2_with (fail)
    refine (HFP.out w4 HB4.out).mono ?_
    rintro e w5 ⟨rfl, hb5⟩
    have hs5 := hb5.size
    obtain ⟨w6, hw6⟩ : ∃ w6, w5.alloc (.cells #[.int .i64 o1, .int .i64 o2, .int .i64 o3] 42) = w6 := ⟨_, rfl⟩
    have hb6 : Below w5.heap.size w5 w6 := by rw [← hw6]; exact below_al _ _
    have g6 : IsV3 42 w6 w5.heap.size (.int .i64 o1) (.int .i64 o2) (.int .i64 o3) := by rw [← hw6]; exact alloc_new _ _
    have hs6 := hb6.size
    have HB6 := Lib.hid (HB4.out.trans ((hb5.trans (hb6.mono hs5)).mono hs4))
    have HG6 := Lib.hid g6
    obtain ⟨⟨d0, d1, d2⟩, _⟩ := isv3_cells g6
    have hl6 : w5.heap.size < w6.heap.size := blk_lt g6
    clear hb5 hb6 g6 c0 c1 c2
    cases q with
    | false =>
      have HE := Lib.hid (show ne = 140 by rw [HNE.out]; simp)
      go_wp2_with (fail)
      go_ret2
      rw [HRET.out]
      exact .inr ⟨by rw [HE.out]; decide, by rw [HE.out]; rfl, HB3.out.trans (HB6.out.mono (by omega))⟩
    | true =>
      by_cases h3 : o2 = 3
      · subst h3
        have HE := Lib.hid (show ne = 140 by rw [HNE.out]; simp)
        go_wp2_with (fail)
        go_ret2
        rw [HRET.out]
        exact .inr ⟨by rw [HE.out]; decide, by rw [HE.out]; rfl, HB3.out.trans (HB6.out.mono (by omega))⟩
      · have h3z : (o2 == 3) = false := by simp [h3]
        have HE := Lib.hid (show ne = 0 by rw [HNE.out]; simp [h3])
        clear h3
        have r6 := HRC.out w6 HB6.out
        have q0 := Wb.at_ r6.1
        have q1 := Wb.at_ r6.2
        have q2 := Wb.at_ d1
        have q3 := Wb.at_ d2
        have hlr : w.heap.size + 1 < w6.heap.size := by omega
        go_wp2_with (fail)
        refine wp_region_plan [([0, 1, 4, 5, 6, 7, 8], some (2, false)), ([], some (3, false)), ([9], some (10, false)), ([11], none)] (by kernel_rfl) (by kernel_rfl) ?_
        refine seg_act _ (by dsimp only [pick, ord.at_]) _ (by dsimp only [pick, ord.at_]) ?_
        repeat (go_big_quiet_step (fail))
        refine wpQuiet_nil ?_
        intro K1 h1 h2
        clear h1
        go_wp2_with (fail)
        obtain ⟨w7, hw7⟩ : ∃ w7, (w6.alloc (.cells #[.int .i64 f, .int .i64 t] 27)).drew = w7 := ⟨_, rfl⟩
        have hb7 : Below w6.heap.size w6 w7 := by rw [← hw7]; exact (below_al _ _).drew
        have hs7 := hb7.size
        have hs71 : w7.heap.size = w6.heap.size + 1 := by rw [← hw7]; show (w6.alloc _).heap.size = _; simp
        have HLN := Lib.hid (show rg.Rgs w7 w7.heap.size (some ⟨w6.heap.size, 0, none⟩) 1 [(f, t)] by
          have h1 : Rd (w6.alloc (.cells #[.int .i64 f, .int .i64 t] 27)) (w6.heap.size + 1) (some ⟨w6.heap.size, 0, none⟩) 2 (rg.rgE (f, t)) := rd_lit 27 (rg.rgE (f, t)) rfl
          have h2 := h1.drew
          rw [hw7, ← hs71] at h2
          exact ⟨rfl, by rw [cs_one]; exact h2⟩)
        have HNM := Lib.hid (rg.norm_x w7 w7.heap.size 1 1 (some ⟨w6.heap.size, 0, none⟩) [(f, t)] HLN.out (fun e => by cases e) (Nat.le_refl _) (by omega))
        rw [hw7]
        have HB7 := Lib.hid hb7
        clear hw7 hb7
        refine h2 _ _ HB7.out ?_
        clear h2
        refine seg_act _ (by dsimp only [pick, ord.at_]) _ (by dsimp only [pick, ord.at_]) ?_
        repeat (go_big_quiet_step (fail))
        refine wpQuiet_nil ?_
        intro K2 h1 h2
        clear h1
        go_wp2_with (fail)
        refine HNM.out.mono ?_
        rintro e w8 ⟨v8, rfl, hu8, hb8⟩
        obtain ⟨UN, hUN⟩ : ∃ UN, rg.normR [(f, t)] = UN := ⟨_, rfl⟩
        have hUl : UN.length ≤ 1000000 := by rw [← hUN]; have := rg.normR_le [(f, t)]; simp only [List.length_cons, List.length_nil] at this; omega
        rw [hUN] at hu8
        obtain ⟨U, hU⟩ : ∃ U, UN.length = U := ⟨_, rfl⟩
        rw [hU] at hu8 hUl
        obtain ⟨uA, uc, rfl⟩ : ∃ A c, v8 = .slice A U c := by
          rcases own_form hu8.2 with ⟨rfl, e⟩ | ⟨gg, cap, rfl, _⟩
          · exact ⟨none, 0, by rw [e]⟩
          · exact ⟨_, _, rfl⟩
        have HUN := Lib.hid hUN
        have HU := Lib.hid hU
        have HU8 := Lib.hid hu8
        have HB8 := Lib.hid hb8
        have hs8 := hb8.size
        clear hUN hU hu8 hb8 r6
        go_wp2_with (fail)
        refine h2 _ _ (by first | exact HB8.out | exact HB7.out.trans (HB8.out.mono hs7)) ?_
        clear h2
        refine seg_act _ (by dsimp only [pick, ord.at_]) _ (by dsimp only [pick, ord.at_]) ?_
        repeat (go_big_quiet_step (fail))
        refine wpQuiet_nil ?_
        intro K3 h1 h2
        clear h1
        go_wp2_with (fail)
        obtain ⟨av, hav⟩ : ∃ av, (o2 == 2) = av := ⟨_, rfl⟩
        rw [hav]
        have HAV := Lib.hid hav
        obtain ⟨w9, hw9⟩ : ∃ w9, w8.alloc (.cells #[.int .i64 f, .int .i64 t, .slice uA U uc, .bool av, .int .i64 o3, .slice none 0 0, .map none, .map none] 60) = w9 := ⟨_, rfl⟩
        have hb9 : Below w8.heap.size w8 w9 := by rw [← hw9]; exact below_al _ _
        have hs9 : w9.heap.size = w8.heap.size + 1 := by rw [← hw9]; simp
        have KNB := Lib.hid (show NB w9 w9 w8.heap.size f t uA U uc av o3 none 0 0 [] from ⟨by rw [← hw9]; exact alloc_new _ _, Ow.nil _ _, Chg.refl _ _⟩)
        have HB9 := Lib.hid hb9
        have HB39 := Lib.hid (HB6.out.trans ((HB7.out.trans ((HB8.out.trans (hb9.mono hs8)).mono hs7)).mono (by omega)))
        have hk6 := HB39.out.size
        obtain ⟨g, hg⟩ : ∃ g, w8.heap.size = g := ⟨_, rfl⟩
        rw [hw9]
        rw [hg] at KNB hs9 ⊢
        have HS9 := Lib.hid hs9
        have HG := Lib.hid hg
        clear hav hb9 hw9 hg
        refine h2 _ _ (by first | exact HB9.out | exact HB8.out.trans (HB9.out.mono hs8) | exact HB7.out.trans ((HB8.out.trans (HB9.out.mono hs8)).mono hs7)) ?_
        clear h2
        refine seg_end _ (by dsimp only [pick, ord.at_]) ?_
        repeat (go_big_quiet_step (fail))
        refine wpQuiet_nil ?_
        refine NoPanic.normal ?_
        have hcc := HVC.out w9 HB39.out
        obtain ⟨k, hsk, hkN⟩ := shard_idx HFQ.out
        rw [← HPV.out] at hkN
        have hkN2 : k < N := by rw [← HN.out]; simpa [PV.pl] using hkN
        obtain ⟨r, hr⟩ : ∃ r, rs[k]? = some r := ⟨_, List.getElem?_eq_getElem (by rw [HN.out]; exact hkN2)⟩
        have hli : p.ss[k]? = some r.l := by rw [← HPV.out]; simp [PV.pl, hr]
        have hsh : shardAt p.ss s = r.l := by rw [hsk]; exact shardAt_in hli
        obtain ⟨b, off, hA, hb, l0, ho⟩ := ((HOK.out w9 HB39.out).s).at_ hr
        simp only at hA
        subst hA
        have HO := Lib.hid ho.ls
        have hol := ho.len
        obtain ⟨rA, rc, L⟩ := r
        obtain ⟨m, hm⟩ : ∃ m, L.length = m := ⟨_, rfl⟩
        simp only [Rw3.val, hm] at l0 HO hol
        simp only at hsh
        have HM := Lib.hid hm
        have HSH := Lib.hid hsh
        have hsok : ShardOk p.nodes L := (chk_iff.1 HCKE.out).each L (List.mem_of_getElem? hli)
        have hm8 : m ≤ 8 := by rw [← hm]; exact ok_ll hsok
        have HSOK := Lib.hid hsok
        have hbw : b < w9.heap.size := by omega
        have i0 : (0 : Int) ≤ (k : Int) := by omega
        have hltz : (k : Int) < (N : Int) := by omega
        obtain ⟨e0, e1, e2⟩ := hcc
        have hl9 : w.heap.size < w9.heap.size := by omega
        clear hr hli hsh ho hm hkN hsok q0 q1 q2 q3 d0 d1 d2
        subst hsk
        go_wp2_with (fail)
        clear e0 e1 e2 l0
        go_loopg [14, 49] m (fun gg s14 s49 wr => ∃ (i : Nat) (oA : Option Addr) (M oc : Nat), s49 = .int .i64 i ∧ i ≤ m ∧ m - i ≤ gg ∧ M ≤ i ∧ Aside (NB w9 wr g f t uA U uc av o3 oA M oc (othersOf n (L.take i))))
        case atStart => exact ⟨0, none, 0, 0, rfl, by omega, by omega, by omega, KNB.out⟩
        case round =>
          obtain ⟨i, oA, M, oc, rfl, hi, hgk, hMi, HNB⟩ := hrel
          obtain ⟨wv, hwv⟩ : ∃ wv, wv = wr := ⟨wr, rfl⟩
          obtain rfl := hwv
          have hsv := HNB.out.ch.size
          by_cases hlt : i < m
          · have hltm : (i : Int) < (m : Int) := by omega
            have j0 : (0 : Int) ≤ (i : Int) := by omega
            obtain ⟨x, hx⟩ : ∃ x, L[i]? = some x := ⟨_, List.getElem?_eq_getElem (by rw [HM.out]; exact hlt)⟩
            obtain ⟨b3, off3, hA3, hb3, y0, y1, y2⟩ := own_at (HO.out.below (HNB.out.ch.below (B := B) (by omega) (fun k e => by omega)) (Nat.le_refl B)) hx
            subst hA3
            have HSN := Lib.hid (othersOf_snoc (n := n) hx)
            obtain ⟨x1, x2, x3⟩ := x
            simp only at y0 y1 y2 HSN
            have hbw3 : b3 < wv.heap.size := by omega
            obtain ⟨wa, hwa⟩ : ∃ wa, wv.alloc (.cells #[.int .i64 x1, .int .i64 x2, .int .i64 x3] 42) = wa := ⟨_, rfl⟩
            have hba : Below wv.heap.size wv wa := by rw [← hwa]; exact below_al _ _
            have ga : IsV3 42 wa wv.heap.size (.int .i64 x1) (.int .i64 x2) (.int .i64 x3) := by rw [← hwa]; exact alloc_new _ _
            have hla : wv.heap.size < wa.heap.size := blk_lt ga
            obtain ⟨⟨a0, a1, a2⟩, _⟩ := isv3_cells ga
            have HNA := Lib.hid (HNB.out.below hba)
            have HWA := Lib.hid hwa
            have hsa := hba.size
            obtain ⟨bx, hbx⟩ : ∃ bx, (x1 != n && x2 == 2) = bx := ⟨_, rfl⟩
            rw [hbx] at HSN
            clear hx hba ga
            obtain ⟨bn, hbn⟩ : ∃ bn, (x1 != n) = bn := ⟨_, rfl⟩
            cases bn with
            | false =>
              have hbf : bx = false := by rw [← hbx, hbn]; rfl
              subst hbf
              clear hbx
              go_wp2_with (fail)
              go_roundg (m - (i + 1))
              case measure => omega
              case rel => exact ⟨i + 1, oA, M, oc, by go_num, by omega, by omega, by omega, (show NB w9 wa g f t uA U uc av o3 oA M oc (othersOf n (L.take (i + 1))) by rw [HSN.out]; simpa using HNA.out)⟩
            | true =>
              obtain ⟨b2, hb2⟩ : ∃ b2, (x2 == 2) = b2 := ⟨_, rfl⟩
              have hbf : bx = b2 := by rw [← hbx, hbn, hb2]; rfl
              rw [hbf] at HSN
              clear hbx hbf
              cases b2 with
              | false =>
                go_wp2_with (fail)
                go_roundg (m - (i + 1))
                case measure => omega
                case rel => exact ⟨i + 1, oA, M, oc, by go_num, by omega, by omega, by omega, (show NB w9 wa g f t uA U uc av o3 oA M oc (othersOf n (L.take (i + 1))) by rw [HSN.out]; simpa using HNA.out)⟩
              | true =>
                obtain ⟨n0, n1, n2⟩ := HNA.out.cell
                have q0 := Wb.at_ n0
                have q1 := Wb.at_ a0
                go_wp2_with (fail)
                clear y0 y1 y2
                refine wp_region_plan [([0, 1, 2, 3, 4, 5, 6], some (7, false)), ([], some (8, true)), ([9, 10], some (11, true)), ([], none)] (by kernel_rfl) (by kernel_rfl) ?_
                refine seg_act _ (by dsimp only [pick, ord.at_]) _ (by dsimp only [pick, ord.at_]) ?_
                repeat (go_big_quiet_step (fail))
                refine wpQuiet_nil ?_
                intro K1 h1 h2
                clear h1
                go_wp2_with (fail)
                obtain ⟨wb, hwb⟩ : ∃ wb, (wa.alloc (.cells #[.int .i64 x1] 3)).drew = wb := ⟨_, rfl⟩
                have hbb : Below wa.heap.size wa wb := by rw [← hwb]; exact (below_al _ _).drew
                have HLb := Lib.hid (show Ls NE wb (wa.heap.size + 1) (some ⟨wa.heap.size, 0, none⟩) 1 [x1] by rw [← hwb]; exact (ls_new (E := NE) (w := wa) 3 x1).drew)
                have HNb := Lib.hid (HNA.out.below hbb)
                have hsb := hbb.size
                have HBb := Lib.hid hbb
                rw [hwb]
                clear hwb hbb
                refine h2 _ _ HBb.out ?_
                clear h2
                refine seg_write _ (by dsimp only [pick, ord.at_]) _ (by dsimp only [pick, ord.at_]) ?_
                repeat (go_big_quiet_step (fail))
                refine wpQuiet_nil ?_
                intro K2 g2
                go_wp2_with (at_builtin; refine app_n rfl (.tmp 66) (.tmp 69) rfl (g + 1) _ M _ rfl HNb.out.ow (wa.heap.size + 1) (some ⟨wa.heap.size, 0, none⟩) 1 1 (fun e => by cases e) [x1] (by rfl) HLb.out (by omega) (by omega) ?_; intro A9 c9 w10 hown9 hg9 _ h9a h9b hs9; have HNN := Lib.hid (HNb.out.app HS9.out hown9 hg9); clear hown9 hg9)
                obtain ⟨HNC, n0, n1, n2⟩ := HNN.out
                have HNF := Lib.hid HNC
                clear HNC
                refine seg_write _ (by dsimp only [pick, ord.at_]) _ (by dsimp only [pick, ord.at_]) ?_
                repeat (go_big_quiet_step (fail))
                refine wpQuiet_nil ?_
                intro K3 g3
                go_wp2_with (fail)
                refine seg_end _ (by dsimp only [pick, ord.at_]) ?_
                repeat (go_big_quiet_step (fail))
                refine wpQuiet_nil ?_
                refine NoPanic.normal ?_
                go_wp2_with (fail)
                go_roundg (m - (i + 1))
                case measure => omega
                case rel => exact ⟨i + 1, A9, M + 1, c9, by go_num, by omega, by omega, by omega, (show NB w9 (w10.setCell ⟨g, 5, none⟩ (.slice A9 (M + 1) c9)) g f t uA U uc av o3 A9 (M + 1) c9 (othersOf n (L.take (i + 1))) by rw [HSN.out]; exact HNF.out)⟩
          · obtain rfl : i = m := by omega
            have hltm : ¬ (i : Int) < (i : Int) := by omega
            have hmm := @run_makeMap Try.prog
            have HFIN := Lib.hid (show othersOf n (L.take i) = othersOf n (shardAt p.ss k) by rw [HSH.out, List.take_of_length_le (by rw [HM.out]; exact Nat.le_refl _)])
            obtain ⟨w11, hw11⟩ : ∃ w11, wv.alloc (.map #[] 0) = w11 := ⟨_, rfl⟩
            have hb11 : Below wv.heap.size wv w11 := by rw [← hw11]; exact below_al _ _
            have hs11 : w11.heap.size = wv.heap.size + 1 := by rw [← hw11]; simp
            have hbx := HNB.out.box
            have gx11 := blk_below hb11 hbx (blk_lt hbx)
            have hgl := blk_lt hbx
            have c6 : w11.cell? ⟨g, 6, none⟩ = some (.map none) := by rw [cell_of_row _ _ _ _ _ _ gx11]; rfl
            have f6 : w11.frozen? ⟨g, 6, none⟩ = false := frozen_of_row _ _ 6 _ _ gx11
            obtain ⟨w12, hw12⟩ : ∃ w12, w11.setCell ⟨g, 6, none⟩ (.map (some wv.heap.size)) = w12 := ⟨_, rfl⟩
            have gx12 : w12.heap[g]? = some (.cells #[.int .i64 f, .int .i64 t, .slice uA U uc, .bool av, .int .i64 o3, .slice oA M oc, .map (some wv.heap.size), .map none] 60 (0, 0)) := by rw [← hw12, heap_setCell_same _ _ _ _ _ _ gx11]; rfl
            have hs12 : w12.heap.size = w11.heap.size := by rw [← hw12]; simp [World.setCell]
            obtain ⟨w13, hw13⟩ : ∃ w13, w12.alloc (.map #[] 0) = w13 := ⟨_, rfl⟩
            have hb13 : Below w12.heap.size w12 w13 := by rw [← hw13]; exact below_al _ _
            have gx13 := blk_below hb13 gx12 (blk_lt gx12)
            have c7 : w13.cell? ⟨g, 7, none⟩ = some (.map none) := by rw [cell_of_row _ _ _ _ _ _ gx13]; rfl
            have f7 : w13.frozen? ⟨g, 7, none⟩ = false := frozen_of_row _ _ 7 _ _ gx13
            have hl11 : g < w11.heap.size := blk_lt gx11
            have hl13 : g < w13.heap.size := blk_lt gx13
            obtain ⟨w14, hw14⟩ : ∃ w14, w13.setCell ⟨g, 7, none⟩ (.map (some (wv.heap.size + 1))) = w14 := ⟨_, rfl⟩
            have gx14 : w14.heap[g]? = some (.cells #[.int .i64 f, .int .i64 t, .slice uA U uc, .bool av, .int .i64 o3, .slice oA M oc, .map (some wv.heap.size), .map (some (wv.heap.size + 1))] 60 (0, 0)) := by rw [← hw14, heap_setCell_same _ _ _ _ _ _ gx13]; rfl
            have ch12 : Chg (fun k => k = g) w11 w12 := by rw [← hw12]; exact chg_set w11 g 6 _
            have ch14 : Chg (fun k => k = g) w13 w14 := by rw [← hw14]; exact chg_set w13 g 7 _
            have chA : Chg (fun k => k = g) w11 w14 := (ch12.then_below hb13).trans ch14 (fun _ _ e => e)
            have chB : Chg (fun k => k = g) wv w14 := ((Chg.of_below hb11).mono (S' := fun k => k = g) (fun _ _ e => e.elim)).trans chA (fun _ _ e => e)
            have chC : Chg (fun k => k = g) w9 w14 := HNB.out.ch.trans chB (fun _ _ e => e)
            have HGX := Lib.hid gx14
            have HSET := Lib.hid (show OwnSet w14 wv.heap.size 0 (.map []) by
              have h0 : OwnSet w11 wv.heap.size 0 (.map []) := by rw [← hw11]; exact World.ownsMap_made _ _ _ _
              exact h0.chg chA (by omega))
            have HOT := Lib.hid ((HNB.out.ow.chg chB (fun k hk e => by have := (HNB.out.ow.lt k hk).1; omega)).base (C := w.heap.size) (by omega))
            have HUN14 := Lib.hid (show rg.Own w14 w.heap.size (.slice uA U uc) U UN from ⟨HU8.out.1, own_base (own_chg (own_keep HU8.out.2 HB9.out (Nat.le_refl _)) chC (fun k hk e => by have := (HU8.out.2.lt k hk).2; have := HG.out; omega)) (by omega)⟩)
            have HBW := Lib.hid (show Below w.heap.size w w14 from HB3.out.trans ((HB39.out.mono (by omega)).trans (chC.below (by omega) (fun k e => by omega))))
            have HPTS := Lib.hid (show Pts w14 w.heap.size (fun k => k = wv.heap.size + 1) (wv.heap.size + 1) [] by
              have h0 : w13.ownsMap Try.prog 9 mp.he w12.heap.size 0 (.map []) := by rw [← hw13]; exact World.ownsMap_made _ _ _ _
              rw [hs12, hs11] at h0
              have hs13 : w13.heap.size = w12.heap.size + 1 := by rw [← hw13]; simp
              have hs14 := ch14.size
              exact Pts.empty (mp.own_map_chg h0 ch14 (by omega)) (by omega) (by omega))
            have HUB := Lib.hid (show ∀ k, (Value.slice uA U uc).ownBlock = some k → k < wv.heap.size + 1 from fun k hk => by have := (HU8.out.2.lt k hk).2; have := HB9.out.size; omega)
            have HOB := Lib.hid (show ∀ k, (Value.slice oA M oc).ownBlock = some k → k < wv.heap.size + 1 from fun k hk => by have := (HNB.out.ow.lt k hk).2; omega)
            have HS12 := Lib.hid hs12
            have HS14 := Lib.hid chC.size
            clear hb11 gx11 hbx gx12 hb13 gx13 ch12 ch14 chA chB chC gx14
            go_wp2_with (fail)
            go_ret2
            rw [HRET.out]
            have hmem := fnd_mem (l := L) (n := n) (by rw [← HSH.out]; exact HFQ.out)
            have hfo : fnd (byNode n) L = (o1, o2, o3) := by rw [← HSH.out]; exact HFO.out
            rw [hfo] at hmem
            have h3 := from_small HSOK.out hmem.1
            have hO : othersOf n (L.take i) = othersOf n L := by rw [HFIN.out, HSH.out]
            refine .inl ⟨HE.out, g, ⟨f, t, uA, uc, UN, av, o3, oA, oc, othersOf n (L.take i), wv.heap.size, wv.heap.size + 1, 0, .map [], []⟩, rfl, ⟨?_, ?_, ?_, HSET.out, fun _ => rfl, by omega, by show w.heap.size ≤ wv.heap.size; omega, ?_, ?_, by show 0 ≤ 1000000; omega, wf_small h3.1 h3.2, ?_⟩, ⟨rfl, rfl, HUN.out.symm, ?_, ?_, ?_, rfl, rfl⟩, HBW.out, ⟨HPTS.out, ?_, by show g < wv.heap.size + 1; omega, by show wv.heap.size < wv.heap.size + 1; omega, ?_, ?_⟩⟩
            · have h1 := HGX.out
              have h2 := HOT.out.1
              simp only [BS.cells, HU.out, h2]
              exact h1
            · have h1 := HUN14.out
              rw [← HU.out] at h1
              exact h1
            · have h1 := HOT.out
              have h2 := h1.1
              simp only [h2]
              exact h1
            · show UN.length ≤ 1000000
              rw [HU.out]; exact hUl
            · show (othersOf n (L.take i)).length ≤ 1000000
              rw [HOT.out.1]; omega
            · intro x hx
              have hx2 : x ∈ othersOf n L := by rw [← hO]; exact hx
              have := others_node HSOK.out hx2
              exact wf_small (by omega) this.2
            · show av = _
              rw [HFO.out]; exact HAV.out.symm
            · show o3 = _
              rw [HFO.out]
            · show othersOf n (L.take i) = _
              exact HFIN.out
            · have h1 := HGX.out
              have h2 := HOT.out.1
              simp only [BS.cells, HU.out, h2]
              exact h1
            · have h1 := HUB.out
              rw [← HU.out] at h1
              exact h1
            · have h1 := HOB.out
              have h2 := HOT.out.1
              simp only [h2]
              exact h1
  · have hkz : (ck != 0) = true := by simp [hk0]
    have HE := Lib.hid (show ne = 50 by rw [HNE.out, if_pos hk0])
    clear hk0
    go_wp2_with (fail)
    go_ret2
    rw [HRET.out]
    exact .inr ⟨by rw [HE.out]; decide, by rw [HE.out]; rfl, HB3.out.trans (HB4.out.mono (by omega))⟩
end Go.Proofs.Ytheanpcbjjogfaa.bt
