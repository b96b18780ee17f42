/-
  A copy of a placement with the next version.
-/
import Derived.Test.YtnpkhkhchimcnaaPmDis
import Derived.Test.YtnpkhkhchimcnaaPmD
namespace Go.Proofs.Ytnpkhkhchimcnaa.pm
open Go.ChangeShapes Go.WideShapes Go.ChangeAt Go.RowKit Go.Shelf plain words ord mem

/-- a placement all of whose memory is the call's own, no two rows in one block -/
structure OD (w : World) (B : Nat) (v : PV) : Prop where
  n : Ow NE w B (.slice v.nA v.nodes.length v.nc) v.nodes.length v.nodes
  s : Ow SE w B (.slice v.sA v.rs.length v.sc) v.rs.length v.rs
  each : ∀ r ∈ v.rs, Ow OE w B r.val r.l.length r.l
  apart : ∀ (i j : Nat) (r s : Rw3), i ≠ j → v.rs[i]? = some r → v.rs[j]? = some s → r.A = s.A → r.A = none
theorem OD.below {w w' : World} {B C : Nat} {v : PV} (h : OD w B v) (hb : Below C w w') (hC : w.heap.size ≤ C) : OD w' B v :=
  ⟨h.n.below hb hC, h.s.below hb hC, fun r hr => (h.each r hr).below hb hC, h.apart⟩
theorem OD.base {w : World} {B C : Nat} {v : PV} (h : OD w B v) (hC : C ≤ B) : OD w C v := ⟨h.n.base hC, h.s.base hC, fun r hr => (h.each r hr).base hC, h.apart⟩
theorem OD.wd {w : World} {B pb : Nat} {v : PV} (h : OD w B v) (hB : B ≤ pb) (hv : Boxed w pb v) : WD w B pb v := ⟨⟨hB, hv, h.n, h.s, h.each⟩, h.apart⟩
theorem WD.od {w : World} {B pb : Nat} {v : PV} (h : WD w B pb v) : OD w B v := ⟨h.wp.n, h.wp.s, h.wp.each, h.apart⟩
def bump (p : Pl) : Pl := if p.ver = 1099511627776 then ⟨0, [], []⟩ else ⟨p.ver + 1, p.nodes, p.ss⟩
def bumpErr (p : Pl) : Int := if p.ver = 1099511627776 then 1 else 0
def RetNext (w : World) (p : Pl) (er : Int) (e : Ending) (w' : World) : Prop := ∃ v : PV, e = .returned (.tuple #[v.val, .int .i64 er]) ∧ v.pl = p ∧ OD w' w.heap.size v ∧ Below w.heap.size w w'
theorem app_new_n {w : World} {ops : Array Oper} {rest : List Oper} {o : Oper} {a : Act} {Q : Exit → Act → World → Prop} (hgd : o.guard = none) (s x : Operand) (ho : o.op = .call { callee := .builtin .append, args := #[s, x], argTypes := #[22, 22] })
    (B0 : Nat) (A0 : Option Addr) (n c0 : Nat) (hA0 : A0 = none → c0 = 0) (l : List Int) (hs : a.eval s = .slice A0 n c0) (hr0 : Ls NE w B0 A0 n l)
    (B : Nat) (A : Option Addr) (m c : Nat) (news : List Int) (hx : a.eval x = .slice A m c) (hr : Ls NE w B A m news) (hm : 0 < m) (hcap : c0 < n + m)
    (hn : n + m ≤ 1099511627776)
    (h : ∀ c' w', Ow NE w' w.heap.size (.slice (some ⟨w.heap.size, 0, none⟩) (n + m) c') (n + m) (l ++ news) → Below w.heap.size w w' → w.heap.size < w'.heap.size → wpList Try.prog ops Q rest (a.put o.dst (.slice (some ⟨w.heap.size, 0, none⟩) (n + m) c')) w') : wpList Try.prog ops Q (o :: rest) a w := by
  obtain ⟨i0, hi, hz0, hz1, hz2⟩ := info_of infoN
  exact wpList_append_new NE (P := Try.prog) Try.underlying22 hi hz0 hz1 hz2 rfl (by decide) hgd s x ho B0 A0 n c0 hA0 l hs hr0 B A m c news hx hr hm hcap hn h
theorem noPV_od (w : World) (B : Nat) : OD w B noPV := ⟨Ow.nil _ _, Ow.nil _ _, fun r hr => by simp [noPV] at hr, fun i j r s _ hr => by simp [noPV] at hr⟩
theorem ow_grown {α : Type} {E : El α} {w w' : World} {B C n m : Nat} {v vs : Value} {l : List α} {rs : List Rw3} (h : Ow E w B v n l) (hs : Ow SE w C vs m rs) (hg : w.grownBy w' vs.ownBlock) (hne : E.e ≠ 42) : Ow E w' B v n l := by
  have hc : Chg (fun k => vs.ownBlock = some k) w w' := (Chg.refl _ w).grown hg (fun k hk _ => hk)
  refine h.chg hc fun k hk he => ?_
  obtain ⟨c1, h1⟩ := h.type hk
  obtain ⟨c2, h2⟩ := hs.type he
  exact blk_type h1 h2 hne rfl
theorem addr_of {w : World} {B : Nat} {r : Rw3} (h : Ow OE w B r.val r.l.length r.l) : r.A = none ∨ ∃ g, r.A = some ⟨g, 0, none⟩ ∧ B ≤ g ∧ g < w.heap.size := by
  rcases own_form h.2 with ⟨e, _⟩ | ⟨g, cap, e, h1, h2, _⟩
  · unfold Rw3.val at e; exact .inl (Value.slice.inj e).1
  · unfold Rw3.val at e; exact .inr ⟨g, (Value.slice.inj e).1, h1, h2⟩
theorem var_grown {wx w7 : World} {B pb : Nat} {v : PV} (hx : WD wx B pb v) (hg : wx.grownBy w7 (Value.slice v.sA v.rs.length v.sc).ownBlock) : Boxed w7 pb v := by
  have hc : Chg (fun k => (Value.slice v.sA v.rs.length v.sc).ownBlock = some k) wx w7 := (Chg.refl _ wx).grown hg (fun k hk _ => hk)
  exact hc.blk hx.wp.var fun e => by
    obtain ⟨c, hcur⟩ := hx.wp.s.type e
    exact blk_type hcur hx.wp.var (by decide) rfl
theorem OD.other {w w' : World} {B g : Nat} {v : PV} {cur : Array Value} (h : OD w B v) (hc : Chg (fun k => k = g) w w') (hg : w.heap[g]? = some (.cells cur 25 (0, 0))) : OD w' B v :=
  ⟨ow_other h.n hc hg (by decide), ow_other h.s hc hg (by decide), fun r hr => ow_other (h.each r hr) hc hg (by decide), h.apart⟩
/-- a new row laid behind the others -/
theorem WD.push {wr wx w7 : World} {B pb c2 : Nat} {v : PV} {r' : Rw3} {A' : Option Addr} (h : WD wr B pb v) (hb : Below wr.heap.size wr wx) (hr : Ow OE wx wr.heap.size r'.val r'.l.length r'.l)
    (hs : Ow SE w7 B (.slice A' (v.rs.length + 1) c2) (v.rs.length + 1) (v.rs ++ [r'])) (hg : wx.grownBy w7 (Value.slice v.sA v.rs.length v.sc).ownBlock) :
    WD (w7.setCell ⟨pb, 2, none⟩ (.slice A' (v.rs.length + 1) c2)) B pb { v with sA := A', sc := c2, rs := v.rs ++ [r'] } := by
  have hx := h.below hb (Nat.le_refl _)
  have hc : Chg (fun k => (Value.slice v.sA v.rs.length v.sc).ownBlock = some k) wx w7 := (Chg.refl _ wx).grown hg (fun k hk _ => hk)
  have hvar : Boxed w7 pb v := hc.blk hx.wp.var fun e => by
    obtain ⟨c, hcur⟩ := hx.wp.s.type e
    exact blk_type hcur hx.wp.var (by decide) rfl
  have hc2 : Chg (fun b => b = pb) w7 (w7.setCell ⟨pb, 2, none⟩ (.slice A' (v.rs.length + 1) c2)) := chg_set1 _
  refine ⟨⟨h.wp.le, ?_, ow_other (ow_grown hx.wp.n hx.wp.s hg (by decide)) hc2 hvar (by decide), ?_, fun q hq => ?_⟩, ?_⟩
  · have := heap_setCell_same w7 pb 2 _ _ (.slice A' (v.rs.length + 1) c2) hvar
    simpa [Boxed, IsV3] using this
  · have := ow_other hs hc2 hvar (by decide)
    simpa using this
  · rcases List.mem_append.1 hq with hq | hq
    · exact ow_other (ow_grown (hx.wp.each q hq) hx.wp.s hg (by decide)) hc2 hvar (by decide)
    · rw [List.mem_singleton] at hq
      subst hq
      exact ow_other (ow_grown (hr.base (by have := h.wp.le; have := h.wp.lt; omega)) hx.wp.s hg (by decide)) hc2 hvar (by decide)
  · have old : ∀ r ∈ v.rs, r.A = r'.A → r.A = none := fun r hq e => by
      rcases addr_of (h.wp.each r hq) with h0 | ⟨g, h1, _, h2⟩
      · exact h0
      · rcases addr_of hr with k0 | ⟨g', k1, k2, _⟩
        · rw [e, k0]
        · rw [h1, k1] at e; cases e; omega
    intro i j x y hij hxx hyy he
    simp only at hxx hyy
    rcases Nat.lt_or_ge i v.rs.length with h1 | h1
    · rw [List.getElem?_append_left h1] at hxx
      rcases Nat.lt_or_ge j v.rs.length with h2 | h2
      · rw [List.getElem?_append_left h2] at hyy
        exact h.apart i j x y hij hxx hyy he
      · rw [List.getElem?_append_right h2] at hyy
        have : y = r' := by
          rcases hj : j - v.rs.length with _ | k
          · rw [hj] at hyy; simpa using hyy.symm
          · rw [hj] at hyy; simp at hyy
        subst this
        exact old x (List.mem_of_getElem? hxx) he
    · rw [List.getElem?_append_right h1] at hxx
      have hxr : x = r' ∧ i = v.rs.length := by
        rcases hj : i - v.rs.length with _ | k
        · rw [hj] at hxx; exact ⟨by simpa using hxx.symm, by omega⟩
        · rw [hj] at hxx; simp at hxx
      obtain ⟨rfl, hi⟩ := hxr
      rcases Nat.lt_or_ge j v.rs.length with h2 | h2
      · rw [List.getElem?_append_left h2] at hyy
        have := old y (List.mem_of_getElem? hyy) he.symm
        rw [he, this]
      · rw [List.getElem?_append_right h2] at hyy
        rcases hj : j - v.rs.length with _ | k
        · omega
        · rw [hj] at hyy; simp at hyy
set_option maxHeartbeats 4000000 in
theorem next_x (w : World) (B : Nat) (v : PV) (h : PVok w B v) (hB : B ≤ w.heap.size) (hn0 : 0 < v.nodes.length) (hn1 : v.nodes.length ≤ 1000000) (hs0 : 0 < v.rs.length) (hs1 : v.rs.length ≤ 1000000)
    (hrs : ∀ r ∈ v.rs, 0 < r.l.length ∧ r.l.length ≤ 1000000) (hv : 0 ≤ v.ver ∧ v.ver ≤ 1099511627776) :
    Calls Try.prog 41 #[v.val] w (RetNext w (bump v.pl) (bumpErr v.pl)) := by
  obtain ⟨ver, nA, nc, nodes, sA, sc, rs⟩ := v
  obtain ⟨w2, hw2⟩ : ∃ w2, (w.alloc (.cells #[.int .i64 ver, .slice nA nodes.length nc, .slice sA rs.length sc] 25)).alloc (.cells #[.int .i64 0, .slice none 0 0, .slice none 0 0] 25) = w2 := ⟨_, rfl⟩
  have hb2 : Below w.heap.size w w2 := by rw [← hw2]; exact (below_al _ _).trans ((below_al _ _).mono (by simp))
  have gp : w2.heap[w.heap.size]? = some (.cells #[.int .i64 ver, .slice nA nodes.length nc, .slice sA rs.length sc] 25 (0, 0)) := by rw [← hw2]; exact alloc_old _ (alloc_new _ _)
  have g2 : IsV3 25 w2 (w.heap.size + 1) (.int .i64 0) (.slice none 0 0) (.slice none 0 0) := by rw [← hw2]; have := alloc_new (w.alloc (.cells #[.int .i64 ver, .slice nA nodes.length nc, .slice sA rs.length sc] 25)) (.cells #[.int .i64 0, .slice none 0 0, .slice none 0 0] 25); rwa [World.size_alloc] at this
  have hs2 : w.heap.size + 1 < w2.heap.size := blk_lt g2
  have HS2E := Lib.hid (show w2.heap.size = w.heap.size + 2 by rw [← hw2, World.size_alloc, World.size_alloc])
  obtain ⟨n, hn⟩ : ∃ n, nodes.length = n := ⟨_, rfl⟩
  rw [hn] at hw2 gp
  have HB2 := Lib.hid hb2
  have HP := Lib.hid (h.below hb2 hB)
  have HW2 := Lib.hid hw2
  have G2 := Lib.hid g2
  have GP := Lib.hid gp
  obtain ⟨⟨e0, e1, e2⟩, _⟩ := isv3_cells gp
  obtain ⟨⟨d0, d1, d2⟩, f0, f1, f2⟩ := isv3_cells g2
  have hcn := h.nc
  have hcs := h.sc
  have hcm := h.nm
  simp only at hn0 hn1 hs0 hs1 hrs hv hcn hcs hcm
  have hA : ∃ b off, nA = some ⟨b, off, none⟩ := by
    obtain ⟨x, hx⟩ := HP.out.n.get hn0
    obtain ⟨b, off, e, _⟩ := HP.out.n.at_ hx
    exact ⟨b, off, e⟩
  obtain ⟨nb, no, rfl⟩ := hA
  rw [hn] at hn0 hn1 hcn
  have HN := Lib.hid hn
  have HNL := Lib.hid (show Ls NE w2 B (some ⟨nb, no, none⟩) n nodes by have := HP.out.n; simp only at this; rw [hn] at this; exact this)
  clear h hw2 hb2 gp g2
  by_cases hmx : ver = 1099511627776
  · have t0 : (ver == 1099511627776) = true := by rw [hmx]; rfl
    have HE := Lib.hid (show bumpErr (⟨ver, some ⟨nb, no, none⟩, nc, nodes, sA, sc, rs⟩ : PV).pl = 1 from if_pos hmx)
    have HQ := Lib.hid (show bump (⟨ver, some ⟨nb, no, none⟩, nc, nodes, sA, sc, rs⟩ : PV).pl = ⟨0, [], []⟩ from if_pos hmx)
    rw [HE.out, HQ.out]
    clear hmx
    go_enter Try.func41, Try.ntmps41
    go_wp2_with (fail)
    rw [HW2.out]
    go_wp2_with (fail)
    (try simp only [Exit.inBlock, Exit.then])
    refine bodyPost_ret (ret_cell rfl _ _ (w.heap.size + 1) 25 _ _ _ rfl G2.out Try.underlying25 rfl sizeP) rfl ?_
    exact ⟨noPV, rfl, rfl, noPV_od _ _, HB2.out⟩
  · have t0 : (ver == 1099511627776) = false := by simpa using hmx
    have q0 := Wf.at_ (F := fun _ => False) e0 (fun e => e)
    have q1 := Wf.at_ (F := fun _ => False) e1 (fun e => e)
    have q2 := Wf.at_ (F := fun _ => False) e2 (fun e => e)
    have wr1 : IntKind.i64.wrap (ver + 1) = ver + 1 := by rw [IntWalk.i64_in _ (by omega)]
    have i0 : (0 : Int) ≤ (nc : Int) := by omega
    go_enter Try.func41, Try.ntmps41
    go_wp2_with (fail)
    rw [HW2.out]
    rename_i K HK
    have REST : ∀ (pb g5 c5 : Nat) (w6 : World), Hid (WD w6 (w.heap.size + 2) pb ⟨ver + 1, some ⟨g5, 0, none⟩, c5, nodes, none, 0, []⟩) → Hid (Below w2.heap.size w2 w6) → K {
        tmps := #[PV.val ⟨ver, some ⟨nb, no, none⟩, nc, nodes, sA, sc, rs⟩, .pointer (some ⟨w.heap.size, 0, none⟩), .pointer (some ⟨w.heap.size + 1, 0, none⟩), .int .i64 0, .pointer (some ⟨pb, 0, none⟩), undef, undef,
          .pointer (some ⟨w.heap.size, 0, none⟩), .int .i64 ver, .bool false, undef, .pointer (some ⟨w.heap.size, 0, none⟩), .int .i64 ver, .int .i64 (ver + 1), .pointer (some ⟨w.heap.size, 1, none⟩),
          .slice (some ⟨nb, no, none⟩) n nc, .slice (some ⟨nb, no, none⟩) 0 0, .pointer (some ⟨w.heap.size, 1, none⟩), .slice (some ⟨nb, no, none⟩) n nc, .slice (some ⟨g5, 0, none⟩) n c5,
          .agg #[.int .i64 (ver + 1), .slice (some ⟨g5, 0, none⟩) n c5, .slice none 0 0],
          undef, undef, undef, undef, undef, undef, undef, undef, undef, undef, undef, undef, undef, undef, undef, undef, undef, undef],
        defers := [] } w6 := by
      intro pb g5 c5 w6 HV6 HB6
      refine HK _ _ ?_
      have z2 := (HB6.out.cell (p := ⟨w.heap.size, 2, none⟩) (show w.heap.size < w2.heap.size by omega)).trans e2
      have HS2 := Lib.hid HP.out.s
      obtain ⟨N, hN⟩ : ∃ N, rs.length = N := ⟨_, rfl⟩
      have HNS := Lib.hid hN
      rw [hN] at z2 hcs hs0 hs1
      have HNx := Lib.hid hN
      clear hN e0 e1 e2 d0 d1 d2 f0 f1 f2 q0 q1 q2 hn wr1
      go_wp2_with (fail)
      go_loopg [6, 24] N (fun gg s6 s24 wr => ∃ i : Nat, s24 = .int .i64 i ∧ i ≤ N ∧ N - i ≤ gg ∧ Aside (Below w2.heap.size w2 wr) ∧ Aside (∃ (X : List Rw3) (A' : Option Addr) (c' : Nat), WD wr (w.heap.size + 2) pb ⟨ver + 1, some ⟨g5, 0, none⟩, c5, nodes, A', c', X⟩ ∧ X.map (·.l) = (rs.take i).map (·.l)))
      case atStart => exact ⟨0, rfl, by omega, by omega, HB6.out, ⟨[], none, 0, HV6.out, rfl⟩⟩
      case round =>
        obtain ⟨i, rfl, hi, hg, HBR, HX⟩ := hrel
        clear HB6 HV6 z2
        have hsr := HBR.out.size
        obtain ⟨X, A', c', hwd, hXl⟩ := HX.out
        obtain ⟨b, off, hsAe, hbB⟩ : ∃ b off, sA = some ⟨b, off, none⟩ ∧ b < B := by
          obtain ⟨r, hr⟩ : ∃ r, rs[0]? = some r := ⟨_, List.getElem?_eq_getElem (by have := HNx.out; omega)⟩
          obtain ⟨b, off, e, hb, _⟩ := (HS2.out).at_ hr
          exact ⟨b, off, e, hb⟩
        subst hsAe
        by_cases hlt : i < N
        · have hltz : (i : Int) < (N : Int) := by omega
          have i0' : (0 : Int) ≤ (i : Int) := by omega
          obtain ⟨r, hr⟩ : ∃ r, rs[i]? = some r := ⟨_, List.getElem?_eq_getElem (by have := HNx.out; omega)⟩
          obtain ⟨_, _, hsAe, _, l0, hrok⟩ := (HS2.out).at_ hr
          cases hsAe
          obtain ⟨hm0, hm1⟩ := hrs r (List.mem_of_getElem? hr)
          have hrl : X.length = i := by have := congrArg List.length hXl; simp only [List.length_map, List.length_take] at this; have := HNx.out; omega
          have hbw : b < w2.heap.size := by have := hB; omega
          have l1 := (HBR.out.cell (p := ⟨b, off + i, none⟩) hbw).trans l0
          obtain ⟨ra, rc, L⟩ := r
          have hrok' := hrok.below HBR.out (by omega)
          have hc1 := hrok.cap
          have hc2 := hrok.most
          have hRls := hrok'.ls
          simp only [Rw3.val] at l1 hm0 hm1 hc1 hc2 hRls
          obtain ⟨rb, ro, hra⟩ : ∃ rb ro, ra = some ⟨rb, ro, none⟩ := by
            obtain ⟨x, hx⟩ := hRls.get hm0
            obtain ⟨rb, ro, e, _⟩ := hRls.at_ hx
            exact ⟨rb, ro, e⟩
          subst hra
          obtain ⟨m, hm⟩ : ∃ m, L.length = m := ⟨_, rfl⟩
          rw [hm] at l1 hm0 hm1 hc1 hRls
          have HM := Lib.hid hm
          have HR := Lib.hid hr
          have HRL := Lib.hid hRls
          have HXL := Lib.hid hXl
          have HWD := Lib.hid hwd
          have HRLx := Lib.hid hrl
          obtain ⟨⟨_, _, c2⟩, _, _, f2⟩ := isv3_cells hwd.wp.var
          have hpl := hwd.wp.lt
          have hle := hwd.wp.le
          have hown := hwd.wp.s
          simp only [hrl] at c2 hown
          have HOW := Lib.hid hown
          have q1 := Wf.at_ (F := fun _ => False) c2 (fun e => e)
          have i1 : (0 : Int) ≤ (rc : Int) := by omega
          clear l0 hrok hrok' hr hm hRls hXl hwd hrl hown HX
          go_wp2_with (fail)
          refine fr.wp_region_tree (F := fun _ => False) (.reads [0, 1, 2, 3, 4] (.one 5 false (.one 6 false (.one 7 true (.reads [8] (.one 9 true .stop)))))) (by kernel_rfl) (by kernel_rfl) ?_
          refine fr.tr_reads _ (by dsimp only [pick, ord.at_]) ?_
          repeat (go_big_quiet_step (fail))
          refine wpQuiet_nil ?_
          refine fr.tr_one _ (by dsimp only [pick, ord.at_]) ?_
          intro K1 g1 g2
          clear g1
          go_wp2_with (at_builtin; refine app_new_o rfl (.tmp 31) (.tmp 32) rfl w.heap.size (some ⟨rb, ro, none⟩) 0 0 (fun e => by cases e) [] (by rfl) (Ls.nil _ _ _) B (some ⟨rb, ro, none⟩) m rc L (by rfl) HRL.out.drew (by omega) (by omega) (by omega) ?_; intro c7 w7 hown7 hb7 hs7; have HO7 := Lib.hid hown7; have HB7 := Lib.hid (show Below wr.heap.size wr w7 from (Below.refl _ wr).drew.trans hb7); clear hown7 hb7)
          simp only [Nat.zero_add, List.nil_append] at HO7 ⊢
          refine g2 _ _ (Chg.of_below HB7.out) ?_
          clear g2
          have hs7 := HB7.out.size
          refine fr.tr_one _ (by dsimp only [pick, ord.at_]) ?_
          intro K1 g1 g2
          clear g1
          go_wp2_with (fail)
          refine g2 _ _ (Chg.of_below (below_al _ _)) ?_
          clear g2
          obtain ⟨w8, hw8⟩ : ∃ w8, w7.alloc (.cells #[.slice (some ⟨wr.heap.size, 0, none⟩) m c7] 42) = w8 := ⟨_, rfl⟩
          have HB8 := Lib.hid (show Below wr.heap.size wr w8 by rw [← hw8]; exact HB7.out.trans ((below_al _ _).mono hs7))
          have HB78 := Lib.hid (show Below w7.heap.size w7 w8 by rw [← hw8]; exact below_al _ _)
          have H8 := Lib.hid (show Ls SE w8 (w7.heap.size + 1) (some ⟨w7.heap.size, 0, none⟩) 1 [⟨some ⟨wr.heap.size, 0, none⟩, c7, L⟩] by rw [← hw8, ← HM.out]; exact ls_new (E := SE) (w := w7) 42 (⟨some ⟨wr.heap.size, 0, none⟩, c7, L⟩ : Rw3))
          rw [hw8]
          clear hw8
          have hs8 := HB8.out.size
          have hO8 := HOW.out.below HB8.out (Nat.le_refl _)
          refine fr.tr_write _ (by dsimp only [pick, ord.at_]) ?_
          intro K2 g3
          go_wp2_with (at_builtin; refine app_s rfl (.tmp 29) (.tmp 34) rfl (w.heap.size + 2) _ i X rfl hO8 (w7.heap.size + 1) (some ⟨w7.heap.size, 0, none⟩) 1 1 (fun e => by cases e) [⟨some ⟨wr.heap.size, 0, none⟩, c7, L⟩] (by rfl) H8.out (by omega) (by omega) ?_; intro A9 c9 w9 hown9 hg9 _ h9a h9b hs9; have HO9 := Lib.hid hown9; have HG9 := Lib.hid hg9; clear hown9 hg9)
          have hwd2 := HWD.out.push (r' := ⟨some ⟨wr.heap.size, 0, none⟩, c7, L⟩) HB8.out (A' := A9) (c2 := c9) (by unfold Rw3.val; simp only [HM.out]; exact HO7.out.below HB78.out (Nat.le_refl _)) (by simp only [HRLx.out]; exact HO9.out) (by simp only [HRLx.out]; exact HG9.out)
          simp only [HRLx.out] at hwd2
          have HW9 := Lib.hid hwd2
          have hB9 : Below w2.heap.size w2 (w9.setCell ⟨pb, 2, none⟩ (.slice A9 (i + 1) c9)) := by
            have h1 : Below (w.heap.size + 2) w2 w8 := (HBR.out.trans (HB8.out.mono hsr)).mono (by omega)
            have h2 := own_below h1 hO8.2 (by omega) HG9.out
            have h3 := h2.setCell (p := ⟨pb, 2, none⟩) (show w.heap.size + 2 ≤ pb from hle) (.slice A9 (i + 1) c9)
            rw [HS2E.out]; exact h3
          have HB9 := Lib.hid hB9
          obtain ⟨⟨_, _, hk9⟩, _, _, hf9⟩ := isv3_cells (var_grown (HWD.out.below HB8.out (Nat.le_refl _)) (by simp only [HRLx.out]; exact HG9.out))
          clear hwd2 hB9 hO8
          refine fr.tr_reads _ (by dsimp only [pick, ord.at_]) ?_
          repeat (go_big_quiet_step (fail))
          refine wpQuiet_nil ?_
          refine fr.tr_write _ (by dsimp only [pick, ord.at_]) ?_
          intro K2 g3
          go_wp2_with (fail)
          refine fr.tr_stop ?_
          refine NoPanic.normal ?_
          clear c2 f2 q1
          go_wp2_with (fail)
          go_roundg (N - (i + 1))
          case measure => omega
          case rel =>
            refine ⟨i + 1, by go_num, by omega, by omega, HB9.out, ⟨X ++ [⟨some ⟨wr.heap.size, 0, none⟩, c7, L⟩], A9, c9, ?_, ?_⟩⟩
            · exact HW9.out
            · rw [List.take_add_one, HR.out]
              simp [HXL.out]
        · obtain rfl : i = N := by omega
          have hltz : ¬ (i : Int) < (i : Int) := by omega
          have hgr := blk_below HBR.out G2.out hs2
          obtain ⟨⟨c0, c1, c2⟩, _⟩ := isv3_cells hwd.wp.var
          obtain ⟨⟨d0, d1, d2⟩, f0, f1, f2⟩ := isv3_cells hgr
          have hpl := hwd.wp.lt
          have hle := hwd.wp.le
          have hXe : X.map (·.l) = rs.map (·.l) := by rw [hXl, List.take_of_length_le (by have := HNx.out; omega)]
          have HXE := Lib.hid hXe
          have HWD := Lib.hid hwd
          have HGR := Lib.hid hgr
          clear hwd hXl hXe hgr HX
          go_wp2_with (fail)
          (try simp only [Exit.inBlock, Exit.then])
          refine bodyPost_ret (ret_cell rfl _ _ (w.heap.size + 1) 25 _ _ _ rfl (set3 HGR.out) Try.underlying25 rfl sizeP) rfl ?_
          have e : bump (⟨ver, some ⟨nb, no, none⟩, nc, nodes, some ⟨b, off, none⟩, sc, rs⟩ : PV).pl = ⟨ver + 1, nodes, rs.map (·.l)⟩ := if_neg hmx
          have e0 : bumpErr (⟨ver, some ⟨nb, no, none⟩, nc, nodes, some ⟨b, off, none⟩, sc, rs⟩ : PV).pl = 0 := if_neg hmx
          rw [e, e0]
          refine ⟨⟨ver + 1, some ⟨g5, 0, none⟩, c5, nodes, A', c', X⟩, rfl, ?_, ?_, ?_⟩
          · unfold PV.pl
            simp only [HXE.out]
          · exact (HWD.out.od.other (chg_set3 _ _ _) HGR.out).base (by omega)
          · exact below_set3 (HB2.out.trans (HBR.out.mono (by omega))) (by omega) _ _ _
    refine fr.wp_region_tree (F := fun _ => False) (.reads [0, 1, 2, 3, 4, 5, 6, 7] (.two 8 false (.reads [9] (.one 10 false (.one 11 true .stop))) 10 false (.one 8 false (.reads [9] (.one 11 true .stop))))) (by kernel_rfl) (by kernel_rfl) ?_
    refine fr.tr_reads _ (by dsimp only [pick, ord.at_]) ?_
    repeat (go_big_quiet_step (fail))
    refine wpQuiet_nil ?_
    refine fr.tr_two ?_ ?_
    · refine fr.act_s _ (by dsimp only [pick, ord.at_]) ?_
      intro K1 g1 g2
      clear g1
      go_wp2_with (at_builtin; refine app_new_n rfl (.tmp 16) (.tmp 18) rfl w.heap.size (some ⟨nb, no, none⟩) 0 0 (fun e => by cases e) [] (by rfl) (Ls.nil _ _ _) B (some ⟨nb, no, none⟩) n nc nodes (by rfl) HNL.out.drew (by omega) (by omega) (by omega) ?_; intro c5 w5 hown5 hb5 hs5; have HO5 := Lib.hid hown5; have HB5 := Lib.hid (show Below w2.heap.size w2 w5 from (Below.refl _ w2).drew.trans hb5); clear hown5 hb5)
      simp only [Nat.zero_add, List.nil_append] at HO5 ⊢
      refine g2 _ _ (Chg.of_below HB5.out) ?_
      clear g2
      refine fr.tr_reads _ (by dsimp only [pick, ord.at_]) ?_
      repeat (go_big_quiet_step (fail))
      refine wpQuiet_nil ?_
      refine fr.tr_one _ (by dsimp only [pick, ord.at_]) ?_
      intro K1 g1 g2
      clear g1
      go_wp2_with (fail)
      refine g2 _ _ (Chg.of_below (below_al _ _)) ?_
      clear g2
      obtain ⟨w6, hw6⟩ : ∃ w6, w5.alloc (.cells #[.int .i64 0, .slice none 0 0, .slice none 0 0] 25) = w6 := ⟨_, rfl⟩
      have hb6 : Below w5.heap.size w5 w6 := by rw [← hw6]; exact below_al _ _
      have g6 : IsV3 25 w6 w5.heap.size (.int .i64 0) (.slice none 0 0) (.slice none 0 0) := by rw [← hw6]; exact alloc_new _ _
      obtain ⟨_, k0, k1, k2⟩ := isv3_cells g6
      obtain ⟨⟨u0, u1, u2⟩, _⟩ := isv3_cells g6
      have hz5 := HB5.out.size
      have HX6 := Lib.hid (show WD (((w6.setCell ⟨w5.heap.size, 0, none⟩ (.int .i64 (ver + 1))).setCell ⟨w5.heap.size, 1, none⟩ (.slice (some ⟨w2.heap.size, 0, none⟩) n c5)).setCell ⟨w5.heap.size, 2, none⟩ (.slice none 0 0)) (w.heap.size + 2) w5.heap.size ⟨ver + 1, some ⟨w2.heap.size, 0, none⟩, c5, nodes, none, 0, []⟩ from by
        refine ⟨⟨by omega, ?_, ?_, Ow.nil _ _, fun r hr => (by simp at hr)⟩, fun i j r s _ hr => (by simp at hr)⟩
        · simp only [Boxed, List.length_nil, HN.out]; exact set3 g6
        · simp only [HN.out]
          exact ow_other ((HO5.out.below hb6 (Nat.le_refl _)).base (by show w.heap.size + 2 ≤ w2.heap.size; omega)) (chg_set3 _ _ _) g6 (by decide))
      have HY6 := Lib.hid (show Below w2.heap.size w2 (((w6.setCell ⟨w5.heap.size, 0, none⟩ (.int .i64 (ver + 1))).setCell ⟨w5.heap.size, 1, none⟩ (.slice (some ⟨w2.heap.size, 0, none⟩) n c5)).setCell ⟨w5.heap.size, 2, none⟩ (.slice none 0 0)) from below_set3 (HB5.out.trans (hb6.mono hz5)) (by omega) _ _ _)
      rw [hw6]
      clear g6 hb6 hw6
      refine fr.tr_write _ (by dsimp only [pick, ord.at_]) ?_
      intro K2 g3
      go_wp2_with (fail)
      refine fr.tr_stop ?_
      refine NoPanic.normal ?_
      go_wp2_with (fail)
      exact REST _ _ _ _ HX6 HY6
    · refine fr.act_s _ (by dsimp only [pick, ord.at_]) ?_
      intro K1 g1 g2
      clear g1
      go_wp2_with (fail)
      refine g2 _ _ (Chg.of_below (below_al _ _).drew) ?_
      clear g2
      obtain ⟨w5, hw5⟩ : ∃ w5, (w2.alloc (.cells #[.int .i64 0, .slice none 0 0, .slice none 0 0] 25)).drew = w5 := ⟨_, rfl⟩
      have hb5 : Below w2.heap.size w2 w5 := by rw [← hw5]; exact (below_al _ _).drew
      have g5 : IsV3 25 w5 w2.heap.size (.int .i64 0) (.slice none 0 0) (.slice none 0 0) := by rw [← hw5]; exact alloc_new w2 _
      have hsz5 : w2.heap.size < w5.heap.size := blk_lt g5
      have HB5 := Lib.hid hb5
      have G5 := Lib.hid g5
      have HNL5 := Lib.hid (HNL.out.below hb5 (by omega))
      rw [hw5]
      clear hw5 hb5 g5
      refine fr.tr_one _ (by dsimp only [pick, ord.at_]) ?_
      intro K1 g1 g2
      clear g1
      go_wp2_with (at_builtin; refine app_new_n rfl (.tmp 16) (.tmp 18) rfl w.heap.size (some ⟨nb, no, none⟩) 0 0 (fun e => by cases e) [] (by rfl) (Ls.nil _ _ _) B (some ⟨nb, no, none⟩) n nc nodes (by rfl) HNL5.out (by omega) (by omega) (by omega) ?_; intro c6 w6 hown6 hb6 hs6; have HO6 := Lib.hid hown6; have HB6 := Lib.hid hb6; clear hown6 hb6)
      simp only [Nat.zero_add, List.nil_append] at HO6 ⊢
      refine g2 _ _ (Chg.of_below HB6.out) ?_
      clear g2
      have g6 := blk_below HB6.out G5.out hsz5
      obtain ⟨⟨u0, u1, u2⟩, k0, k1, k2⟩ := isv3_cells g6
      have HX6 := Lib.hid (show WD (((w6.setCell ⟨w2.heap.size, 0, none⟩ (.int .i64 (ver + 1))).setCell ⟨w2.heap.size, 1, none⟩ (.slice (some ⟨w5.heap.size, 0, none⟩) n c6)).setCell ⟨w2.heap.size, 2, none⟩ (.slice none 0 0)) (w.heap.size + 2) w2.heap.size ⟨ver + 1, some ⟨w5.heap.size, 0, none⟩, c6, nodes, none, 0, []⟩ from by
        refine ⟨⟨by omega, ?_, ?_, Ow.nil _ _, fun r hr => (by simp at hr)⟩, fun i j r s _ hr => (by simp at hr)⟩
        · simp only [Boxed, List.length_nil, HN.out]; exact set3 g6
        · simp only [HN.out]
          exact ow_other (HO6.out.base (by omega)) (chg_set3 _ _ _) g6 (by decide))
      have HY6 := Lib.hid (show Below w2.heap.size w2 (((w6.setCell ⟨w2.heap.size, 0, none⟩ (.int .i64 (ver + 1))).setCell ⟨w2.heap.size, 1, none⟩ (.slice (some ⟨w5.heap.size, 0, none⟩) n c6)).setCell ⟨w2.heap.size, 2, none⟩ (.slice none 0 0)) from below_set3 (HB5.out.trans (HB6.out.mono (by omega))) (by omega) _ _ _)
      clear g6
      refine fr.tr_reads _ (by dsimp only [pick, ord.at_]) ?_
      repeat (go_big_quiet_step (fail))
      refine wpQuiet_nil ?_
      refine fr.tr_write _ (by dsimp only [pick, ord.at_]) ?_
      intro K2 g3
      go_wp2_with (fail)
      refine fr.tr_stop ?_
      refine NoPanic.normal ?_
      go_wp2_with (fail)
      exact REST _ _ _ _ HX6 HY6
end Go.Proofs.Ytnpkhkhchimcnaa.pm
/-
  One node leaves a shard, another one comes: the program's transfer.
-/
namespace Go.Proofs.Ytnpkhkhchimcnaa.pm
open Go.ChangeShapes Go.WideShapes Go.ChangeAt Go.RowKit Go.Shelf plain words ord mem

theorem own_w (w : World) (B pb sb : Nat) (v : PV) (h : WD w B pb v) (hsA : v.sA = some ⟨sb, 0, none⟩) (k : Nat) (r : Rw3) (hr : v.rs[k]? = some r) (hn : r.l.length ≤ 1000000) (o : O) :
    Calls Try.prog 32 #[.pointer (some ⟨pb, 0, none⟩), .int .i64 k, oV o] w (RetSet w B pb k v (own r.l o)) :=
  (own_xf w B pb sb v h.wp hsA k r hr hn o).mono fun e w' hr' => by
    obtain ⟨he, r', h1, h2, h3, b, hb, hlt⟩ := hr'
    refine ⟨he, r', h1, ⟨h2, apart_set h.apart hr (.inr fun j s hs hA => ?_)⟩, h3.mono fun i _ e => ?_⟩
    · rcases addr_of (h.wp.each s (List.mem_of_getElem? hs)) with h0 | ⟨g, k1, _, k2⟩
      · rw [hA, h0]
      · rw [hb, k1] at hA; cases hA; omega
    · subst e
      obtain ⟨sb', _, e1, hB, _⟩ := h.wp.srow (List.getElem?_eq_some_iff.1 hr).1
      rw [hsA] at e1; cases e1; exact hB
def give (l : List O) (f t : Int) : List O := own (own (disown l f) (f, 3, -1)) (t, 1, f)
set_option maxHeartbeats 1000000 in
theorem transfer_x (w : World) (B pb sb : Nat) (v : PV) (h : WD w B pb v) (hsA : v.sA = some ⟨sb, 0, none⟩) (k : Nat) (r : Rw3) (hr : v.rs[k]? = some r) (hn : r.l.length ≤ 999990) (h0 : 0 < r.l.length) (f t : Int) :
    Calls Try.prog 44 #[.pointer (some ⟨pb, 0, none⟩), .int .i64 k, .int .i64 f, .int .i64 t] w (RetSet w B pb k v (give r.l f t)) := by
  have hk := (List.getElem?_eq_some_iff.1 hr).1
  have H1 := Lib.hid (disown_x w B pb sb v h hsA k r hr (by omega) h0 f)
  have hd : (disown r.l f).length ≤ r.l.length := List.length_filter_le _ _
  clear h
  go_enter Try.func44, Try.ntmps44
  go_wp2_with (fail)
  refine H1.out.mono ?_
  rintro e w1 ⟨rfl, r1, hl1, hw1, hc1⟩
  have hr1 : (v.rs.set k r1)[k]? = some r1 := List.getElem?_set_self hk
  have H2 := Lib.hid (own_w w1 B pb sb _ hw1 hsA k r1 hr1 (by rw [hl1]; omega) (f, 3, -1))
  have HC1 := Lib.hid hc1
  clear hw1 hc1
  go_wp2_with (fail)
  refine H2.out.mono ?_
  rintro e w2 ⟨rfl, r2, hl2, hw2, hc2⟩
  simp only [List.set_set] at hw2
  have hr2 : (v.rs.set k r2)[k]? = some r2 := List.getElem?_set_self hk
  have H3 := Lib.hid (own_w w2 B pb sb _ hw2 hsA k r2 hr2 (by rw [hl2, own_len, hl1]; omega) (t, 1, f))
  have HC2 := Lib.hid hc2
  clear hw2 hc2
  go_wp2_with (fail)
  refine H3.out.mono ?_
  rintro e w3 ⟨rfl, r3, hl3, hw3, hc3⟩
  simp only [List.set_set] at hw3
  have HW3 := Lib.hid hw3
  have HC3 := Lib.hid hc3
  clear hw3 hc3
  go_wp2_with (fail)
  refine bodyPost_ret (results_none rfl _ _ _) rfl ?_
  refine ⟨rfl, r3, ?_, HW3.out, ?_⟩
  · rw [hl3, hl2, hl1]; rfl
  · exact chg_trans (chg_trans HC1.out HC2.out) HC3.out
end Go.Proofs.Ytnpkhkhchimcnaa.pm
