/-
  A placement in a variable, all of it the call's own.
-/
import Derived.Test.YtnpkhkhchimcnaaPmA
import Derived.Test.YtnpkhkhchimcnaaAppNew
import Derived.Laws.IdiomCopy
namespace Go.Proofs.Ytnpkhkhchimcnaa.pm
open Go.ChangeShapes Go.WideShapes Go.ChangeAt Go.RowKit Go.Shelf plain words ord mem

theorem app_new_o {w : World} {ops : Array Oper} {rest : List Oper} {o : Oper} {a : Act} {Q : Exit → Act → World → Prop} (hgd : o.guard = none) (s x : Operand) (ho : o.op = .call { callee := .builtin .append, args := #[s, x], argTypes := #[42, 42] })
    (B0 : Nat) (A0 : Option Addr) (n c0 : Nat) (hA0 : A0 = none → c0 = 0) (l : List O) (hs : a.eval s = .slice A0 n c0) (hr0 : Ls OE w B0 A0 n l)
    (B : Nat) (A : Option Addr) (m c : Nat) (news : List O) (hx : a.eval x = .slice A m c) (hr : Ls OE w B A m news) (hm : 0 < m) (hcap : c0 < n + m)
    (hn : n + m ≤ 1099511627776)
    (h : ∀ c' w', Ow OE w' w.heap.size (.slice (some ⟨w.heap.size, 0, none⟩) (n + m) c') (n + m) (l ++ news) → Below w.heap.size w w' → w.heap.size < w'.heap.size → wpList Try.prog ops Q rest (a.put o.dst (.slice (some ⟨w.heap.size, 0, none⟩) (n + m) c')) w') : wpList Try.prog ops Q (o :: rest) a w := by
  obtain ⟨i0, hi, hz0, hz1, hz2⟩ := info_of infoO
  exact wpList_append_new OE (P := Try.prog) Try.underlying42 hi hz0 hz1 hz2 rfl (by decide) hgd s x ho B0 A0 n c0 hA0 l hs hr0 B A m c news hx hr hm hcap hn h
/-- a row of owners of the call's own, read as one -/
theorem Ow.rwok {w : World} {B n : Nat} {v : Value} {r : Rw3} (h : Ow OE w B v n r.l) (hv : v = r.val) (hn : r.l.length = n) : RwOk w w.heap.size r := by
  subst hv hn
  obtain ⟨A, c, he, h1, h2, h3⟩ := h.form
  have h' : Ow OE w B (.slice r.A r.l.length r.c) r.l.length r.l := h
  cases he
  exact ⟨h'.ls, h2, h3, h1⟩
structure WP (w : World) (B pb : Nat) (v : PV) : Prop where
  le : B ≤ pb
  var : Boxed w pb v
  n : Ow NE w B (.slice v.nA v.nodes.length v.nc) v.nodes.length v.nodes
  s : Ow SE w B (.slice v.sA v.rs.length v.sc) v.rs.length v.rs
  each : ∀ r ∈ v.rs, Ow OE w B r.val r.l.length r.l
theorem WP.lt {w : World} {B pb : Nat} {v : PV} (h : WP w B pb v) : pb < w.heap.size := blk_lt h.var
theorem WP.ok {w : World} {B pb : Nat} {v : PV} (h : WP w B pb v) : PVok w w.heap.size v := by
  obtain ⟨_, _, he, h1, h2, h3⟩ := h.n.form
  cases he
  obtain ⟨_, _, he, k1, k2, k3⟩ := h.s.form
  cases he
  exact ⟨h.n.ls, h2, h3, h1, ⟨h.s.ls, fun r hr => Ow.rwok (h.each r hr) rfl rfl⟩, k2, k3, k1⟩
theorem WP.below {w w' : World} {B pb C : Nat} {v : PV} (h : WP w B pb v) (hb : Below C w w') (hC : w.heap.size ≤ C) : WP w' B pb v :=
  ⟨h.le, blk_below hb h.var (Nat.lt_of_lt_of_le h.lt hC), h.n.below hb hC, h.s.below hb hC, fun r hr => (h.each r hr).below hb hC⟩
theorem WP.drew {w : World} {B pb : Nat} {v : PV} (h : WP w B pb v) : WP w.drew B pb v := h.below (Below.refl _ w).drew (Nat.le_refl _)
theorem ow_other {α : Type} {E : El α} {w w' : World} {B n g : Nat} {v : Value} {l : List α} {cur : Array Value} {e : TypeId} (h : Ow E w B v n l) (hc : Chg (fun k => k = g) w w') (hg : w.heap[g]? = some (.cells cur e (0, 0))) (hne : E.e ≠ e) : Ow E w' B v n l :=
  h.chg hc fun k hk he => by
    obtain ⟨c, hcur⟩ := h.type hk
    exact blk_type hcur hg hne he
/-- the row of slices' block -/
theorem WP.srow {w : World} {B pb i : Nat} {v : PV} (h : WP w B pb v) (hi : i < v.rs.length) : ∃ sb cur, v.sA = some ⟨sb, 0, none⟩ ∧ B ≤ sb ∧ sb < w.heap.size ∧ w.heap[sb]? = some (.cells cur 42 (0, 0)) ∧ sb ≠ pb := by
  obtain ⟨sb, c, he, h1, h2, _⟩ := h.s.some_ (by omega)
  have hsA : v.sA = some ⟨sb, 0, none⟩ := (Value.slice.inj he).1
  have hs := h.s
  rw [hsA] at hs
  obtain ⟨cur, hcur⟩ := hs.type rfl
  refine ⟨sb, cur, hsA, h1, h2, hcur, fun e => ?_⟩
  have hv := h.var
  exact blk_type hcur hv (by decide) e
theorem ow_set1 {w : World} {B g n c i : Nat} {rs : List Rw3} (h : Ow SE w B (.slice (some ⟨g, 0, none⟩) n c) n rs) (r : Rw3) : Ow SE (w.setCell ⟨g, i, none⟩ r.val) B (.slice (some ⟨g, 0, none⟩) n c) n (rs.set i r) := by
  refine ⟨by rw [List.length_set]; exact h.1, ?_⟩
  have e : cs SE.enc (rs.set i r) = (cs SE.enc rs).set i r.val := by
    have : ∀ l : List Rw3, cs SE.enc l = l.map Rw3.val := fun l => by
      induction l with
      | nil => rfl
      | cons x l ih => rw [cs_cons, ih]; rfl
    rw [this, this, List.map_set]
  rw [e]
  exact own_setc h.2 r.val
/-- one row laid in its place -/
theorem WP.put {w : World} {B pb sb i : Nat} {v : PV} (h : WP w B pb v) (hsA : v.sA = some ⟨sb, 0, none⟩) (hi : i < v.rs.length) (r : Rw3) (hr : Ow OE w B r.val r.l.length r.l) :
    WP (w.setCell ⟨sb, i, none⟩ r.val) B pb { v with rs := v.rs.set i r } := by
  obtain ⟨sb', cur, hsA', hB, hlt, hcur, hne⟩ := h.srow hi
  obtain rfl : sb' = sb := by rw [hsA'] at hsA; cases hsA; rfl
  have hc : Chg (fun k => k = sb') w (w.setCell ⟨sb', i, none⟩ r.val) := (Chg.refl (fun k => k = sb') w).setCell (p := ⟨sb', i, none⟩) (fun _ => rfl) _
  have hs := h.s
  rw [hsA'] at hs
  refine ⟨h.le, ?_, ow_other h.n hc hcur (by decide), ?_, fun q hq => ?_⟩
  · have := hc.blk h.var (fun e => hne e.symm)
    simp only [Boxed, IsV3, List.length_set] at this ⊢
    exact this
  · simp only [List.length_set, hsA']
    exact ow_set1 hs r
  · rcases List.mem_or_eq_of_mem_set hq with hq | rfl
    · exact ow_other (h.each q hq) hc hcur (by decide)
    · exact ow_other hr hc hcur (by decide)
/-- what laying an owner leaves -/
def RetOwn (w : World) (B pb k : Nat) (v : PV) (sb : Nat) (l : List O) (e : Ending) (w' : World) : Prop :=
  e = .returned (.tuple #[]) ∧ ∃ r' : Rw3, r'.l = l ∧ WP w' B pb { v with rs := v.rs.set k r' } ∧ Chg (fun b => b = sb) w w'
/-- the row laid is a new one -/
def RetOwnF (w : World) (B pb k : Nat) (v : PV) (sb : Nat) (l : List O) (e : Ending) (w' : World) : Prop :=
  e = .returned (.tuple #[]) ∧ ∃ r' : Rw3, r'.l = l ∧ WP w' B pb { v with rs := v.rs.set k r' } ∧ Chg (fun b => b = sb) w w' ∧ ∃ b, r'.A = some ⟨b, 0, none⟩ ∧ w.heap.size ≤ b
theorem row_new {w : World} {C : Nat} {r : Rw3} (h : Ow OE w C r.val r.l.length r.l) (h0 : 0 < r.l.length) : ∃ b, r.A = some ⟨b, 0, none⟩ ∧ C ≤ b := by
  obtain ⟨b, c, e, h1, _⟩ := h.some_ h0
  exact ⟨b, (Value.slice.inj e).1, h1⟩
set_option maxHeartbeats 2000000 in
theorem own_xf (w : World) (B pb sb : Nat) (v : PV) (h : WP w B pb v) (hsA : v.sA = some ⟨sb, 0, none⟩) (k : Nat) (r : Rw3) (hr : v.rs[k]? = some r) (hn : r.l.length ≤ 1000000) (o : O) :
    Calls Try.prog 32 #[.pointer (some ⟨pb, 0, none⟩), .int .i64 k, oV o] w (RetOwnF w B pb k v sb (own r.l o)) := by
  have hBz : B ≤ w.heap.size := by have := h.le; have := h.lt; omega
  obtain ⟨o1, o2, o3⟩ := o
  have hkN : k < v.rs.length := (List.getElem?_eq_some_iff.1 hr).1
  have hrow := h.each r (List.mem_of_getElem? hr)
  have hrok := Ow.rwok hrow rfl rfl
  obtain ⟨sb', cur, hsA', hBs, hsl, hcur, hne⟩ := h.srow hkN
  obtain rfl : sb' = sb := by rw [hsA'] at hsA; cases hsA; rfl
  have hcell : w.cell? ⟨sb', k, none⟩ = some r.val := by
    obtain ⟨b, off, e1, _, e2, _⟩ := h.ok.s.at_ hr
    rw [hsA] at e1; cases e1
    simpa using e2
  obtain ⟨⟨c0, c1, c2⟩, _⟩ := isv3_cells h.var
  obtain ⟨wa, hwa⟩ : ∃ wa, w.alloc (.cells #[.int .i64 o1, .int .i64 o2, .int .i64 o3] 44) = wa := ⟨_, rfl⟩
  have hba : Below w.heap.size w wa := by rw [← hwa]; exact below_al _ _
  have gp : IsV3 44 wa w.heap.size (.int .i64 o1) (.int .i64 o2) (.int .i64 o3) := by rw [← hwa]; exact alloc_new _ _
  have hsa : w.heap.size < wa.heap.size := blk_lt gp
  have hpl := h.lt
  obtain ⟨A, c, L⟩ := r
  have hc1 := hrok.cap
  have hc2 := hrok.most
  have hc3 := hrok.nil
  have hls := hrok.ls
  simp only [Rw3.val] at hcell hrow hn hc1 hc2 hc3 hls ⊢
  obtain ⟨m, hm⟩ : ∃ m, L.length = m := ⟨_, rfl⟩
  rw [hm] at hcell hrow hn hc1 hls
  have hc0 : wa.cell? ⟨pb, 2, none⟩ = some (.slice v.sA v.rs.length v.sc) := (hba.cell (p := ⟨pb, 2, none⟩) hpl).trans c2
  rw [hsA] at hc0 c2
  have hcw : wa.cell? ⟨sb', k, none⟩ = some (.slice A m c) := (hba.cell (p := ⟨sb', k, none⟩) hsl).trans hcell
  have HWP := Lib.hid h
  have HROW := Lib.hid hrow
  have HLS := Lib.hid hls
  have HWA := Lib.hid hwa
  have HBA := Lib.hid hba
  have GP := Lib.hid gp
  have HM := Lib.hid hm
  have HC3 := Lib.hid hc3
  have HSA := Lib.hid hsA
  have hkz : (k : Int) < (v.rs.length : Int) := by omega
  clear h hrow hrok hls hwa hba gp hm hc3 hsA hsA' hr c0 c1 hcur
  go_enter Try.func32, Try.ntmps32
  have HCP := Lib.hid (fun (u : World) (hu : Below w.heap.size w u) => (hu.cell (p := ⟨pb, 2, none⟩) hpl).trans c2)
  go_wp2_with (fail)
  rw [HWA.out]
  go_loopg [7] m (fun gg s7 wr => ∃ i : Nat, s7 = .int .i64 i ∧ i ≤ m ∧ m - i ≤ gg ∧ Aside (∀ (j : Nat) (y : O), j < i → L[j]? = some y → y.1 < o1) ∧ Aside (Below w.heap.size w wr) ∧ Aside (IsV3 44 wr w.heap.size (.int .i64 o1) (.int .i64 o2) (.int .i64 o3)))
  case atStart => exact ⟨0, rfl, by omega, by omega, fun j y hj => by omega, HBA.out, GP.out⟩
  case round =>
    obtain ⟨i, rfl, hi, hg, HU, HB2, HV2⟩ := hrel
    clear HBA GP
    have hs2 := HB2.out.size
    have hpw : w.heap.size < wr.heap.size := blk_lt HV2.out
    obtain ⟨⟨d0, _, _⟩, _⟩ := isv3_cells HV2.out
    have q0 := Wb.at_ d0
    by_cases hlt : i < m
    · obtain ⟨g, hAg, hBg, hgl⟩ : ∃ g, A = some ⟨g, 0, none⟩ ∧ B ≤ g ∧ g < w.heap.size := by
        obtain ⟨g, cap, e, e1, e2, _⟩ := HROW.out.some_ (show 0 < m by omega)
        exact ⟨g, (Value.slice.inj e).1, e1, e2⟩
      subst hAg
      have hltz : (i : Int) < (m : Int) := by omega
      have t0 : decide ((i : Int) < (m : Int)) = true := decide_eq_true hltz
      obtain ⟨x, hx⟩ := HLS.out.get hlt
      obtain ⟨b, off, he, hb, l0, _, _⟩ := own_at (HLS.out.below HB2.out (Nat.le_refl _)) hx
      cases he
      simp only [Nat.zero_add] at l0
      have q1 := Wb.at_ l0
      have HX := Lib.hid hx
      obtain ⟨x1, x2, x3⟩ := x
      simp only at l0 q1
      clear hx
      by_cases hq : x1 < o1
      · have t1 : decide (x1 < o1) = true := decide_eq_true hq
        have HU2 := Lib.hid (below_pos HX.out hq HU.out)
        go_wp2_with (fail)
        refine wp_region_plan [([0, 1, 2, 3, 4, 5, 6, 7, 8, 9, 10, 11, 12, 13], none)] (by kernel_rfl) (by kernel_rfl) ?_
        refine seg_end _ (by dsimp only [pick, at_]) ?_
        repeat (go_big_quiet_step (fail))
        refine wpQuiet_nil ?_
        refine NoPanic.normal ?_
        clear q0 q1 d0 l0
        go_wp2_with (fail)
        go_roundg (m - (i + 1))
        case measure => omega
        case rel => exact ⟨i + 1, by go_num, by omega, by omega, HU2.out, HB2.out.drew, HV2.out⟩
      · have t1 : decide (x1 < o1) = false := decide_eq_false hq
        have hci : ¬ c = i := by omega
        have HP := Lib.hid (show pos L o1 = i from pos_of (by have := HM.out; omega) HU.out (fun y hy => by have e := HX.out; rw [hy] at e; cases e; exact hq))
        go_wp2_with (fail)
        refine wp_region_plan [([0, 1, 2, 3, 4, 5, 6, 7, 8, 9, 10, 11, 12, 13], none)] (by kernel_rfl) (by kernel_rfl) ?_
        refine seg_end _ (by dsimp only [pick, at_]) ?_
        repeat (go_big_quiet_step (fail))
        refine wpQuiet_nil ?_
        refine NoPanic.normal ?_
        clear q0 q1 d0 l0
        go_wp2_with (fail)
        obtain ⟨wx, hwx⟩ : ∃ wx, wr.drew = wx := ⟨_, rfl⟩
        have HVX := Lib.hid (show IsV3 44 wx w.heap.size (.int .i64 o1) (.int .i64 o2) (.int .i64 o3) by rw [← hwx]; exact HV2.out)
        have HBX := Lib.hid (show Below w.heap.size w wx by rw [← hwx]; exact HB2.out.drew)
        rw [hwx]
        clear hwx
        have hsx := HBX.out.size
        have hpx : w.heap.size < wx.heap.size := blk_lt HVX.out
        have q5 := Wb.at_ (HCP.out wx HBX.out)
        have q6 := Wb.at_ (isv3_cells HVX.out).1.1
        have q7 := Wb.at_ (isv3_cells HVX.out).1.2.1
        have q8 := Wb.at_ (isv3_cells HVX.out).1.2.2
        have i1 : (0 : Int) ≤ (i : Int) := by omega
        have i2 : (i : Int) ≤ (c : Int) := by omega
        have i3 : (i : Int) ≤ (m : Int) := by omega
        have i4 : (m : Int) ≤ (c : Int) := by omega
        refine wp_region_plan [([0, 1, 2, 3, 4, 5, 6, 7, 8, 9, 12, 13, 14], some (10, false)), ([], some (11, false)), ([], some (15, false)), ([16], some (17, true)), ([], none)] (by kernel_rfl) (by kernel_rfl) ?_
        refine seg_act _ (by dsimp only [pick, at_]) _ (by dsimp only [pick, at_]) ?_
        repeat (go_big_quiet_step (fail))
        refine wpQuiet_nil ?_
        intro K h1 h2
        clear h2
        go_wp2_with (fail)
        refine h1 _ _ ((below_al wx _).drew) ?_
        clear h1
        obtain ⟨w10, hw10⟩ : ∃ w10, (wx.alloc (.cells #[.int .i64 o1, .int .i64 o2, .int .i64 o3] 44)).drew = w10 := ⟨_, rfl⟩
        have HB10 := Lib.hid (show Below wx.heap.size wx w10 by rw [← hw10]; exact (below_al wx _).drew)
        have H9 := Lib.hid (show Ls OE w10 (wx.heap.size + 1) (some ⟨wx.heap.size, 0, none⟩) 1 [(o1, o2, o3)] by rw [← hw10]; exact (ls_new (E := OE) (w := wx) 44 ((o1, o2, o3) : O)).drew)
        rw [hw10]
        clear hw10
        have hs10 := HB10.out.size
        have HLI := Lib.hid ((HLS.out.below (HBX.out.trans (HB10.out.mono hsx)) (Nat.le_refl _)).take hi)
        refine seg_act _ (by dsimp only [pick, at_]) _ (by dsimp only [pick, at_]) ?_
        repeat (go_big_quiet_step (fail))
        refine wpQuiet_nil ?_
        intro K h1 h2
        clear h2
        go_wp2_with (at_builtin; refine app_new_o rfl (.tmp 39) (.tmp 41) rfl w.heap.size (some ⟨g, 0, none⟩) i i (fun e => by cases e) (L.take i) rfl HLI.out (wx.heap.size + 1) (some ⟨wx.heap.size, 0, none⟩) 1 1 [(o1, o2, o3)] (by rfl) H9.out (by omega) (by omega) (by omega) ?_; intro c11 w11 hown11 hb11 hs11; obtain ⟨_, _, he11, _, hc11a, hc11b⟩ := hown11.form; cases he11; have HO11 := Lib.hid hown11; have HB11 := Lib.hid (HB10.out.trans (hb11.mono hs10)); clear hown11 hb11)
        refine h1 _ _ HB11.out ?_
        clear h1
        have hs11b := HB11.out.size
        have HL11 := Lib.hid ((ls_rest2 (HLS.out.below (HBX.out.trans (HB11.out.mono hsx)) (Nat.le_refl _)) hi hc1).2 hci)
        refine seg_act _ (by dsimp only [pick, at_]) _ (by dsimp only [pick, at_]) ?_
        repeat (go_big_quiet_step (fail))
        refine wpQuiet_nil ?_
        intro K h1 h2
        clear h2
        go_wp2_with (at_builtin; refine app_o rfl (.tmp 42) (.tmp 45) rfl w10.heap.size _ (i + 1) (L.take i ++ [(o1, o2, o3)]) rfl HO11.out _ (some ⟨g, i * 3, none⟩) (m - i) (c - i) (fun e => by cases e) (L.drop i) (by rfl) HL11.out (by omega) (by omega) ?_; intro A15 c15 w15 hown15 hg15 _ h15a h15b hs15; have HB15 := Lib.hid (own_below HB11.out (HO11.out.base hs10).2 (by omega) hg15); have HO15 := Lib.hid (show Ow OE w15 w.heap.size (.slice A15 (m + 1) c15) (m + 1) (own L (o1, o2, o3)) by have e1 : i + 1 + (m - i) = m + 1 := (by omega); have e2 : L.take i ++ [(o1, o2, o3)] ++ L.drop i = own L (o1, o2, o3) := (by simp [own, HP.out]); rw [e1, e2] at hown15; exact hown15.base (by omega)); clear hown15 hg15)
        refine h1 _ _ HB15.out ?_
        clear h1
        have e15 : i + 1 + (m - i) = m + 1 := by omega
        rw [e15]
        have HBW := Lib.hid (HBX.out.trans (HB15.out.mono hsx))
        have HWP15 := Lib.hid (HWP.out.below HBW.out (Nat.le_refl _))
        have hk15 : w15.cell? ⟨sb', k, none⟩ = some (.slice (some ⟨g, 0, none⟩) m c) := (HBW.out.cell (p := ⟨sb', k, none⟩) hsl).trans hcell
        have hf15 : w15.frozen? ⟨sb', k, none⟩ = false := by
          obtain ⟨_, cur2, e2, _, _, hcur2, _⟩ := HWP15.out.srow hkN
          have e3 := HSA.out
          rw [e2] at e3; cases e3
          exact frozen_of_row _ _ _ _ _ hcur2
        refine seg_write _ (by dsimp only [pick, at_]) _ (by dsimp only [pick, at_]) ?_
        repeat (go_big_quiet_step (fail))
        refine wpQuiet_nil ?_
        intro K4 h4
        go_wp2_with (fail)
        refine seg_end _ (by dsimp only [pick, at_]) ?_
        refine wpQuiet_nil (NoPanic.normal ?_)
        clear q5 q6 q7 q8 hk15 hf15
        go_wp2_with (fail)
        refine bodyPost_ret (results_none rfl _ _ _) rfl ?_
        have hol : (own L (o1, o2, o3)).length = m + 1 := by rw [own_len, HM.out]
        have hrow15 : Ow OE w15 w.heap.size (Rw3.val ⟨A15, c15, own L (o1, o2, o3)⟩) (own L (o1, o2, o3)).length (own L (o1, o2, o3)) := by
          unfold Rw3.val
          simp only
          rw [hol]
          exact HO15.out
        refine ⟨rfl, ⟨A15, c15, own L (o1, o2, o3)⟩, rfl, ?_, ?_, row_new (r := ⟨A15, c15, own L (o1, o2, o3)⟩) hrow15 (by show 0 < (own L (o1, o2, o3)).length; omega)⟩
        · have := HWP15.out.put HSA.out hkN ⟨A15, c15, own L (o1, o2, o3)⟩ (hrow15.base hBz)
          simp only [Rw3.val] at this
          rw [hol] at this
          exact this
        · exact ((Chg.of_below HBW.out).mono (S' := fun b => b = sb') (fun _ _ h => h.elim)).setCell (p := ⟨sb', k, none⟩) (fun _ => rfl) _
    · obtain rfl : i = m := by omega
      have hltz : ¬ (i : Int) < (i : Int) := by omega
      have t0 : decide ((i : Int) < (i : Int)) = false := decide_eq_false hltz
      have HP := Lib.hid (show pos L o1 = i from pos_of (by have := HM.out; omega) HU.out (fun y hy => by have := HM.out; rw [List.getElem?_eq_none (by omega)] at hy; cases hy))
      go_wp2_with (fail)
      refine wp_region_plan [([0, 1, 2, 3, 4, 5, 6, 7, 8, 9, 10, 11, 12, 13], none)] (by kernel_rfl) (by kernel_rfl) ?_
      refine seg_end _ (by dsimp only [pick, at_]) ?_
      repeat (go_big_quiet_step (fail))
      refine wpQuiet_nil ?_
      refine NoPanic.normal ?_
      clear q0 d0
      by_cases hA : A = none
      · subst hA
        obtain rfl : c = 0 := HC3.out rfl
        obtain rfl : i = 0 := by omega
        go_wp2_with (fail)
        obtain ⟨wx, hwx⟩ : ∃ wx, wr.drew = wx := ⟨_, rfl⟩
        have HVX := Lib.hid (show IsV3 44 wx w.heap.size (.int .i64 o1) (.int .i64 o2) (.int .i64 o3) by rw [← hwx]; exact HV2.out)
        have HBX := Lib.hid (show Below w.heap.size w wx by rw [← hwx]; exact HB2.out.drew)
        rw [hwx]
        clear hwx
        have hsx := HBX.out.size
        have hpx : w.heap.size < wx.heap.size := blk_lt HVX.out
        have q5 := Wb.at_ (HCP.out wx HBX.out)
        have q6 := Wb.at_ (isv3_cells HVX.out).1.1
        have q7 := Wb.at_ (isv3_cells HVX.out).1.2.1
        have q8 := Wb.at_ (isv3_cells HVX.out).1.2.2
        have i1 : (0 : Int) ≤ (0 : Int) := by omega
        have i2 : (0 : Int) ≤ (0 : Int) := by omega
        have i3 : (0 : Int) ≤ (0 : Int) := by omega
        have i4 : (0 : Int) ≤ (0 : Int) := by omega
        refine wp_region_plan [([0, 1, 2, 3, 4, 5, 6, 7, 8, 9, 12, 13, 14], some (10, false)), ([], some (11, false)), ([], some (15, false)), ([16], some (17, true)), ([], none)] (by kernel_rfl) (by kernel_rfl) ?_
        refine seg_act _ (by dsimp only [pick, at_]) _ (by dsimp only [pick, at_]) ?_
        repeat (go_big_quiet_step (fail))
        refine wpQuiet_nil ?_
        intro K h1 h2
        clear h2
        go_wp2_with (fail)
        refine h1 _ _ ((below_al wx _).drew) ?_
        clear h1
        obtain ⟨w10, hw10⟩ : ∃ w10, (wx.alloc (.cells #[.int .i64 o1, .int .i64 o2, .int .i64 o3] 44)).drew = w10 := ⟨_, rfl⟩
        have HB10 := Lib.hid (show Below wx.heap.size wx w10 by rw [← hw10]; exact (below_al wx _).drew)
        have H9 := Lib.hid (show Ls OE w10 (wx.heap.size + 1) (some ⟨wx.heap.size, 0, none⟩) 1 [(o1, o2, o3)] by rw [← hw10]; exact (ls_new (E := OE) (w := wx) 44 ((o1, o2, o3) : O)).drew)
        rw [hw10]
        clear hw10
        have hs10 := HB10.out.size
        have HLI := Lib.hid ((HLS.out.below (HBX.out.trans (HB10.out.mono hsx)) (Nat.le_refl _)).take hi)
        refine seg_act _ (by dsimp only [pick, at_]) _ (by dsimp only [pick, at_]) ?_
        repeat (go_big_quiet_step (fail))
        refine wpQuiet_nil ?_
        intro K h1 h2
        clear h2
        go_wp2_with (at_builtin; refine app_new_o rfl (.tmp 39) (.tmp 41) rfl w.heap.size none 0 0 (fun _ => rfl) (L.take 0) rfl HLI.out (wx.heap.size + 1) (some ⟨wx.heap.size, 0, none⟩) 1 1 [(o1, o2, o3)] (by rfl) H9.out (by omega) (by omega) (by omega) ?_; intro c11 w11 hown11 hb11 hs11; obtain ⟨_, _, he11, _, hc11a, hc11b⟩ := hown11.form; cases he11; have HO11 := Lib.hid hown11; have HB11 := Lib.hid (HB10.out.trans (hb11.mono hs10)); clear hown11 hb11)
        refine h1 _ _ HB11.out ?_
        clear h1
        have hs11b := HB11.out.size
        refine seg_act _ (by dsimp only [pick, at_]) _ (by dsimp only [pick, at_]) ?_
        repeat (go_big_quiet_step (fail))
        refine wpQuiet_nil ?_
        intro K h1 h2
        clear h2
        go_wp2_with (fail)
        refine h1 _ _ HB11.out ?_
        clear h1
        have HB15 := HB11
        obtain ⟨w15, hw15⟩ : ∃ w15, w11 = w15 := ⟨_, rfl⟩
        have HO15 := Lib.hid (show Ow OE w15 w.heap.size (.slice (some ⟨w10.heap.size, 0, none⟩) (0 + 1) c11) (0 + 1) (own L (o1, o2, o3)) by
          have e2 : L.take 0 ++ [(o1, o2, o3)] = own L (o1, o2, o3) := by
            have hd : L.drop 0 = [] := List.drop_eq_nil_of_le (by rw [HM.out]; exact Nat.le_refl _)
            simp [own, HP.out, hd]
          have h11 := HO11.out
          rw [e2, hw15] at h11
          exact h11.base (by omega))
        rw [hw15] at HB15 ⊢
        clear hw15
        have HBW := Lib.hid (HBX.out.trans (HB15.out.mono hsx))
        have HWP15 := Lib.hid (HWP.out.below HBW.out (Nat.le_refl _))
        have hk15 : w15.cell? ⟨sb', k, none⟩ = some (.slice none 0 0) := (HBW.out.cell (p := ⟨sb', k, none⟩) hsl).trans hcell
        have hf15 : w15.frozen? ⟨sb', k, none⟩ = false := by
          obtain ⟨_, cur2, e2, _, _, hcur2, _⟩ := HWP15.out.srow hkN
          have e3 := HSA.out
          rw [e2] at e3; cases e3
          exact frozen_of_row _ _ _ _ _ hcur2
        refine seg_write _ (by dsimp only [pick, at_]) _ (by dsimp only [pick, at_]) ?_
        repeat (go_big_quiet_step (fail))
        refine wpQuiet_nil ?_
        intro K4 h4
        go_wp2_with (fail)
        refine seg_end _ (by dsimp only [pick, at_]) ?_
        refine wpQuiet_nil (NoPanic.normal ?_)
        clear q5 q6 q7 q8 hk15 hf15
        go_wp2_with (fail)
        refine bodyPost_ret (results_none rfl _ _ _) rfl ?_
        have hol : (own L (o1, o2, o3)).length = 0 + 1 := by rw [own_len, HM.out]
        have hrow15 : Ow OE w15 w.heap.size (Rw3.val ⟨some ⟨w10.heap.size, 0, none⟩, c11, own L (o1, o2, o3)⟩) (own L (o1, o2, o3)).length (own L (o1, o2, o3)) := by
          unfold Rw3.val
          simp only
          rw [hol]
          exact HO15.out
        refine ⟨rfl, ⟨some ⟨w10.heap.size, 0, none⟩, c11, own L (o1, o2, o3)⟩, rfl, ?_, ?_, row_new (r := ⟨some ⟨w10.heap.size, 0, none⟩, c11, own L (o1, o2, o3)⟩) hrow15 (by show 0 < (own L (o1, o2, o3)).length; omega)⟩
        · have := HWP15.out.put HSA.out hkN ⟨some ⟨w10.heap.size, 0, none⟩, c11, own L (o1, o2, o3)⟩ (hrow15.base hBz)
          simp only [Rw3.val] at this
          rw [hol] at this
          exact this
        · exact ((Chg.of_below HBW.out).mono (S' := fun b => b = sb') (fun _ _ h => h.elim)).setCell (p := ⟨sb', k, none⟩) (fun _ => rfl) _
      · obtain ⟨g, hAg, hBg, hgl⟩ : ∃ g, A = some ⟨g, 0, none⟩ ∧ B ≤ g ∧ g < w.heap.size := by
          rcases own_form HROW.out.2 with ⟨e, _⟩ | ⟨g, cap, e, e1, e2, _⟩
          · exact absurd (Value.slice.inj e).1 hA
          · exact ⟨g, (Value.slice.inj e).1, e1, e2⟩
        subst hAg
        clear hA
        by_cases hci : c = i
        · subst hci
          go_wp2_with (fail)
          obtain ⟨wx, hwx⟩ : ∃ wx, wr.drew = wx := ⟨_, rfl⟩
          have HVX := Lib.hid (show IsV3 44 wx w.heap.size (.int .i64 o1) (.int .i64 o2) (.int .i64 o3) by rw [← hwx]; exact HV2.out)
          have HBX := Lib.hid (show Below w.heap.size w wx by rw [← hwx]; exact HB2.out.drew)
          rw [hwx]
          clear hwx
          have hsx := HBX.out.size
          have hpx : w.heap.size < wx.heap.size := blk_lt HVX.out
          have q5 := Wb.at_ (HCP.out wx HBX.out)
          have q6 := Wb.at_ (isv3_cells HVX.out).1.1
          have q7 := Wb.at_ (isv3_cells HVX.out).1.2.1
          have q8 := Wb.at_ (isv3_cells HVX.out).1.2.2
          have i1 : (0 : Int) ≤ (c : Int) := by omega
          have i2 : (c : Int) ≤ (c : Int) := by omega
          have i3 : (c : Int) ≤ (c : Int) := by omega
          have i4 : (c : Int) ≤ (c : Int) := by omega
          refine wp_region_plan [([0, 1, 2, 3, 4, 5, 6, 7, 8, 9, 12, 13, 14], some (10, false)), ([], some (11, false)), ([], some (15, false)), ([16], some (17, true)), ([], none)] (by kernel_rfl) (by kernel_rfl) ?_
          refine seg_act _ (by dsimp only [pick, at_]) _ (by dsimp only [pick, at_]) ?_
          repeat (go_big_quiet_step (fail))
          refine wpQuiet_nil ?_
          intro K h1 h2
          clear h2
          go_wp2_with (fail)
          refine h1 _ _ ((below_al wx _).drew) ?_
          clear h1
          obtain ⟨w10, hw10⟩ : ∃ w10, (wx.alloc (.cells #[.int .i64 o1, .int .i64 o2, .int .i64 o3] 44)).drew = w10 := ⟨_, rfl⟩
          have HB10 := Lib.hid (show Below wx.heap.size wx w10 by rw [← hw10]; exact (below_al wx _).drew)
          have H9 := Lib.hid (show Ls OE w10 (wx.heap.size + 1) (some ⟨wx.heap.size, 0, none⟩) 1 [(o1, o2, o3)] by rw [← hw10]; exact (ls_new (E := OE) (w := wx) 44 ((o1, o2, o3) : O)).drew)
          rw [hw10]
          clear hw10
          have hs10 := HB10.out.size
          have HLI := Lib.hid ((HLS.out.below (HBX.out.trans (HB10.out.mono hsx)) (Nat.le_refl _)).take hi)
          refine seg_act _ (by dsimp only [pick, at_]) _ (by dsimp only [pick, at_]) ?_
          repeat (go_big_quiet_step (fail))
          refine wpQuiet_nil ?_
          intro K h1 h2
          clear h2
          go_wp2_with (at_builtin; refine app_new_o rfl (.tmp 39) (.tmp 41) rfl w.heap.size (some ⟨g, 0, none⟩) c c (fun e => by cases e) (L.take c) rfl HLI.out (wx.heap.size + 1) (some ⟨wx.heap.size, 0, none⟩) 1 1 [(o1, o2, o3)] (by rfl) H9.out (by omega) (by omega) (by omega) ?_; intro c11 w11 hown11 hb11 hs11; obtain ⟨_, _, he11, _, hc11a, hc11b⟩ := hown11.form; cases he11; have HO11 := Lib.hid hown11; have HB11 := Lib.hid (HB10.out.trans (hb11.mono hs10)); clear hown11 hb11)
          refine h1 _ _ HB11.out ?_
          clear h1
          have hs11b := HB11.out.size
          refine seg_act _ (by dsimp only [pick, at_]) _ (by dsimp only [pick, at_]) ?_
          repeat (go_big_quiet_step (fail))
          refine wpQuiet_nil ?_
          intro K h1 h2
          clear h2
          go_wp2_with (fail)
          refine h1 _ _ HB11.out ?_
          clear h1
          have HB15 := HB11
          obtain ⟨w15, hw15⟩ : ∃ w15, w11 = w15 := ⟨_, rfl⟩
          have HO15 := Lib.hid (show Ow OE w15 w.heap.size (.slice (some ⟨w10.heap.size, 0, none⟩) (c + 1) c11) (c + 1) (own L (o1, o2, o3)) by
            have e2 : L.take c ++ [(o1, o2, o3)] = own L (o1, o2, o3) := by
              have hd : L.drop c = [] := List.drop_eq_nil_of_le (by rw [HM.out]; exact Nat.le_refl _)
              simp [own, HP.out, hd]
            have h11 := HO11.out
            rw [e2, hw15] at h11
            exact h11.base (by omega))
          rw [hw15] at HB15 ⊢
          clear hw15
          have HBW := Lib.hid (HBX.out.trans (HB15.out.mono hsx))
          have HWP15 := Lib.hid (HWP.out.below HBW.out (Nat.le_refl _))
          have hk15 : w15.cell? ⟨sb', k, none⟩ = some (.slice (some ⟨g, 0, none⟩) c c) := (HBW.out.cell (p := ⟨sb', k, none⟩) hsl).trans hcell
          have hf15 : w15.frozen? ⟨sb', k, none⟩ = false := by
            obtain ⟨_, cur2, e2, _, _, hcur2, _⟩ := HWP15.out.srow hkN
            have e3 := HSA.out
            rw [e2] at e3; cases e3
            exact frozen_of_row _ _ _ _ _ hcur2
          refine seg_write _ (by dsimp only [pick, at_]) _ (by dsimp only [pick, at_]) ?_
          repeat (go_big_quiet_step (fail))
          refine wpQuiet_nil ?_
          intro K4 h4
          go_wp2_with (fail)
          refine seg_end _ (by dsimp only [pick, at_]) ?_
          refine wpQuiet_nil (NoPanic.normal ?_)
          clear q5 q6 q7 q8 hk15 hf15
          go_wp2_with (fail)
          refine bodyPost_ret (results_none rfl _ _ _) rfl ?_
          have hol : (own L (o1, o2, o3)).length = c + 1 := by rw [own_len, HM.out]
          have hrow15 : Ow OE w15 w.heap.size (Rw3.val ⟨some ⟨w10.heap.size, 0, none⟩, c11, own L (o1, o2, o3)⟩) (own L (o1, o2, o3)).length (own L (o1, o2, o3)) := by
            unfold Rw3.val
            simp only
            rw [hol]
            exact HO15.out
          refine ⟨rfl, ⟨some ⟨w10.heap.size, 0, none⟩, c11, own L (o1, o2, o3)⟩, rfl, ?_, ?_, row_new (r := ⟨some ⟨w10.heap.size, 0, none⟩, c11, own L (o1, o2, o3)⟩) hrow15 (by show 0 < (own L (o1, o2, o3)).length; omega)⟩
          · have := HWP15.out.put HSA.out hkN ⟨some ⟨w10.heap.size, 0, none⟩, c11, own L (o1, o2, o3)⟩ (hrow15.base hBz)
            simp only [Rw3.val] at this
            rw [hol] at this
            exact this
          · exact ((Chg.of_below HBW.out).mono (S' := fun b => b = sb') (fun _ _ h => h.elim)).setCell (p := ⟨sb', k, none⟩) (fun _ => rfl) _
        · have hcz : ¬ (c : Int) = (i : Int) := by omega
          go_wp2_with (fail)
          obtain ⟨wx, hwx⟩ : ∃ wx, wr.drew = wx := ⟨_, rfl⟩
          have HVX := Lib.hid (show IsV3 44 wx w.heap.size (.int .i64 o1) (.int .i64 o2) (.int .i64 o3) by rw [← hwx]; exact HV2.out)
          have HBX := Lib.hid (show Below w.heap.size w wx by rw [← hwx]; exact HB2.out.drew)
          rw [hwx]
          clear hwx
          have hsx := HBX.out.size
          have hpx : w.heap.size < wx.heap.size := blk_lt HVX.out
          have q5 := Wb.at_ (HCP.out wx HBX.out)
          have q6 := Wb.at_ (isv3_cells HVX.out).1.1
          have q7 := Wb.at_ (isv3_cells HVX.out).1.2.1
          have q8 := Wb.at_ (isv3_cells HVX.out).1.2.2
          have i1 : (0 : Int) ≤ (i : Int) := by omega
          have i2 : (i : Int) ≤ (c : Int) := by omega
          have i3 : (i : Int) ≤ (i : Int) := by omega
          have i4 : (i : Int) ≤ (c : Int) := by omega
          refine wp_region_plan [([0, 1, 2, 3, 4, 5, 6, 7, 8, 9, 12, 13, 14], some (10, false)), ([], some (11, false)), ([], some (15, false)), ([16], some (17, true)), ([], none)] (by kernel_rfl) (by kernel_rfl) ?_
          refine seg_act _ (by dsimp only [pick, at_]) _ (by dsimp only [pick, at_]) ?_
          repeat (go_big_quiet_step (fail))
          refine wpQuiet_nil ?_
          intro K h1 h2
          clear h2
          go_wp2_with (fail)
          refine h1 _ _ ((below_al wx _).drew) ?_
          clear h1
          obtain ⟨w10, hw10⟩ : ∃ w10, (wx.alloc (.cells #[.int .i64 o1, .int .i64 o2, .int .i64 o3] 44)).drew = w10 := ⟨_, rfl⟩
          have HB10 := Lib.hid (show Below wx.heap.size wx w10 by rw [← hw10]; exact (below_al wx _).drew)
          have H9 := Lib.hid (show Ls OE w10 (wx.heap.size + 1) (some ⟨wx.heap.size, 0, none⟩) 1 [(o1, o2, o3)] by rw [← hw10]; exact (ls_new (E := OE) (w := wx) 44 ((o1, o2, o3) : O)).drew)
          rw [hw10]
          clear hw10
          have hs10 := HB10.out.size
          have HLI := Lib.hid ((HLS.out.below (HBX.out.trans (HB10.out.mono hsx)) (Nat.le_refl _)).take hi)
          refine seg_act _ (by dsimp only [pick, at_]) _ (by dsimp only [pick, at_]) ?_
          repeat (go_big_quiet_step (fail))
          refine wpQuiet_nil ?_
          intro K h1 h2
          clear h2
          go_wp2_with (at_builtin; refine app_new_o rfl (.tmp 39) (.tmp 41) rfl w.heap.size (some ⟨g, 0, none⟩) i i (fun e => by cases e) (L.take i) rfl HLI.out (wx.heap.size + 1) (some ⟨wx.heap.size, 0, none⟩) 1 1 [(o1, o2, o3)] (by rfl) H9.out (by omega) (by omega) (by omega) ?_; intro c11 w11 hown11 hb11 hs11; obtain ⟨_, _, he11, _, hc11a, hc11b⟩ := hown11.form; cases he11; have HO11 := Lib.hid hown11; have HB11 := Lib.hid (HB10.out.trans (hb11.mono hs10)); clear hown11 hb11)
          refine h1 _ _ HB11.out ?_
          clear h1
          have hs11b := HB11.out.size
          refine seg_act _ (by dsimp only [pick, at_]) _ (by dsimp only [pick, at_]) ?_
          repeat (go_big_quiet_step (fail))
          refine wpQuiet_nil ?_
          intro K h1 h2
          clear h2
          go_wp2_with (fail)
          refine h1 _ _ HB11.out ?_
          clear h1
          have HB15 := HB11
          obtain ⟨w15, hw15⟩ : ∃ w15, w11 = w15 := ⟨_, rfl⟩
          have HO15 := Lib.hid (show Ow OE w15 w.heap.size (.slice (some ⟨w10.heap.size, 0, none⟩) (i + 1) c11) (i + 1) (own L (o1, o2, o3)) by
            have e2 : L.take i ++ [(o1, o2, o3)] = own L (o1, o2, o3) := by
              have hd : L.drop i = [] := List.drop_eq_nil_of_le (by rw [HM.out]; exact Nat.le_refl _)
              simp [own, HP.out, hd]
            have h11 := HO11.out
            rw [e2, hw15] at h11
            exact h11.base (by omega))
          rw [hw15] at HB15 ⊢
          clear hw15
          have HBW := Lib.hid (HBX.out.trans (HB15.out.mono hsx))
          have HWP15 := Lib.hid (HWP.out.below HBW.out (Nat.le_refl _))
          have hk15 : w15.cell? ⟨sb', k, none⟩ = some (.slice (some ⟨g, 0, none⟩) i c) := (HBW.out.cell (p := ⟨sb', k, none⟩) hsl).trans hcell
          have hf15 : w15.frozen? ⟨sb', k, none⟩ = false := by
            obtain ⟨_, cur2, e2, _, _, hcur2, _⟩ := HWP15.out.srow hkN
            have e3 := HSA.out
            rw [e2] at e3; cases e3
            exact frozen_of_row _ _ _ _ _ hcur2
          refine seg_write _ (by dsimp only [pick, at_]) _ (by dsimp only [pick, at_]) ?_
          repeat (go_big_quiet_step (fail))
          refine wpQuiet_nil ?_
          intro K4 h4
          go_wp2_with (fail)
          refine seg_end _ (by dsimp only [pick, at_]) ?_
          refine wpQuiet_nil (NoPanic.normal ?_)
          clear q5 q6 q7 q8 hk15 hf15
          go_wp2_with (fail)
          refine bodyPost_ret (results_none rfl _ _ _) rfl ?_
          have hol : (own L (o1, o2, o3)).length = i + 1 := by rw [own_len, HM.out]
          have hrow15 : Ow OE w15 w.heap.size (Rw3.val ⟨some ⟨w10.heap.size, 0, none⟩, c11, own L (o1, o2, o3)⟩) (own L (o1, o2, o3)).length (own L (o1, o2, o3)) := by
            unfold Rw3.val
            simp only
            rw [hol]
            exact HO15.out
          refine ⟨rfl, ⟨some ⟨w10.heap.size, 0, none⟩, c11, own L (o1, o2, o3)⟩, rfl, ?_, ?_, row_new (r := ⟨some ⟨w10.heap.size, 0, none⟩, c11, own L (o1, o2, o3)⟩) hrow15 (by show 0 < (own L (o1, o2, o3)).length; omega)⟩
          · have := HWP15.out.put HSA.out hkN ⟨some ⟨w10.heap.size, 0, none⟩, c11, own L (o1, o2, o3)⟩ (hrow15.base hBz)
            simp only [Rw3.val] at this
            rw [hol] at this
            exact this
          · exact ((Chg.of_below HBW.out).mono (S' := fun b => b = sb') (fun _ _ h => h.elim)).setCell (p := ⟨sb', k, none⟩) (fun _ => rfl) _
theorem own_x (w : World) (B pb sb : Nat) (v : PV) (h : WP w B pb v) (hsA : v.sA = some ⟨sb, 0, none⟩) (k : Nat) (r : Rw3) (hr : v.rs[k]? = some r) (hn : r.l.length ≤ 1000000) (o : O) :
    Calls Try.prog 32 #[.pointer (some ⟨pb, 0, none⟩), .int .i64 k, oV o] w (RetOwn w B pb k v sb (own r.l o)) :=
  (own_xf w B pb sb v h hsA k r hr hn o).mono fun _ _ ⟨e, r', h1, h2, h3, _⟩ => ⟨e, r', h1, h2, h3⟩
end Go.Proofs.Ytnpkhkhchimcnaa.pm
/-
  slices.DeleteFunc on a row of owners of the call's own: those of one node go.
-/
namespace Go.Proofs.Ytnpkhkhchimcnaa.pm
open Go.ChangeShapes Go.WideShapes Go.ChangeAt Go.RowKit Go.Shelf plain words ord mem

/-- where DeleteFunc stands: the first i of the row are what is kept of the first j *-/
structure Del {α : Type} (p : α → Bool) (l d : List α) (i j : Nat) : Prop where
  len : d.length = l.length
  lt : i < j
  le : j ≤ l.length
  low : d.take i = (l.take j).filter fun r => !p r
  high : d.drop j = l.drop j
theorem Del.start {α : Type} {p : α → Bool} {l : List α} {k : Nat} (hk : k < l.length) (h1 : p l[k] = true) (h : ∀ j (hj : j < k), p l[j] = false) : Del p l l k (k + 1) where
  len := rfl
  lt := by omega
  le := by omega
  low := by
    have e : (l.take k).filter (fun r => !p r) = l.take k := by
      refine List.filter_eq_self.2 fun r hr => ?_
      obtain ⟨j, hj, rfl⟩ := List.mem_iff_getElem.1 hr
      simp only [List.length_take] at hj
      rw [List.getElem_take, h j (by omega)]; rfl
    rw [List.take_succ_eq_append_getElem hk, List.filter_append, e]
    simp [h1]
  high := rfl
theorem Del.at_ {α : Type} {p : α → Bool} {l d : List α} {i j : Nat} (h : Del p l d i j) (hj : j < l.length) : d[j]'(by rw [h.len]; exact hj) = l[j] := by
  have := congrArg (fun x => x[0]?) h.high
  simp only [List.getElem?_drop, Nat.add_zero] at this
  rw [List.getElem?_eq_getElem hj, List.getElem?_eq_getElem (by rw [h.len]; exact hj)] at this
  injection this
theorem Del.keep {α : Type} {p : α → Bool} {l d : List α} {i j : Nat} (h : Del p l d i j) (hj : j < l.length) {x : α} (hx : l[j] = x) (hp : p x = false) : Del p l (d.set i x) (i + 1) (j + 1) where
  len := by rw [List.length_set]; exact h.len
  lt := by have := h.lt; omega
  le := by omega
  low := by
    have hi : i < d.length := by have := h.lt; rw [h.len]; omega
    have hi' : i < (d.set i x).length := by rw [List.length_set]; exact hi
    rw [List.take_succ_eq_append_getElem hi', List.take_set_of_le (Nat.le_refl _), h.low, List.take_succ_eq_append_getElem hj, List.filter_append, hx]
    simp [hp]
  high := by
    have := h.lt
    rw [List.drop_set_of_lt (by omega)]
    have e := congrArg (List.drop 1) h.high
    rw [List.drop_drop, List.drop_drop] at e
    exact e
theorem Del.skip {α : Type} {p : α → Bool} {l d : List α} {i j : Nat} (h : Del p l d i j) (hj : j < l.length) {x : α} (hx : l[j] = x) (hp : p x = true) : Del p l d i (j + 1) where
  len := h.len
  lt := by have := h.lt; omega
  le := by omega
  low := by
    rw [h.low, List.take_succ_eq_append_getElem hj, List.filter_append, hx]
    simp [hp]
  high := by
    have e := congrArg (List.drop 1) h.high
    rw [List.drop_drop, List.drop_drop] at e
    exact e
theorem Del.done {α : Type} {p : α → Bool} {l d : List α} {i : Nat} (h : Del p l d i l.length) : d.take i = l.filter fun r => !p r := by
  rw [h.low, List.take_of_length_le (Nat.le_refl _)]
theorem own_blk {w : World} {B k g n cap : Nat} {e : TypeId} {xs : List Value} (h : w.ownsRow B e k (.slice (some ⟨g, 0, none⟩) n cap) n xs) : ∃ cur, w.heap[g]? = some (.cells cur e (0, 0)) := by
  rcases h.2 with ⟨h0, _⟩ | ⟨g', cap', cur, h0, hb, hg, _⟩
  · cases h0
  · cases h0; exact ⟨cur, hg⟩
theorem cs_set3 (l : List O) (i : Nat) (x : O) : cs OE.enc (l.set i x) = (((cs OE.enc l).set (i * 3) (.int .i64 x.1)).set (i * 3 + 1) (.int .i64 x.2.1)).set (i * 3 + 2) (.int .i64 x.2.2) := by
  induction l generalizing i with
  | nil => simp [cs]
  | cons y l ih =>
    cases i with
    | zero => simp [cs, OE, oE]
    | succ i =>
      rw [List.set_cons_succ, cs_cons, cs_cons, ih, show (i + 1) * 3 = i * 3 + 3 from by omega]
      simp [OE, oE]
theorem own_seto {w : World} {B g n cap i : Nat} {l : List O} (h : Ow OE w B (.slice (some ⟨g, 0, none⟩) n cap) n l) (x : O) :
    Ow OE (((w.setCell ⟨g, i * 3, none⟩ (.int .i64 x.1)).setCell ⟨g, i * 3 + 1, none⟩ (.int .i64 x.2.1)).setCell ⟨g, i * 3 + 2, none⟩ (.int .i64 x.2.2)) B (.slice (some ⟨g, 0, none⟩) n cap) n (l.set i x) :=
  ⟨by rw [List.length_set]; exact h.1, by rw [cs_set3]; exact own_setc (own_setc (own_setc h.2 _) _) _⟩
theorem chg_set1 {w : World} {g j : Nat} (v : Value) : Chg (fun k => k = g) w (w.setCell ⟨g, j, none⟩ v) := (Chg.refl (fun k => k = g) w).setCell (p := ⟨g, j, none⟩) (fun _ => rfl) v
theorem own_cut {w : World} {B g n cap i : Nat} {l : List O} (h : Ow OE w B (.slice (some ⟨g, 0, none⟩) n cap) n l) (hi : i ≤ n) : Ow OE w B (.slice (some ⟨g, 0, none⟩) i cap) i (l.take i) := by
  refine ⟨by rw [List.length_take, h.1]; omega, ?_⟩
  rcases h.2.2 with ⟨h0, _⟩ | ⟨g', cap', cur, h0, hb, hg, h1, h2, h3, h4⟩
  · cases h0
  · cases h0
    refine ⟨by rw [cs_len OE.len, List.length_take, h.1]; show _ * 3 = _ * 3; omega, .inr ⟨g, cap, cur, rfl, hb, hg, by omega, h2, h3, ?_⟩⟩
    rw [← cs_take OE.len, ← h4, List.take_take, Nat.min_eq_left (Nat.mul_le_mul_right _ hi)]
theorem own_cells {B g cap i : Nat} {l : List O} (vs : List Value) (w : World) (o : Nat) (ho : i * 3 ≤ o) (h : Ow OE w B (.slice (some ⟨g, 0, none⟩) i cap) i l) :
    Ow OE (w.setCells g o vs) B (.slice (some ⟨g, 0, none⟩) i cap) i l ∧ Chg (fun k => k = g) w (w.setCells g o vs) := by
  induction vs generalizing w o with
  | nil => exact ⟨h, Chg.refl _ _⟩
  | cons v vs ih =>
    have h1 : Ow OE (w.setCell ⟨g, o, none⟩ v) B (.slice (some ⟨g, 0, none⟩) i cap) i l := by
      have := own_setc (j := o) h.2 v
      rw [List.set_eq_of_length_le (by rw [h.2.1]; exact ho)] at this
      exact ⟨h.1, this⟩
    have h2 : Chg (fun k => k = g) w (w.setCell ⟨g, o, none⟩ v) := chg_set1 v
    obtain ⟨h3, h4⟩ := ih (w.setCell ⟨g, o, none⟩ v) (o + 1) (by omega) h1
    exact ⟨h3, h2.trans h4 (fun _ _ e => e)⟩
theorem clear_x (w : World) (B g n i cap : Nat) (l : List O) (h : Ow OE w B (.slice (some ⟨g, 0, none⟩) n cap) n l) (hi : i < n) :
    ∃ zs : List Value, ∀ ty, (Builtin.clear_ #[42] ty #[.slice (some ⟨g, i * 3, none⟩) (n - i) (cap - i)]).run Try.prog w = .ok (.tuple #[]) (w.setCells g (i * 3) zs) := by
  obtain ⟨m, hm⟩ : ∃ m, n - i = m + 1 := ⟨n - i - 1, by omega⟩
  refine ⟨(Builtin.zeroCells (Value.agg #[.int .i64 0, .int .i64 0, .int .i64 0]).cells (m + 1)).toList, fun ty => ?_⟩
  obtain ⟨cur, hc⟩ := own_blk h.2
  have hsz : (Builtin.zeroCells (Value.agg #[.int .i64 0, .int .i64 0, .int .i64 0]).cells (m + 1)).toList.length = (n - i) * 3 := by
    simp [Builtin.zeroCells, hm, Value.cells]
  have hst := run_storeCells_cells (P := Try.prog) g (i * 3) (Builtin.zeroCells (Value.agg #[.int .i64 0, .int .i64 0, .int .i64 0]).cells (m + 1)).toList 0 w
    (fun j hj => by
      rw [hsz] at hj
      have hlt : i * 3 + 0 + j < n * 3 := by omega
      rw [h.2.cellAt _ hlt, List.getElem?_eq_getElem (by rw [h.2.1]; exact hlt)]; rfl)
    (fun j _ => frozen_of_row _ _ _ _ _ hc)
    (fun v hv => by
      simp only [Builtin.zeroCells, Array.toList_map, List.mem_map] at hv
      obtain ⟨q, _, rfl⟩ := hv
      have hq : q % 3 = 0 ∨ q % 3 = 1 ∨ q % 3 = 2 := by omega
      simp only [Value.cells, List.size_toArray, List.length_cons, List.length_nil, Nat.zero_add, Nat.reduceAdd]
      rcases hq with e | e | e <;> rw [e] <;> rfl)
  simp only [Nat.add_zero] at hst
  rw [hm]
  have hz := Try.zeroValue44
  simp [Builtin.clear_, run_underlying Try.underlying42, hz, hst]
/-- the first place at which a test of owners holds -/
def IxSpec (p : O → Bool) (l : List O) (z : Int) : Prop := (z = -1 ∧ ∀ (j : Nat) (x : O), l[j]? = some x → p x = false) ∨ ∃ k : Nat, z = k ∧ ∃ x, l[k]? = some x ∧ p x = true ∧ ∀ (j : Nat) (y : O), j < k → l[j]? = some y → p y = false
set_option maxHeartbeats 1000000 in
theorem indexO_x (w : World) (B n c : Nat) (A : Option Addr) (l : List O) (h : Ls OE w B A n l) (hB : B ≤ w.heap.size) (hn : n ≤ 9223372036854775807) (g : Nat) (lb : Array Value) (p : O → Bool)
    (eg : ∀ args w, (callFunc g args).run Try.prog w = .ok (.enter g args) w) (hp : Pred g lb p w) :
    Calls Try.prog 93 #[.slice A n c, .func (.func g) #[] lb] w fun e w' => (∃ z : Int, e = .returned (.int .i64 z) ∧ IxSpec p l z) ∧ Below w.heap.size w w' := by
  have HH := Lib.hid h
  have HP := Lib.hid hp
  have HL := Lib.hid h.1
  clear h hp
  go_enter Try.func93, Try.ntmps93
  go_wp2_with (fail)
  go_loopg [4, 5, 8] n (fun gg s4 s5 s8 wr => ∃ i : Nat, s8 = .int .i64 i ∧ i ≤ n ∧ n - i ≤ gg ∧ s4 = .int .i64 0 ∧ Aside (∀ (j : Nat) (y : O), j < i → l[j]? = some y → p y = false) ∧ Aside (Below w.heap.size w wr))
  case atStart => exact ⟨0, rfl, by omega, by omega, rfl, fun j y hj => by omega, Below.refl _ _⟩
  case round =>
    obtain ⟨i, rfl, hi, hg, rfl, HN, HB⟩ := hrel
    have hs := HB.out.size
    by_cases hlt : i < n
    · have hltz : (i : Int) < (n : Int) := by omega
      obtain ⟨x, hx⟩ := HH.out.get hlt
      obtain ⟨b, off, rfl, hb, l0, l1, l2⟩ := own_at (HH.out.below HB.out hB) hx
      have hbw : b < wr.heap.size := by omega
      have HC := Lib.hid (HP.out wr x HB.out)
      have HX := Lib.hid hx
      obtain ⟨x1, x2, x3⟩ := x
      simp only at l0 l1 l2
      clear hx
      go_wp2_with (fail)
      refine HC.out.mono ?_
      rintro e w2 ⟨rfl, hb2⟩
      have HB2 := Lib.hid (HB.out.trans (hb2.mono hs))
      clear hb2 HC
      cases hq : p (x1, x2, x3) with
      | true =>
        go_wp2_with (fail)
        go_ret
        exact ⟨⟨i, rfl, .inr ⟨i, rfl, (x1, x2, x3), HX.out, hq, HN.out⟩⟩, HB2.out⟩
      | false =>
        go_wp2_with (fail)
        go_roundg (n - (i + 1))
        case measure => omega
        case rel => exact ⟨i + 1, by go_num, by omega, by omega, rfl, below_step HX.out hq HN.out, HB2.out⟩
    · obtain rfl : i = n := by omega
      have hltz : ¬ (i : Int) < (i : Int) := by omega
      go_wp2_with (fail)
      go_ret
      refine ⟨⟨-1, rfl, .inl ⟨rfl, fun j x hx => HN.out j x ?_ hx⟩⟩, HB.out⟩
      have := (List.getElem?_eq_some_iff.1 hx).1
      rw [HL.out] at this; exact this
theorem disown1_x (W : World) (g : Nat) (n : Int) (o : O) (hg : g < W.heap.size) (hc : W.cell? ⟨g, 0, none⟩ = some (.int .i64 n)) :
    Calls Try.prog 78 #[oV o, .pointer (some ⟨g, 0, none⟩)] W fun e w' => e = .returned (.bool (o.1 == n)) ∧ Below W.heap.size W w' := by
  obtain ⟨o1, o2, o3⟩ := o
  go_enter Try.func78, Try.ntmps78
  go_wp2_with (fail)
  all_goals (go_ret; exact ⟨by simp_all, below_al _ _⟩)
/-- the row cut to the owners of other nodes -/
def RetDel (w : World) (B g cap : Nat) (l : List O) (e : Ending) (w' : World) : Prop :=
  ∃ m, e = .returned (.slice (some ⟨g, 0, none⟩) m cap) ∧ Ow OE w' B (.slice (some ⟨g, 0, none⟩) m cap) m l ∧ Chg (fun k => k = g) w w'
theorem chg3 {w : World} {g : Nat} {j0 j1 j2 : Nat} (v0 v1 v2 : Value) : Chg (fun k => k = g) w (((w.setCell ⟨g, j0, none⟩ v0).setCell ⟨g, j1, none⟩ v1).setCell ⟨g, j2, none⟩ v2) :=
  (((chg_set1 (g := g) (j := j0) v0).trans (chg_set1 v1) (fun _ _ e => e)).trans (chg_set1 v2) (fun _ _ e => e))
theorem Chg.quiet {g : Nat} {a b c : World} (h : Chg (fun k => k = g) a b) (k : Below b.heap.size b c) : Chg (fun k => k = g) a c := h.then_below k
set_option maxHeartbeats 2000000 in
theorem del_x (w : World) (B g n cap : Nat) (l : List O) (h : Ow OE w B (.slice (some ⟨g, 0, none⟩) n cap) n l) (hn : n ≤ 1000000) (nb : Nat) (x0 : Int) (hnb : nb < w.heap.size) (hne : nb ≠ g) (hcx : w.cell? ⟨nb, 0, none⟩ = some (.int .i64 x0)) :
    Calls Try.prog 77 #[.slice (some ⟨g, 0, none⟩) n cap, .func (.func 78) #[] #[.pointer (some ⟨nb, 0, none⟩)]] w (RetDel w B g cap (disown l x0)) := by
  have eg : ∀ args w, (callFunc 78 args).run Try.prog w = .ok (.enter 78 args) w := enters_of Try.func78 (by kernel_rfl) rfl
  have hix := indexO_x w w.heap.size n cap (some ⟨g, 0, none⟩) l h.ls (Nat.le_refl _) (by omega) 78 #[.pointer (some ⟨nb, 0, none⟩)] (byNode x0) eg
    (fun W o hW => disown1_x W nb x0 o (by have := hW.size; omega) ((hW.cell (p := ⟨nb, 0, none⟩) hnb).trans hcx))
  have hl := h.1
  have hg : g < w.heap.size := own_lt h.2 rfl
  obtain ⟨_, c0, hce, _, hcap1, hcap2⟩ := h.form
  cases hce
  have HO := Lib.hid h
  have HIX := Lib.hid hix
  have HL := Lib.hid hl
  have HCX := Lib.hid hcx
  have hdis : disown l x0 = l.filter fun o => !(byNode x0 o) := rfl
  have HDS := Lib.hid hdis
  clear h hix hl hcx hdis
  go_enter Try.func77, Try.ntmps77
  go_wp2_with (fail)
  refine HIX.out.mono ?_
  rintro e w1 ⟨⟨z, rfl, hz⟩, hb1⟩
  have HC1 := Lib.hid (show Chg (fun k => k = g) w w1 from (Chg.of_below hb1).mono (fun _ _ e => e.elim))
  have HO1 := Lib.hid (HO.out.below hb1 (Nat.le_refl _))
  have hs1 := hb1.size
  clear hb1 HO HIX
  rcases hz with ⟨rfl, hall⟩ | ⟨k0, rfl, x, hx, ht, hall⟩
  · have HF := Lib.hid (show disown l x0 = l from by
      rw [HDS.out]
      exact List.filter_eq_self.2 fun r hr => by
        obtain ⟨j, hj, rfl⟩ := List.mem_iff_getElem.1 hr
        rw [hall j _ (List.getElem?_eq_getElem hj)]; rfl)
    clear hall
    go_wp2_with (fail)
    go_ret
    exact ⟨n, rfl, by rw [HF.out]; exact HO1.out, HC1.out⟩
  · obtain ⟨hk0, hxe⟩ := List.getElem?_eq_some_iff.1 hx
    have HD := Lib.hid (Del.start (p := byNode x0) hk0 (by rw [hxe]; exact ht) (fun j hj => hall j _ hj (List.getElem?_eq_getElem (by omega))))
    have hk1 : k0 < n := by rw [← HL.out]; exact hk0
    have hne0 : ((k0 : Int) == -1) = false := by simp
    clear hx hxe ht hall hk0
    go_wp2_with (fail)
    go_loopg [5, 6, 7] n (fun gg s5 s6 s7 wr => ∃ (i j : Nat) (d : List O), s5 = .int .i64 i ∧ s6 = .int .i64 j ∧ j ≤ n ∧ n - j ≤ gg ∧ Aside (Del (byNode x0) l d i j) ∧ Aside (Ow OE wr B (.slice (some ⟨g, 0, none⟩) n cap) n d) ∧ Aside (Chg (fun k => k = g) w wr) ∧ w.heap.size ≤ wr.heap.size)
    case atStart => exact ⟨k0, k0 + 1, l, rfl, by go_num, by omega, by omega, HD.out, HO1.out, HC1.out, hs1⟩
    case round =>
      obtain ⟨i, j, d, rfl, rfl, hj, hg2, D, OW, CW, hsw⟩ := hrel
      clear HD HO1 HC1
      have hij := D.out.lt
      by_cases hlt : j < n
      · have hltz : (j : Int) < (n : Int) := by omega
        have hjl : j < l.length := by rw [HL.out]; exact hlt
        have hdx := D.out.at_ hjl
        obtain ⟨⟨x1, x2, x3⟩, hx⟩ : ∃ x, l[j] = x := ⟨_, rfl⟩
        have hdj : d[j]? = some (x1, x2, x3) := by rw [List.getElem?_eq_getElem (by rw [D.out.len]; exact hjl), hdx, hx]
        obtain ⟨b, off, hbe, hb, l0, l1, l2⟩ := own_at OW.out.ls hdj
        cases hbe
        simp only [Nat.zero_add] at l0 l1 l2
        have HX := Lib.hid hx
        have HJL := Lib.hid hjl
        obtain ⟨wb, hwb⟩ : ∃ wb, wr.alloc (.cells #[.int .i64 x1, .int .i64 x2, .int .i64 x3] 44) = wb := ⟨_, rfl⟩
        have hbb : Below wr.heap.size wr wb := by rw [← hwb]; exact below_al _ _
        have gx : IsV3 44 wb wr.heap.size (.int .i64 x1) (.int .i64 x2) (.int .i64 x3) := by rw [← hwb]; exact alloc_new _ _
        have hsb : wr.heap.size < wb.heap.size := blk_lt gx
        have hnc : wr.cell? ⟨nb, 0, none⟩ = some (.int .i64 x0) := by
          have e : wr.cell? ⟨nb, 0, none⟩ = w.cell? ⟨nb, 0, none⟩ := by simp only [World.cell?, CW.out.block nb hnb hne]
          rw [e]; exact HCX.out
        have HC := Lib.hid (disown1_x wb nb x0 (x1, x2, x3) (by omega) ((hbb.cell (p := ⟨nb, 0, none⟩) (show nb < wr.heap.size by omega)).trans hnc))
        have HBB := Lib.hid hbb
        have GX := Lib.hid gx
        have HWB := Lib.hid hwb
        have HSW := Lib.hid hsw
        clear hbb gx hwb hdx hdj hx hnc
        go_wp2_with (fail)
        rw [HWB.out]
        refine HC.out.mono ?_
        rintro e w2 ⟨rfl, hb2⟩
        have hs2 := hb2.size
        have HB2 := Lib.hid (HBB.out.trans (hb2.mono (by omega)))
        have gx2 := blk_below hb2 GX.out hsb
        have OW2 := Lib.hid (OW.out.below HB2.out (Nat.le_refl _))
        obtain ⟨⟨d0, d1, d2⟩, _⟩ := isv3_cells gx2
        obtain ⟨cur, hcur⟩ := own_blk OW2.out.2
        have f0 : w2.frozen? ⟨g, i * 3, none⟩ = false := frozen_of_row _ _ _ _ _ hcur
        have f1 : w2.frozen? ⟨g, i * 3 + 1, none⟩ = false := frozen_of_row _ _ _ _ _ hcur
        have f2 : w2.frozen? ⟨g, i * 3 + 2, none⟩ = false := frozen_of_row _ _ _ _ _ hcur
        obtain ⟨y, hy⟩ := OW2.out.ls.get (show i < n by omega)
        obtain ⟨_, _, hbe, _, n0, n1, n2⟩ := own_at OW2.out.ls hy
        cases hbe
        simp only [Nat.zero_add] at n0 n1 n2
        obtain ⟨y1, y2, y3⟩ := y
        simp only at n0 n1 n2
        have hin : (i : Int) < (n : Int) := by omega
        have hlw2 : wr.heap.size < w2.heap.size := by omega
        have hgw2 : g < w2.heap.size := blk_lt hcur
        have CW2 := Lib.hid (CW.out.then_below HB2.out)
        clear hb2 gx2 hcur hy HC HWB l0 l1 l2
        cases hq : x1 == x0 with
        | true =>
          go_wp2_with (fail)
          go_roundg (n - (j + 1))
          case measure => omega
          case rel => exact ⟨i, j + 1, d, rfl, by go_num, by omega, by omega, D.out.skip HJL.out HX.out hq, OW2.out, CW2.out, by have := HSW.out; omega⟩
        | false =>
          go_wp2_with (fail)
          go_roundg (n - (j + 1))
          case measure => omega
          case rel => exact ⟨i + 1, j + 1, d.set i (x1, x2, x3), by go_num, by go_num, by omega, by omega, D.out.keep HJL.out HX.out hq, own_seto OW2.out (x1, x2, x3), CW2.out.trans (chg3 _ _ _) (fun _ _ e => e), by have := HSW.out; simp [World.setCell]; omega⟩
      · obtain rfl : j = n := by omega
        have hltz : ¬ (j : Int) < (j : Int) := by omega
        have hlt' : (i : Int) < (j : Int) := by omega
        obtain ⟨zs, hcl⟩ := clear_x wr B g j i cap d OW.out hij
        have hi1 : (i : Int) ≤ (j : Int) := by omega
        have hi2 : (i : Int) ≤ (cap : Int) := by omega
        have hne2 : cap ≠ i := by omega
        clear hlt'
        go_wp2_with (fail)
        go_ret
        obtain ⟨h1, h2⟩ := own_cells zs wr (i * 3) (Nat.le_refl _) (own_cut OW.out (by omega))
        have e := (show Del (byNode x0) l d i l.length from by rw [HL.out]; exact D.out).done
        refine ⟨i, rfl, ?_, CW.out.trans h2 (fun _ _ e => e)⟩
        rw [HDS.out, ← e]
        exact h1
end Go.Proofs.Ytnpkhkhchimcnaa.pm
