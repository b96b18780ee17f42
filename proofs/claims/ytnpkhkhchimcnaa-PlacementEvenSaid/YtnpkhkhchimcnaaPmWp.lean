/-
  A placement in a variable, all of it the call's own.
-/
import Derived.Test.YtnpkhkhchimcnaaPmSet
import Derived.Test.YtnpkhkhchimcnaaAppNew
namespace Go.Proofs.Ytnpkhkhchimcnaa.pm
open Go.ChangeShapes Go.WideShapes Go.ChangeAt Go.RowKit Go.Shelf plain words ord mem

theorem app_new_o {w : World} {ops : Array Oper} {rest : List Oper} {o : Oper} {a : Act} {Q : Exit → Act → World → Prop} (hgd : o.guard = none) (s x : Operand) (ho : o.op = .call { callee := .builtin .append, args := #[s, x], argTypes := #[42, 42] })
    (B0 : Nat) (A0 : Option Addr) (n c0 : Nat) (hA0 : A0 = none → c0 = 0) (l : List O) (hs : a.eval s = .slice A0 n c0) (hr0 : Ls OE w B0 A0 n l)
    (B : Nat) (A : Option Addr) (m c : Nat) (news : List O) (hx : a.eval x = .slice A m c) (hr : Ls OE w B A m news) (hm : 0 < m) (hcap : c0 < n + m)
    (hn : n + m ≤ 1099511627776)
    (h : ∀ c' w', Ow OE w' w.heap.size (.slice (some ⟨w.heap.size, 0, none⟩) (n + m) c') (n + m) (l ++ news) → Below w.heap.size w w' → w.heap.size < w'.heap.size → wpList Try.prog ops Q rest (a.put o.dst (.slice (some ⟨w.heap.size, 0, none⟩) (n + m) c')) w') : wpList Try.prog ops Q (o :: rest) a w := by
  obtain ⟨i0, hi, hz0, hz1, hz2⟩ := info_of infoO
  exact wpList_append_new OE (P := Try.prog) Try.underlying42 hi hz0 hz1 hz2 rfl (by decide) hgd s x ho B0 A0 n c0 hA0 l hs hr0 B A m c news hx hr hm hcap hn h
/-- a row of owners of the call's own, read as one -/
theorem Ow.rwok {w : World} {B n : Nat} {v : Value} {r : Rw3} (h : Ow OE w B v n r.l) (hv : v = r.val) (hn : r.l.length = n) : RwOk w w.heap.size r := by
  subst hv hn
  obtain ⟨A, c, he, h1, h2, h3⟩ := h.form
  have h' : Ow OE w B (.slice r.A r.l.length r.c) r.l.length r.l := h
  cases he
  exact ⟨h'.ls, h2, h3, h1⟩
structure WP (w : World) (B pb : Nat) (v : PV) : Prop where
  le : B ≤ pb
  var : Boxed w pb v
  n : Ow NE w B (.slice v.nA v.nodes.length v.nc) v.nodes.length v.nodes
  s : Ow SE w B (.slice v.sA v.rs.length v.sc) v.rs.length v.rs
  each : ∀ r ∈ v.rs, Ow OE w B r.val r.l.length r.l
theorem WP.lt {w : World} {B pb : Nat} {v : PV} (h : WP w B pb v) : pb < w.heap.size := blk_lt h.var
theorem WP.ok {w : World} {B pb : Nat} {v : PV} (h : WP w B pb v) : PVok w w.heap.size v := by
  obtain ⟨_, _, he, h1, h2, h3⟩ := h.n.form
  cases he
  obtain ⟨_, _, he, k1, k2, k3⟩ := h.s.form
  cases he
  exact ⟨h.n.ls, h2, h3, h1, ⟨h.s.ls, fun r hr => Ow.rwok (h.each r hr) rfl rfl⟩, k2, k3, k1⟩
theorem WP.below {w w' : World} {B pb C : Nat} {v : PV} (h : WP w B pb v) (hb : Below C w w') (hC : w.heap.size ≤ C) : WP w' B pb v :=
  ⟨h.le, blk_below hb h.var (Nat.lt_of_lt_of_le h.lt hC), h.n.below hb hC, h.s.below hb hC, fun r hr => (h.each r hr).below hb hC⟩
theorem WP.drew {w : World} {B pb : Nat} {v : PV} (h : WP w B pb v) : WP w.drew B pb v := h.below (Below.refl _ w).drew (Nat.le_refl _)
theorem ow_other {α : Type} {E : El α} {w w' : World} {B n g : Nat} {v : Value} {l : List α} {cur : Array Value} {e : TypeId} (h : Ow E w B v n l) (hc : Chg (fun k => k = g) w w') (hg : w.heap[g]? = some (.cells cur e (0, 0))) (hne : E.e ≠ e) : Ow E w' B v n l :=
  h.chg hc fun k hk he => by
    obtain ⟨c, hcur⟩ := h.type hk
    exact blk_type hcur hg hne he
/-- the row of slices' block -/
theorem WP.srow {w : World} {B pb i : Nat} {v : PV} (h : WP w B pb v) (hi : i < v.rs.length) : ∃ sb cur, v.sA = some ⟨sb, 0, none⟩ ∧ B ≤ sb ∧ sb < w.heap.size ∧ w.heap[sb]? = some (.cells cur 42 (0, 0)) ∧ sb ≠ pb := by
  obtain ⟨sb, c, he, h1, h2, _⟩ := h.s.some_ (by omega)
  have hsA : v.sA = some ⟨sb, 0, none⟩ := (Value.slice.inj he).1
  have hs := h.s
  rw [hsA] at hs
  obtain ⟨cur, hcur⟩ := hs.type rfl
  refine ⟨sb, cur, hsA, h1, h2, hcur, fun e => ?_⟩
  have hv := h.var
  exact blk_type hcur hv (by decide) e
theorem ow_set1 {w : World} {B g n c i : Nat} {rs : List Rw3} (h : Ow SE w B (.slice (some ⟨g, 0, none⟩) n c) n rs) (r : Rw3) : Ow SE (w.setCell ⟨g, i, none⟩ r.val) B (.slice (some ⟨g, 0, none⟩) n c) n (rs.set i r) := by
  refine ⟨by rw [List.length_set]; exact h.1, ?_⟩
  have e : cs SE.enc (rs.set i r) = (cs SE.enc rs).set i r.val := by
    have : ∀ l : List Rw3, cs SE.enc l = l.map Rw3.val := fun l => by
      induction l with
      | nil => rfl
      | cons x l ih => rw [cs_cons, ih]; rfl
    rw [this, this, List.map_set]
  rw [e]
  exact own_setc h.2 r.val
/-- one row laid in its place -/
theorem WP.put {w : World} {B pb sb i : Nat} {v : PV} (h : WP w B pb v) (hsA : v.sA = some ⟨sb, 0, none⟩) (hi : i < v.rs.length) (r : Rw3) (hr : Ow OE w B r.val r.l.length r.l) :
    WP (w.setCell ⟨sb, i, none⟩ r.val) B pb { v with rs := v.rs.set i r } := by
  obtain ⟨sb', cur, hsA', hB, hlt, hcur, hne⟩ := h.srow hi
  obtain rfl : sb' = sb := by rw [hsA'] at hsA; cases hsA; rfl
  have hc : Chg (fun k => k = sb') w (w.setCell ⟨sb', i, none⟩ r.val) := (Chg.refl (fun k => k = sb') w).setCell (p := ⟨sb', i, none⟩) (fun _ => rfl) _
  have hs := h.s
  rw [hsA'] at hs
  refine ⟨h.le, ?_, ow_other h.n hc hcur (by decide), ?_, fun q hq => ?_⟩
  · have := hc.blk h.var (fun e => hne e.symm)
    simp only [Boxed, IsV3, List.length_set] at this ⊢
    exact this
  · simp only [List.length_set, hsA']
    exact ow_set1 hs r
  · rcases List.mem_or_eq_of_mem_set hq with hq | rfl
    · exact ow_other (h.each q hq) hc hcur (by decide)
    · exact ow_other hr hc hcur (by decide)
/-- what laying an owner leaves -/
def RetOwn (w : World) (B pb k : Nat) (v : PV) (sb : Nat) (l : List O) (e : Ending) (w' : World) : Prop :=
  e = .returned (.tuple #[]) ∧ ∃ r' : Rw3, r'.l = l ∧ WP w' B pb { v with rs := v.rs.set k r' } ∧ Chg (fun b => b = sb) w w'
set_option maxHeartbeats 2000000 in
theorem own_x (w : World) (B pb sb : Nat) (v : PV) (h : WP w B pb v) (hsA : v.sA = some ⟨sb, 0, none⟩) (k : Nat) (r : Rw3) (hr : v.rs[k]? = some r) (hn : r.l.length ≤ 1000000) (o : O) :
    Calls Try.prog 32 #[.pointer (some ⟨pb, 0, none⟩), .int .i64 k, oV o] w (RetOwn w B pb k v sb (own r.l o)) := by
  obtain ⟨o1, o2, o3⟩ := o
  have hkN : k < v.rs.length := (List.getElem?_eq_some_iff.1 hr).1
  have hrow := h.each r (List.mem_of_getElem? hr)
  have hrok := Ow.rwok hrow rfl rfl
  obtain ⟨sb', cur, hsA', hBs, hsl, hcur, hne⟩ := h.srow hkN
  obtain rfl : sb' = sb := by rw [hsA'] at hsA; cases hsA; rfl
  have hcell : w.cell? ⟨sb', k, none⟩ = some r.val := by
    obtain ⟨b, off, e1, _, e2, _⟩ := h.ok.s.at_ hr
    rw [hsA] at e1; cases e1
    simpa using e2
  obtain ⟨⟨c0, c1, c2⟩, _⟩ := isv3_cells h.var
  obtain ⟨wa, hwa⟩ : ∃ wa, w.alloc (.cells #[.int .i64 o1, .int .i64 o2, .int .i64 o3] 44) = wa := ⟨_, rfl⟩
  have hba : Below w.heap.size w wa := by rw [← hwa]; exact below_al _ _
  have gp : IsV3 44 wa w.heap.size (.int .i64 o1) (.int .i64 o2) (.int .i64 o3) := by rw [← hwa]; exact alloc_new _ _
  have hsa : w.heap.size < wa.heap.size := blk_lt gp
  have hpl := h.lt
  obtain ⟨A, c, L⟩ := r
  have hc1 := hrok.cap
  have hc2 := hrok.most
  have hc3 := hrok.nil
  have hls := hrok.ls
  simp only [Rw3.val] at hcell hrow hn hc1 hc2 hc3 hls ⊢
  obtain ⟨m, hm⟩ : ∃ m, L.length = m := ⟨_, rfl⟩
  rw [hm] at hcell hrow hn hc1 hls
  have hc0 : wa.cell? ⟨pb, 2, none⟩ = some (.slice v.sA v.rs.length v.sc) := (hba.cell (p := ⟨pb, 2, none⟩) hpl).trans c2
  rw [hsA] at hc0 c2
  have hcw : wa.cell? ⟨sb', k, none⟩ = some (.slice A m c) := (hba.cell (p := ⟨sb', k, none⟩) hsl).trans hcell
  have HWP := Lib.hid h
  have HROW := Lib.hid hrow
  have HLS := Lib.hid hls
  have HWA := Lib.hid hwa
  have HBA := Lib.hid hba
  have GP := Lib.hid gp
  have HM := Lib.hid hm
  have HC3 := Lib.hid hc3
  have HSA := Lib.hid hsA
  have hkz : (k : Int) < (v.rs.length : Int) := by omega
  clear h hrow hrok hls hwa hba gp hm hc3 hsA hsA' hr c0 c1 hcur
  go_enter Try.func32, Try.ntmps32
  have HCP := Lib.hid (fun (u : World) (hu : Below w.heap.size w u) => (hu.cell (p := ⟨pb, 2, none⟩) hpl).trans c2)
  go_wp2_with (fail)
  rw [HWA.out]
  go_loopg [7] m (fun gg s7 wr => ∃ i : Nat, s7 = .int .i64 i ∧ i ≤ m ∧ m - i ≤ gg ∧ Aside (∀ (j : Nat) (y : O), j < i → L[j]? = some y → y.1 < o1) ∧ Aside (Below w.heap.size w wr) ∧ Aside (IsV3 44 wr w.heap.size (.int .i64 o1) (.int .i64 o2) (.int .i64 o3)))
  case atStart => exact ⟨0, rfl, by omega, by omega, fun j y hj => by omega, HBA.out, GP.out⟩
  case round =>
    obtain ⟨i, rfl, hi, hg, HU, HB2, HV2⟩ := hrel
    clear HBA GP
    have hs2 := HB2.out.size
    have hpw : w.heap.size < wr.heap.size := blk_lt HV2.out
    obtain ⟨⟨d0, _, _⟩, _⟩ := isv3_cells HV2.out
    have q0 := Wb.at_ d0
    by_cases hlt : i < m
    · obtain ⟨g, hAg, hBg, hgl⟩ : ∃ g, A = some ⟨g, 0, none⟩ ∧ B ≤ g ∧ g < w.heap.size := by
        obtain ⟨g, cap, e, e1, e2, _⟩ := HROW.out.some_ (show 0 < m by omega)
        exact ⟨g, (Value.slice.inj e).1, e1, e2⟩
      subst hAg
      have hltz : (i : Int) < (m : Int) := by omega
      have t0 : decide ((i : Int) < (m : Int)) = true := decide_eq_true hltz
      obtain ⟨x, hx⟩ := HLS.out.get hlt
      obtain ⟨b, off, he, hb, l0, _, _⟩ := own_at (HLS.out.below HB2.out (Nat.le_refl _)) hx
      cases he
      simp only [Nat.zero_add] at l0
      have q1 := Wb.at_ l0
      have HX := Lib.hid hx
      obtain ⟨x1, x2, x3⟩ := x
      simp only at l0 q1
      clear hx
      by_cases hq : x1 < o1
      · have t1 : decide (x1 < o1) = true := decide_eq_true hq
        have HU2 := Lib.hid (below_pos HX.out hq HU.out)
        go_wp2_with (fail)
        refine wp_region_plan [([0, 1, 2, 3, 4, 5, 6, 7, 8, 9, 10, 11, 12, 13], none)] (by kernel_rfl) (by kernel_rfl) ?_
        refine seg_end _ (by dsimp only [pick, at_]) ?_
        repeat (go_big_quiet_step (fail))
        refine wpQuiet_nil ?_
        refine NoPanic.normal ?_
        clear q0 q1 d0 l0
        go_wp2_with (fail)
        go_roundg (m - (i + 1))
        case measure => omega
        case rel => exact ⟨i + 1, by go_num, by omega, by omega, HU2.out, HB2.out.drew, HV2.out⟩
      · have t1 : decide (x1 < o1) = false := decide_eq_false hq
        have hci : ¬ c = i := by omega
        have HP := Lib.hid (show pos L o1 = i from pos_of (by have := HM.out; omega) HU.out (fun y hy => by have e := HX.out; rw [hy] at e; cases e; exact hq))
        go_wp2_with (fail)
        refine wp_region_plan [([0, 1, 2, 3, 4, 5, 6, 7, 8, 9, 10, 11, 12, 13], none)] (by kernel_rfl) (by kernel_rfl) ?_
        refine seg_end _ (by dsimp only [pick, at_]) ?_
        repeat (go_big_quiet_step (fail))
        refine wpQuiet_nil ?_
        refine NoPanic.normal ?_
        clear q0 q1 d0 l0
        go_wp2_with (fail)
        obtain ⟨wx, hwx⟩ : ∃ wx, wr.drew = wx := ⟨_, rfl⟩
        have HVX := Lib.hid (show IsV3 44 wx w.heap.size (.int .i64 o1) (.int .i64 o2) (.int .i64 o3) by rw [← hwx]; exact HV2.out)
        have HBX := Lib.hid (show Below w.heap.size w wx by rw [← hwx]; exact HB2.out.drew)
        rw [hwx]
        clear hwx
        have hsx := HBX.out.size
        have hpx : w.heap.size < wx.heap.size := blk_lt HVX.out
        have q5 := Wb.at_ (HCP.out wx HBX.out)
        have q6 := Wb.at_ (isv3_cells HVX.out).1.1
        have q7 := Wb.at_ (isv3_cells HVX.out).1.2.1
        have q8 := Wb.at_ (isv3_cells HVX.out).1.2.2
        have i1 : (0 : Int) ≤ (i : Int) := by omega
        have i2 : (i : Int) ≤ (c : Int) := by omega
        have i3 : (i : Int) ≤ (m : Int) := by omega
        have i4 : (m : Int) ≤ (c : Int) := by omega
        refine wp_region_plan [([0, 1, 2, 3, 4, 5, 6, 7, 8, 9, 12, 13, 14], some (10, false)), ([], some (11, false)), ([], some (15, false)), ([16], some (17, true)), ([], none)] (by kernel_rfl) (by kernel_rfl) ?_
        refine seg_act _ (by dsimp only [pick, at_]) _ (by dsimp only [pick, at_]) ?_
        repeat (go_big_quiet_step (fail))
        refine wpQuiet_nil ?_
        intro K h1 h2
        clear h2
        go_wp2_with (fail)
        refine h1 _ _ ((below_al wx _).drew) ?_
        clear h1
        obtain ⟨w10, hw10⟩ : ∃ w10, (wx.alloc (.cells #[.int .i64 o1, .int .i64 o2, .int .i64 o3] 44)).drew = w10 := ⟨_, rfl⟩
        have HB10 := Lib.hid (show Below wx.heap.size wx w10 by rw [← hw10]; exact (below_al wx _).drew)
        have H9 := Lib.hid (show Ls OE w10 (wx.heap.size + 1) (some ⟨wx.heap.size, 0, none⟩) 1 [(o1, o2, o3)] by rw [← hw10]; exact (ls_new (E := OE) (w := wx) 44 ((o1, o2, o3) : O)).drew)
        rw [hw10]
        clear hw10
        have hs10 := HB10.out.size
        have HLI := Lib.hid ((HLS.out.below (HBX.out.trans (HB10.out.mono hsx)) (Nat.le_refl _)).take hi)
        refine seg_act _ (by dsimp only [pick, at_]) _ (by dsimp only [pick, at_]) ?_
        repeat (go_big_quiet_step (fail))
        refine wpQuiet_nil ?_
        intro K h1 h2
        clear h2
        go_wp2_with (at_builtin; refine app_new_o rfl (.tmp 39) (.tmp 41) rfl w.heap.size (some ⟨g, 0, none⟩) i i (fun e => by cases e) (L.take i) rfl HLI.out (wx.heap.size + 1) (some ⟨wx.heap.size, 0, none⟩) 1 1 [(o1, o2, o3)] (by rfl) H9.out (by omega) (by omega) (by omega) ?_; intro c11 w11 hown11 hb11 hs11; obtain ⟨_, _, he11, _, hc11a, hc11b⟩ := hown11.form; cases he11; have HO11 := Lib.hid hown11; have HB11 := Lib.hid (HB10.out.trans (hb11.mono hs10)); clear hown11 hb11)
        refine h1 _ _ HB11.out ?_
        clear h1
        have hs11b := HB11.out.size
        have HL11 := Lib.hid ((ls_rest2 (HLS.out.below (HBX.out.trans (HB11.out.mono hsx)) (Nat.le_refl _)) hi hc1).2 hci)
        refine seg_act _ (by dsimp only [pick, at_]) _ (by dsimp only [pick, at_]) ?_
        repeat (go_big_quiet_step (fail))
        refine wpQuiet_nil ?_
        intro K h1 h2
        clear h2
        go_wp2_with (at_builtin; refine app_o rfl (.tmp 42) (.tmp 45) rfl w10.heap.size _ (i + 1) (L.take i ++ [(o1, o2, o3)]) rfl HO11.out _ (some ⟨g, i * 3, none⟩) (m - i) (c - i) (fun e => by cases e) (L.drop i) (by rfl) HL11.out (by omega) (by omega) ?_; intro A15 c15 w15 hown15 hg15 _ h15a h15b hs15; have HB15 := Lib.hid (own_below HB11.out (HO11.out.base hs10).2 (by omega) hg15); have HO15 := Lib.hid (show Ow OE w15 B (.slice A15 (m + 1) c15) (m + 1) (own L (o1, o2, o3)) by have e1 : i + 1 + (m - i) = m + 1 := (by omega); have e2 : L.take i ++ [(o1, o2, o3)] ++ L.drop i = own L (o1, o2, o3) := (by simp [own, HP.out]); rw [e1, e2] at hown15; exact hown15.base (by have := HWP.out.le; omega)); clear hown15 hg15)
        refine h1 _ _ HB15.out ?_
        clear h1
        have e15 : i + 1 + (m - i) = m + 1 := by omega
        rw [e15]
        have HBW := Lib.hid (HBX.out.trans (HB15.out.mono hsx))
        have HWP15 := Lib.hid (HWP.out.below HBW.out (Nat.le_refl _))
        have hk15 : w15.cell? ⟨sb', k, none⟩ = some (.slice (some ⟨g, 0, none⟩) m c) := (HBW.out.cell (p := ⟨sb', k, none⟩) hsl).trans hcell
        have hf15 : w15.frozen? ⟨sb', k, none⟩ = false := by
          obtain ⟨_, cur2, e2, _, _, hcur2, _⟩ := HWP15.out.srow hkN
          have e3 := HSA.out
          rw [e2] at e3; cases e3
          exact frozen_of_row _ _ _ _ _ hcur2
        refine seg_write _ (by dsimp only [pick, at_]) _ (by dsimp only [pick, at_]) ?_
        repeat (go_big_quiet_step (fail))
        refine wpQuiet_nil ?_
        intro K4 h4
        go_wp2_with (fail)
        refine seg_end _ (by dsimp only [pick, at_]) ?_
        refine wpQuiet_nil (NoPanic.normal ?_)
        clear q5 q6 q7 q8 hk15 hf15
        go_wp2_with (fail)
        refine bodyPost_ret (results_none rfl _ _ _) rfl ?_
        have hol : (own L (o1, o2, o3)).length = m + 1 := by rw [own_len, HM.out]
        have hrow15 : Ow OE w15 B (Rw3.val ⟨A15, c15, own L (o1, o2, o3)⟩) (own L (o1, o2, o3)).length (own L (o1, o2, o3)) := by
          unfold Rw3.val
          simp only
          rw [hol]
          exact HO15.out
        refine ⟨rfl, ⟨A15, c15, own L (o1, o2, o3)⟩, rfl, ?_, ?_⟩
        · have := HWP15.out.put HSA.out hkN ⟨A15, c15, own L (o1, o2, o3)⟩ hrow15
          simp only [Rw3.val] at this
          rw [hol] at this
          exact this
        · exact ((Chg.of_below HBW.out).mono (S' := fun b => b = sb') (fun _ _ h => h.elim)).setCell (p := ⟨sb', k, none⟩) (fun _ => rfl) _
    · obtain rfl : i = m := by omega
      have hltz : ¬ (i : Int) < (i : Int) := by omega
      have t0 : decide ((i : Int) < (i : Int)) = false := decide_eq_false hltz
      have HP := Lib.hid (show pos L o1 = i from pos_of (by have := HM.out; omega) HU.out (fun y hy => by have := HM.out; rw [List.getElem?_eq_none (by omega)] at hy; cases hy))
      go_wp2_with (fail)
      refine wp_region_plan [([0, 1, 2, 3, 4, 5, 6, 7, 8, 9, 10, 11, 12, 13], none)] (by kernel_rfl) (by kernel_rfl) ?_
      refine seg_end _ (by dsimp only [pick, at_]) ?_
      repeat (go_big_quiet_step (fail))
      refine wpQuiet_nil ?_
      refine NoPanic.normal ?_
      clear q0 d0
      by_cases hA : A = none
      · subst hA
        obtain rfl : c = 0 := HC3.out rfl
        obtain rfl : i = 0 := by omega
        go_wp2_with (fail)
        obtain ⟨wx, hwx⟩ : ∃ wx, wr.drew = wx := ⟨_, rfl⟩
        have HVX := Lib.hid (show IsV3 44 wx w.heap.size (.int .i64 o1) (.int .i64 o2) (.int .i64 o3) by rw [← hwx]; exact HV2.out)
        have HBX := Lib.hid (show Below w.heap.size w wx by rw [← hwx]; exact HB2.out.drew)
        rw [hwx]
        clear hwx
        have hsx := HBX.out.size
        have hpx : w.heap.size < wx.heap.size := blk_lt HVX.out
        have q5 := Wb.at_ (HCP.out wx HBX.out)
        have q6 := Wb.at_ (isv3_cells HVX.out).1.1
        have q7 := Wb.at_ (isv3_cells HVX.out).1.2.1
        have q8 := Wb.at_ (isv3_cells HVX.out).1.2.2
        have i1 : (0 : Int) ≤ (0 : Int) := by omega
        have i2 : (0 : Int) ≤ (0 : Int) := by omega
        have i3 : (0 : Int) ≤ (0 : Int) := by omega
        have i4 : (0 : Int) ≤ (0 : Int) := by omega
        refine wp_region_plan [([0, 1, 2, 3, 4, 5, 6, 7, 8, 9, 12, 13, 14], some (10, false)), ([], some (11, false)), ([], some (15, false)), ([16], some (17, true)), ([], none)] (by kernel_rfl) (by kernel_rfl) ?_
        refine seg_act _ (by dsimp only [pick, at_]) _ (by dsimp only [pick, at_]) ?_
        repeat (go_big_quiet_step (fail))
        refine wpQuiet_nil ?_
        intro K h1 h2
        clear h2
        go_wp2_with (fail)
        refine h1 _ _ ((below_al wx _).drew) ?_
        clear h1
        obtain ⟨w10, hw10⟩ : ∃ w10, (wx.alloc (.cells #[.int .i64 o1, .int .i64 o2, .int .i64 o3] 44)).drew = w10 := ⟨_, rfl⟩
        have HB10 := Lib.hid (show Below wx.heap.size wx w10 by rw [← hw10]; exact (below_al wx _).drew)
        have H9 := Lib.hid (show Ls OE w10 (wx.heap.size + 1) (some ⟨wx.heap.size, 0, none⟩) 1 [(o1, o2, o3)] by rw [← hw10]; exact (ls_new (E := OE) (w := wx) 44 ((o1, o2, o3) : O)).drew)
        rw [hw10]
        clear hw10
        have hs10 := HB10.out.size
        have HLI := Lib.hid ((HLS.out.below (HBX.out.trans (HB10.out.mono hsx)) (Nat.le_refl _)).take hi)
        refine seg_act _ (by dsimp only [pick, at_]) _ (by dsimp only [pick, at_]) ?_
        repeat (go_big_quiet_step (fail))
        refine wpQuiet_nil ?_
        intro K h1 h2
        clear h2
        go_wp2_with (at_builtin; refine app_new_o rfl (.tmp 39) (.tmp 41) rfl w.heap.size none 0 0 (fun _ => rfl) (L.take 0) rfl HLI.out (wx.heap.size + 1) (some ⟨wx.heap.size, 0, none⟩) 1 1 [(o1, o2, o3)] (by rfl) H9.out (by omega) (by omega) (by omega) ?_; intro c11 w11 hown11 hb11 hs11; obtain ⟨_, _, he11, _, hc11a, hc11b⟩ := hown11.form; cases he11; have HO11 := Lib.hid hown11; have HB11 := Lib.hid (HB10.out.trans (hb11.mono hs10)); clear hown11 hb11)
        refine h1 _ _ HB11.out ?_
        clear h1
        have hs11b := HB11.out.size
        refine seg_act _ (by dsimp only [pick, at_]) _ (by dsimp only [pick, at_]) ?_
        repeat (go_big_quiet_step (fail))
        refine wpQuiet_nil ?_
        intro K h1 h2
        clear h2
        go_wp2_with (fail)
        refine h1 _ _ HB11.out ?_
        clear h1
        have HB15 := HB11
        obtain ⟨w15, hw15⟩ : ∃ w15, w11 = w15 := ⟨_, rfl⟩
        have HO15 := Lib.hid (show Ow OE w15 B (.slice (some ⟨w10.heap.size, 0, none⟩) (0 + 1) c11) (0 + 1) (own L (o1, o2, o3)) by
          have e2 : L.take 0 ++ [(o1, o2, o3)] = own L (o1, o2, o3) := by
            have hd : L.drop 0 = [] := List.drop_eq_nil_of_le (by rw [HM.out]; exact Nat.le_refl _)
            simp [own, HP.out, hd]
          have h11 := HO11.out
          rw [e2, hw15] at h11
          exact h11.base (by have := HWP.out.le; omega))
        rw [hw15] at HB15 ⊢
        clear hw15
        have HBW := Lib.hid (HBX.out.trans (HB15.out.mono hsx))
        have HWP15 := Lib.hid (HWP.out.below HBW.out (Nat.le_refl _))
        have hk15 : w15.cell? ⟨sb', k, none⟩ = some (.slice none 0 0) := (HBW.out.cell (p := ⟨sb', k, none⟩) hsl).trans hcell
        have hf15 : w15.frozen? ⟨sb', k, none⟩ = false := by
          obtain ⟨_, cur2, e2, _, _, hcur2, _⟩ := HWP15.out.srow hkN
          have e3 := HSA.out
          rw [e2] at e3; cases e3
          exact frozen_of_row _ _ _ _ _ hcur2
        refine seg_write _ (by dsimp only [pick, at_]) _ (by dsimp only [pick, at_]) ?_
        repeat (go_big_quiet_step (fail))
        refine wpQuiet_nil ?_
        intro K4 h4
        go_wp2_with (fail)
        refine seg_end _ (by dsimp only [pick, at_]) ?_
        refine wpQuiet_nil (NoPanic.normal ?_)
        clear q5 q6 q7 q8 hk15 hf15
        go_wp2_with (fail)
        refine bodyPost_ret (results_none rfl _ _ _) rfl ?_
        have hol : (own L (o1, o2, o3)).length = 0 + 1 := by rw [own_len, HM.out]
        have hrow15 : Ow OE w15 B (Rw3.val ⟨some ⟨w10.heap.size, 0, none⟩, c11, own L (o1, o2, o3)⟩) (own L (o1, o2, o3)).length (own L (o1, o2, o3)) := by
          unfold Rw3.val
          simp only
          rw [hol]
          exact HO15.out
        refine ⟨rfl, ⟨some ⟨w10.heap.size, 0, none⟩, c11, own L (o1, o2, o3)⟩, rfl, ?_, ?_⟩
        · have := HWP15.out.put HSA.out hkN ⟨some ⟨w10.heap.size, 0, none⟩, c11, own L (o1, o2, o3)⟩ hrow15
          simp only [Rw3.val] at this
          rw [hol] at this
          exact this
        · exact ((Chg.of_below HBW.out).mono (S' := fun b => b = sb') (fun _ _ h => h.elim)).setCell (p := ⟨sb', k, none⟩) (fun _ => rfl) _
      · obtain ⟨g, hAg, hBg, hgl⟩ : ∃ g, A = some ⟨g, 0, none⟩ ∧ B ≤ g ∧ g < w.heap.size := by
          rcases own_form HROW.out.2 with ⟨e, _⟩ | ⟨g, cap, e, e1, e2, _⟩
          · exact absurd (Value.slice.inj e).1 hA
          · exact ⟨g, (Value.slice.inj e).1, e1, e2⟩
        subst hAg
        clear hA
        by_cases hci : c = i
        · subst hci
          go_wp2_with (fail)
          obtain ⟨wx, hwx⟩ : ∃ wx, wr.drew = wx := ⟨_, rfl⟩
          have HVX := Lib.hid (show IsV3 44 wx w.heap.size (.int .i64 o1) (.int .i64 o2) (.int .i64 o3) by rw [← hwx]; exact HV2.out)
          have HBX := Lib.hid (show Below w.heap.size w wx by rw [← hwx]; exact HB2.out.drew)
          rw [hwx]
          clear hwx
          have hsx := HBX.out.size
          have hpx : w.heap.size < wx.heap.size := blk_lt HVX.out
          have q5 := Wb.at_ (HCP.out wx HBX.out)
          have q6 := Wb.at_ (isv3_cells HVX.out).1.1
          have q7 := Wb.at_ (isv3_cells HVX.out).1.2.1
          have q8 := Wb.at_ (isv3_cells HVX.out).1.2.2
          have i1 : (0 : Int) ≤ (c : Int) := by omega
          have i2 : (c : Int) ≤ (c : Int) := by omega
          have i3 : (c : Int) ≤ (c : Int) := by omega
          have i4 : (c : Int) ≤ (c : Int) := by omega
          refine wp_region_plan [([0, 1, 2, 3, 4, 5, 6, 7, 8, 9, 12, 13, 14], some (10, false)), ([], some (11, false)), ([], some (15, false)), ([16], some (17, true)), ([], none)] (by kernel_rfl) (by kernel_rfl) ?_
          refine seg_act _ (by dsimp only [pick, at_]) _ (by dsimp only [pick, at_]) ?_
          repeat (go_big_quiet_step (fail))
          refine wpQuiet_nil ?_
          intro K h1 h2
          clear h2
          go_wp2_with (fail)
          refine h1 _ _ ((below_al wx _).drew) ?_
          clear h1
          obtain ⟨w10, hw10⟩ : ∃ w10, (wx.alloc (.cells #[.int .i64 o1, .int .i64 o2, .int .i64 o3] 44)).drew = w10 := ⟨_, rfl⟩
          have HB10 := Lib.hid (show Below wx.heap.size wx w10 by rw [← hw10]; exact (below_al wx _).drew)
          have H9 := Lib.hid (show Ls OE w10 (wx.heap.size + 1) (some ⟨wx.heap.size, 0, none⟩) 1 [(o1, o2, o3)] by rw [← hw10]; exact (ls_new (E := OE) (w := wx) 44 ((o1, o2, o3) : O)).drew)
          rw [hw10]
          clear hw10
          have hs10 := HB10.out.size
          have HLI := Lib.hid ((HLS.out.below (HBX.out.trans (HB10.out.mono hsx)) (Nat.le_refl _)).take hi)
          refine seg_act _ (by dsimp only [pick, at_]) _ (by dsimp only [pick, at_]) ?_
          repeat (go_big_quiet_step (fail))
          refine wpQuiet_nil ?_
          intro K h1 h2
          clear h2
          go_wp2_with (at_builtin; refine app_new_o rfl (.tmp 39) (.tmp 41) rfl w.heap.size (some ⟨g, 0, none⟩) c c (fun e => by cases e) (L.take c) rfl HLI.out (wx.heap.size + 1) (some ⟨wx.heap.size, 0, none⟩) 1 1 [(o1, o2, o3)] (by rfl) H9.out (by omega) (by omega) (by omega) ?_; intro c11 w11 hown11 hb11 hs11; obtain ⟨_, _, he11, _, hc11a, hc11b⟩ := hown11.form; cases he11; have HO11 := Lib.hid hown11; have HB11 := Lib.hid (HB10.out.trans (hb11.mono hs10)); clear hown11 hb11)
          refine h1 _ _ HB11.out ?_
          clear h1
          have hs11b := HB11.out.size
          refine seg_act _ (by dsimp only [pick, at_]) _ (by dsimp only [pick, at_]) ?_
          repeat (go_big_quiet_step (fail))
          refine wpQuiet_nil ?_
          intro K h1 h2
          clear h2
          go_wp2_with (fail)
          refine h1 _ _ HB11.out ?_
          clear h1
          have HB15 := HB11
          obtain ⟨w15, hw15⟩ : ∃ w15, w11 = w15 := ⟨_, rfl⟩
          have HO15 := Lib.hid (show Ow OE w15 B (.slice (some ⟨w10.heap.size, 0, none⟩) (c + 1) c11) (c + 1) (own L (o1, o2, o3)) by
            have e2 : L.take c ++ [(o1, o2, o3)] = own L (o1, o2, o3) := by
              have hd : L.drop c = [] := List.drop_eq_nil_of_le (by rw [HM.out]; exact Nat.le_refl _)
              simp [own, HP.out, hd]
            have h11 := HO11.out
            rw [e2, hw15] at h11
            exact h11.base (by have := HWP.out.le; omega))
          rw [hw15] at HB15 ⊢
          clear hw15
          have HBW := Lib.hid (HBX.out.trans (HB15.out.mono hsx))
          have HWP15 := Lib.hid (HWP.out.below HBW.out (Nat.le_refl _))
          have hk15 : w15.cell? ⟨sb', k, none⟩ = some (.slice (some ⟨g, 0, none⟩) c c) := (HBW.out.cell (p := ⟨sb', k, none⟩) hsl).trans hcell
          have hf15 : w15.frozen? ⟨sb', k, none⟩ = false := by
            obtain ⟨_, cur2, e2, _, _, hcur2, _⟩ := HWP15.out.srow hkN
            have e3 := HSA.out
            rw [e2] at e3; cases e3
            exact frozen_of_row _ _ _ _ _ hcur2
          refine seg_write _ (by dsimp only [pick, at_]) _ (by dsimp only [pick, at_]) ?_
          repeat (go_big_quiet_step (fail))
          refine wpQuiet_nil ?_
          intro K4 h4
          go_wp2_with (fail)
          refine seg_end _ (by dsimp only [pick, at_]) ?_
          refine wpQuiet_nil (NoPanic.normal ?_)
          clear q5 q6 q7 q8 hk15 hf15
          go_wp2_with (fail)
          refine bodyPost_ret (results_none rfl _ _ _) rfl ?_
          have hol : (own L (o1, o2, o3)).length = c + 1 := by rw [own_len, HM.out]
          have hrow15 : Ow OE w15 B (Rw3.val ⟨some ⟨w10.heap.size, 0, none⟩, c11, own L (o1, o2, o3)⟩) (own L (o1, o2, o3)).length (own L (o1, o2, o3)) := by
            unfold Rw3.val
            simp only
            rw [hol]
            exact HO15.out
          refine ⟨rfl, ⟨some ⟨w10.heap.size, 0, none⟩, c11, own L (o1, o2, o3)⟩, rfl, ?_, ?_⟩
          · have := HWP15.out.put HSA.out hkN ⟨some ⟨w10.heap.size, 0, none⟩, c11, own L (o1, o2, o3)⟩ hrow15
            simp only [Rw3.val] at this
            rw [hol] at this
            exact this
          · exact ((Chg.of_below HBW.out).mono (S' := fun b => b = sb') (fun _ _ h => h.elim)).setCell (p := ⟨sb', k, none⟩) (fun _ => rfl) _
        · have hcz : ¬ (c : Int) = (i : Int) := by omega
          go_wp2_with (fail)
          obtain ⟨wx, hwx⟩ : ∃ wx, wr.drew = wx := ⟨_, rfl⟩
          have HVX := Lib.hid (show IsV3 44 wx w.heap.size (.int .i64 o1) (.int .i64 o2) (.int .i64 o3) by rw [← hwx]; exact HV2.out)
          have HBX := Lib.hid (show Below w.heap.size w wx by rw [← hwx]; exact HB2.out.drew)
          rw [hwx]
          clear hwx
          have hsx := HBX.out.size
          have hpx : w.heap.size < wx.heap.size := blk_lt HVX.out
          have q5 := Wb.at_ (HCP.out wx HBX.out)
          have q6 := Wb.at_ (isv3_cells HVX.out).1.1
          have q7 := Wb.at_ (isv3_cells HVX.out).1.2.1
          have q8 := Wb.at_ (isv3_cells HVX.out).1.2.2
          have i1 : (0 : Int) ≤ (i : Int) := by omega
          have i2 : (i : Int) ≤ (c : Int) := by omega
          have i3 : (i : Int) ≤ (i : Int) := by omega
          have i4 : (i : Int) ≤ (c : Int) := by omega
          refine wp_region_plan [([0, 1, 2, 3, 4, 5, 6, 7, 8, 9, 12, 13, 14], some (10, false)), ([], some (11, false)), ([], some (15, false)), ([16], some (17, true)), ([], none)] (by kernel_rfl) (by kernel_rfl) ?_
          refine seg_act _ (by dsimp only [pick, at_]) _ (by dsimp only [pick, at_]) ?_
          repeat (go_big_quiet_step (fail))
          refine wpQuiet_nil ?_
          intro K h1 h2
          clear h2
          go_wp2_with (fail)
          refine h1 _ _ ((below_al wx _).drew) ?_
          clear h1
          obtain ⟨w10, hw10⟩ : ∃ w10, (wx.alloc (.cells #[.int .i64 o1, .int .i64 o2, .int .i64 o3] 44)).drew = w10 := ⟨_, rfl⟩
          have HB10 := Lib.hid (show Below wx.heap.size wx w10 by rw [← hw10]; exact (below_al wx _).drew)
          have H9 := Lib.hid (show Ls OE w10 (wx.heap.size + 1) (some ⟨wx.heap.size, 0, none⟩) 1 [(o1, o2, o3)] by rw [← hw10]; exact (ls_new (E := OE) (w := wx) 44 ((o1, o2, o3) : O)).drew)
          rw [hw10]
          clear hw10
          have hs10 := HB10.out.size
          have HLI := Lib.hid ((HLS.out.below (HBX.out.trans (HB10.out.mono hsx)) (Nat.le_refl _)).take hi)
          refine seg_act _ (by dsimp only [pick, at_]) _ (by dsimp only [pick, at_]) ?_
          repeat (go_big_quiet_step (fail))
          refine wpQuiet_nil ?_
          intro K h1 h2
          clear h2
          go_wp2_with (at_builtin; refine app_new_o rfl (.tmp 39) (.tmp 41) rfl w.heap.size (some ⟨g, 0, none⟩) i i (fun e => by cases e) (L.take i) rfl HLI.out (wx.heap.size + 1) (some ⟨wx.heap.size, 0, none⟩) 1 1 [(o1, o2, o3)] (by rfl) H9.out (by omega) (by omega) (by omega) ?_; intro c11 w11 hown11 hb11 hs11; obtain ⟨_, _, he11, _, hc11a, hc11b⟩ := hown11.form; cases he11; have HO11 := Lib.hid hown11; have HB11 := Lib.hid (HB10.out.trans (hb11.mono hs10)); clear hown11 hb11)
          refine h1 _ _ HB11.out ?_
          clear h1
          have hs11b := HB11.out.size
          refine seg_act _ (by dsimp only [pick, at_]) _ (by dsimp only [pick, at_]) ?_
          repeat (go_big_quiet_step (fail))
          refine wpQuiet_nil ?_
          intro K h1 h2
          clear h2
          go_wp2_with (fail)
          refine h1 _ _ HB11.out ?_
          clear h1
          have HB15 := HB11
          obtain ⟨w15, hw15⟩ : ∃ w15, w11 = w15 := ⟨_, rfl⟩
          have HO15 := Lib.hid (show Ow OE w15 B (.slice (some ⟨w10.heap.size, 0, none⟩) (i + 1) c11) (i + 1) (own L (o1, o2, o3)) by
            have e2 : L.take i ++ [(o1, o2, o3)] = own L (o1, o2, o3) := by
              have hd : L.drop i = [] := List.drop_eq_nil_of_le (by rw [HM.out]; exact Nat.le_refl _)
              simp [own, HP.out, hd]
            have h11 := HO11.out
            rw [e2, hw15] at h11
            exact h11.base (by have := HWP.out.le; omega))
          rw [hw15] at HB15 ⊢
          clear hw15
          have HBW := Lib.hid (HBX.out.trans (HB15.out.mono hsx))
          have HWP15 := Lib.hid (HWP.out.below HBW.out (Nat.le_refl _))
          have hk15 : w15.cell? ⟨sb', k, none⟩ = some (.slice (some ⟨g, 0, none⟩) i c) := (HBW.out.cell (p := ⟨sb', k, none⟩) hsl).trans hcell
          have hf15 : w15.frozen? ⟨sb', k, none⟩ = false := by
            obtain ⟨_, cur2, e2, _, _, hcur2, _⟩ := HWP15.out.srow hkN
            have e3 := HSA.out
            rw [e2] at e3; cases e3
            exact frozen_of_row _ _ _ _ _ hcur2
          refine seg_write _ (by dsimp only [pick, at_]) _ (by dsimp only [pick, at_]) ?_
          repeat (go_big_quiet_step (fail))
          refine wpQuiet_nil ?_
          intro K4 h4
          go_wp2_with (fail)
          refine seg_end _ (by dsimp only [pick, at_]) ?_
          refine wpQuiet_nil (NoPanic.normal ?_)
          clear q5 q6 q7 q8 hk15 hf15
          go_wp2_with (fail)
          refine bodyPost_ret (results_none rfl _ _ _) rfl ?_
          have hol : (own L (o1, o2, o3)).length = i + 1 := by rw [own_len, HM.out]
          have hrow15 : Ow OE w15 B (Rw3.val ⟨some ⟨w10.heap.size, 0, none⟩, c11, own L (o1, o2, o3)⟩) (own L (o1, o2, o3)).length (own L (o1, o2, o3)) := by
            unfold Rw3.val
            simp only
            rw [hol]
            exact HO15.out
          refine ⟨rfl, ⟨some ⟨w10.heap.size, 0, none⟩, c11, own L (o1, o2, o3)⟩, rfl, ?_, ?_⟩
          · have := HWP15.out.put HSA.out hkN ⟨some ⟨w10.heap.size, 0, none⟩, c11, own L (o1, o2, o3)⟩ hrow15
            simp only [Rw3.val] at this
            rw [hol] at this
            exact this
          · exact ((Chg.of_below HBW.out).mono (S' := fun b => b = sb') (fun _ _ h => h.elim)).setCell (p := ⟨sb', k, none⟩) (fun _ => rfl) _
end Go.Proofs.Ytnpkhkhchimcnaa.pm
