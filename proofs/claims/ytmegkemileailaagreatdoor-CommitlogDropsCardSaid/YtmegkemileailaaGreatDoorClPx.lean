/-
  The commit log's parse.
-/
import Derived.Test.YtmegkemileailaaGreatDoorClP
import Derived.Test.YtmegkemileailaaGreatDoorFree
import Derived.Laws.ResultCell
namespace Go.Proofs.YtmegkemileailaaGreatDoor.cl
open Go.ChangeShapes Go.WideShapes Go.ChangeAt Go.RowKit plain words ord mem uvs uvc

theorem ret_cell {P : Program} {fn : Func} {p u : Tmp} {ty : TypeId} (h : fn.results = #[.cell p ty, .tmp u]) (tmps : Array Value) (w : World) (g : Nat) (t : TypeId) (cs : Array Value) (fr : Nat × Nat) (d : TypeDesc)
    (hp : tmps.getD p undef = .pointer (some ⟨g, 0, none⟩)) (hg : w.heap[g]? = some (.cells cs t fr))
    (hu : P.underlying ty = some d) (hd : (match d with | .struct _ | .array _ _ => true | _ => false) = true) (hi : (P.info? ty).map (·.size) = some cs.size) :
    (results fn tmps).run P w = .ok (.tuple #[.agg cs, tmps.getD u undef]) w := by
  have hp' : tmps[p]?.getD undef = .pointer (some ⟨g, 0, none⟩) := by simpa using hp
  rw [results_cell_tmp h]
  simp [hp', asAddr, Result.andThen, run_loadVar_row w g t ty cs fr d hg hu hd hi]
def r0 : Rec := ⟨0, [], 0, 0, 0⟩
/-- a record's variable -/
abbrev RV (w : World) (g : Nat) (r : Rec) : Prop := w.heap[g]? = some (.cells (rc r).toArray 36 (0, 0))
def RetParse (w : World) (bs : By) (e : Ending) (w' : World) : Prop :=
  (match parse bs with
    | some r => e = .returned (.tuple #[.agg (rc r).toArray, .bool true])
    | none => e = .returned (.tuple #[.agg (rc r0).toArray, .bool false])) ∧ Below w.heap.size w w'
theorem info5 : (Tryz.prog.info? 36).map (·.size) = some 5 := by kernel_rfl
/-- a record is written into a variable, cell by cell -/
def W5 (w : World) (g : Nat) (r : Rec) : World := ((((w.setCell ⟨g, 0, none⟩ (.int .i64 r.sp)).setCell ⟨g, 1, none⟩ (.string (tx r.id))).setCell ⟨g, 2, none⟩ (.int .i64 r.t)).setCell ⟨g, 3, none⟩ (.int .u64 r.v)).setCell ⟨g, 4, none⟩ (.int .u64 r.s)
theorem set5 {w : World} {g : Nat} {r : Rec} (h : RV w g r) (r' : Rec) : RV (W5 w g r') g r' := by
  have h0 := heap_setCell_same w g 0 _ _ (.int .i64 r'.sp) h
  have h1 := heap_setCell_same _ g 1 _ _ (.string (tx r'.id)) h0
  have h2 := heap_setCell_same _ g 2 _ _ (.int .i64 r'.t) h1
  have h3 := heap_setCell_same _ g 3 _ _ (.int .u64 r'.v) h2
  have h4 := heap_setCell_same _ g 4 _ _ (.int .u64 r'.s) h3
  show (W5 w g r').heap[g]? = _
  unfold W5
  simpa [rc] using h4
theorem below5 {w0 w : World} {B g : Nat} (h : Below B w0 w) (hg : B ≤ g) (r : Rec) : Below B w0 (W5 w g r) :=
  ((((h.setCell (p := ⟨g, 0, none⟩) hg _).setCell (p := ⟨g, 1, none⟩) hg _).setCell (p := ⟨g, 2, none⟩) hg _).setCell (p := ⟨g, 3, none⟩) hg _).setCell (p := ⟨g, 4, none⟩) hg _
theorem rv_cells {w : World} {g : Nat} {r : Rec} (h : RV w g r) : (w.cell? ⟨g, 0, none⟩ = some (.int .i64 r.sp) ∧ w.cell? ⟨g, 1, none⟩ = some (.string (tx r.id)) ∧ w.cell? ⟨g, 2, none⟩ = some (.int .i64 r.t) ∧ w.cell? ⟨g, 3, none⟩ = some (.int .u64 r.v) ∧ w.cell? ⟨g, 4, none⟩ = some (.int .u64 r.s)) ∧ (w.frozen? ⟨g, 0, none⟩ = false ∧ w.frozen? ⟨g, 1, none⟩ = false ∧ w.frozen? ⟨g, 2, none⟩ = false ∧ w.frozen? ⟨g, 3, none⟩ = false ∧ w.frozen? ⟨g, 4, none⟩ = false) :=
  ⟨⟨by rw [cell_of_row _ _ _ _ _ _ h]; rfl, by rw [cell_of_row _ _ _ _ _ _ h]; rfl, by rw [cell_of_row _ _ _ _ _ _ h]; rfl, by rw [cell_of_row _ _ _ _ _ _ h]; rfl, by rw [cell_of_row _ _ _ _ _ _ h]; rfl⟩, frozen_of_row _ _ 0 _ _ h, frozen_of_row _ _ 1 _ _ h, frozen_of_row _ _ 2 _ _ h, frozen_of_row _ _ 3 _ _ h, frozen_of_row _ _ 4 _ _ h⟩
/-- parse's variables -/
structure ST (w0 w : World) (bs : By) (ok : Bool) (r : Rec) : Prop where
  pb : PB w w0.heap.size (w0.heap.size + 1 + 1 + 1) w0.heap.size bs ok
  res : RV w (w0.heap.size + 1) r0
  cur : RV w (w0.heap.size + 1 + 1) r
  bel : Below w0.heap.size w0 w
section
variable {w0 w w' : World} {bs : By} {ok : Bool} {r : Rec} {e : Ending} {m : Nat}
theorem ST.frame (h : ST w0 w bs ok r) (hc : Chg (fun k => k = w0.heap.size ∨ k = w0.heap.size + 1 + 1 + 1) w w') {bs' : By} {ok' : Bool} (hp : PB w' w0.heap.size (w0.heap.size + 1 + 1 + 1) w0.heap.size bs' ok') : ST w0 w' bs' ok' r :=
  ⟨hp, hc.blk h.res (fun e => by rcases e with e | e <;> omega), hc.blk h.cur (fun e => by rcases e with e | e <;> omega), h.bel.trans (hc.below h.bel.size (fun k hk => by rcases hk with e | e <;> omega))⟩
theorem ST.got (h : ST w0 w bs ok r) {v : Nat} {rest : By} (hn : num m bs = some (v, rest)) (hr : RetP w w0.heap.size (w0.heap.size + 1 + 1 + 1) w0.heap.size m bs ok e w') : e = .returned (.int .i64 v) ∧ ST w0 w' rest ok r := by
  unfold RetP at hr
  rw [hn] at hr
  obtain ⟨⟨h1, h2⟩, h3⟩ := hr
  exact ⟨h1, h.frame h3 h2⟩
theorem ST.not (h : ST w0 w bs ok r) (hn : num m bs = none) (hr : RetP w w0.heap.size (w0.heap.size + 1 + 1 + 1) w0.heap.size m bs ok e w') : e = .returned (.int .i64 0) ∧ ST w0 w' bs false r := by
  unfold RetP at hr
  rw [hn] at hr
  obtain ⟨⟨h1, h2⟩, h3⟩ := hr
  exact ⟨h1, h.frame h3 h2⟩
theorem ST.set (h : ST w0 w bs ok r) (j : Nat) (v : Value) (r' : Rec) (hr : (rc r).toArray.setIfInBounds j v = (rc r').toArray) : ST w0 (w.setCell ⟨w0.heap.size + 1 + 1, j, none⟩ v) bs ok r' := by
  have hc : Chg (fun k => k = w0.heap.size + 1 + 1) w (w.setCell ⟨w0.heap.size + 1 + 1, j, none⟩ v) := chg_set _ _ _ _
  refine ⟨h.pb.chg hc (fun k hk => by omega), hc.blk h.res (by omega), ?_, h.bel.setCell (p := ⟨w0.heap.size + 1 + 1, j, none⟩) (show w0.heap.size ≤ w0.heap.size + 1 + 1 by omega) v⟩
  have := heap_setCell_same w (w0.heap.size + 1 + 1) j _ _ v h.cur
  show (w.setCell _ v).heap[_]? = some (Obj.cells (rc r').toArray _ (0, 0))
  rw [← hr]
  simpa using this
theorem ST.setb (h : ST w0 w bs ok r) {bs' : By} {A' : Option Addr} {n' c' : Nat} (hb : Bs w w0.heap.size A' n' bs') (h1' : n' ≤ c') (h2' : c' ≤ 9223372036854775807) : ST w0 (w.setCell ⟨w0.heap.size, 0, none⟩ (.slice A' n' c')) bs' ok r :=
  h.frame ((chg_set w w0.heap.size 0 _).mono (fun k _ e => .inl e)) (h.pb.setb hb h1' h2')
theorem ST.okc (h : ST w0 w bs ok r) : w.cell? ⟨w0.heap.size + 1 + 1 + 1, 0, none⟩ = some (.bool ok) ∧ w0.heap.size + 1 + 1 + 1 < w.heap.size := by
  obtain ⟨A, n, c, h1, h2, h3, h4, h5, h6, h7, h8⟩ := h.pb
  exact ⟨by rw [cell_of_row _ _ _ _ _ _ h5]; rfl, blk_lt h5⟩
theorem ST.bc (h : ST w0 w bs ok r) : ∃ A n c, w.cell? ⟨w0.heap.size, 0, none⟩ = some (.slice A n c) ∧ w.frozen? ⟨w0.heap.size, 0, none⟩ = false ∧ Bs w w0.heap.size A n bs ∧ n ≤ c ∧ c ≤ 9223372036854775807 := by
  obtain ⟨A, n, c, h1, h2, h3, h4, h5, h6, h7, h8⟩ := h.pb
  exact ⟨A, n, c, by rw [cell_of_row _ _ _ _ _ _ h1]; rfl, frozen_of_row _ _ 0 _ _ h1, h2, h3, h4⟩
theorem ST.drew (h : ST w0 w bs ok r) : ST w0 w.drew bs ok r :=
  ⟨h.pb.chg (Chg.refl (fun _ => False) _).drew (fun _ e => e.elim), h.res, h.cur, h.bel.drew⟩
end
theorem parse_no {w0 w : World} {bs bs' : By} {ok : Bool} {r : Rec} (h : ST w0 w bs' ok r) (hp : parse bs = none) : RetParse w0 bs (.returned (.tuple #[.agg (rc r0).toArray, .bool false])) (W5 w (w0.heap.size + 1) r0) := by
  unfold RetParse
  rw [hp]
  exact ⟨rfl, below5 h.bel (by omega) _⟩
theorem parse_yes {w0 w : World} {bs bs' : By} {ok : Bool} {r : Rec} (h : ST w0 w bs' ok r) (hp : parse bs = some r) : RetParse w0 bs (.returned (.tuple #[.agg (rc r).toArray, .bool true])) (W5 w (w0.heap.size + 1) r) := by
  unfold RetParse
  rw [hp]
  exact ⟨rfl, below5 h.bel (by omega) _⟩
theorem bs_take {w : World} {B n : Nat} {A : Option Addr} {bs : By} (h : Bs w B A n bs) {k : Nat} (hk : k ≤ n) : Bs w B A k (bs.take k) := by
  refine ⟨by rw [u8s_length, List.length_take, h.len_]; omega, fun j hj => ?_⟩
  obtain ⟨b', off', v, e, hb, hv, hc⟩ := h.at_ j (by omega)
  refine ⟨b', off', v, e, hb, ?_, hc⟩
  unfold u8s at hv ⊢
  rw [List.getElem?_map, List.getElem?_take, if_pos hj, ← List.getElem?_map]
  exact hv
set_option maxHeartbeats 8000000 in
set_option maxRecDepth 100000 in
theorem parse_x (w : World) (B n c : Nat) (A : Option Addr) (bs : By) (h : Bs w B A n bs) (hB : B ≤ w.heap.size) (hnc : n ≤ c) (hcm : c ≤ 9223372036854775807) (hn : n ≤ 1099511627776) :
    Calls Tryz.prog 93 #[.slice A n c] w (RetParse w bs) := by
  have hl := h.len_
  obtain ⟨w1, hw1⟩ : ∃ w1, (((w.alloc (.cells #[.slice A n c] 28)).alloc (.cells (rc r0).toArray 36)).alloc (.cells (rc r0).toArray 36)).alloc (.cells #[.bool true] 4) = w1 := ⟨_, rfl⟩
  have hb1 : Below w.heap.size w w1 := by rw [← hw1]; exact ((((Below.refl _ _).alloc (Nat.le_refl _) _).alloc (by simp) _).alloc (by simp; omega) _).alloc (by simp; omega) _
  have S0 := Lib.hid (show ST w w1 bs true r0 from by
    have k0 : w1.heap[w.heap.size]? = some (.cells #[.slice A n c] 28 (0, 0)) := by rw [← hw1]; exact alloc_old _ (alloc_old _ (alloc_old _ (alloc_new _ _)))
    have k1 : w1.heap[w.heap.size + 1]? = some (.cells (rc r0).toArray 36 (0, 0)) := by
      rw [← hw1]
      have := alloc_new (w.alloc (.cells #[.slice A n c] 28)) (.cells (rc r0).toArray 36)
      rw [show (w.alloc (.cells #[.slice A n c] 28)).heap.size = w.heap.size + 1 by simp] at this
      exact alloc_old _ (alloc_old _ this)
    have k2 : w1.heap[w.heap.size + 1 + 1]? = some (.cells (rc r0).toArray 36 (0, 0)) := by
      rw [← hw1]
      have := alloc_new ((w.alloc (.cells #[.slice A n c] 28)).alloc (.cells (rc r0).toArray 36)) (.cells (rc r0).toArray 36)
      rw [show ((w.alloc (.cells #[.slice A n c] 28)).alloc (.cells (rc r0).toArray 36)).heap.size = w.heap.size + 1 + 1 by simp] at this
      exact alloc_old _ this
    have k3 : w1.heap[w.heap.size + 1 + 1 + 1]? = some (.cells #[.bool true] 4 (0, 0)) := by
      rw [← hw1]
      have := alloc_new (((w.alloc (.cells #[.slice A n c] 28)).alloc (.cells (rc r0).toArray 36)).alloc (.cells (rc r0).toArray 36)) (.cells #[.bool true] 4)
      rw [show (((w.alloc (.cells #[.slice A n c] 28)).alloc (.cells (rc r0).toArray 36)).alloc (.cells (rc r0).toArray 36)).heap.size = w.heap.size + 1 + 1 + 1 by simp] at this
      exact this
    exact ⟨⟨A, n, c, k0, (h.below hb1 hB).more hB, hnc, hcm, k3, by omega, Nat.le_refl _, by omega⟩, k1, k2, hb1⟩)
  have HL := Lib.hid hl
  have HW := Lib.hid hw1
  have HN := Lib.hid (num_p w1 w.heap.size (w.heap.size + 1 + 1 + 1) w.heap.size 3 bs true S0.out.pb (by omega) (by omega))
  clear h hl hw1 hb1
  go_enter Tryz.func93, Tryz.ntmps93
  go_wp2_with (fail)
  rw [show ((((w.alloc (.cells #[.slice A n c] 28)).alloc (.cells #[.int .i64 0, .string { data := #[] }, .int .i64 0, .int .u64 0, .int .u64 0] 36)).alloc (.cells #[.int .i64 0, .string { data := #[] }, .int .i64 0, .int .u64 0, .int .u64 0] 36)).alloc (.cells #[.bool true] 4)) = w1 from HW.out]
  refine HN.out.mono ?_
  rintro e w2 hr
  cases hnum1 : num 3 bs with
  | none =>
    have PN := Lib.hid (show parse bs = none by unfold parse; rw [hnum1])
    obtain ⟨rfl, h1⟩ := S0.out.not hnum1 hr
    have S1 := Lib.hid (h1.set 0 (.int .i64 0) r0 rfl)
    obtain ⟨_, g0, _⟩ := rv_cells h1.cur
    obtain ⟨⟨q0, _⟩, _⟩ := rv_cells h1.cur
    have lcur := blk_lt h1.cur
    have HN2 := Lib.hid (num_p _ w.heap.size (w.heap.size + 1 + 1 + 1) w.heap.size 16 bs false S1.out.pb (by rw [HL.out]; omega) (by omega))
    clear h1 hr HN S0 hnum1
    go_wp2_with (fail)
    refine HN2.out.mono ?_
    rintro e w3 hr
    cases hnum2 : num 16 bs with
    | none =>
      obtain ⟨rfl, h1⟩ := S1.out.not hnum2 hr
      have SX := Lib.hid h1
      obtain ⟨o0, o1⟩ := h1.okc
      clear h1 hr HN2 S1 hnum2 q0 g0 lcur
      obtain ⟨⟨q0, q1, q2, q3, q4⟩, z0, z1, z2, z3, z4⟩ := rv_cells SX.out.res
      have lres := blk_lt SX.out.res
      go_wp2_with (fail)
      (try simp only [Exit.inBlock, Exit.then])
      refine bodyPost_ret (ret_cell rfl _ _ (w.heap.size + 1) 36 _ _ _ rfl (set5 SX.out.res r0) Tryz.underlying36 rfl info5) rfl ?_
      exact parse_no SX.out PN.out
    | some p =>
      obtain ⟨v, rest⟩ := p
      obtain ⟨rfl, h1⟩ := S1.out.got hnum2 hr
      have SX := Lib.hid h1
      obtain ⟨o0, o1⟩ := h1.okc
      clear h1 hr HN2 S1 hnum2 q0 g0 lcur
      obtain ⟨⟨q0, q1, q2, q3, q4⟩, z0, z1, z2, z3, z4⟩ := rv_cells SX.out.res
      have lres := blk_lt SX.out.res
      go_wp2_with (fail)
      (try simp only [Exit.inBlock, Exit.then])
      refine bodyPost_ret (ret_cell rfl _ _ (w.heap.size + 1) 36 _ _ _ rfl (set5 SX.out.res r0) Tryz.underlying36 rfl info5) rfl ?_
      exact parse_no SX.out PN.out
  | some p1 =>
    obtain ⟨sp, b1⟩ := p1
    obtain ⟨rfl, h1⟩ := S0.out.got hnum1 hr
    have PP1 := Lib.hid (show parse bs = match num 16 b1 with | none => none | some (n, b2) => parse2 sp n b2 by unfold parse; rw [hnum1]; rfl)
    obtain ⟨d1, d2, d3⟩ := num_back hnum1
    have hb1l : b1.length ≤ n := by have := congrArg List.length d3; rw [List.length_append, HL.out] at this; omega
    have S1 := Lib.hid (h1.set 0 (.int .i64 sp) ⟨sp, [], 0, 0, 0⟩ rfl)
    obtain ⟨_, g0, _⟩ := rv_cells h1.cur
    obtain ⟨⟨q0, _⟩, _⟩ := rv_cells h1.cur
    have lcur := blk_lt h1.cur
    have HN2 := Lib.hid (num_p _ w.heap.size (w.heap.size + 1 + 1 + 1) w.heap.size 16 b1 true S1.out.pb (by omega) (by omega))
    clear h1 hr HN S0 hnum1 d3
    go_wp2_with (fail)
    refine HN2.out.mono ?_
    rintro e w3 hr
    cases hnum2 : num 16 b1 with
    | none =>
      have PN := Lib.hid (show parse bs = none by rw [PP1.out, hnum2])
      obtain ⟨rfl, h1⟩ := S1.out.not hnum2 hr
      have SX := Lib.hid h1
      obtain ⟨o0, o1⟩ := h1.okc
      clear h1 hr HN2 S1 hnum2 q0 g0 lcur PP1
      obtain ⟨⟨q0, q1, q2, q3, q4⟩, z0, z1, z2, z3, z4⟩ := rv_cells SX.out.res
      have lres := blk_lt SX.out.res
      go_wp2_with (fail)
      (try simp only [Exit.inBlock, Exit.then])
      refine bodyPost_ret (ret_cell rfl _ _ (w.heap.size + 1) 36 _ _ _ rfl (set5 SX.out.res r0) Tryz.underlying36 rfl info5) rfl ?_
      exact parse_no SX.out PN.out
    | some p2 =>
      obtain ⟨V, b2⟩ := p2
      obtain ⟨rfl, h1⟩ := S1.out.got hnum2 hr
      have PP2 := Lib.hid (show parse bs = parse2 sp V b2 by rw [PP1.out, hnum2])
      obtain ⟨d4, d5, d6⟩ := num_back hnum2
      have hb2l : b2.length ≤ n := by have := congrArg List.length d6; rw [List.length_append] at this; omega
      have SX := Lib.hid h1
      obtain ⟨o0, o1⟩ := h1.okc
      obtain ⟨A2, n2, c2, cb, fb, hb2, hnc2, hcm2⟩ := h1.bc
      have hl2 := hb2.len_
      have HL2 := Lib.hid hl2
      have lH : w.heap.size < w3.heap.size := by omega
      rw [hl2] at hb2l
      have HB2 := Lib.hid hb2
      clear h1 hr HN2 S1 hnum2 q0 g0 lcur PP1 d6 hb2 hl2
      by_cases hV1 : V < 1
      · have PN := Lib.hid (show parse bs = none by rw [PP2.out]; unfold parse2; rw [if_pos (.inl hV1)])
        have v1 : (V : Int) < 1 := by omega
        obtain ⟨⟨q0, q1, q2, q3, q4⟩, z0, z1, z2, z3, z4⟩ := rv_cells SX.out.res
        have lres := blk_lt SX.out.res
        go_wp2_with (fail)
        (try simp only [Exit.inBlock, Exit.then])
        refine bodyPost_ret (ret_cell rfl _ _ (w.heap.size + 1) 36 _ _ _ rfl (set5 SX.out.res r0) Tryz.underlying36 rfl info5) rfl ?_
        exact parse_no SX.out PN.out
      have v1 : ¬ (V : Int) < 1 := by omega
      by_cases hV2 : n2 < V
      · have PN := Lib.hid (show parse bs = none by rw [PP2.out]; unfold parse2; rw [if_pos (.inr (by rw [HL2.out]; exact hV2))])
        have v2 : (n2 : Int) < (V : Int) := by omega
        obtain ⟨⟨q0, q1, q2, q3, q4⟩, z0, z1, z2, z3, z4⟩ := rv_cells SX.out.res
        have lres := blk_lt SX.out.res
        go_wp2_with (fail)
        (try simp only [Exit.inBlock, Exit.then])
        refine bodyPost_ret (ret_cell rfl _ _ (w.heap.size + 1) 36 _ _ _ rfl (set5 SX.out.res r0) Tryz.underlying36 rfl info5) rfl ?_
        exact parse_no SX.out PN.out
      have v2 : ¬ (n2 : Int) < (V : Int) := by omega
      obtain ⟨b, off, eA⟩ := bs_addr HB2.out (show 0 < n2 by omega)
      subst eA
      have q0 : (0 : Int) ≤ (V : Int) := by omega
      have q1 : (V : Int) ≤ (n2 : Int) := by omega
      have q2 : (n2 : Int) ≤ (c2 : Int) := by omega
      have q3 : (V : Int) ≤ (c2 : Int) := by omega
      have HBU := Lib.hid (show ∀ u : Wf (fun k => k = w.heap.size + 1 + 1) w3, Bs u.w w.heap.size (some ⟨b, off, none⟩) n2 b2 from fun u => HB2.out.below (u.h.below (show w.heap.size ≤ w3.heap.size by omega) (fun k hk => by omega)) (Nat.le_refl _))
      have zb := Wf.at_ (F := fun k => k = w.heap.size + 1 + 1) cb (by simp; omega)
      have zc : ∀ u : Wf (fun k => k = w.heap.size + 1 + 1) w3, (convert 28 9 (.slice (some ⟨b, off, none⟩) V c2)).run Tryz.prog u.w = .ok (.string (tx (b2.take V))) u.w := fun u => conv_string (bs_take (HBU.out u) (show V ≤ n2 by omega)) 28 9 5 Tryz.underlying28 Tryz.underlying9 Tryz.underlying5
      obtain ⟨⟨_, e1, _⟩, _, f1, _⟩ := rv_cells SX.out.cur
      have lcur := blk_lt SX.out.cur
      have PB2 := Lib.hid (show parse bs = match num 1099511627776 (b2.drop V) with | none => none | some (t, c) => if c.length = 16 then some ⟨sp, b2.take V, t, fix (c.take 8), fix (c.drop 8)⟩ else none by rw [PP2.out]; unfold parse2; rw [if_neg (by rw [HL2.out]; omega)]; rfl)
      clear PP2
      have S4a := SX.out.set 1 (.string (tx (b2.take V))) ⟨sp, b2.take V, 0, 0, 0⟩ rfl
      have hBw : Below w.heap.size w3 (w3.setCell ⟨w.heap.size + 1 + 1, 1, none⟩ (.string (tx (b2.take V)))) := (Below.refl _ _ |>.mono (show w.heap.size ≤ w3.heap.size by omega)).setCell (p := ⟨w.heap.size + 1 + 1, 1, none⟩) (show w.heap.size ≤ w.heap.size + 1 + 1 by omega) _
      by_cases hck : c2 = V
      · have hnV : n2 = V := by omega
        obtain rfl : V = n2 := hnV.symm
        obtain rfl : V = c2 := hck.symm
        have S4 := Lib.hid (S4a.setb (A' := some ⟨b, off, none⟩) (bs_nil (A' := some ⟨b, off, none⟩) (HB2.out.below hBw (Nat.le_refl _)) (Nat.le_refl V)) (Nat.le_refl 0) (by omega)).drew
        have HN3 := Lib.hid (num_p _ w.heap.size (w.heap.size + 1 + 1 + 1) w.heap.size 1099511627776 (b2.drop V) true S4.out.pb (by rw [List.length_drop, HL2.out]; omega) (by omega))
        clear S4a hBw
        go_wp2_with (fail)
        refine fr.wp_region_tree (F := fun k => k = w.heap.size + 1 + 1) (.reads [0, 1, 2, 3, 4, 5, 6, 7] (.one 8 false (.one 9 true .stop))) (by kernel_rfl) (by kernel_rfl) ?_
        refine fr.tr_reads _ (by dsimp only [pick, at_]) ?_
        repeat (go_big_quiet_step (fail))
        refine wpQuiet_nil ?_
        refine fr.tr_one _ (by dsimp only [pick, at_]) ?_
        intro K1 g1 g2
        clear g2
        go_wp2_with (fail)
        refine g1 _ _ ((Chg.refl (fun k => k = w.heap.size + 1 + 1) w3).setCell (p := ⟨w.heap.size + 1 + 1, 1, none⟩) (fun _ => rfl) _).drew ?_
        clear g1
        refine fr.tr_write _ (by dsimp only [pick, at_]) ?_
        intro K2 g3
        go_wp2_with (fail)
        refine fr.tr_stop ?_
        refine NoPanic.normal ?_
        clear zb zc e1 f1 cb fb o0 o1
        go_wp2_with (fail)
        refine HN3.out.mono ?_
        rintro e w5 hr
        cases hnum3 : num 1099511627776 (b2.drop V) with
        | none =>
          have PN := Lib.hid (show parse bs = none by rw [PB2.out, hnum3])
          obtain ⟨rfl, h1⟩ := S4.out.not hnum3 hr
          have SX := Lib.hid (h1.set 2 (.int .i64 0) ⟨sp, b2.take V, 0, 0, 0⟩ rfl)
          obtain ⟨o0, o1⟩ := h1.okc
          obtain ⟨⟨_, _, x2, _⟩, _, _, y2, _⟩ := rv_cells h1.cur
          have S5 := Lib.hid h1
          clear h1 hr HN3 S4 hnum3
          obtain ⟨⟨q0, q1, q2, q3, q4⟩, z0, z1, z2, z3, z4⟩ := rv_cells S5.out.res
          have lres := blk_lt S5.out.res
          go_wp2_with (fail)
          (try simp only [Exit.inBlock, Exit.then])
          refine bodyPost_ret (ret_cell rfl _ _ (w.heap.size + 1) 36 _ _ _ rfl (set5 SX.out.res r0) Tryz.underlying36 rfl info5) rfl ?_
          exact parse_no SX.out PN.out
        | some p3 =>
          obtain ⟨t, l⟩ := p3
          have PB3 := Lib.hid (show parse bs = if l.length = 16 then some ⟨sp, b2.take V, t, fix (l.take 8), fix (l.drop 8)⟩ else none by rw [PB2.out, hnum3])
          obtain ⟨rfl, h1⟩ := S4.out.got hnum3 hr
          have SX := Lib.hid (h1.set 2 (.int .i64 t) ⟨sp, b2.take V, t, 0, 0⟩ rfl)
          obtain ⟨o0, o1⟩ := h1.okc
          obtain ⟨⟨_, _, x2, _⟩, _, _, y2, _⟩ := rv_cells h1.cur
          obtain ⟨A5, n5, c5, cb, fb, hb5, hnc5, hcm5⟩ := h1.bc
          have hl5 := hb5.len_
          have HB5 := Lib.hid hb5
          have HL5 := Lib.hid hl5
          have S5 := Lib.hid h1
          clear h1 hr HN3 S4 hnum3 hb5 hl5 PB2
          by_cases h16 : n5 = 16
          · subst h16
            have PY := Lib.hid (show parse bs = some ⟨sp, b2.take V, t, fix (l.take 8), fix (l.drop 8)⟩ by rw [PB3.out, if_pos HL5.out])
            obtain ⟨b5, off5, eA⟩ := bs_addr HB5.out (by omega)
            subst eA
            go_wp2_with (fail)
            have hc6 := chg_set w5 (w.heap.size + 1 + 1) 2 (.int .i64 t)
            obtain ⟨w6, hw6⟩ : ∃ w6, w5.setCell ⟨w.heap.size + 1 + 1, 2, none⟩ (.int .i64 t) = w6 := ⟨_, rfl⟩
            rw [hw6] at SX hc6 ⊢
            have cb6 : w6.cell? ⟨w.heap.size, 0, none⟩ = some (.slice (some ⟨b5, off5, none⟩) 16 c5) := Wf.at_ (F := fun k => k = w.heap.size + 1 + 1) cb (by simp; omega) ⟨w6, hc6⟩
            have hs5 := S5.out.bel.size
            have hb6 := HB5.out.below (hc6.below hs5 (fun k hk => by omega)) (Nat.le_refl _)
            have HF1 := Lib.hid (fixed_x w6.drew w.heap.size 8 c5 (some ⟨b5, off5, none⟩) (l.take 8) (bs_take hb6.drew (by omega)) (by omega))
            have HF2 := Lib.hid (fixed_x w6.drew w.heap.size 8 (c5 - 8) (some ⟨b5, off5 + 8, none⟩) (l.drop 8) (bs_drop (c := c5) hb6.drew (show 8 ≤ 16 by omega)) (by omega))
            obtain ⟨F1, hF1⟩ : ∃ F, fix (l.take 8) = F := ⟨_, rfl⟩
            obtain ⟨F2, hF2⟩ : ∃ F, fix (l.drop 8) = F := ⟨_, rfl⟩
            rw [hF1] at HF1 PY
            rw [hF2] at HF2 PY
            obtain ⟨⟨u0, u1, u2, u3, u4⟩, v0, v1', v2', v3, v4⟩ := rv_cells SX.out.cur
            obtain ⟨⟨q0, q1, q2, q3, q4⟩, z0, z1, z2, z3, z4⟩ := rv_cells SX.out.res
            have lres := blk_lt SX.out.res
            have lcur6 := blk_lt SX.out.cur
            have lb6 : w.heap.size < w6.heap.size := by omega
            have S7 := Lib.hid ((SX.out.set 3 (.int .u64 F1) ⟨sp, b2.take V, t, F1, 0⟩ rfl).set 4 (.int .u64 F2) ⟨sp, b2.take V, t, F1, F2⟩ rfl)
            have g5 : (8 : Int) ≤ (c5 : Int) := by omega
            have g6 : ¬ c5 = 8 := by omega
            have zb6 := Wb.at_ cb6
            clear hF1 hF2 hb6 cb cb6 x2 y2 o0 o1 fb hw6 hc6
            refine wp_region_plan [([0, 1, 3, 4], some (2, false)), ([6, 7], some (5, false)), ([], some (8, true)), ([9, 10], some (11, true)), ([], none)] (by kernel_rfl) (by kernel_rfl) ?_
            refine seg_act _ (by dsimp only [pick, at_]) _ (by dsimp only [pick, at_]) ?_
            repeat (go_big_quiet_step (fail))
            refine wpQuiet_nil ?_
            intro K1 h1 h2
            clear h2
            go_wp2_with (fail)
            refine HF1.out.mono ?_
            rintro e w7 ⟨rfl, rfl⟩
            go_wp2_with (fail)
            refine h1 _ _ (Below.refl _ _).drew ?_
            refine seg_act _ (by dsimp only [pick, at_]) _ (by dsimp only [pick, at_]) ?_
            repeat (go_big_quiet_step (fail))
            refine wpQuiet_nil ?_
            intro K2 h1 h2
            clear h2
            go_wp2_with (fail)
            refine HF2.out.mono ?_
            rintro e w7 ⟨rfl, rfl⟩
            go_wp2_with (fail)
            refine h1 _ _ (Below.refl _ _).drew ?_
            refine seg_write _ (by dsimp only [pick, at_]) _ (by dsimp only [pick, at_]) ?_
            repeat (go_big_quiet_step (fail))
            refine wpQuiet_nil ?_
            intro K3 h1
            go_wp2_with (fail)
            refine seg_write _ (by dsimp only [pick, at_]) _ (by dsimp only [pick, at_]) ?_
            repeat (go_big_quiet_step (fail))
            refine wpQuiet_nil ?_
            intro K4 h1
            go_wp2_with (fail)
            refine seg_end _ (by dsimp only [pick, at_]) ?_
            repeat (go_big_quiet_step (fail))
            refine wpQuiet_nil (NoPanic.normal ?_)
            have S8 := Lib.hid S7.out.drew
            obtain ⟨w8, hw8⟩ : ∃ w8, ((w6.setCell ⟨w.heap.size + 1 + 1, 3, none⟩ (.int .u64 F1)).setCell ⟨w.heap.size + 1 + 1, 4, none⟩ (.int .u64 F2)).drew = w8 := ⟨_, rfl⟩
            obtain ⟨R, hR⟩ : ∃ R : Rec, (⟨sp, b2.take V, t, F1, F2⟩ : Rec) = R := ⟨_, rfl⟩
            rw [hw8, hR] at S8
            rw [hR] at PY
            rw [hw8]
            clear zb6 u0 u1 u2 u3 u4 v0 v1' v2' v3 v4 q0 q1 q2 q3 q4 z0 z1 z2 z3 z4 lres lcur6 lb6 hw8 hR S7
            obtain ⟨⟨u0, u1, u2, u3, u4⟩, v0, v1', v2', v3, v4⟩ := rv_cells S8.out.cur
            obtain ⟨⟨q0, q1, q2, q3, q4⟩, z0, z1, z2, z3, z4⟩ := rv_cells S8.out.res
            have lres := blk_lt S8.out.res
            have lcur6 := blk_lt S8.out.cur
            clear v0 v1' v2' v3 v4
            go_wp2_with (fail)
            (try simp only [Exit.inBlock, Exit.then])
            refine bodyPost_ret (ret_cell rfl _ _ (w.heap.size + 1) 36 _ _ _ rfl (set5 S8.out.res R) Tryz.underlying36 rfl info5) rfl ?_
            exact parse_yes S8.out PY.out
          · have PN := Lib.hid (show parse bs = none by rw [PB3.out, if_neg (by rw [HL5.out]; exact h16)])
            have v16 : ((n5 : Int) == 16) = false := by simp; omega
            have v16' : ¬ (n5 : Int) = 16 := by omega
            obtain ⟨⟨q0, q1, q2, q3, q4⟩, z0, z1, z2, z3, z4⟩ := rv_cells S5.out.res
            have lres := blk_lt S5.out.res
            go_wp2_with (fail)
            (try simp only [Exit.inBlock, Exit.then])
            refine bodyPost_ret (ret_cell rfl _ _ (w.heap.size + 1) 36 _ _ _ rfl (set5 SX.out.res r0) Tryz.underlying36 rfl info5) rfl ?_
            exact parse_no SX.out PN.out
      · have S4 := Lib.hid (S4a.setb (bs_drop (c := c2) (HB2.out.below hBw (Nat.le_refl _)) (show V ≤ n2 by omega)) (show n2 - V ≤ c2 - V by omega) (by omega)).drew
        have HN3 := Lib.hid (num_p _ w.heap.size (w.heap.size + 1 + 1 + 1) w.heap.size 1099511627776 (b2.drop V) true S4.out.pb (by rw [List.length_drop, HL2.out]; omega) (by omega))
        clear S4a hBw
        go_wp2_with (fail)
        refine fr.wp_region_tree (F := fun k => k = w.heap.size + 1 + 1) (.reads [0, 1, 2, 3, 4, 5, 6, 7] (.one 8 false (.one 9 true .stop))) (by kernel_rfl) (by kernel_rfl) ?_
        refine fr.tr_reads _ (by dsimp only [pick, at_]) ?_
        repeat (go_big_quiet_step (fail))
        refine wpQuiet_nil ?_
        refine fr.tr_one _ (by dsimp only [pick, at_]) ?_
        intro K1 g1 g2
        clear g2
        go_wp2_with (fail)
        refine g1 _ _ ((Chg.refl (fun k => k = w.heap.size + 1 + 1) w3).setCell (p := ⟨w.heap.size + 1 + 1, 1, none⟩) (fun _ => rfl) _).drew ?_
        clear g1
        refine fr.tr_write _ (by dsimp only [pick, at_]) ?_
        intro K2 g3
        go_wp2_with (fail)
        refine fr.tr_stop ?_
        refine NoPanic.normal ?_
        clear zb zc e1 f1 cb fb o0 o1
        go_wp2_with (fail)
        refine HN3.out.mono ?_
        rintro e w5 hr
        cases hnum3 : num 1099511627776 (b2.drop V) with
        | none =>
          have PN := Lib.hid (show parse bs = none by rw [PB2.out, hnum3])
          obtain ⟨rfl, h1⟩ := S4.out.not hnum3 hr
          have SX := Lib.hid (h1.set 2 (.int .i64 0) ⟨sp, b2.take V, 0, 0, 0⟩ rfl)
          obtain ⟨o0, o1⟩ := h1.okc
          obtain ⟨⟨_, _, x2, _⟩, _, _, y2, _⟩ := rv_cells h1.cur
          have S5 := Lib.hid h1
          clear h1 hr HN3 S4 hnum3
          obtain ⟨⟨q0, q1, q2, q3, q4⟩, z0, z1, z2, z3, z4⟩ := rv_cells S5.out.res
          have lres := blk_lt S5.out.res
          go_wp2_with (fail)
          (try simp only [Exit.inBlock, Exit.then])
          refine bodyPost_ret (ret_cell rfl _ _ (w.heap.size + 1) 36 _ _ _ rfl (set5 SX.out.res r0) Tryz.underlying36 rfl info5) rfl ?_
          exact parse_no SX.out PN.out
        | some p3 =>
          obtain ⟨t, l⟩ := p3
          have PB3 := Lib.hid (show parse bs = if l.length = 16 then some ⟨sp, b2.take V, t, fix (l.take 8), fix (l.drop 8)⟩ else none by rw [PB2.out, hnum3])
          obtain ⟨rfl, h1⟩ := S4.out.got hnum3 hr
          have SX := Lib.hid (h1.set 2 (.int .i64 t) ⟨sp, b2.take V, t, 0, 0⟩ rfl)
          obtain ⟨o0, o1⟩ := h1.okc
          obtain ⟨⟨_, _, x2, _⟩, _, _, y2, _⟩ := rv_cells h1.cur
          obtain ⟨A5, n5, c5, cb, fb, hb5, hnc5, hcm5⟩ := h1.bc
          have hl5 := hb5.len_
          have HB5 := Lib.hid hb5
          have HL5 := Lib.hid hl5
          have S5 := Lib.hid h1
          clear h1 hr HN3 S4 hnum3 hb5 hl5 PB2
          by_cases h16 : n5 = 16
          · subst h16
            have PY := Lib.hid (show parse bs = some ⟨sp, b2.take V, t, fix (l.take 8), fix (l.drop 8)⟩ by rw [PB3.out, if_pos HL5.out])
            obtain ⟨b5, off5, eA⟩ := bs_addr HB5.out (by omega)
            subst eA
            go_wp2_with (fail)
            have hc6 := chg_set w5 (w.heap.size + 1 + 1) 2 (.int .i64 t)
            obtain ⟨w6, hw6⟩ : ∃ w6, w5.setCell ⟨w.heap.size + 1 + 1, 2, none⟩ (.int .i64 t) = w6 := ⟨_, rfl⟩
            rw [hw6] at SX hc6 ⊢
            have cb6 : w6.cell? ⟨w.heap.size, 0, none⟩ = some (.slice (some ⟨b5, off5, none⟩) 16 c5) := Wf.at_ (F := fun k => k = w.heap.size + 1 + 1) cb (by simp; omega) ⟨w6, hc6⟩
            have hs5 := S5.out.bel.size
            have hb6 := HB5.out.below (hc6.below hs5 (fun k hk => by omega)) (Nat.le_refl _)
            have HF1 := Lib.hid (fixed_x w6.drew w.heap.size 8 c5 (some ⟨b5, off5, none⟩) (l.take 8) (bs_take hb6.drew (by omega)) (by omega))
            have HF2 := Lib.hid (fixed_x w6.drew w.heap.size 8 (c5 - 8) (some ⟨b5, off5 + 8, none⟩) (l.drop 8) (bs_drop (c := c5) hb6.drew (show 8 ≤ 16 by omega)) (by omega))
            obtain ⟨F1, hF1⟩ : ∃ F, fix (l.take 8) = F := ⟨_, rfl⟩
            obtain ⟨F2, hF2⟩ : ∃ F, fix (l.drop 8) = F := ⟨_, rfl⟩
            rw [hF1] at HF1 PY
            rw [hF2] at HF2 PY
            obtain ⟨⟨u0, u1, u2, u3, u4⟩, v0, v1', v2', v3, v4⟩ := rv_cells SX.out.cur
            obtain ⟨⟨q0, q1, q2, q3, q4⟩, z0, z1, z2, z3, z4⟩ := rv_cells SX.out.res
            have lres := blk_lt SX.out.res
            have lcur6 := blk_lt SX.out.cur
            have lb6 : w.heap.size < w6.heap.size := by omega
            have S7 := Lib.hid ((SX.out.set 3 (.int .u64 F1) ⟨sp, b2.take V, t, F1, 0⟩ rfl).set 4 (.int .u64 F2) ⟨sp, b2.take V, t, F1, F2⟩ rfl)
            have g5 : (8 : Int) ≤ (c5 : Int) := by omega
            have g6 : ¬ c5 = 8 := by omega
            have zb6 := Wb.at_ cb6
            clear hF1 hF2 hb6 cb cb6 x2 y2 o0 o1 fb hw6 hc6
            refine wp_region_plan [([0, 1, 3, 4], some (2, false)), ([6, 7], some (5, false)), ([], some (8, true)), ([9, 10], some (11, true)), ([], none)] (by kernel_rfl) (by kernel_rfl) ?_
            refine seg_act _ (by dsimp only [pick, at_]) _ (by dsimp only [pick, at_]) ?_
            repeat (go_big_quiet_step (fail))
            refine wpQuiet_nil ?_
            intro K1 h1 h2
            clear h2
            go_wp2_with (fail)
            refine HF1.out.mono ?_
            rintro e w7 ⟨rfl, rfl⟩
            go_wp2_with (fail)
            refine h1 _ _ (Below.refl _ _).drew ?_
            refine seg_act _ (by dsimp only [pick, at_]) _ (by dsimp only [pick, at_]) ?_
            repeat (go_big_quiet_step (fail))
            refine wpQuiet_nil ?_
            intro K2 h1 h2
            clear h2
            go_wp2_with (fail)
            refine HF2.out.mono ?_
            rintro e w7 ⟨rfl, rfl⟩
            go_wp2_with (fail)
            refine h1 _ _ (Below.refl _ _).drew ?_
            refine seg_write _ (by dsimp only [pick, at_]) _ (by dsimp only [pick, at_]) ?_
            repeat (go_big_quiet_step (fail))
            refine wpQuiet_nil ?_
            intro K3 h1
            go_wp2_with (fail)
            refine seg_write _ (by dsimp only [pick, at_]) _ (by dsimp only [pick, at_]) ?_
            repeat (go_big_quiet_step (fail))
            refine wpQuiet_nil ?_
            intro K4 h1
            go_wp2_with (fail)
            refine seg_end _ (by dsimp only [pick, at_]) ?_
            repeat (go_big_quiet_step (fail))
            refine wpQuiet_nil (NoPanic.normal ?_)
            have S8 := Lib.hid S7.out.drew
            obtain ⟨w8, hw8⟩ : ∃ w8, ((w6.setCell ⟨w.heap.size + 1 + 1, 3, none⟩ (.int .u64 F1)).setCell ⟨w.heap.size + 1 + 1, 4, none⟩ (.int .u64 F2)).drew = w8 := ⟨_, rfl⟩
            obtain ⟨R, hR⟩ : ∃ R : Rec, (⟨sp, b2.take V, t, F1, F2⟩ : Rec) = R := ⟨_, rfl⟩
            rw [hw8, hR] at S8
            rw [hR] at PY
            rw [hw8]
            clear zb6 u0 u1 u2 u3 u4 v0 v1' v2' v3 v4 q0 q1 q2 q3 q4 z0 z1 z2 z3 z4 lres lcur6 lb6 hw8 hR S7
            obtain ⟨⟨u0, u1, u2, u3, u4⟩, v0, v1', v2', v3, v4⟩ := rv_cells S8.out.cur
            obtain ⟨⟨q0, q1, q2, q3, q4⟩, z0, z1, z2, z3, z4⟩ := rv_cells S8.out.res
            have lres := blk_lt S8.out.res
            have lcur6 := blk_lt S8.out.cur
            clear v0 v1' v2' v3 v4
            go_wp2_with (fail)
            (try simp only [Exit.inBlock, Exit.then])
            refine bodyPost_ret (ret_cell rfl _ _ (w.heap.size + 1) 36 _ _ _ rfl (set5 S8.out.res R) Tryz.underlying36 rfl info5) rfl ?_
            exact parse_yes S8.out PY.out
          · have PN := Lib.hid (show parse bs = none by rw [PB3.out, if_neg (by rw [HL5.out]; exact h16)])
            have v16 : ((n5 : Int) == 16) = false := by simp; omega
            have v16' : ¬ (n5 : Int) = 16 := by omega
            obtain ⟨⟨q0, q1, q2, q3, q4⟩, z0, z1, z2, z3, z4⟩ := rv_cells S5.out.res
            have lres := blk_lt S5.out.res
            go_wp2_with (fail)
            (try simp only [Exit.inBlock, Exit.then])
            refine bodyPost_ret (ret_cell rfl _ _ (w.heap.size + 1) 36 _ _ _ rfl (set5 SX.out.res r0) Tryz.underlying36 rfl info5) rfl ?_
            exact parse_no SX.out PN.out
end Go.Proofs.YtmegkemileailaaGreatDoor.cl
