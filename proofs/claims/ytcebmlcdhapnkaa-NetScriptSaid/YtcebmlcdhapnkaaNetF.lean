/-
  Nets whose packets lie outside of given blocks.
-/
import Derived.Test.YtcebmlcdhapnkaaNetRemove
namespace Go.Proofs.Ytcebmlcdhapnkaa.net
open Go.ChangeShapes Go.WideShapes Go.ChangeAt Go.RowKit plain words ord mem

/-- a net of type T at block p, its list in block r, its packets' bytes outside of F: it has the packets P -/
def IsNetF (T : TypeId) (F : Nat → Prop) (w : World) (p : Nat) (r : Option Nat) (P : List Msg) : Prop :=
  ∃ v K, w.heap[p]? = some (.cells #[v] T (0, 0)) ∧ Row w 32 3 v K.length (pcells K) ∧ (∀ k ∈ K, PkOk w k ∧ ∀ g, (Value.slice k.a k.n k.c).ownBlock = some g → ¬ F g) ∧ K.map Pk.msg = P ∧ v.ownBlock = r
def NetPostF (T : TypeId) (F : Nat → Prop) (w : World) (p : Nat) (r : Option Nat) (ret : Value) (P : List Msg) (e : Ending) (w' : World) : Prop :=
  ∃ r', e = .returned ret ∧ IsNetF T F w' p r' P ∧ Chg (fun b => b = p ∨ some b = r) w w' ∧ (r' = r ∨ ∃ g, r' = some g ∧ w.heap.size ≤ g)
section
variable {T : TypeId} {F : Nat → Prop} {w w' : World} {p : Nat} {r : Option Nat} {P : List Msg}
theorem IsNetF.net (h : IsNetF 73 F w p r P) : IsNet w p r P := by
  obtain ⟨v, K, h1, h2, h3, h4, h5⟩ := h
  exact ⟨v, K, h1, h2, fun k hk => (h3 k hk).1, h4, h5⟩
theorem IsNet.fence (h : IsNet w p r P) (F : Nat → Prop) (hF : ∀ g, F g → w.heap.size ≤ g) : IsNetF 73 F w p r P := by
  obtain ⟨v, K, h1, h2, h3, h4, h5⟩ := h
  exact ⟨v, K, h1, h2, fun k hk => ⟨h3 k hk, fun g hg e => by have := own_lt (h3 k hk) hg; have := hF g e; omega⟩, h4, h5⟩
/-- a fence that lies behind all that is there -/
theorem IsNetF.fence (h : IsNetF T F w p r P) (F' : Nat → Prop) (hF : ∀ g, F' g → w.heap.size ≤ g) : IsNetF T F' w p r P := by
  obtain ⟨v, K, h1, h2, h3, h4, h5⟩ := h
  exact ⟨v, K, h1, h2, fun k hk => ⟨(h3 k hk).1, fun g hg e => by have := own_lt (h3 k hk).1 hg; have := hF g e; omega⟩, h4, h5⟩
theorem IsNetF.weak (h : IsNetF T F w p r P) {F' : Nat → Prop} (hF : ∀ g, F' g → F g) : IsNetF T F' w p r P := by
  obtain ⟨v, K, h1, h2, h3, h4, h5⟩ := h
  exact ⟨v, K, h1, h2, fun k hk => ⟨(h3 k hk).1, fun g hg e => (h3 k hk).2 g hg (hF g e)⟩, h4, h5⟩
theorem IsNetF.chg {S : Nat → Prop} (h : IsNetF T F w p r P) (hc : Chg S w w') (hp : ¬ S p) (hr : ∀ g, r = some g → ¬ S g) (hd : ∀ b cur, S b → w.heap[b]? = some (.cells cur 5 (0, 0)) → F b) : IsNetF T F w' p r P := by
  obtain ⟨v, K, h1, h2, h3, h4, h5⟩ := h
  have hs : ∀ k ∈ K, ∀ g, (Value.slice k.a k.n k.c).ownBlock = some g → ¬ S g := fun k hk g hg e => by
    obtain ⟨cur, hcur⟩ := own_type (h3 k hk).1 hg
    exact (h3 k hk).2 g hg (hd g cur e hcur)
  exact ⟨v, K, hc.blk h1 hp, h2.chg hc (fun g hg => hr g (h5 ▸ hg)), fun k hk => ⟨own_chg (h3 k hk).1 hc (hs k hk), (h3 k hk).2⟩, h4, h5⟩
theorem IsNetF.below (h : IsNetF T F w p r P) (hb : Below w.heap.size w w') : IsNetF T F w' p r P := h.chg (Chg.of_below hb) (fun e => e) (fun _ _ e => e) (fun _ _ e => e.elim)
theorem IsNetF.drew (h : IsNetF T F w p r P) : IsNetF T F w.drew p r P := h
theorem IsNetF.lt (h : IsNetF T F w p r P) : p < w.heap.size := by
  obtain ⟨v, K, h1, _⟩ := h
  exact blk_lt h1
theorem IsNetF.row_lt {g : Nat} (h : IsNetF T F w p (some g) P) : g < w.heap.size := by
  obtain ⟨v, K, h1, h2, h3, h4, h5⟩ := h
  exact h2.lt h5
theorem IsNetF.type (h : IsNetF T F w p r P) : ∃ v, w.heap[p]? = some (.cells #[v] T (0, 0)) := by
  obtain ⟨v, K, h1, _⟩ := h
  exact ⟨v, h1⟩
theorem IsNetF.row_type {g : Nat} (h : IsNetF T F w p (some g) P) : ∃ cur, w.heap[g]? = some (.cells cur 32 (0, 0)) := by
  obtain ⟨v, K, h1, h2, h3, h4, h5⟩ := h
  exact h2.type h5
theorem IsNetF.slot (h : IsNetF T F w p r P) : ∃ A c, w.cell? ⟨p, 0, none⟩ = some (.slice A P.length c) ∧ P.length ≤ c ∧ c ≤ 9223372036854775807 := by
  obtain ⟨v, K, h1, h2, _, rfl, _⟩ := h
  obtain ⟨A, c, rfl, h3, h4, _⟩ := h2.form
  exact ⟨A, c, by rw [cell_of_row _ _ _ _ _ _ h1]; simp, by simpa using h3, h4⟩
theorem IsNetF.at_ (h : IsNetF T F w p r P) {k : Nat} {x y : Int} {bs : List UInt8} (hk : P[k]? = some (x, y, bs)) :
    ∃ g c A n d, w.cell? ⟨p, 0, none⟩ = some (.slice (some ⟨g, 0, none⟩) P.length c) ∧ w.cell? ⟨g, k * 3, none⟩ = some (.int .i64 x) ∧ w.cell? ⟨g, k * 3 + 1, none⟩ = some (.int .i64 y) ∧ w.cell? ⟨g, k * 3 + 2, none⟩ = some (.slice A n d) ∧ Bs w w.heap.size A n bs ∧ (A = none → d = 0) ∧ P.length ≤ c ∧ c ≤ 9223372036854775807 ∧ g < w.heap.size ∧ w.ownsRow 0 5 1 (.slice A n d) n (u8s bs) := by
  obtain ⟨v, K, h1, h2, h3', rfl, h5⟩ := h
  have h3 : ∀ k ∈ K, PkOk w k := fun k hk => (h3' k hk).1
  have hkl : k < K.length := by
    rcases Nat.lt_or_ge k K.length with h | h
    · exact h
    · rw [List.getElem?_eq_none (by simpa using h)] at hk; cases hk
  have hm : (K[k]).msg = (x, y, bs) := by
    rw [List.getElem?_map, List.getElem?_eq_getElem hkl] at hk
    simpa using hk
  obtain ⟨g, c, rfl, hg, hc1, hc2⟩ := h2.pos (by omega)
  obtain ⟨p0, p1, p2⟩ := pcells_at K k hkl
  have e0 := h2.cellAt (k * 3) (by omega)
  have e1 := h2.cellAt (k * 3 + 1) (by omega)
  have e2 := h2.cellAt (k * 3 + 2) (by omega)
  rw [p0] at e0
  rw [p1] at e1
  rw [p2] at e2
  have hok : w.ownsRow 0 5 1 (.slice K[k].a K[k].n K[k].c) K[k].n (u8s K[k].bs) := h3 K[k] (List.getElem_mem hkl)
  have hb : K[k].bs = bs := congrArg (fun q => q.2.2) hm
  have hx : K[k].src = x := congrArg (fun q => q.1) hm
  have hy : K[k].dst = y := congrArg (fun q => q.2.1) hm
  refine ⟨g, c, K[k].a, K[k].n, K[k].c, ?_, hx ▸ e0, hy ▸ e1, e2, hb ▸ own_bs hok, fun e => ?_, by simpa using hc1, hc2, hg, hb ▸ hok⟩
  · rw [cell_of_row _ _ _ _ _ _ h1]; simp
  · rcases own_form hok with ⟨e', _⟩ | ⟨_, _, e', _⟩
    · injection e'
    · rw [e] at e'; injection e' with e'; cases e'

end
set_option maxHeartbeats 1000000 in
theorem add_f (F : Nat → Prop) (w : World) (hF : ∀ g, F g → g < w.heap.size) (p : Nat) (r : Option Nat) (P : List Msg) (hN : IsNetF 73 F w p r P) (x y : Int) (B n c : Nat) (A : Option Addr) (bs : List UInt8) (h : Bs w B A n bs) (hA : A = none → c = 0) (hB : B ≤ w.heap.size) (hn : n ≤ 1099511627776) (hP : P.length < 256) :
    Calls Try.prog 37 #[.pointer (some ⟨p, 0, none⟩), .agg #[.int .i64 x, .int .i64 y, .slice A n c]] w (NetPostF 73 F w p r (.int .i64 0) (P ++ [(x, y, bs)])) := by
  have hpl := hN.lt
  obtain ⟨v, K, hp, hown, hKF, rfl, hr⟩ := hN
  have hK : ∀ k ∈ K, PkOk w k := fun k hk => (hKF k hk).1
  have HKF := Lib.hid (show ∀ k ∈ K, ∀ g, (Value.slice k.a k.n k.c).ownBlock = some g → ¬ F g from fun k hk => (hKF k hk).2)
  clear hKF
  obtain ⟨vA, vc, rfl, hv1, hv2, _⟩ := hown.form
  obtain ⟨P1, hP1⟩ : ∃ o, Obj.cells #[.int .i64 x, .int .i64 y, .slice A n c] 32 (0, 0) = o := ⟨_, rfl⟩
  have f0 := alloc_old P1 hp
  have f1 := alloc_new w P1
  have hb := h.alloc hB P1
  have hcl := fun w' (hb' : Below w.heap.size w w') => pclone_x w' x y B n c A bs (h.below hb' hB) hA (Nat.le_trans hB hb'.size) hn
  subst hP1
  have hbel0 : Below w.heap.size w (w.alloc (.cells #[.int .i64 x, .int .i64 y, .slice A n c] 32)) := (Below.refl _ _).alloc (Nat.le_refl _) _
  obtain ⟨wb, hwb⟩ : ∃ wb, w.alloc (.cells #[.int .i64 x, .int .i64 y, .slice A n c] 32) = wb := ⟨_, rfl⟩
  rw [hwb] at f0 f1 hbel0
  have HWB := Lib.hid hwb
  have c0 : wb.cell? ⟨p, 0, none⟩ = some (.slice vA K.length vc) := by rw [cell_of_row _ _ _ _ _ _ f0]; rfl
  have cw : w.cell? ⟨p, 0, none⟩ = some (.slice vA K.length vc) := by rw [cell_of_row _ _ _ _ _ _ hp]; rfl
  have hk1 : ¬ (256 : Int) ≤ (K.length : Int) := by simp at hP; omega
  have F0 := Lib.hid f0
  have F1 := Lib.hid f1
  have HCL := Lib.hid hcl
  have HOWN := Lib.hid hown
  have HPK := Lib.hid hK
  have HP := Lib.hid hp
  have HBEL := Lib.hid hbel0
  clear hcl hb f0 f1 hown hp hK hwb hbel0
  go_enter Try.func37, Try.ntmps37
  go_wp2_with (fail)
  rw [HWB.out]
  go_wp2_with (fail)
  have q0 := Wb.at_ c0
  have q1 := Wb.at_ (show wb.cell? ⟨w.heap.size, 0, none⟩ = some (.int .i64 x) by rw [cell_of_row _ _ _ _ _ _ F1.out]; rfl)
  have q2 := Wb.at_ (show wb.cell? ⟨w.heap.size, 1, none⟩ = some (.int .i64 y) by rw [cell_of_row _ _ _ _ _ _ F1.out]; rfl)
  have q3 := Wb.at_ (show wb.cell? ⟨w.heap.size, 2, none⟩ = some (.slice A n c) by rw [cell_of_row _ _ _ _ _ _ F1.out]; rfl)
  refine wp_region_plan [([0, 1, 2, 3, 4, 5], some (6, false)), ([], some (7, false)), ([], some (8, true)), ([9, 10], some (11, true)), ([], none)] (by kernel_rfl) (by kernel_rfl) ?_
  refine seg_act _ (by dsimp only [pick, at_]) _ (by dsimp only [pick, at_]) ?_
  repeat (go_big_quiet_step (fail))
  refine wpQuiet_nil ?_
  intro K1 h1 h2
  clear h1
  go_wp2_with (fail)
  refine (HCL.out wb.drew HBEL.out.drew).mono ?_
  rintro e w1 ⟨A', c', rfl, hown1, hb1⟩
  have hb2 : Below wb.heap.size wb w1 := (Below.refl _ _).drew.trans hb1
  go_wp2_with (fail)
  refine h2 _ _ hb2 ?_
  clear h2 q0 q1 q2 q3
  refine seg_act _ (by dsimp only [pick, at_]) _ (by dsimp only [pick, at_]) ?_
  repeat (go_big_quiet_step (fail))
  refine wpQuiet_nil ?_
  intro K2 h1 h2
  clear h1
  go_wp2_with (fail)
  obtain ⟨w2, hw2⟩ : ∃ w2, w1.alloc (.cells #[.int .i64 x, .int .i64 y, .slice A' n c'] 32) = w2 := ⟨_, rfl⟩
  have hb3 : Below w1.heap.size w1 w2 := by rw [← hw2]; exact (Below.refl _ _).alloc (Nat.le_refl _) _
  have g0 : w2.heap[w1.heap.size]? = some (.cells #[.int .i64 x, .int .i64 y, .slice A' n c'] 32 (0, 0)) := by rw [← hw2]; exact alloc_new _ _
  have hs2 : w2.heap.size = w1.heap.size + 1 := by rw [← hw2]; simp
  rw [hw2]
  refine h2 _ _ hb3 ?_
  clear h2 hw2
  have hs1 := hb2.size
  have hs0 := HBEL.out.size
  have hall : Below w.heap.size w w2 := (HBEL.out.trans (hb2.mono hs0)).trans (hb3.mono (by omega))
  have hown2 := HOWN.out.below hall (Nat.le_refl _)
  have hp2 : w2.heap[p]? = some (.cells #[.slice vA K.length vc] 73 (0, 0)) := blk_below hall HP.out hpl
  have hpk2 : ∀ k ∈ K, PkOk w2 k := fun k hk => own_keep (HPK.out k hk) hall (Nat.le_refl _)
  have hnew2 : w2.ownsRow w.heap.size 5 1 (.slice A' n c') n (u8s bs) := own_base (own_keep hown1 hb3 (Nat.le_refl _)) (Nat.le_trans hs0 (Nat.le_refl _))
  have hnews : Rd w2 w2.heap.size (some ⟨w1.heap.size, 0, none⟩) 3 [.int .i64 x, .int .i64 y, .slice A' n c'] := ⟨rfl, fun j hj => ⟨w1.heap.size, 0, _, rfl, blk_lt g0, List.getElem?_eq_getElem (by simpa using hj), by
    rw [Nat.zero_add, cell_of_row _ _ _ _ _ _ g0, ← List.getElem?_eq_getElem (by simpa using hj)]; simp⟩⟩
  have hsl : w.heap.size ≤ w2.heap.size := by omega
  have HNEW := Lib.hid hnew2
  have HNEWF := Lib.hid (show ∀ g, (Value.slice A' n c').ownBlock = some g → ¬ F g from fun g hg e => by
    have h1 := (hnew2.lt g hg).1
    have h2 := hF g e
    omega)
  have HPK2 := Lib.hid hpk2
  have HALL := Lib.hid hall
  have HP2 := Lib.hid hp2
  obtain ⟨i0, hi, hz0, hz1, hz2⟩ := info_parts infoP
  clear hown1 hb1 hb2 hb3 hnew2 hpk2 hall hp2 HCL
  refine seg_write _ (by dsimp only [pick, at_]) _ (by dsimp only [pick, at_]) ?_
  refine wpQuiet_nil ?_
  intro K3 h3
  refine wpList_append_row _ rfl (.tmp 15) (.tmp 18) 44 rfl 32 i0 _ 3 40 Try.underlying44 hi hz0 hz1 hz2 rfl (by decide) _ K.length (pcells K) (by rfl) hown2 _ _ 1 1 (fun e => by cases e) _ (by rfl) hnews (by intro u hu; simp at hu; rcases hu with rfl | rfl | rfl <;> rfl) (by unfold maxLen; simp at hP; omega) (by simp at hP; omega) ?_
  intro v3 w3 hown3 hgrow hat hnn
  obtain ⟨g, cap, rfl, hlt, hcap1, hcap2⟩ := hown3.pos (by omega)
  have hown3' : Row w3 32 3 (.slice (some ⟨g, 0, none⟩) (K.length + 1) cap) (K.length + 1) (pcells (K ++ [⟨x, y, A', n, c', bs⟩])) := by
    rw [pcells_append]; exact hown3
  have hat : (Value.slice vA K.length vc).ownBlock = some g ∨ g = w2.heap.size := hat.imp (fun e => e.symm) (fun e => by injection e)
  have hpv : ∀ g', (Value.slice vA K.length vc).ownBlock = some g' → p ≠ g' := fun g' hg' => by
    obtain ⟨cur, hc⟩ := HOWN.out.type hg'
    exact blk_type HP.out hc (by decide)
  have hp3 : w3.heap[p]? = some (.cells #[.slice vA K.length vc] 73 (0, 0)) :=
    (hgrow.block p (by omega) (fun e => hpv p e.symm rfl)).trans HP2.out
  have hc3 : w3.cell? ⟨p, 0, none⟩ = some (.slice vA K.length vc) := by rw [cell_of_row _ _ _ _ _ _ hp3]; rfl
  have hf3 : w3.frozen? ⟨p, 0, none⟩ = false := frozen_of_row _ _ _ _ _ hp3
  have hch3 : Chg (fun b => b = p ∨ some b = r) w w3 := ((Chg.of_below HALL.out).mono (fun _ _ e => e.elim)).grown hgrow (fun k hk _ => .inr (by rw [← hr, hk]))
  have hpg : p ≠ g := by
    rcases hat with e | e
    · exact hpv g e
    · omega
  have hk3 : ∀ k ∈ K ++ [⟨x, y, A', n, c', bs⟩], PkOk w3 k := fun k hk => by
    have h0 : w2.ownsRow 0 5 1 (.slice k.a k.n k.c) k.n (u8s k.bs) := by
      rcases List.mem_append.1 hk with hk | hk
      · exact HPK2.out k hk
      · simp at hk; subst hk; exact own_base HNEW.out (Nat.zero_le _)
    refine h0.kept hgrow ?_
    cases hx : (Value.slice k.a k.n k.c).ownBlock with
    | none => exact .inl rfl
    | some gx =>
      refine .inr fun e => ?_
      obtain ⟨cx, hcx⟩ := own_type h0 hx
      obtain ⟨cy, hcy⟩ := hown2.type e.symm
      exact blk_type hcx hcy (by decide) rfl
  have HOWN3 := Lib.hid hown3'
  have HK3 := Lib.hid hk3
  have HCH3 := Lib.hid hch3
  have HP3 := Lib.hid hp3
  clear hown3 hown3' hk3 hch3 hp3 hown2 HNEW HPK2 HALL HP2 hgrow hnews g0
  go_wp2_with (fail)
  refine seg_write _ (by dsimp only [pick, at_]) _ (by dsimp only [pick, at_]) ?_
  repeat (go_big_quiet_step (fail))
  refine wpQuiet_nil ?_
  intro K4 h4
  go_wp2_with (fail)
  refine seg_end _ (by dsimp only [pick, at_]) ?_
  refine wpQuiet_nil (NoPanic.normal ?_)
  go_wp2_with (fail)
  go_ret
  have hpost : w3.heap.size ≤ (w3.setCell ⟨p, 0, none⟩ (.slice (some ⟨g, 0, none⟩) (K.length + 1) cap)).heap.size := by simp [World.setCell]
  refine ⟨some g, rfl, ⟨_, K ++ [⟨x, y, A', n, c', bs⟩], heap_setCell_same _ _ _ _ _ _ HP3.out, ?_, fun k hk => ⟨?_, ?_⟩, by simp [Pk.msg], rfl⟩, HCH3.out.setCell (fun _ => .inl rfl) _, ?_⟩
  · have := HOWN3.out.chg ((Chg.refl (fun b => b = p) w3).setCell (p := ⟨p, 0, none⟩) (fun _ => rfl) (.slice (some ⟨g, 0, none⟩) (K.length + 1) cap)) (fun g' hg' e => hpg (by cases hg'; exact e.symm))
    simpa using this
  · refine own_chg (HK3.out k hk) ((Chg.refl (fun b => b = p) w3).setCell (p := ⟨p, 0, none⟩) (fun _ => rfl) _) (fun g' hg' e => ?_)
    obtain ⟨cx, hcx⟩ := own_type (HK3.out k hk) hg'
    exact blk_type hcx HP3.out (by decide) e
  · rcases List.mem_append.1 hk with hk | hk
    · exact HKF.out k hk
    · simp at hk; subst hk; exact HNEWF.out
  · rcases hat with e | e
    · exact .inl (e.symm.trans hr)
    · exact .inr ⟨g, rfl, by omega⟩

theorem send_f (F : Nat → Prop) (w : World) (hF : ∀ g, F g → g < w.heap.size) (p : Nat) (r : Option Nat) (P : List Msg) (hN : IsNetF 73 F w p r P) (x y : Int) (B n c : Nat) (A : Option Addr) (bs : List UInt8) (h : Bs w B A n bs) (hA : A = none → c = 0) (hB : B ≤ w.heap.size) (hn : n ≤ 9223372036854775807) :
    Calls Try.prog 14 #[.pointer (some ⟨p, 0, none⟩), .int .i64 x, .int .i64 y, .slice A n c] w (NetPostF 73 F w p r (.int .i64 (sent P (x, y, bs)).1) (sent P (x, y, bs)).2) := by
  have hl := h.len_
  by_cases h1 : 32768 < n
  · have h1' : (32768 : Int) < (n : Int) := by omega
    go_enter Try.func14, Try.ntmps14
    go_wp2_with (fail)
    go_ret
    rw [show sent P (x, y, bs) = (1, P) from if_pos (by simp only [hl]; exact h1)]
    exact ⟨r, rfl, hN, Chg.refl _ _, .inl rfl⟩
  · have h1' : ¬ (32768 : Int) < (n : Int) := by omega
    by_cases h2 : 256 ≤ P.length
    · have hc := add_full w p r P hN.net undef x y h2 A n c
      have HC := Lib.hid hc
      clear hc
      go_enter Try.func14, Try.ntmps14
      go_wp2_with (fail)
      refine HC.out.mono ?_
      rintro e w1 ⟨rfl, hb⟩
      go_wp2_with (fail)
      go_ret
      rw [show sent P (x, y, bs) = (12, P) from (if_neg (by simp only [hl]; exact h1)).trans (if_pos h2)]
      exact ⟨r, rfl, hN.below hb, (Chg.of_below hb).mono (fun _ _ e => e.elim), .inl rfl⟩
    · have hc := add_f F w hF p r P hN x y B n c A bs h hA hB (by omega) (by omega)
      have HC := Lib.hid hc
      clear hc
      go_enter Try.func14, Try.ntmps14
      go_wp2_with (fail)
      refine HC.out.mono ?_
      rintro e w1 ⟨r', rfl, hN', hch, hr⟩
      go_wp2_with (fail)
      go_ret
      rw [show sent P (x, y, bs) = (0, P ++ [(x, y, bs)]) from (if_neg (by simp only [hl]; exact h1)).trans (if_neg h2)]
      exact ⟨r', rfl, hN', hch, hr⟩

end Go.Proofs.Ytcebmlcdhapnkaa.net
