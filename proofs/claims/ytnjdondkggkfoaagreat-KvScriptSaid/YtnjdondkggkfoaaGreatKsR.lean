/-
  A region's plan checked by masks: what an operation waits for is a number's bits, so that the check of a region of 50 guarded operations ends.
-/
import Derived.Test.YtnjdondkggkfoaaGreatOrd
import Derived.Test.YtnjdondkggkfoaaGreatRe
import Derived.Test.YtnjdondkggkfoaaGreatKs2
import Derived.Test.YtnjdondkggkfoaaGreatKvDXY
import Derived.Test.YtnjdondkggkfoaaGreatKsIn
namespace Go.Proofs.YtnjdondkggkfoaaGreat.ord
open Go Go.RowKit words

section
variable {md : Region.Mode} {ops : Array Oper}
theorem waits_mono {k : Nat} : ∀ {f g j : Nat}, f ≤ g → waits md ops k f j = true → waits md ops k g j = true
  | 0, _, _, _, h => by simp [waits] at h
  | f + 1, 0, _, hfg, _ => by omega
  | f + 1, g + 1, j, hfg, h => by
    unfold waits at h ⊢
    cases ho : ops[j]? with
    | none => rw [ho] at h; simp at h
    | some o =>
      rw [ho] at h
      simp only [Array.any_eq_true'] at h ⊢
      obtain ⟨e, he, h⟩ := h
      refine ⟨e, he, ?_⟩
      simp only [Bool.and_eq_true, Bool.or_eq_true] at h ⊢
      exact ⟨h.1, h.2.imp id (waits_mono (by omega))⟩
def maskStep (md : Region.Mode) (ms : List Nat) (i : Nat) (m : Nat) (e : Edge) : Nat := if Region.binds md e && decide (e.on < i) then (m ||| 2 ^ e.on) ||| ms.getD e.on 0 else m
def maskOf (md : Region.Mode) (ms : List Nat) (i : Nat) (o : Oper) : Nat := o.after.toList.foldl (maskStep md ms i) 0
def masks (md : Region.Mode) : List Oper → Nat → List Nat → List Nat
  | [], _, ms => ms
  | o :: r, i, ms => masks md r (i + 1) (ms ++ [maskOf md ms i o])
theorem mask_fold {ms : List Nat} {i k : Nat} : ∀ (L : List Edge) (m : Nat), (L.foldl (maskStep md ms i) m).testBit k = true → m.testBit k = true ∨ ∃ e ∈ L, Region.binds md e = true ∧ e.on < i ∧ (e.on = k ∨ (ms.getD e.on 0).testBit k = true)
  | [], m, h => .inl h
  | e :: L, m, h => by
    rw [List.foldl_cons] at h
    rcases mask_fold L _ h with h1 | ⟨e', he', h2⟩
    · unfold maskStep at h1
      split at h1
      · rename_i hc
        simp only [Bool.and_eq_true, decide_eq_true_eq] at hc
        rw [Nat.testBit_or, Nat.testBit_or, Bool.or_eq_true, Bool.or_eq_true] at h1
        rcases h1 with (h1 | h1) | h1
        · exact .inl h1
        · rw [Nat.testBit_two_pow] at h1
          exact .inr ⟨e, by simp, hc.1, hc.2, .inl (by simpa using h1)⟩
        · exact .inr ⟨e, by simp, hc.1, hc.2, .inr h1⟩
      · exact .inl h1
    · exact .inr ⟨e', by simp [he'], h2⟩
theorem mask_ok {ms : List Nat} {i k : Nat} {o : Oper} (h : ∀ j k, (ms.getD j 0).testBit k = true → waits md ops k (j + 1) j = true) (ho : ops[i]? = some o) (hb : (maskOf md ms i o).testBit k = true) : waits md ops k (i + 1) i = true := by
  rcases mask_fold _ _ hb with h0 | ⟨e, he, hbd, hlt, hor⟩
  · simp at h0
  · unfold waits
    rw [ho]
    simp only [Array.any_eq_true']
    refine ⟨e, by simpa using he, ?_⟩
    simp only [Bool.and_eq_true, Bool.or_eq_true, beq_iff_eq]
    refine ⟨hbd, hor.imp id (fun hm => waits_mono (by omega) (h _ _ hm))⟩
theorem masks_ok (l : List Oper) (hl : l.toArray = ops) : ∀ (r pre : List Oper) (ms : List Nat), l = pre ++ r → ms.length = pre.length → (∀ j k, (ms.getD j 0).testBit k = true → waits md ops k (j + 1) j = true) →
    ∀ j k, ((masks md r pre.length ms).getD j 0).testBit k = true → waits md ops k (j + 1) j = true
  | [], pre, ms, _, _, h => h
  | o :: r, pre, ms, hp, hm, h => by
    unfold masks
    have h2 := masks_ok l hl r (pre ++ [o]) (ms ++ [maskOf md ms pre.length o]) (by simp [hp]) (by simp [hm]) (fun j k hb => by
      rcases Nat.lt_trichotomy j ms.length with hj | hj | hj
      · rw [List.getD_eq_getElem?_getD, List.getElem?_append_left hj, ← List.getD_eq_getElem?_getD] at hb
        exact h j k hb
      · subst hj
        have e1 : (ms ++ [maskOf md ms pre.length o]).getD ms.length 0 = maskOf md ms pre.length o := by simp
        rw [e1, ← hm] at hb
        refine mask_ok h ?_ hb
        rw [← hl, hp, hm]
        simp
      · have e1 : (ms ++ [maskOf md ms pre.length o]).getD j 0 = 0 := by
          rw [List.getD_eq_getElem?_getD, List.getElem?_eq_none (by simp; omega)]; rfl
        rw [e1] at hb
        simp at hb)
    simpa using h2
def ordF (md : Region.Mode) (ops : Array Oper) (ms : List Nat) : List (Nat × Nat) → Array Bool → Bool
  | [], listed => (Region.ready md ops listed).isEmpty
  | (k, c) :: r, listed => (if c == 0 then (Region.ready md ops listed).contains k && Region.free md ops listed k && ((ops[k]?).map fun o => plainOp o.op).getD false && (((ops[k]?).map fun o => isMove o.op).getD false || r.all (fun p => p.2 != 2 || (decide (p.1 < ops.size) && (ms.getD p.1 0).testBit k)))
      else (c == 1 || c == 2) && Region.ready md ops listed == [k]) && ordF md ops ms r (listed.setIfInBounds k true)
theorem ordF_ordB {ms : List Nat} (h : ∀ j k, (ms.getD j 0).testBit k = true → waits md ops k (j + 1) j = true) : ∀ (r : List (Nat × Nat)) (listed : Array Bool), ordF md ops ms r listed = true → ordB md ops r listed = true
  | [], listed, hB => hB
  | (k, c) :: r, listed, hB => by
    simp only [ordF, Bool.and_eq_true] at hB
    simp only [ordB, Bool.and_eq_true]
    refine ⟨?_, ordF_ordB h r _ hB.2⟩
    have h1 := hB.1
    split at h1
    · rename_i hc
      rw [if_pos hc]
      simp only [Bool.and_eq_true, Bool.or_eq_true] at h1 ⊢
      refine ⟨h1.1, h1.2.imp id fun h2 => ?_⟩
      rw [List.all_eq_true] at h2 ⊢
      intro p hp
      have h3 := h2 p hp
      simp only [Bool.or_eq_true, Bool.and_eq_true, decide_eq_true_eq] at h3 ⊢
      exact h3.imp id fun h4 => waits_mono (by omega) (h _ _ h4.2)
    · rename_i hc
      rw [if_neg hc]
      simpa using h1
end
def planF (l : List Oper) (p : Plan) : Bool := Region.noSelect l.toArray && inB l.length p && (flat p).length == l.length && ordF .any l.toArray (masks .any l 0 []) (flat p) (Array.replicate l.length false)
theorem planF_planB {l : List Oper} {p : Plan} (h : planF l p = true) : planB l p = true := by
  simp only [planF, Bool.and_eq_true] at h
  simp only [planB, Bool.and_eq_true]
  exact ⟨h.1, ordF_ordB (masks_ok l rfl l [] [] rfl rfl (fun j k hb => by simp at hb)) _ _ h.2⟩
theorem wp_region_planF {P : Program} {id : Nat} {Q : Exit → Act → World → Prop} {a : Act} {w : World} {l : List Oper} (p : Plan) (hm : P.follows .mixedOrders = true) (hB : planF l p = true)
    (h : wpSeg P l (NoPanic Q) p w a w.drew) : (Code.region id l.toArray true).wp P Q a w := wp_region_plan p hm (planF_planB hB) h
end Go.Proofs.YtnjdondkggkfoaaGreat.ord
/-
  The document's store over the document's disk, as memory.
-/
namespace Go.Proofs.YtnjdondkggkfoaaGreat.ks
open Go.ChangeShapes Go.WideShapes Go.ChangeAt Go.RowKit Go.Shelf Go.Maps Go.Sort plain words ord mem al dk

/-- a placement's memory lies among S -/
structure OPx (w : World) (S : Nat → Prop) (v : pm.PV) : Prop where
  op : pm.OP w 0 v
  n : ∀ g, (Value.slice v.nA v.nodes.length v.nc).ownBlock = some g → S g
  s : ∀ g, (Value.slice v.sA v.rs.length v.sc).ownBlock = some g → S g
  each : ∀ r ∈ v.rs, ∀ g, r.val.ownBlock = some g → S g
section
variable {w w' : World} {S S' : Nat → Prop} {v : pm.PV}
theorem OPx.chg {T : Nat → Prop} (h : OPx w S v) (hc : Chg T w w') (hT : ∀ k, S k → ¬ T k) : OPx w' S v :=
  ⟨⟨h.op.n.chg hc fun g hg => hT g (h.n g hg), h.op.s.chg hc fun g hg => hT g (h.s g hg), fun r hr => (h.op.each r hr).chg hc fun g hg => hT g (h.each r hr g hg)⟩, h.n, h.s, h.each⟩
theorem OPx.mono (h : OPx w S v) (hs : ∀ k, S k → S' k) : OPx w S' v := ⟨h.op, fun g hg => hs g (h.n g hg), fun g hg => hs g (h.s g hg), fun r hr g hg => hs g (h.each r hr g hg)⟩
theorem OPx.of {B : Nat} (h : pm.OP w B v) : OPx w (fun k => B ≤ k ∧ k < w.heap.size) v :=
  ⟨h.base (Nat.zero_le _), fun g hg => h.n.lt g hg, fun g hg => h.s.lt g hg, fun r hr g hg => (h.each r hr).lt g hg⟩
theorem OPx.ok (h : OPx w S v) : pm.PVok w w.heap.size v := h.op.ok
end
abbrev storeO (r : Nat) (v : pm.PV) (is : Bool) : Obj := .cells #[ptr r, .int .i64 v.ver, .slice v.nA v.nodes.length v.nc, .slice v.sA v.rs.length v.sc, .bool is] 55 (0, 0)
/-- the document's store at block t over the document's disk at block r -/
def RS (X : Nat → Prop) (w : World) (t r : Nat) (st : dk.St) (tx : Nm) : Prop :=
  ∃ (XD XV : Nat → Prop) (v : pm.PV), w.heap[t]? = some (storeO r v (decide (kv.decE tx = 0))) ∧ v.pl = kv.decP tx ∧ RM w r XD st ∧ OPx w XV v ∧ (∀ k, XD k → X k ∧ k ≠ t) ∧ (∀ k, XV k → X k ∧ k ≠ t ∧ k ≠ r) ∧ X t ∧ (∀ k, X k → k < w.heap.size)
def RW (X : Nat → Prop) (w : World) (t r : Nat) (st : dk.St) (tx : Nm) (w' : World) : Prop := RS (Ext X w w') w' t r st tx ∧ Chg (fun k => k = r ∨ k = t) w w'
section
variable {X Y : Nat → Prop} {w w1 w2 w' : World} {t r : Nat} {st st' : dk.St} {tx tx' : Nm}
theorem RS.lt (h : RS X w t r st tx) : ∀ k, X k → k < w.heap.size := by
  obtain ⟨XD, XV, v, _, _, _, _, _, _, _, h8⟩ := h
  exact h8
theorem RS.ne (h : RS X w t r st tx) : r ≠ t ∧ r < w.heap.size ∧ t < w.heap.size := by
  obtain ⟨XD, XV, v, h1, _, h3, _, h5, _, _, _⟩ := h
  exact ⟨(h5 r h3.at_r.1).2, h3.at_r.2, blk_lt h1⟩
theorem RS.chg {T : Nat → Prop} (h : RS X w t r st tx) (hc : Chg T w w') (hT : ∀ k, X k → ¬ T k) : RS X w' t r st tx := by
  obtain ⟨XD, XV, v, h1, h2, h3, h4, h5, h6, h7, h8⟩ := h
  exact ⟨XD, XV, v, hc.blk h1 (hT t h7), h2, h3.chg hc (fun k hk => hT k (h5 k hk).1), h4.chg hc (fun k hk => hT k (h6 k hk).1), h5, h6, h7, fun k hk => Nat.lt_of_lt_of_le (h8 k hk) hc.size⟩
theorem RS.mono (h : RS X w t r st tx) (hs : ∀ k, X k → Y k) (hY : ∀ k, Y k → k < w.heap.size) : RS Y w t r st tx := by
  obtain ⟨XD, XV, v, h1, h2, h3, h4, h5, h6, h7, h8⟩ := h
  exact ⟨XD, XV, v, h1, h2, h3, h4, fun k hk => ⟨hs k (h5 k hk).1, (h5 k hk).2⟩, fun k hk => ⟨hs k (h6 k hk).1, (h6 k hk).2⟩, hs t h7, hY⟩
theorem RS.below (h : RS X w t r st tx) (hb : Below w.heap.size w w') : RS X w' t r st tx := h.chg (Chg.of_below hb) (fun _ _ e => e)
theorem RS.rw0 (h : RS X w t r st tx) (hb : Below w.heap.size w w') : RW X w t r st tx w' :=
  ⟨(h.below hb).mono (fun k hk => .inl hk) (fun k hk => by
    rcases hk with e | e
    · exact Nat.lt_of_lt_of_le (h.lt k e) hb.size
    · exact e.2), (Chg.of_below hb).mono (fun _ _ e => e.elim)⟩
theorem RW.then (h : RW X w t r st tx w1) (h2 : RW (Ext X w w1) w1 t r st' tx' w2) : RW X w t r st' tx' w2 :=
  ⟨h2.1.mono (fun k hk => ext_trans h.2.size h2.2.size k hk) (fun k hk => by
    have := h2.2.size
    rcases hk with e | e
    · exact Nat.lt_of_lt_of_le (h.1.lt k (.inl e)) this
    · exact e.2), h.2.trans h2.2 (fun _ _ e => e)⟩
theorem RW.below (h : RW X w t r st tx w1) (hb : Below w1.heap.size w1 w2) : RW X w t r st tx w2 := h.then (h.1.rw0 hb)
theorem RS.on (h : RS X w t r st tx) {f : FuncId} {args : Array Value} {v : Value} (hc : ∀ XD, RM w r XD st → (∀ k, XD k → k < w.heap.size) → Calls Tryz.prog f args w (RetRV w r XD st' v)) :
    Calls Tryz.prog f args w fun e w' => e = .returned v ∧ RW X w t r st' tx w' := by
  have hne := h.ne
  obtain ⟨XD, XV, u, h1, h2, h3, h4, h5, h6, h7, h8⟩ := h
  refine (hc XD h3 (fun k hk => h8 k (h5 k hk).1)).mono ?_
  rintro e w' ⟨rfl, hm, hch⟩
  have hs := hch.size
  refine ⟨rfl, ⟨Ext XD w w', XV, u, hch.blk h1 (fun e => hne.1 e.symm), h2, hm, h4.chg hch (fun k hk => (h6 k hk).2.2), fun k hk => ?_, fun k hk => ⟨.inl (h6 k hk).1, (h6 k hk).2⟩, .inl h7, fun k hk => ?_⟩, hch.mono fun k _ e => .inl e⟩
  · rcases hk with e | e
    · exact ⟨.inl (h5 k e).1, (h5 k e).2⟩
    · exact ⟨.inr e, by have := hne.2.2; omega⟩
  · rcases hk with e | e
    · exact Nat.lt_of_lt_of_le (h8 k e) hs
    · exact e.2
theorem RW.on (h : RW X w t r st tx w1) {f : FuncId} {args : Array Value} {v : Value} (hc : ∀ XD, RM w1 r XD st → (∀ k, XD k → k < w1.heap.size) → Calls Tryz.prog f args w1 (RetRV w1 r XD st' v)) :
    Calls Tryz.prog f args w1 fun e w' => e = .returned v ∧ RW X w t r st' tx w' :=
  (h.1.on hc).mono fun e w' hh => ⟨hh.1, h.then hh.2⟩
theorem RS.read (h : RS X w t r st tx) (hs : Small st) (a : Nm) : Calls Tryz.prog 46 #[ptr r, .string (bs a)] w fun e w' => e = .returned (ans (al.get st.shown a)) ∧ Below w.heap.size w w' := by
  obtain ⟨XD, XV, u, h1, h2, h3, _⟩ := h
  exact h3.read hs (Below.refl _ _) a
theorem RS.cell (h : RS X w t r st tx) : w.cell? ⟨t, 0, none⟩ = some (ptr r) ∧ t < w.heap.size := by
  obtain ⟨XD, XV, u, h1, _⟩ := h
  exact ⟨by rw [cell_of_row _ _ _ _ _ _ h1]; rfl, blk_lt h1⟩
end
theorem stg_end {st : dk.St} {t : Nm} (h : ∀ j, j ≤ 4 → (stg st t j).2 = 0) : wrS st t = stg st t 5 := by
  by_cases h5 : (stg st t 5).2 = 0
  · rw [stg_all (fun j hj => by
      rcases Nat.lt_or_ge j 5 with h9 | h9
      · exact h j (by omega)
      · obtain rfl : j = 5 := by omega
        exact h5)]
    exact Prod.ext rfl h5.symm
  · exact stg_bad (by decide) h h5
set_option maxHeartbeats 4000000 in
set_option maxRecDepth 100000 in
theorem rlay_y (X : Nat → Prop) (w : World) (t r B0 n c : Nat) (A : Option Addr) (st : dk.St) (tx T : Nm) (h : RS X w t r st tx) (hf : Fit st T) (ho : w.ownsRow B0 5 1 (.slice A n c) n (u8s T)) (hB : r < B0 ∧ t < B0) :
    Calls Tryz.prog 48 #[ptr t, .slice A n c] w fun e w' => e = .returned (.int .i64 (wrS st T).2) ∧ RW X w t r (wrS st T).1 tx w' := by
  have hs0 : Small st := hf.small 0 (by decide) (fun j hj => by cases Nat.le_zero.1 hj; rfl)
  have HRD := Lib.hid (h.read hs0 up)
  obtain ⟨c0, lt0⟩ := h.cell
  obtain ⟨o, hoo⟩ : ∃ o, al.get st.shown up = o := ⟨_, rfl⟩
  rw [hoo] at HRD
  have H := Lib.hid h
  have HF := Lib.hid hf
  have HO := Lib.hid (And.intro ho hB)
  have HOO := Lib.hid hoo
  have HS0 := Lib.hid hs0
  obtain ⟨W, hW⟩ : ∃ W, wrS st T = W := ⟨_, rfl⟩
  rw [hW]
  have HW := Lib.hid hW
  clear h hf ho hB hoo hs0 hW
  go_enter Tryz.func48, Tryz.ntmps48
  cases o with
  | none =>
    rw [ans_none] at HRD
    have Z1 := Lib.hid (show stg st T 1 = (st, 0) from by show clr st = _; unfold clr; rw [if_pos HOO.out])
    go_wp2_with fail
    refine HRD.out.mono ?_
    rintro e w1 ⟨rfl, hb1⟩
    have R1 := Lib.hid (show RW X w t r (stg st T 1).1 tx w1 from by rw [Z1.out]; exact H.out.rw0 hb1)
    have Q0 := Lib.hid (show (stg st T 1).2 = 0 from by rw [Z1.out])
    clear hb1 HRD c0 lt0
    have hz1 : ∀ j, j ≤ 1 → (stg st T j).2 = 0 := fun j hj => by
      rcases (show j = 0 ∨ j = 1 by omega) with rfl | rfl
      · rfl
      · exact Q0.out
    have hs1 := HF.out.small 1 (by decide) hz1
    have Z := Lib.hid hz1
    have hown1 := own_chg HO.out.1 R1.out.2 (fun g hg e => by have := (HO.out.1.lt g hg).1; have := HO.out.2; omega)
    have k1 : ∀ u : Wb w1, (convert 36 9 (.slice A n c)).run Tryz.prog u.w = .ok (.string (bs T)) u.w := fun u => conv_string (own_bs (own_keep hown1 u.h (Nat.le_refl _))) _ _ 5 Tryz.underlying36 Tryz.underlying9 Tryz.underlying5
    have HC1 := Lib.hid ((R1.out.below (Below.refl _ w1).drew).on (fun XD hm hl => append_r w1.drew r XD (stg st T 1).1 up T hm hs1 hl HF.out.r0 HF.out.r1 (by have := HF.out.len; omega)))
    obtain ⟨q1, hq1⟩ : ∃ q, (stg st T 2).2 = q := ⟨_, rfl⟩
    rw [show (appSt (stg st T 1).1 up T).2 = q1 from hq1] at HC1
    obtain ⟨c1, lt1⟩ := R1.out.1.cell
    have z1 := Wb.at_ c1
    obtain ⟨sT, hsT⟩ : ∃ sT, bs T = sT := ⟨_, rfl⟩
    rw [hsT] at HC1 k1
    clear hz1 hs1 hown1 hsT
    go_wp2_with fail
    refine wp_region_plan [([0, 1, 2, 3, 4, 5], some (6, true)), ([7], none)] (by kernel_rfl) (by kernel_rfl) ?_
    refine seg_write _ (by dsimp only [pick, at_]) _ (by dsimp only [pick, at_]) ?_
    repeat (go_big_quiet_step (fail))
    refine wpQuiet_nil ?_
    intro K1 h2
    clear z1 k1
    go_wp2_with fail
    refine HC1.out.mono ?_
    rintro e w2 ⟨rfl, hw2⟩
    have R2 := Lib.hid (show RW X w t r (stg st T 2).1 tx w2 from hw2)
    have Q1 := Lib.hid hq1
    clear hw2 hq1 HC1 c1 lt1
    go_wp2_with fail
    refine seg_end _ (by dsimp only [pick, at_]) ?_
    repeat (go_big_quiet_step (fail))
    refine wpQuiet_nil (NoPanic.normal ?_)
    by_cases z1 : q1 = 0
    · subst z1
      have hz2 : ∀ j, j ≤ 2 → (stg st T j).2 = 0 := fun j hj => by
        rcases Nat.lt_or_ge j 2 with h9 | h9
        · exact Z.out j (by omega)
        · obtain rfl : j = 2 := by omega
          exact Q1.out
      have Z2 := Lib.hid hz2
      have HC2 := Lib.hid (R2.out.on (fun XD hm hl => sync_r w2 r XD (stg st T 2).1 hm (HF.out.small 2 (by decide) hz2)))
      obtain ⟨q2, hq2⟩ : ∃ q, (stg st T 3).2 = q := ⟨_, rfl⟩
      rw [show doE (stg st T 2).1 = q2 from hq2] at HC2
      obtain ⟨c2, lt2⟩ := R2.out.1.cell
      clear hz2
      go_wp2_with fail
      refine HC2.out.mono ?_
      rintro e w3 ⟨rfl, hw3⟩
      have R3 := Lib.hid (show RW X w t r (stg st T 3).1 tx w3 from hw3)
      have Q2 := Lib.hid hq2
      clear hw3 hq2 HC2 c2 lt2
      by_cases z2 : q2 = 0
      · subst z2
        have hz3 : ∀ j, j ≤ 3 → (stg st T j).2 = 0 := fun j hj => by
          rcases Nat.lt_or_ge j 3 with h9 | h9
          · exact Z2.out j (by omega)
          · obtain rfl : j = 3 := by omega
            exact Q2.out
        have Z3 := Lib.hid hz3
        have HC3 := Lib.hid (R3.out.on (fun XD hm hl => rename_r w3 r XD (stg st T 3).1 up cu hm (HF.out.small 3 (by decide) hz3) hl))
        obtain ⟨q3, hq3⟩ : ∃ q, (stg st T 4).2 = q := ⟨_, rfl⟩
        rw [show (renSt (stg st T 3).1 up cu).2 = q3 from hq3] at HC3
        obtain ⟨c3, lt3⟩ := R3.out.1.cell
        clear hz3
        go_wp2_with fail
        refine HC3.out.mono ?_
        rintro e w4 ⟨rfl, hw4⟩
        have R4 := Lib.hid (show RW X w t r (stg st T 4).1 tx w4 from hw4)
        have Q3 := Lib.hid hq3
        clear hw4 hq3 HC3 c3 lt3
        by_cases z3 : q3 = 0
        · subst z3
          have hz4 : ∀ j, j ≤ 4 → (stg st T j).2 = 0 := fun j hj => by
            rcases Nat.lt_or_ge j 4 with h9 | h9
            · exact Z3.out j (by omega)
            · obtain rfl : j = 4 := by omega
              exact Q3.out
          have Z4 := Lib.hid hz4
          have HC4 := Lib.hid (R4.out.on (fun XD hm hl => sync_r w4 r XD (stg st T 4).1 hm (HF.out.small 4 (by decide) hz4)))
          obtain ⟨q4, hq4⟩ : ∃ q, (stg st T 5).2 = q := ⟨_, rfl⟩
          rw [show doE (stg st T 4).1 = q4 from hq4] at HC4
          obtain ⟨c4, lt4⟩ := R4.out.1.cell
          clear hz4
          go_wp2_with fail
          refine HC4.out.mono ?_
          rintro e w5 ⟨rfl, hw5⟩
          have R5 := Lib.hid (show RW X w t r (stg st T 5).1 tx w5 from hw5)
          have Q4 := Lib.hid hq4
          clear hw5 hq4 HC4 c4 lt4
          go_wp2_with fail
          go_ret
          have e1 : W = stg st T 5 := by rw [← HW.out]; exact stg_end Z4.out
          rw [e1, Q4.out]
          exact ⟨rfl, R5.out⟩
        · go_wp2_with fail
          go_ret
          have e1 : W = stg st T 4 := by rw [← HW.out]; exact stg_bad (i := 3) (by decide) Z3.out (by rw [Q3.out]; exact z3)
          rw [e1, Q3.out]
          exact ⟨rfl, R4.out⟩
      · go_wp2_with fail
        go_ret
        have e1 : W = stg st T 3 := by rw [← HW.out]; exact stg_bad (i := 2) (by decide) Z2.out (by rw [Q2.out]; exact z2)
        rw [e1, Q2.out]
        exact ⟨rfl, R3.out⟩
    · go_wp2_with fail
      go_ret
      have e1 : W = stg st T 2 := by rw [← HW.out]; exact stg_bad (i := 1) (by decide) Z.out (by rw [Q1.out]; exact z1)
      rw [e1, Q1.out]
      exact ⟨rfl, R2.out⟩
  | some y =>
    rw [ans_some] at HRD
    have Z1 := Lib.hid (show stg st T 1 = remSt st up from by show clr st = _; unfold clr; rw [if_neg (by rw [HOO.out]; simp)])
    go_wp2_with fail
    refine HRD.out.mono ?_
    rintro e w0 ⟨rfl, hb0⟩
    have R0 := Lib.hid (H.out.rw0 hb0)
    clear hb0 HRD c0 lt0
    have HC0 := Lib.hid (R0.out.on (fun XD hm hl => remove_r w0 r XD st up hm HS0.out hl))
    obtain ⟨q0, hq0⟩ : ∃ q, (stg st T 1).2 = q := ⟨_, rfl⟩
    rw [← Z1.out, hq0] at HC0
    obtain ⟨c0, lt0⟩ := R0.out.1.cell
    go_wp2_with fail
    refine HC0.out.mono ?_
    rintro e w1 ⟨rfl, hw1⟩
    have R1 := Lib.hid hw1
    have QQ := Lib.hid hq0
    clear hw1 hq0 HC0 c0 lt0
    by_cases z0 : q0 = 0
    · subst z0
      have Q0 := QQ
      have hz1 : ∀ j, j ≤ 1 → (stg st T j).2 = 0 := fun j hj => by
        rcases (show j = 0 ∨ j = 1 by omega) with rfl | rfl
        · rfl
        · exact Q0.out
      have hs1 := HF.out.small 1 (by decide) hz1
      have Z := Lib.hid hz1
      have hown1 := own_chg HO.out.1 R1.out.2 (fun g hg e => by have := (HO.out.1.lt g hg).1; have := HO.out.2; omega)
      have k1 : ∀ u : Wb w1, (convert 36 9 (.slice A n c)).run Tryz.prog u.w = .ok (.string (bs T)) u.w := fun u => conv_string (own_bs (own_keep hown1 u.h (Nat.le_refl _))) _ _ 5 Tryz.underlying36 Tryz.underlying9 Tryz.underlying5
      have HC1 := Lib.hid ((R1.out.below (Below.refl _ w1).drew).on (fun XD hm hl => append_r w1.drew r XD (stg st T 1).1 up T hm hs1 hl HF.out.r0 HF.out.r1 (by have := HF.out.len; omega)))
      obtain ⟨q1, hq1⟩ : ∃ q, (stg st T 2).2 = q := ⟨_, rfl⟩
      rw [show (appSt (stg st T 1).1 up T).2 = q1 from hq1] at HC1
      obtain ⟨c1, lt1⟩ := R1.out.1.cell
      have z1 := Wb.at_ c1
      obtain ⟨sT, hsT⟩ : ∃ sT, bs T = sT := ⟨_, rfl⟩
      rw [hsT] at HC1 k1
      clear hz1 hs1 hown1 hsT
      go_wp2_with fail
      refine wp_region_plan [([0, 1, 2, 3, 4, 5], some (6, true)), ([7], none)] (by kernel_rfl) (by kernel_rfl) ?_
      refine seg_write _ (by dsimp only [pick, at_]) _ (by dsimp only [pick, at_]) ?_
      repeat (go_big_quiet_step (fail))
      refine wpQuiet_nil ?_
      intro K1 h2
      clear z1 k1
      go_wp2_with fail
      refine HC1.out.mono ?_
      rintro e w2 ⟨rfl, hw2⟩
      have R2 := Lib.hid (show RW X w t r (stg st T 2).1 tx w2 from hw2)
      have Q1 := Lib.hid hq1
      clear hw2 hq1 HC1 c1 lt1
      go_wp2_with fail
      refine seg_end _ (by dsimp only [pick, at_]) ?_
      repeat (go_big_quiet_step (fail))
      refine wpQuiet_nil (NoPanic.normal ?_)
      by_cases z1 : q1 = 0
      · subst z1
        have hz2 : ∀ j, j ≤ 2 → (stg st T j).2 = 0 := fun j hj => by
          rcases Nat.lt_or_ge j 2 with h9 | h9
          · exact Z.out j (by omega)
          · obtain rfl : j = 2 := by omega
            exact Q1.out
        have Z2 := Lib.hid hz2
        have HC2 := Lib.hid (R2.out.on (fun XD hm hl => sync_r w2 r XD (stg st T 2).1 hm (HF.out.small 2 (by decide) hz2)))
        obtain ⟨q2, hq2⟩ : ∃ q, (stg st T 3).2 = q := ⟨_, rfl⟩
        rw [show doE (stg st T 2).1 = q2 from hq2] at HC2
        obtain ⟨c2, lt2⟩ := R2.out.1.cell
        clear hz2
        go_wp2_with fail
        refine HC2.out.mono ?_
        rintro e w3 ⟨rfl, hw3⟩
        have R3 := Lib.hid (show RW X w t r (stg st T 3).1 tx w3 from hw3)
        have Q2 := Lib.hid hq2
        clear hw3 hq2 HC2 c2 lt2
        by_cases z2 : q2 = 0
        · subst z2
          have hz3 : ∀ j, j ≤ 3 → (stg st T j).2 = 0 := fun j hj => by
            rcases Nat.lt_or_ge j 3 with h9 | h9
            · exact Z2.out j (by omega)
            · obtain rfl : j = 3 := by omega
              exact Q2.out
          have Z3 := Lib.hid hz3
          have HC3 := Lib.hid (R3.out.on (fun XD hm hl => rename_r w3 r XD (stg st T 3).1 up cu hm (HF.out.small 3 (by decide) hz3) hl))
          obtain ⟨q3, hq3⟩ : ∃ q, (stg st T 4).2 = q := ⟨_, rfl⟩
          rw [show (renSt (stg st T 3).1 up cu).2 = q3 from hq3] at HC3
          obtain ⟨c3, lt3⟩ := R3.out.1.cell
          clear hz3
          go_wp2_with fail
          refine HC3.out.mono ?_
          rintro e w4 ⟨rfl, hw4⟩
          have R4 := Lib.hid (show RW X w t r (stg st T 4).1 tx w4 from hw4)
          have Q3 := Lib.hid hq3
          clear hw4 hq3 HC3 c3 lt3
          by_cases z3 : q3 = 0
          · subst z3
            have hz4 : ∀ j, j ≤ 4 → (stg st T j).2 = 0 := fun j hj => by
              rcases Nat.lt_or_ge j 4 with h9 | h9
              · exact Z3.out j (by omega)
              · obtain rfl : j = 4 := by omega
                exact Q3.out
            have Z4 := Lib.hid hz4
            have HC4 := Lib.hid (R4.out.on (fun XD hm hl => sync_r w4 r XD (stg st T 4).1 hm (HF.out.small 4 (by decide) hz4)))
            obtain ⟨q4, hq4⟩ : ∃ q, (stg st T 5).2 = q := ⟨_, rfl⟩
            rw [show doE (stg st T 4).1 = q4 from hq4] at HC4
            obtain ⟨c4, lt4⟩ := R4.out.1.cell
            clear hz4
            go_wp2_with fail
            refine HC4.out.mono ?_
            rintro e w5 ⟨rfl, hw5⟩
            have R5 := Lib.hid (show RW X w t r (stg st T 5).1 tx w5 from hw5)
            have Q4 := Lib.hid hq4
            clear hw5 hq4 HC4 c4 lt4
            go_wp2_with fail
            go_ret
            have e1 : W = stg st T 5 := by rw [← HW.out]; exact stg_end Z4.out
            rw [e1, Q4.out]
            exact ⟨rfl, R5.out⟩
          · go_wp2_with fail
            go_ret
            have e1 : W = stg st T 4 := by rw [← HW.out]; exact stg_bad (i := 3) (by decide) Z3.out (by rw [Q3.out]; exact z3)
            rw [e1, Q3.out]
            exact ⟨rfl, R4.out⟩
        · go_wp2_with fail
          go_ret
          have e1 : W = stg st T 3 := by rw [← HW.out]; exact stg_bad (i := 2) (by decide) Z2.out (by rw [Q2.out]; exact z2)
          rw [e1, Q2.out]
          exact ⟨rfl, R3.out⟩
      · go_wp2_with fail
        go_ret
        have e1 : W = stg st T 2 := by rw [← HW.out]; exact stg_bad (i := 1) (by decide) Z.out (by rw [Q1.out]; exact z1)
        rw [e1, Q1.out]
        exact ⟨rfl, R2.out⟩
    · go_wp2_with fail
      go_ret
      have e1 : W = stg st T 1 := by rw [← HW.out]; exact stg_bad (i := 0) (by decide) (fun j hj => by cases Nat.le_zero.1 hj; rfl) (by rw [QQ.out]; exact z0)
      rw [e1, QQ.out]
      exact ⟨rfl, R1.out⟩

theorem rs_put {X : Nat → Prop} {w w4 : World} {t r : Nat} {st : dk.St} {tx T : Nm} (h : RS X w t r st tx) (hb : Below w.heap.size w w4) (v2 : pm.PV) (hv : v2.pl = kv.decP T) (ho : pm.OP w4 w.heap.size v2) (hd : kv.decE T = 0) :
    RS (Ext X w ((((w4.setCell ⟨t, 1, none⟩ (.int .i64 v2.ver)).setCell ⟨t, 2, none⟩ (.slice v2.nA v2.nodes.length v2.nc)).setCell ⟨t, 3, none⟩ (.slice v2.sA v2.rs.length v2.sc)).setCell ⟨t, 4, none⟩ (.bool true))) ((((w4.setCell ⟨t, 1, none⟩ (.int .i64 v2.ver)).setCell ⟨t, 2, none⟩ (.slice v2.nA v2.nodes.length v2.nc)).setCell ⟨t, 3, none⟩ (.slice v2.sA v2.rs.length v2.sc)).setCell ⟨t, 4, none⟩ (.bool true)) t r st T ∧ Chg (fun k => k = t) w ((((w4.setCell ⟨t, 1, none⟩ (.int .i64 v2.ver)).setCell ⟨t, 2, none⟩ (.slice v2.nA v2.nodes.length v2.nc)).setCell ⟨t, 3, none⟩ (.slice v2.sA v2.rs.length v2.sc)).setCell ⟨t, 4, none⟩ (.bool true)) := by
  have hne := h.ne
  obtain ⟨XD, XV, u, h1, h2, h3, h4, h5, h6, h7, h8⟩ := h
  have hbs := hb.size
  have hcc : Chg (fun k => k = t) w4 ((((w4.setCell ⟨t, 1, none⟩ (.int .i64 v2.ver)).setCell ⟨t, 2, none⟩ (.slice v2.nA v2.nodes.length v2.nc)).setCell ⟨t, 3, none⟩ (.slice v2.sA v2.rs.length v2.sc)).setCell ⟨t, 4, none⟩ (.bool true)) :=
    (((chg_set _ _ _ _).trans (chg_set _ _ _ _) (fun _ _ e => e)).trans (chg_set _ _ _ _) (fun _ _ e => e)).trans (chg_set _ _ _ _) (fun _ _ e => e)
  have hcs := hcc.size
  refine ⟨⟨XD, fun k => w.heap.size ≤ k ∧ k < w4.heap.size, v2, ?_, hv, (h3.below hb).chg hcc (fun k hk e => (h5 k hk).2 e), (OPx.of ho).chg hcc (fun k hk e => by have := hne.2.2; omega), fun k hk => ⟨.inl (h5 k hk).1, (h5 k hk).2⟩, fun k hk => ⟨.inr ⟨hk.1, by omega⟩, by have := hne.2.2; omega, by have := hne.2.1; omega⟩, .inl h7, fun k hk => ?_⟩, ((Chg.of_below hb).mono (S' := fun k => k = t) (fun _ _ e => e.elim)).trans hcc (fun _ _ e => e)⟩
  · have g4 := blk_below hb h1 (blk_lt h1)
    rw [setp_obj (setp_obj (setp_obj (setp_obj g4))), hd]
    rfl
  · rcases hk with e | e
    · have := h8 k e; omega
    · exact e.2
set_option maxRecDepth 100000 in
set_option maxHeartbeats 4000000 in
theorem rset_y (X : Nat → Prop) (w : World) (t r : Nat) (st : dk.St) (tx : Nm) (ex : Int) (B : Nat) (v : pm.PV) (h : RS X w t r st tx) (hv : pm.PVok w B v) (hB : B ≤ w.heap.size)
    (hcan : pm.chk v.pl = 0 → Can st (kv.encP v.pl)) :
    Calls Tryz.prog 18 #[ptr t, .int .i64 ex, v.val] w fun e w' => e = .returned (.int .i64 (setS st tx ex v.pl).2.2) ∧ RW X w t r (setS st tx ex v.pl).1 (setS st tx ex v.pl).2.1 w' := by
  obtain ⟨w1, hw1⟩ : ∃ w1, w.alloc (pm.boxO v) = w1 := ⟨_, rfl⟩
  have hb1 : Below w.heap.size w w1 := by rw [← hw1]; exact (Below.refl _ _).alloc (Nat.le_refl _) _
  have g1 : pm.Boxed w1 w.heap.size v := by rw [← hw1]; exact alloc_new _ _
  have l1 := blk_lt g1
  obtain ⟨⟨c0, c1, c2⟩, f0, f1, f2⟩ := pm.isv3_cells g1
  have HENC := Lib.hid (kv.encode_y w1 B v (hv.below hb1 hB) (by have := hb1.size; omega))
  have HK := Lib.hid h
  have HB1 := Lib.hid hb1
  have HG1 := Lib.hid g1
  have HW1 := Lib.hid hw1
  have HCAN := Lib.hid hcan
  unfold kv.RetEnc at HENC
  obtain ⟨P, hP⟩ : ∃ P, v.pl = P := ⟨_, rfl⟩
  have hPv : P.ver = v.ver := by rw [← hP]; rfl
  rw [hP] at HENC HCAN ⊢
  clear h hv hb1 g1 hw1 hcan hP
  by_cases hc : pm.chk P = 0
  · have hE : kv.encE P = 0 := by unfold kv.encE; rw [if_pos hc]
    have hEB : kv.encB P = kv.encP P := by unfold kv.encB; rw [if_pos hc]
    have hvlo : 1 ≤ v.ver ∧ v.ver ≤ 1099511627776 := by rw [← hPv]; exact ⟨(pm.chk_iff.1 hc).lo, (pm.chk_iff.1 hc).hi⟩
    have hwv : IntKind.i64.wrap (v.ver - 1) = v.ver - 1 := IntWalk.i64_in _ (by omega)
    have HDEC := Lib.hid (dec_enc hc)
    rw [hE, hEB] at HENC
    obtain ⟨T, htt⟩ : ∃ T, kv.encP P = T := ⟨_, rfl⟩
    have hsS : setS st tx ex P = (if ex = (kv.decP tx).ver ∧ P.ver = ex + 1 then (full (wrS st T), if (wrS st T).2 = 0 then T else tx, (wrS st T).2) else (st, tx, 150)) := by
      unfold setS; rw [if_pos hc, htt]
    have HCN := Lib.hid (HCAN.out hc)
    rw [htt] at HENC HCN HDEC
    obtain ⟨S, hS⟩ : ∃ S, setS st tx ex P = S := ⟨_, rfl⟩
    rw [hS]
    rw [hS] at hsS
    obtain ⟨n, hn⟩ : ∃ n, T.length = n := ⟨_, rfl⟩
    rw [hn] at HENC
    have hn9 : n ≤ 1000 := by rw [← hn, ← htt]; have := encP_small (pm.chk_iff.1 hc); omega
    have HN := Lib.hid hn
    obtain ⟨vo, hvo⟩ : ∃ vo, (kv.decP tx).ver = vo := ⟨_, rfl⟩
    have hvr := decP_ver tx
    rw [hvo] at hvr
    have HVO := Lib.hid hvo
    rw [hvo, hPv] at hsS
    have HSS := Lib.hid hsS
    clear hc hE hEB htt hsS hS HCAN hn hvo hPv
    go_enter Tryz.func18, Tryz.ntmps18
    go_wp2_with (fail)
    rw [HW1.out]
    go_wp2_with (fail)
    refine HENC.out.mono ?_
    rintro e w2 ⟨A, c, rfl, hown, hb2, hnil⟩
    have hb02 : Below w.heap.size w w2 := HB1.out.trans (hb2.mono HB1.out.size)
    have HB2 := Lib.hid hb02
    have HR2 := Lib.hid (HK.out.rw0 hb02)
    have g2 := blk_below hb2 HG1.out l1
    obtain ⟨⟨d0, d1, d2⟩, e0, e1, e2⟩ := pm.isv3_cells g2
    have l2 := blk_lt g2
    have s01 := HB1.out.size
    have s12 := hb2.size
    have hrt := HK.out.ne
    have HO := Lib.hid (show w2.ownsRow w1.heap.size 5 1 (.slice A n c) n (u8s T) ∧ r < w1.heap.size ∧ t < w1.heap.size from ⟨hown, by omega, by omega⟩)
    obtain ⟨p0, hp0, pt⟩ : ∃ p0, w2.cell? ⟨t, 1, none⟩ = some (.int .i64 p0) ∧ p0 = vo ∧ t < w2.heap.size := by
      obtain ⟨XD, XV, u, k1, k2, _⟩ := HR2.out.1
      exact ⟨u.ver, by rw [cell_of_row _ _ _ _ _ _ k1]; rfl, by have : u.pl.ver = u.ver := rfl; rw [← this, k2, HVO.out], blk_lt k1⟩
    obtain ⟨rfl, lt2⟩ := pt
    clear hown hb2 hb02 g2 c0 c1 c2 f0 f1 f2 hrt d1 d2 e0 e1 e2
    by_cases h1 : ex = p0
    · subst h1
      by_cases h2 : v.ver = ex + 1
      · have h3 : v.ver - 1 = ex := by omega
        have hSe : S = (full (wrS st T), if (wrS st T).2 = 0 then T else tx, (wrS st T).2) := by rw [HSS.out, if_pos ⟨rfl, h2⟩]
        have HLAY := rlay_y (Ext X w w2) w2 t r w1.heap.size n c A st tx T HR2.out.1 HCN.out.fit HO.out.1 HO.out.2
        obtain ⟨sa, hsa⟩ : ∃ sa, (wrS st T).1 = sa := ⟨_, rfl⟩
        obtain ⟨ea, hea⟩ : ∃ ea, (wrS st T).2 = ea := ⟨_, rfl⟩
        rw [hsa, hea] at HLAY
        have HFU := Lib.hid HCN.out.full
        rw [hsa, hea] at HFU
        have hfu : full (wrS st T) = if ea = 12 then syncSt (clr sa).1 else sa := by unfold full; rw [hsa, hea]
        rw [hfu, hea] at hSe
        have HLAY := Lib.hid HLAY
        have HSE := Lib.hid hSe
        clear hsa hea hfu hSe
        go_wp2_with (fail)
        refine HLAY.out.mono ?_
        rintro e w3 ⟨rfl, hw3⟩
        have R3 := Lib.hid (HR2.out.then hw3)
        have HC3 := Lib.hid hw3.2
        clear hw3 HLAY d0 hp0 lt2 l1 l2
        by_cases e12 : ea = 12
        · subst e12
          have HFV := Lib.hid (HFU.out rfl)
          have hSe := HSE.out
          rw [if_pos rfl, if_neg (by decide)] at hSe
          have HE := Lib.hid hSe
          have hrd := R3.out.1.read HFV.out.1 up
          obtain ⟨o, ho⟩ : ∃ o, al.get sa.shown up = o := ⟨_, rfl⟩
          rw [ho] at hrd
          have HOO := Lib.hid ho
          obtain ⟨q0, lq⟩ := R3.out.1.cell
          cases o with
          | none =>
            rw [ans_none] at hrd
            have HRD := Lib.hid hrd
            have hcl : clr sa = (sa, 0) := by unfold clr; rw [if_pos HOO.out]
            rw [hcl] at hSe
            have HE := Lib.hid hSe
            clear hSe hrd ho hcl
            go_wp2_with (fail)
            refine HRD.out.mono ?_
            rintro e w4 ⟨rfl, hb4⟩
            have R4 := Lib.hid (R3.out.below hb4)
            obtain ⟨p0, lp⟩ := R4.out.1.cell
            have HSY := Lib.hid (R4.out.on (fun XD hm hl => sync_r w4 r XD sa hm HFV.out.1))
            clear hb4 HRD q0 lq
            go_wp2_with (fail)
            refine HSY.out.mono ?_
            rintro e w5 ⟨rfl, hw5⟩
            have R5 := Lib.hid hw5
            clear hw5 HSY p0 lp
            go_wp2_with (fail)
            go_ret
            rw [HE.out]
            exact ⟨rfl, R5.out⟩
          | some y =>
            rw [ans_some] at hrd
            have HRD := Lib.hid hrd
            have hcl : clr sa = remSt sa up := by unfold clr; rw [if_neg (by rw [HOO.out]; simp)]
            have hsm := HFV.out.2
            rw [hcl] at hSe hsm
            have HSM := Lib.hid hsm
            have HE := Lib.hid hSe
            clear hSe hrd ho hcl hsm
            go_wp2_with (fail)
            refine HRD.out.mono ?_
            rintro e w4 ⟨rfl, hb4⟩
            have R4 := Lib.hid (R3.out.below hb4)
            obtain ⟨p0, lp⟩ := R4.out.1.cell
            have HRM := Lib.hid (R4.out.on (fun XD hm hl => remove_r w4 r XD sa up hm HFV.out.1 hl))
            clear hb4 HRD q0 lq
            go_wp2_with (fail)
            refine HRM.out.mono ?_
            rintro e w5 ⟨rfl, hw5⟩
            have R5 := Lib.hid hw5
            clear hw5 HRM p0 lp
            obtain ⟨p0, lp⟩ := R5.out.1.cell
            have HSY := Lib.hid (R5.out.on (fun XD hm hl => sync_r w5 r XD _ hm HSM.out))
            go_wp2_with (fail)
            refine HSY.out.mono ?_
            rintro e w6 ⟨rfl, hw6⟩
            have R6 := Lib.hid hw6
            clear hw6 HSY p0 lp
            go_wp2_with (fail)
            go_ret
            rw [HE.out]
            exact ⟨rfl, R6.out⟩
        · have hSe := HSE.out
          rw [if_neg e12] at hSe
          by_cases e00 : ea = 0
          · subst e00
            rw [if_pos rfl] at hSe
            have HE := Lib.hid hSe
            have hown3 := own_chg HO.out.1 HC3.out (fun g hg e => by have := (HO.out.1.lt g hg).1; have := HO.out.2; omega)
            have hcap : n ≤ c ∧ c ≤ 9223372036854775807 := by
              rcases own_form hown3 with ⟨e9, e10⟩ | ⟨g, cap, e9, _, _, k1, k2⟩
              · cases e9; exact ⟨Nat.le_refl _, by decide⟩
              · cases e9; exact ⟨k1, k2⟩
            have hdy := kv.decode_y w3 w3.heap.size n c A T (own_bs hown3) (Nat.le_refl _) hcap.1 hcap.2 (by omega)
            unfold kv.RetDec at hdy
            rw [HDEC.out.1] at hdy
            have HDY := Lib.hid hdy
            clear hSe hown3 hcap hdy
            go_wp2_with (fail)
            refine HDY.out.mono ?_
            rintro e w4 ⟨v2, rfl, hp2, hod2, hb4⟩
            obtain ⟨XD, XV, u, k1, k2, _⟩ := (R3.out.below hb4).1
            obtain ⟨y1, y2, y3, y4⟩ : w4.cell? ⟨t, 1, none⟩ = some (.int .i64 u.ver) ∧ w4.cell? ⟨t, 2, none⟩ = some (.slice u.nA u.nodes.length u.nc) ∧ w4.cell? ⟨t, 3, none⟩ = some (.slice u.sA u.rs.length u.sc) ∧ w4.cell? ⟨t, 4, none⟩ = some (.bool (decide (kv.decE tx = 0))) := by
              refine ⟨?_, ?_, ?_, ?_⟩ <;> (rw [cell_of_row _ _ _ _ _ _ k1]; rfl)
            have m1 := frozen_of_row _ _ 1 _ _ k1
            have m2 := frozen_of_row _ _ 2 _ _ k1
            have m3 := frozen_of_row _ _ 3 _ _ k1
            have m4 := frozen_of_row _ _ 4 _ _ k1
            have lt4 := blk_lt k1
            have hput := rs_put R3.out.1 hb4 v2 hp2 ⟨hod2.n, hod2.s, hod2.each⟩ HDEC.out.1
            have HPUT := Lib.hid (R3.out.then ⟨hput.1, hput.2.mono (fun _ _ e => .inr e)⟩)
            clear hput
            clear hp2 hod2 hb4 k1 k2 HDY
            go_wp2_with (fail)
            go_ret
            rw [HE.out]
            exact ⟨rfl, HPUT.out⟩
          · rw [if_neg e00] at hSe
            have HE := Lib.hid hSe
            clear hSe
            go_wp2_with (fail)
            go_ret
            rw [HE.out]
            exact ⟨rfl, R3.out⟩
      · have h3 : ¬ v.ver - 1 = ex := by omega
        have hSe : S = (st, tx, 150) := by rw [HSS.out, if_neg (fun e => h2 e.2)]
        subst hSe
        go_wp2_with (fail)
        go_ret
        exact ⟨rfl, HR2.out⟩
    · have hSe : S = (st, tx, 150) := by rw [HSS.out, if_neg (fun e => h1 e.1)]
      subst hSe
      go_wp2_with (fail)
      go_ret
      exact ⟨rfl, HR2.out⟩
  · have hE : kv.encE P = 50 := by unfold kv.encE; rw [if_neg hc]
    have hsS : setS st tx ex P = (st, tx, 50) := by unfold setS; rw [if_neg hc]
    rw [hE] at HENC
    rw [hsS]
    obtain ⟨n, hn⟩ : ∃ n, (kv.encB P).length = n := ⟨_, rfl⟩
    rw [hn] at HENC
    clear hc hE hsS HCAN hn hPv
    go_enter Tryz.func18, Tryz.ntmps18
    go_wp2_with (fail)
    rw [HW1.out]
    go_wp2_with (fail)
    refine HENC.out.mono ?_
    rintro e w2 ⟨A, c, rfl, hown, hb2, hnil⟩
    have hb02 : Below w.heap.size w w2 := HB1.out.trans (hb2.mono HB1.out.size)
    have HF := Lib.hid (HK.out.rw0 hb02)
    clear hown hb2 hnil hb02
    go_wp2_with (fail)
    go_ret
    exact ⟨rfl, HF.out⟩
theorem dec_not {b : List UInt8} (h : kv.decE b ≠ 0) : kv.decP b = kv.zeroPl := by
  unfold kv.decE at h
  unfold kv.decP
  split
  · rename_i hg; rw [if_pos hg] at h; exact absurd rfl h
  · rfl
theorem opx_none (w : World) : OPx w (fun _ => False) pm.noPV :=
  ⟨pm.noPV_op w 0, fun g hg => by simp [pm.noPV, Value.ownBlock] at hg, fun g hg => by simp [pm.noPV, Value.ownBlock] at hg, fun r hr => by simp [pm.noPV] at hr⟩
theorem zero_pv : pm.noPV.pl = kv.zeroPl := rfl
set_option maxRecDepth 100000 in
set_option maxHeartbeats 4000000 in
theorem ropen_y (w : World) (r : Nat) (XD : Nat → Prop) (st : dk.St) (h : RM w r XD st) (hs : Small st) (hl : ∀ k, XD k → k < w.heap.size) :
    Calls Tryz.prog 16 #[ptr r] w fun e w' => ∃ t, e = .returned (ptr t) ∧ RS (Ext XD w w') w' t r st ((al.get st.shown cu).getD []) ∧ Below w.heap.size w w' ∧ w.heap.size ≤ t := by
  obtain ⟨w1, hw1⟩ : ∃ w1, w.alloc (.cells #[ptr r, .int .i64 0, .slice none 0 0, .slice none 0 0, .bool false] 55) = w1 := ⟨_, rfl⟩
  have hb1 : Below w.heap.size w w1 := by rw [← hw1]; exact (Below.refl _ _).alloc (Nat.le_refl _) _
  have g1 : w1.heap[w.heap.size]? = some (storeO r pm.noPV false) := by rw [← hw1]; exact alloc_new _ _
  have l1 := blk_lt g1
  have hrd := (h.below hb1).read hs (Below.refl _ w1) cu
  have hrl := h.at_r.2
  have hgl := get_le (fold_srt h.srt st.pend) cu
  have hfs := fold_sum h.srt st.pend
  have hss := hs.sum
  obtain ⟨o, ho⟩ : ∃ o, al.get st.shown cu = o := ⟨_, rfl⟩
  have hgl2 : (o.getD []).length ≤ 536870912 := by rw [← ho]; unfold dk.St.shown; omega
  rw [ho] at hrd ⊢
  have H := Lib.hid h
  have HL := Lib.hid hl
  have HG1 := Lib.hid g1
  have HB1 := Lib.hid hb1
  have W1 := Lib.hid hw1
  clear h hs hl g1 hb1 hw1 hgl hfs hss ho
  -- a store that has nothing
  have HNO := Lib.hid (show ∀ (tx : Nm) (wz : World), kv.decE tx ≠ 0 → Below w1.heap.size w1 wz → RS (Ext XD w wz) wz w.heap.size r st tx ∧ Below w.heap.size w wz from by
    intro tx wz hd hbz
    have hb := HB1.out.trans (hbz.mono HB1.out.size)
    have sz := hbz.size
    refine ⟨⟨XD, fun _ => False, pm.noPV, ?_, zero_pv.trans (dec_not hd).symm, H.out.below hb, opx_none wz, fun k hk => ⟨.inl hk, by have := HL.out k hk; omega⟩, fun k hk => hk.elim, .inr ⟨Nat.le_refl _, by omega⟩, fun k hk => ?_⟩, hb⟩
    · rw [show decide (kv.decE tx = 0) = false from decide_eq_false hd]
      exact blk_below hbz HG1.out l1
    · rcases hk with e | e
      · have := HL.out k e; have := hb.size; omega
      · exact e.2)
  go_enter Tryz.func16, Tryz.ntmps16
  cases o with
  | none =>
    rw [ans_none] at hrd
    have HRD := Lib.hid hrd
    clear hrd
    go_wp2_with (fail)
    rw [W1.out]
    refine HRD.out.mono ?_
    rintro e w2 ⟨rfl, hb2⟩
    have HF := Lib.hid (HNO.out [] w2 dec_nil.1 hb2)
    clear hb2 HRD
    go_wp2_with (fail)
    go_ret
    exact ⟨_, rfl, HF.out.1, HF.out.2, Nat.le_refl _⟩
  | some b =>
    rw [ans_some] at hrd
    have HRD := Lib.hid hrd
    clear hrd
    go_wp2_with (fail)
    rw [W1.out]
    refine HRD.out.mono ?_
    rintro e w2 ⟨rfl, hb2⟩
    obtain ⟨w3, C, hconv, hbs3, hb3, hs3, hcap, hcap'⟩ : ∃ W3 C, (convert 9 36 (.string (bs b))).run Tryz.prog w2 = .ok (.slice (some ⟨w2.heap.size, 0, none⟩) b.length C) W3 ∧ Bs W3 (w2.heap.size + 1) (some ⟨w2.heap.size, 0, none⟩) b.length b ∧ Below w2.heap.size w2 W3 ∧ W3.heap.size = w2.heap.size + 1 ∧ b.length ≤ C ∧ C ≤ maxLen := by
      have h1 := run_bytes_of_string (P := Tryz.prog) w2 9 36 5 (bs b) Tryz.underlying9 Tryz.underlying36 Tryz.underlying5
      rw [bs_size] at h1
      have h2 := bs_string w2 (bs b)
      rw [bs_size, bs_list] at h2
      exact ⟨_, _, h1, h2 _ _ _, ((Below.refl _ w2).drew.alloc (Nat.le_refl _) _), World.size_alloc _ _, grownCap_ge _ _ _ _, grownCap_le_maxLen _ _ _ _ (by have : b.length ≤ 536870912 := hgl2; unfold maxLen; omega)⟩
    have hblen : b.length ≤ 536870912 := hgl2
    have hdy := kv.decode_y w3 (w2.heap.size + 1) b.length C (some ⟨w2.heap.size, 0, none⟩) b hbs3 (by omega) hcap (by unfold maxLen at hcap'; omega) (by omega)
    unfold kv.RetDec at hdy
    obtain ⟨n, hn⟩ : ∃ n, b.length = n := ⟨_, rfl⟩
    rw [hn] at hdy hconv
    obtain ⟨de, hde⟩ : ∃ de, kv.decE b = de := ⟨_, rfl⟩
    rw [hde] at hdy
    have HDY := Lib.hid hdy
    have HDE := Lib.hid hde
    have hb13 : Below w1.heap.size w1 w3 := hb2.trans (hb3.mono hb2.size)
    have HB3 := Lib.hid hb13
    clear hdy hde hb2 hbs3 hb3 hs3 hcap hcap' hblen hgl2 hn hb13 HRD
    go_wp2_with (fail)
    refine HDY.out.mono ?_
    rintro e w4 ⟨v2, rfl, hp2, hod2, hb4⟩
    clear hconv
    obtain ⟨w5, hw5⟩ : ∃ w5, w4.alloc (pm.boxO v2) = w5 := ⟨_, rfl⟩
    have hb45 : Below w4.heap.size w4 w5 := by rw [← hw5]; exact (Below.refl _ _).alloc (Nat.le_refl _) _
    have g5 : pm.Boxed w5 w4.heap.size v2 := by rw [← hw5]; exact alloc_new _ _
    have hb35 : Below w3.heap.size w3 w5 := hb4.trans (hb45.mono hb4.size)
    have hb15 : Below w1.heap.size w1 w5 := HB3.out.trans (hb35.mono HB3.out.size)
    have hop5 : pm.OP w5 w3.heap.size v2 := (show pm.OP w4 w3.heap.size v2 from ⟨hod2.n, hod2.s, hod2.each⟩).below hb45 (Nat.le_refl _)
    by_cases hd : de = 0
    · subst hd
      have hs13 := HB3.out.size
      have gt5 := blk_below hb15 HG1.out l1
      obtain ⟨⟨y1, y2, y3⟩, _, _, _⟩ := pm.isv3_cells g5
      have ly := blk_lt g5
      obtain ⟨z1, z2, z3, z4⟩ : w5.cell? ⟨w.heap.size, 1, none⟩ = some (.int .i64 0) ∧ w5.cell? ⟨w.heap.size, 2, none⟩ = some (.slice none 0 0) ∧ w5.cell? ⟨w.heap.size, 3, none⟩ = some (.slice none 0 0) ∧ w5.cell? ⟨w.heap.size, 4, none⟩ = some (.bool false) := by
        refine ⟨?_, ?_, ?_, ?_⟩ <;> (rw [cell_of_row _ _ _ _ _ _ gt5]; rfl)
      have m1 := frozen_of_row _ _ 1 _ _ gt5
      have m2 := frozen_of_row _ _ 2 _ _ gt5
      have m3 := frozen_of_row _ _ 3 _ _ gt5
      have m4 := frozen_of_row _ _ 4 _ _ gt5
      have lz := blk_lt gt5
      have HPUT := Lib.hid (show RS (Ext XD w ((((w5.setCell ⟨w.heap.size, 1, none⟩ (.int .i64 v2.ver)).setCell ⟨w.heap.size, 2, none⟩ (.slice v2.nA v2.nodes.length v2.nc)).setCell ⟨w.heap.size, 3, none⟩ (.slice v2.sA v2.rs.length v2.sc)).setCell ⟨w.heap.size, 4, none⟩ (.bool true))) _ w.heap.size r st b ∧ Below w.heap.size w ((((w5.setCell ⟨w.heap.size, 1, none⟩ (.int .i64 v2.ver)).setCell ⟨w.heap.size, 2, none⟩ (.slice v2.nA v2.nodes.length v2.nc)).setCell ⟨w.heap.size, 3, none⟩ (.slice v2.sA v2.rs.length v2.sc)).setCell ⟨w.heap.size, 4, none⟩ (.bool true)) from by
        obtain ⟨hrs, hbw⟩ := HNO.out [] w3 dec_nil.1 HB3.out
        have hput := rs_put hrs hb35 v2 hp2 hop5 HDE.out
        refine ⟨hput.1.mono (fun k hk => ext_trans hbw.size hput.2.size k hk) (fun k hk => ?_), hbw.trans (hput.2.below hbw.size (fun k e => ?_))⟩
        · rcases hk with e | e
          · have := HL.out k e; have := hbw.size; have := hput.2.size; omega
          · exact e.2
        · omega)
      clear hp2 hod2 hb4 hb45 g5 hb35 hb15 hop5 gt5 HDY
      go_wp2_with (fail)
      go_ret
      exact ⟨_, rfl, HPUT.out.1, HPUT.out.2, Nat.le_refl _⟩
    · have HF := Lib.hid (HNO.out b w5 (by rw [HDE.out]; exact hd) hb15)
      clear hp2 hod2 hb4 hb45 g5 hb35 hb15 hop5 HDY
      go_wp2_with (fail)
      go_ret
      exact ⟨_, rfl, HF.out.1, HF.out.2, Nat.le_refl _⟩
end Go.Proofs.YtnjdondkggkfoaaGreat.ks
/-
  Both stores side by side: bounds behind steps; Since; what the law's disks compares.
-/
namespace Go.Proofs.YtnjdondkggkfoaaGreat.ks
open Go.ChangeShapes Go.WideShapes Go.ChangeAt Go.RowKit Go.Shelf Go.Maps Go.Sort plain words ord mem al dk

/-- a change gives no long names -/
def chN : Chn → Prop
  | .app a _ => a.length ≤ 40
  | .ren _ b => b.length ≤ 40
  | .rem _ => True
theorem done_nm {ls : AL Nm} (h : ∀ x ∈ ls, x.1.length ≤ 40) {c : Chn} (hc : chN c) : ∀ x ∈ done ls c, x.1.length ≤ 40 := fun x hx => by
  cases c with
  | app a b =>
    rcases mem_put hx with rfl | hx
    · exact hc
    · exact h x hx
  | ren a b =>
    have hx : x ∈ mv ls a b := hx
    unfold mv at hx
    split at hx
    · exact h x hx
    · split at hx
      · exact h x hx
      · rcases mem_put hx with rfl | hx
        · exact hc
        · exact h x (mem_del.1 hx).1
  | rem a => exact h x (mem_del.1 hx).1
theorem fold_nm : ∀ {ls : AL Nm} {pd : List Chn}, (∀ x ∈ ls, x.1.length ≤ 40) → (∀ c ∈ pd, chN c) → ∀ x ∈ fold ls pd, x.1.length ≤ 40
  | _, [], h, _ => h
  | _, c :: pd, h, hc => fold_nm (ls := done _ c) (pd := pd) (done_nm h (hc c (by simp))) (fun d hd => hc d (by simp [hd]))
/-- bounds of a disk's state -/
structure Bd (st : dk.St) (R : Int) (m n : Nat) (o : Int) : Prop where
  sum : fsum st.last + sumc st.pend ≤ m
  len : st.last.length + st.pend.length ≤ n
  lo : 0 ≤ st.ops
  hi : st.ops ≤ o
  room : st.room = R
  due : ∀ x, st.due = some x → 0 ≤ x.1 ∧ x.1 ≤ 9223372036854775807
  srt : al.Srt st.last
  nl : ∀ x ∈ st.last, x.1.length ≤ 40
  np : ∀ c ∈ st.pend, chN c
section
variable {st : dk.St} {R : Int} {m n m' n' : Nat} {o o' : Int}
theorem Bd.mono (h : Bd st R m n o) (hm : m ≤ m') (hn : n ≤ n') (ho : o ≤ o') : Bd st R m' n' o' := ⟨Nat.le_trans h.sum hm, Nat.le_trans h.len hn, h.lo, Int.le_trans h.hi ho, h.room, h.due, h.srt, h.nl, h.np⟩
theorem Bd.small (h : Bd st R m n o) (hm : m ≤ 536870912) (hn : n ≤ 536870912) (ho : o < 4611686018427387904) : Small st := ⟨Nat.le_trans h.sum hm, Nat.le_trans h.len hn, h.lo, by have := h.hi; omega, h.due⟩
theorem part_bd (ls : AL Nm) (hs : al.Srt ls) (pd : List Chn) (i : Nat) (q : Int) (hi : i ≤ pd.length) :
    fsum (partOf (fold ls (pd.take i)) pd[i]? q) ≤ fsum ls + sumc pd ∧ (partOf (fold ls (pd.take i)) pd[i]? q).length ≤ ls.length + pd.length ∧ al.Srt (partOf (fold ls (pd.take i)) pd[i]? q) := by
  have hs1 := fold_srt hs (pd.take i)
  have h1 := fold_sum hs (pd.take i)
  have h2 := sumc_take pd i
  have h3 := fold_len_take ls pd i
  unfold partOf
  split
  · rename_i a b hc
    have hlt : i < pd.length := by
      rcases Nat.lt_or_ge i pd.length with h | h
      · exact h
      · rw [List.getElem?_eq_none h] at hc; cases hc
    have h4 := fold_sum_take hs hc
    split
    · have h5 := done_sum hs1 (.app a (b.take (min q (b.length : Int)).toNat))
      have h6 := done_len (fold ls (pd.take i)) (.app a (b.take (min q (b.length : Int)).toNat))
      have h7 := fold_len ls (pd.take i)
      have h8 : (pd.take i).length = i := by rw [List.length_take]; omega
      simp only [chlen, List.length_take] at h4 h5
      exact ⟨by omega, by omega, done_srt hs1 _⟩
    · exact ⟨by omega, h3, hs1⟩
  · exact ⟨by omega, h3, hs1⟩
theorem part_nm {ls : AL Nm} {pd : List Chn} (h : ∀ x ∈ ls, x.1.length ≤ 40) (hp : ∀ c ∈ pd, chN c) (i : Nat) (q : Int) : ∀ x ∈ partOf (fold ls (pd.take i)) pd[i]? q, x.1.length ≤ 40 := by
  have h1 := fold_nm h (pd := pd.take i) (fun c hc => hp c (List.mem_of_mem_take hc))
  unfold partOf
  split
  · rename_i a b hc
    split
    · exact done_nm h1 (show chN (.app a _) from hp (.app a b) (List.mem_of_getElem? hc))
    · exact h1
  · exact h1
theorem kept_le2 (k : Int) (M : Nat) : keptN k M ≤ M := by unfold keptN; omega
theorem Bd.crash (h : Bd st R m n o) (k q : Int) : Bd (crashSt st k q) R m n o := by
  unfold crashSt
  split
  · exact h
  · obtain ⟨h1, h2, h3⟩ := part_bd st.last h.srt st.pend (keptN k st.pend.length) q (kept_le2 _ _)
    exact ⟨by show fsum (partOf (fold st.last (st.pend.take (keptN k st.pend.length))) st.pend[keptN k st.pend.length]? q) + 0 ≤ m; have := h.sum; omega, by show (partOf (fold st.last (st.pend.take (keptN k st.pend.length))) st.pend[keptN k st.pend.length]? q).length + 0 ≤ n; have := h.len; omega, h.lo, h.hi, h.room, (fun x hx => by cases hx), h3, part_nm h.nl h.np _ _, (fun c hc => by cases hc)⟩
theorem Bd.pw (h : Bd st R m n o) : Bd (dk.pw st) R m n o := by
  unfold dk.pw
  split
  · split
    · exact h.crash _ _
    · exact h
  · exact h
theorem Bd.cnt (h : Bd st R m n o) (hd : (dk.pw st).dead = false) (l : AL Nm) (p : List Chn) (hl : al.Srt l) (h1 : fsum l + sumc p ≤ m') (h2 : l.length + p.length ≤ n') (hnl : ∀ x ∈ l, x.1.length ≤ 40) (hnp : ∀ c ∈ p, chN c) : Bd (dk.cnt { st with last := l, pend := p }) R m' n' (o + 1) := by
  obtain ⟨_, _, h9⟩ := pw_alive hd
  refine ⟨h1, h2, by have := h.lo; show 0 ≤ st.ops + 1; omega, by have := h.hi; show st.ops + 1 ≤ _; omega, h.room, fun x hx => ?_, hl, hnl, hnp⟩
  have hx : st.due.map dec = some x := hx
  cases hdd : st.due with
  | none => rw [hdd] at hx; cases hx
  | some y =>
    rw [hdd] at hx
    injection hx with hx
    subst hx
    have k1 := h9 y hdd
    have k2 := h.due y hdd
    show 0 ≤ y.1 - 1 ∧ y.1 - 1 ≤ _
    omega
theorem Bd.doS (h : Bd st R m n o) (c : Chn) (hcn : chN c) : Bd (doSt st c) R (m + chlen c) (n + 1) (o + 1) := by
  unfold doSt
  split
  · exact h.pw.mono (by omega) (by omega) (by omega)
  · rename_i hd
    have hd : (dk.pw st).dead = false := by simpa using hd
    refine h.cnt hd st.last (st.pend ++ [c]) h.srt ?_ ?_ h.nl (fun d hd => by
      rcases List.mem_append.1 hd with hd | hd
      · exact h.np d hd
      · rw [List.mem_singleton.1 hd]; exact hcn)
    · rw [sumc_snoc]; have := h.sum; omega
    · rw [List.length_append]; have := h.len; simp; omega
theorem Bd.sync (h : Bd st R m n o) : Bd (syncSt st) R m n (o + 1) := by
  unfold syncSt
  split
  · exact h.pw.mono (by omega) (by omega) (by omega)
  · rename_i hd
    have hd : (dk.pw st).dead = false := by simpa using hd
    have h1 := fold_sum h.srt st.pend
    have h2 := fold_len st.last st.pend
    refine h.cnt hd st.shown [] (fold_srt h.srt _) ?_ ?_ (fold_nm h.nl h.np) (fun c hc => by cases hc)
    · have := h.sum; show fsum (fold st.last st.pend) + 0 ≤ _; omega
    · have := h.len; show (fold st.last st.pend).length + 0 ≤ _; omega
theorem okn_len {a : Nm} (h : okn a = true) : a.length ≤ 40 := by
  unfold okn at h
  simp at h
  exact h.2
theorem Bd.app (h : Bd st R m n o) (a b : Nm) : Bd (appSt st a b).1 R (m + b.length) (n + 1) (o + 1) := by
  unfold appSt
  split
  · exact h.mono (by omega) (by omega) (by omega)
  · rename_i hk
    split
    · exact h.mono (by omega) (by omega) (by omega)
    · exact h.doS _ (okn_len (by simpa using hk))
theorem Bd.rem (h : Bd st R m n o) (a : Nm) : Bd (remSt st a).1 R m (n + 1) (o + 1) := by
  unfold remSt
  split
  · exact h.mono (by omega) (by omega) (by omega)
  · split
    · exact h.mono (by omega) (by omega) (by omega)
    · exact h.doS _ trivial
theorem Bd.ren (h : Bd st R m n o) (a b : Nm) : Bd (renSt st a b).1 R m (n + 1) (o + 1) := by
  unfold renSt
  split
  · exact h.mono (by omega) (by omega) (by omega)
  · rename_i hk
    split
    · exact h.mono (by omega) (by omega) (by omega)
    · exact h.doS _ (okn_len (by
        cases hb : okn b with
        | true => rfl
        | false => exact absurd (.inr hb) hk))
theorem Bd.clr (h : Bd st R m n o) : Bd (ks.clr st).1 R m (n + 1) (o + 1) := by
  unfold ks.clr
  split
  · exact h.mono (by omega) (by omega) (by omega)
  · exact h.rem _
theorem Bd.stg (h : Bd st R m n o) (T : Nm) : ∀ i, Bd (stg st T i).1 R (m + T.length) (n + 5) (o + 5)
  | 0 => h.mono (by omega) (by omega) (by omega)
  | 1 => h.clr.mono (by omega) (by omega) (by omega)
  | 2 => (h.clr.app up T).mono (by omega) (by omega) (by omega)
  | 3 => (h.clr.app up T).sync.mono (by omega) (by omega) (by omega)
  | 4 => ((h.clr.app up T).sync.ren up cu).mono (by omega) (by omega) (by omega)
  | _ + 5 => ((h.clr.app up T).sync.ren up cu).sync.mono (by omega) (by omega) (by omega)
theorem wr_stg (st : dk.St) (T : Nm) : ∃ j, wrS st T = stg st T j := by
  by_cases h1 : (stg st T 1).2 = 0
  · by_cases h2 : (stg st T 2).2 = 0
    · by_cases h3 : (stg st T 3).2 = 0
      · by_cases h4 : (stg st T 4).2 = 0
        · exact ⟨5, stg_end (fun j hj => by
            rcases (show j = 0 ∨ j = 1 ∨ j = 2 ∨ j = 3 ∨ j = 4 by omega) with rfl | rfl | rfl | rfl | rfl
            · rfl
            · exact h1
            · exact h2
            · exact h3
            · exact h4)⟩
        · exact ⟨4, stg_bad (i := 3) (by decide) (fun j hj => by
            rcases (show j = 0 ∨ j = 1 ∨ j = 2 ∨ j = 3 by omega) with rfl | rfl | rfl | rfl
            · rfl
            · exact h1
            · exact h2
            · exact h3) h4⟩
      · exact ⟨3, stg_bad (i := 2) (by decide) (fun j hj => by
          rcases (show j = 0 ∨ j = 1 ∨ j = 2 by omega) with rfl | rfl | rfl
          · rfl
          · exact h1
          · exact h2) h3⟩
    · exact ⟨2, stg_bad (i := 1) (by decide) (fun j hj => by
        rcases (show j = 0 ∨ j = 1 by omega) with rfl | rfl
        · rfl
        · exact h1) h2⟩
  · exact ⟨1, stg_bad (i := 0) (by decide) (fun j hj => by cases Nat.le_zero.1 hj; rfl) h1⟩
theorem Bd.wr (h : Bd st R m n o) (T : Nm) : Bd (wrS st T).1 R (m + T.length) (n + 5) (o + 5) := by
  obtain ⟨j, hj⟩ := wr_stg st T
  rw [hj]; exact h.stg T j
theorem Bd.set (h : Bd st R m n o) (tx : Nm) (ex : Int) (P : pm.Pl) : Bd (setS st tx ex P).1 R (m + 256) (n + 7) (o + 7) := by
  unfold setS
  split
  · rename_i hc
    have hl := encP_small (pm.chk_iff.1 hc)
    split
    · have hw := h.wr (kv.encP P)
      show Bd (full (wrS st (kv.encP P))) _ _ _ _
      unfold full
      split
      · exact hw.clr.sync.mono (by omega) (by omega) (by omega)
      · exact hw.mono (by omega) (by omega) (by omega)
    · exact h.mono (by omega) (by omega) (by omega)
  · exact h.mono (by omega) (by omega) (by omega)
theorem Bd.can (h : Bd st R m n o) (hm : m ≤ 500000000) (hn : n ≤ 500000000) (ho : o < 4000000000) (hR0 : 0 ≤ R) (hR : R ≤ 1073741824) (P : pm.Pl) (hc : pm.chk P = 0) : Can st (kv.encP P) := by
  have hl := encP_small (pm.chk_iff.1 hc)
  refine ⟨⟨fun i _ _ => (h.stg (kv.encP P) i).small (by omega) (by omega) (by omega), by rw [h.clr.room]; exact hR0, by rw [h.clr.room]; exact hR, by omega⟩, fun _ => ⟨(h.wr (kv.encP P)).small (by omega) (by omega) (by omega), (h.wr (kv.encP P)).clr.small (by omega) (by omega) (by omega)⟩⟩
theorem Bd.cut (h : Bd st R m n o) (l k q : Int) (hl : l ≤ 9223372036854775807) : Bd (cutSt st l k q) R m n o :=
  ⟨h.sum, h.len, h.lo, h.hi, h.room, fun x hx => by injection hx with hx; subst hx; show 0 ≤ max l 0 ∧ max l 0 ≤ _; omega, h.srt, h.nl, h.np⟩
theorem Bd.pow (h : Bd st R m n o) : Bd (powSt st) R m n o := ⟨h.sum, h.len, h.lo, h.hi, h.room, (fun x hx => by cases hx), h.srt, h.nl, h.np⟩
/-- what a store reads is no longer than the disk's bounds -/
theorem Bd.text (h : Bd st R m n o) : ((al.get st.shown cu).getD []).length ≤ m := by
  have h1 := get_le (fold_srt h.srt st.pend) cu
  have h2 := fold_sum h.srt st.pend
  have h3 := h.sum
  show ((al.get (fold st.last st.pend) cu).getD []).length ≤ m
  omega
end
/-- both stores: the program's and the document's, each over its own disk -/
def BS (X : Nat → Prop) (w0 w : World) (s p t r : Nat) (st : dk.St) (tx : Nm) (st2 : dk.St) (tx2 : Nm) : Prop :=
  KS X w0 w s p st tx ∧ RS X w t r st2 tx2 ∧ w0.heap.size ≤ r ∧ w0.heap.size ≤ t
section
variable {X Y : Nat → Prop} {w0 w w' : World} {s p t r : Nat} {st st2 st' : dk.St} {tx tx2 tx' : Nm}
theorem RS.own (h : RS X w t r st tx) : X r ∧ X t := by
  obtain ⟨XD, XV, v, h1, h2, h3, h4, h5, h6, h7, h8⟩ := h
  exact ⟨(h5 r h3.at_r.1).1, h7⟩
theorem BS.below0 (h : BS X w0 w s p t r st tx st2 tx2) : Below w0.heap.size w0 w := h.1.below
theorem ext_ltX {w w' : World} {X : Nat → Prop} (h : ∀ k, X k → k < w.heap.size) (hs : w.heap.size ≤ w'.heap.size) : ∀ k, Ext X w w' k → k < w'.heap.size := fun k hk => by
  rcases hk with e | e
  · have := h k e; omega
  · exact e.2
theorem BS.mark (h : BS X w0 w s p t r st tx st2 tx2) (hb : Below w.heap.size w w') : BS (Ext X w w') w0 w' s p t r st tx st2 tx2 :=
  ⟨h.1.mark hb (fun k hk => hk.imp id (fun e => e.1)) (ext_ltX h.2.1.lt hb.size), (h.2.1.rw0 hb).1, h.2.2⟩
theorem BS.quiet (h : BS X w0 w s p t r st tx st2 tx2) (hb : Below w.heap.size w w') : BS X w0 w' s p t r st tx st2 tx2 :=
  ⟨h.1.quiet hb, h.2.1.below hb, h.2.2⟩
theorem BS.prog (h : BS X w0 w s p t r st tx st2 tx2) {v : Value} {e : Ending} (hk : RetK X w0 w s p st' tx' v e w') : BS X w0 w' s p t r st' tx' st2 tx2 :=
  ⟨hk.2.1, h.2.1.chg hk.2.2 (fun _ e e2 => e2 e), h.2.2⟩
theorem KS.other (h : KS X w0 w s p st tx) (hc : Chg (fun k => k = r ∨ k = t) w w') (hr : X r) (ht : X t) (hr0 : w0.heap.size ≤ r) (ht0 : w0.heap.size ≤ t) (hX : ∀ k, X k → k < w.heap.size) : KS (Ext X w w') w0 w' s p st tx := by
  obtain ⟨⟨F, h1, h2, h3, h4⟩, hb, h5, h6⟩ := h
  have hs := hc.size
  have hsl := blk_lt hb
  refine ⟨⟨F, h1.chg hc (fun k hk e => ?_), fun k hk => ⟨(h2 k hk).1, fun e => ?_⟩, h3.trans (hc.below h3.size (fun k e => by rcases e with e | e <;> omega)), fun k hk => ?_⟩, hc.blk hb (fun e => ?_), h5, fun e => ?_⟩
  · rcases e with e | e
    · exact (h2 k hk).2 (.inl (e ▸ hr))
    · exact (h2 k hk).2 (.inl (e ▸ ht))
  · rcases e with (e | e) | e
    · exact (h2 k hk).2 (.inl e)
    · have := h1.lt k hk; omega
    · exact (h2 k hk).2 (.inr e)
  · rcases hk with e | e
    · exact ext_ltX hX hs k e
    · omega
  · rcases e with e | e
    · exact h6 (e ▸ hr)
    · exact h6 (e ▸ ht)
  · rcases e with e | e
    · exact h6 e
    · omega
theorem BS.ref (h : BS X w0 w s p t r st tx st2 tx2) (hr : RW X w t r st' tx' w') : BS (Ext X w w') w0 w' s p t r st tx st' tx' :=
  ⟨KS.other h.1 hr.2 h.2.1.own.1 h.2.1.own.2 h.2.2.1 h.2.2.2 h.2.1.lt, hr.1, h.2.2⟩
/-- the document's store as it is read -/
theorem RS.view (h : RS X w t r st tx) : ∃ v : pm.PV, w.cell? ⟨t, 1, none⟩ = some (.int .i64 v.ver) ∧ w.cell? ⟨t, 2, none⟩ = some (.slice v.nA v.nodes.length v.nc) ∧ w.cell? ⟨t, 3, none⟩ = some (.slice v.sA v.rs.length v.sc) ∧ w.cell? ⟨t, 4, none⟩ = some (.bool (decide (kv.decE tx = 0))) ∧ v.pl = kv.decP tx ∧ pm.PVok w w.heap.size v ∧ t < w.heap.size := by
  obtain ⟨XD, XV, v, h1, h2, h3, h4, _⟩ := h
  refine ⟨v, ?_, ?_, ?_, ?_, h2, h4.ok, blk_lt h1⟩ <;> (rw [cell_of_row _ _ _ _ _ _ h1]; rfl)
end
set_option maxRecDepth 100000 in
set_option maxHeartbeats 2000000 in
theorem since_k (X : Nat → Prop) (w0 w : World) (s p : Nat) (st : dk.St) (tx : Nm) (n : Int) (h : KS X w0 w s p st tx) (ht : tx.length ≤ 1000000) :
    Calls Tryz.prog 25 #[ptr s, .int .i64 n] w fun e w' => ∃ v : pm.PV, e = .returned (.tuple #[v.val, .bool (decide (kv.decE tx = 0) && decide (n < (kv.decP tx).ver))]) ∧ ((decide (kv.decE tx = 0) && decide (n < (kv.decP tx).ver)) = true → v.pl = kv.decP tx) ∧ pm.PVok w' w'.heap.size v ∧ Below w.heap.size w w' := by
  obtain ⟨w1, hw1⟩ : ∃ w1, w.alloc (.cells #[.int .i64 0, .slice none 0 0, .slice none 0 0] 25) = w1 := ⟨_, rfl⟩
  have hb1 : Below w.heap.size w w1 := by rw [← hw1]; exact (Below.refl _ _).alloc (Nat.le_refl _) _
  have ga : w1.heap[w.heap.size]? = some (.cells #[.int .i64 0, .slice none 0 0, .slice none 0 0] 25 (0, 0)) := by rw [← hw1]; exact alloc_new _ _
  have hget := get_k X w0 w1 s p st tx (h.quiet hb1) ht
  unfold RetGet at hget
  obtain ⟨b, hb⟩ : ∃ b, decide (kv.decE tx = 0) = b := ⟨_, rfl⟩
  obtain ⟨vr, hvr⟩ : ∃ x, (kv.decP tx).ver = x := ⟨_, rfl⟩
  rw [hb] at hget
  rw [hb, hvr]
  have HGET := Lib.hid hget
  have HW1 := Lib.hid hw1
  have GA := Lib.hid ga
  have HB1 := Lib.hid hb1
  have HVR := Lib.hid hvr
  have la := blk_lt ga
  clear h ht hw1 hb1 ga hget hb hvr
  go_enter Tryz.func25, Tryz.ntmps25
  go_wp2_with (fail)
  rw [HW1.out]
  refine HGET.out.mono ?_
  rintro e w2 ⟨v, rfl, hpl, hod, hb2⟩
  obtain ⟨w3, hw3⟩ : ∃ w3, w2.alloc (pm.boxO v) = w3 := ⟨_, rfl⟩
  have hb3 : Below w2.heap.size w2 w3 := by rw [← hw3]; exact (Below.refl _ _).alloc (Nat.le_refl _) _
  have gv : pm.Boxed w3 w2.heap.size v := by rw [← hw3]; exact alloc_new _ _
  have hb13 : Below w1.heap.size w1 w3 := hb2.trans (hb3.mono hb2.size)
  have ga3 := blk_below hb13 GA.out la
  have hver : v.ver = vr := by have : v.pl.ver = v.ver := rfl; rw [← this, hpl, HVR.out]
  have hok : pm.OP w3 w1.heap.size v := (show pm.OP w2 w1.heap.size v from ⟨hod.n, hod.s, hod.each⟩).below hb3 (Nat.le_refl _)
  obtain ⟨⟨c0, c1, c2⟩, _, _, _⟩ := pm.isv3_cells gv
  have lv := blk_lt gv
  obtain ⟨⟨q0, q1, q2⟩, f0, f1, f2⟩ := pm.isv3_cells (show pm.IsV3 25 w3 w.heap.size (.int .i64 0) (.slice none 0 0) (.slice none 0 0) from ga3)
  have lq := blk_lt ga3
  have HX := Lib.hid (And.intro hpl (And.intro hok (And.intro ga3 (HB1.out.trans (hb13.mono HB1.out.size)))))
  have hw13 := hb13.size
  have hsz1 := HB1.out.size
  rw [hver] at c0
  have HV := Lib.hid hver
  clear hpl hod hb2 hb3 gv hb13 ga3 hok HGET hver
  by_cases hb : b = true
  · subst hb
    by_cases hn : n < vr
    · have hle : ¬ vr ≤ n := by omega
      go_wp2_with (fail)
      clear hw3
      have G3 := pm.set3 (a' := .int .i64 vr) (b' := .slice v.nA v.nodes.length v.nc) (c' := .slice v.sA v.rs.length v.sc) HX.out.2.2.1
      refine bodyPost_ret (pm.ret_cell rfl _ _ w.heap.size 25 _ _ _ rfl G3 Tryz.underlying25 rfl pm.sizeP) rfl ?_
      have hv9 : v.val = .agg #[.int .i64 vr, .slice v.nA v.nodes.length v.nc, .slice v.sA v.rs.length v.sc] := by show Value.agg #[.int .i64 v.ver, _, _] = _; rw [HV.out]
      refine ⟨v, by rw [hv9, show (true && decide (n < vr)) = true from by simp [hn]]; rfl, fun _ => HX.out.1, (HX.out.2.1.chg (chg3 _ _ _ _ _) (fun k e => by omega)).ok, pm.below_set3 HX.out.2.2.2 (Nat.le_refl _) _ _ _⟩
    · have hle : vr ≤ n := by omega
      go_wp2_with (fail)
      clear hw3
      have G3 := pm.set3 (a' := .int .i64 0) (b' := .slice none 0 0) (c' := .slice none 0 0) HX.out.2.2.1
      refine bodyPost_ret (pm.ret_cell rfl _ _ w.heap.size 25 _ _ _ rfl G3 Tryz.underlying25 rfl pm.sizeP) rfl ?_
      exact ⟨pm.noPV, (by rw [show decide (n < vr) = false from decide_eq_false (by omega)]; rfl), (fun e => by rw [show decide (n < vr) = false from decide_eq_false (by omega)] at e; cases e), (pm.noPV_op _ 0).ok, pm.below_set3 HX.out.2.2.2 (Nat.le_refl _) _ _ _⟩
  · obtain rfl : b = false := by simpa using hb
    go_wp2_with (fail)
    clear hw3
    have G3 := pm.set3 (a' := .int .i64 0) (b' := .slice none 0 0) (c' := .slice none 0 0) HX.out.2.2.1
    refine bodyPost_ret (pm.ret_cell rfl _ _ w.heap.size 25 _ _ _ rfl G3 Tryz.underlying25 rfl pm.sizeP) rfl ?_
    exact ⟨pm.noPV, rfl, fun e => by simp at e, (pm.noPV_op _ 0).ok, pm.below_set3 HX.out.2.2.2 (Nat.le_refl _) _ _ _⟩
theorem RM.files {w : World} {r : Nat} {XD : Nat → Prop} {st : dk.St} (h : RM w r XD st) (hs : Small st) : Calls Tryz.prog 54 #[ptr r] w fun e w' => ∃ A c, e = .returned (.slice A st.shown.length c) ∧ Fr w' A c st.shown ∧ Below w.heap.size w w' ∧ ∀ a, A = some a → XD a.block ∨ (w.heap.size ≤ a.block ∧ a.block < w'.heap.size) := by
  obtain ⟨A, c, A2, c2, xt, k1, kx, k2, k3, k4⟩ := h
  refine (files_y w r st.room A c st.last A2 c2 st.pend st.ops k1 (by have := hs.sum; omega) (by have := hs.len; omega)).mono ?_
  rintro e w' ⟨A', c', rfl, hf, hb, hat⟩
  refine ⟨A', c', rfl, hf, hb, fun a ha => ?_⟩
  rcases hat with e | e
  · rw [e] at ha; exact .inl (k2 a ha).1
  · exact .inr (e a ha)
set_option maxHeartbeats 4000000 in
set_option maxRecDepth 100000 in
theorem disks_l (X : Nat → Prop) (w0 w : World) (s p t r : Nat) (st : dk.St) (tx tx2 : Nm) (h : BS X w0 w s p t r st tx st tx2) (hs : Small st) (hsr : al.Srt st.last) (hnm9 : ∀ x ∈ st.shown, x.1.length ≤ 40) :
    Calls Tryz.prog 26 #[ptr p, ptr r] w fun e w' => e = .returned (.bool true) ∧ ∃ Y, BS Y w0 w' s p t r st tx st tx2 := by
  have H := Lib.hid h
  have HS := Lib.hid hs
  have hlen := fold_len st.last st.pend
  have hsum := hs.len
  obtain ⟨N, hN⟩ : ∃ N, st.shown.length = N := ⟨_, rfl⟩
  have hN9 : N ≤ 536870912 := by rw [← hN]; unfold dk.St.shown; omega
  have hnm : Calls Tryz.prog 13 #[ptr p] w fun e w' => ∃ A c, e = .returned (.slice A N c) ∧ w'.ownsRow w.heap.size 9 1 (.slice A N c) N ((st.shown.map (·.1)).map encStr) ∧ Below w.heap.size w w' := by
    obtain ⟨F, hF⟩ := h.1.1.ex
    refine (names_d w p F st hF (by omega)).mono ?_
    rintro e w' ⟨v, rfl, ho, hb⟩
    rw [hN] at ho
    obtain ⟨A, c, rfl⟩ := own_sl ho
    exact ⟨A, c, rfl, ho, hb⟩
  have HNM := Lib.hid hnm
  have HN := Lib.hid hN
  have HSR := Lib.hid (show al.Srt st.shown from fold_srt hsr _)
  have HNM9 := Lib.hid hnm9
  clear hnm9
  clear h hs hlen hsum hN hnm hsr
  go_enter Tryz.func26, Tryz.ntmps26
  go_wp2_with (fail)
  refine HNM.out.mono ?_
  rintro e w1 ⟨A1, C1, rfl, ho1, hb1⟩
  have hfl : Calls Tryz.prog 54 #[ptr r] w1 fun e w' => ∃ A c, e = .returned (.slice A N c) ∧ Fr w' A c st.shown ∧ Below w1.heap.size w1 w' ∧ ∀ a, A = some a → X a.block ∨ (w1.heap.size ≤ a.block ∧ a.block < w'.heap.size) := by
    obtain ⟨XD, XV, v, k1, k2, k3, k4, k5, _⟩ := H.out.2.1
    have := RM.files (k3.below hb1) HS.out
    rw [HN.out] at this
    refine this.mono ?_
    rintro e w' ⟨A, c, rfl, hf, hb, ha⟩
    exact ⟨A, c, rfl, hf, hb, fun a e => (ha a e).imp (fun e => (k5 _ e).1) id⟩
  have HFL := Lib.hid hfl
  have HO1 := Lib.hid (And.intro ho1 hb1)
  clear ho1 hb1 hfl HNM
  go_wp2_with (fail)
  refine HFL.out.mono ?_
  rintro e w2 ⟨A3, C3, rfl, hf3, hb2, ha3⟩
  have hb02 : Below w.heap.size w w2 := HO1.out.2.trans (hb2.mono HO1.out.2.size)
  have hbs2 := H.out.mark hb02
  have ho2 := own_keep HO1.out.1 hb2 (Nat.le_refl _)
  -- the lists read
  have HL1 := Lib.hid (show ∀ (wz : World), Chg (fun k => ¬ Ext X w w2 k) w2 wz → ∀ (i : Nat) (x : Nm × Nm), st.shown[i]? = some x → (∃ b, A1 = some ⟨b, 0, none⟩ ∧ wz.cell? ⟨b, i, none⟩ = some (.string (bs x.1)) ∧ b < wz.heap.size) ∧ (∃ b off, A3 = some ⟨b, off, none⟩ ∧ wz.cell? ⟨b, off + i * 2, none⟩ = some (.string (bs x.1)) ∧ wz.cell? ⟨b, off + i * 2 + 1, none⟩ = some (.string (bs x.2)) ∧ b < wz.heap.size) from by
    intro wz hc i x hx
    have hi : i < N := by
      have := HN.out
      rcases Nat.lt_or_ge i st.shown.length with h | h
      · omega
      · rw [List.getElem?_eq_none h] at hx; cases hx
    constructor
    · rcases own_form ho2 with ⟨_, e0⟩ | ⟨g, cap, e1, g1, g2, _, _⟩
      · omega
      · injection e1 with e1 _ _
        obtain ⟨b, off, v, eA, hlt, hv, hcell⟩ := (own_rd ho2).at_ i (by omega)
        rw [e1] at eA
        injection eA with eA
        injection eA with eb eo _
        subst eb eo
        have hv2 : v = .string (bs x.1) := by
          have : ((st.shown.map (·.1)).map encStr)[i]? = some (.string (bs x.1)) := by simp [hx]; rfl
          rw [this] at hv; injection hv with hv; exact hv.symm
        refine ⟨g, e1, ?_, Nat.lt_of_lt_of_le g2 hc.size⟩
        have hbk := hc.block g g2 (fun e => e (.inr ⟨g1, g2⟩))
        rw [hv2, Nat.zero_add] at hcell
        unfold World.cell? at hcell ⊢
        simp only at hcell ⊢
        rw [hbk]
        exact hcell
    · obtain ⟨b, off, eA, hlt, e1, e2⟩ := hf3.at_ hx
      have hbk := hc.block b hlt (fun e => e (by
        rcases ha3 _ eA with h | h
        · exact .inl h
        · exact .inr ⟨by have h8 := HO1.out.2.size; have h9 : w1.heap.size ≤ b := h.1; show w.heap.size ≤ b; omega, hlt⟩))
      refine ⟨b, off, eA, ?_, ?_, Nat.lt_of_lt_of_le hlt hc.size⟩
      · unfold World.cell? at e1 ⊢
        simp only at e1 ⊢
        rw [hbk]; exact e1
      · unfold World.cell? at e2 ⊢
        simp only at e2 ⊢
        rw [hbk]; exact e2)
  -- what the disk of the document says
  obtain ⟨XD, XV, vv, k1, k2, ⟨A4, c4, A5, c5, xt, kr, kx, _⟩, _⟩ := hbs2.2.1
  obtain ⟨q0, q1, q2, q3, q4, q8⟩ := rk_cells kr
  rw [kx.1] at q8
  have lr2 := blk_lt kr.blk
  obtain ⟨M, hM⟩ : ∃ M, st.pend.length = M := ⟨_, rfl⟩
  rw [hM] at q2
  obtain ⟨F, hF⟩ := hbs2.1.1.ex
  have HOP := Lib.hid (fun (u : World) (hu : Below w2.heap.size w2 u) => ops_d u p F st (hF.chg (Chg.of_below hu) (fun _ _ e => e)))
  have HDE := Lib.hid (fun (u : World) (hu : Below w2.heap.size w2 u) => dead_d u p F st (hF.chg (Chg.of_below hu) (fun _ _ e => e)))
  have HPE := Lib.hid (fun (u : World) (hu : Below w2.heap.size w2 u) => pending_d u p F st (hF.chg (Chg.of_below hu) (fun _ _ e => e)))
  rw [hM] at HPE
  have z2 := Wb.at_ q2
  have z3 := Wb.at_ q3
  have z8 := Wb.at_ q8
  have HBS2 := Lib.hid hbs2
  have HB02 := Lib.hid hb02
  obtain ⟨op, hop⟩ : ∃ op, st.ops = op := ⟨_, rfl⟩
  obtain ⟨de, hde⟩ : ∃ de, st.dead = de := ⟨_, rfl⟩
  rw [hop] at HOP z3
  rw [hde] at HDE z8
  have hw2s := hb02.size
  clear k1 k2 kr kx q0 q1 q2 q3 q4 q8 hF hbs2 ho2 hf3 hb2 ha3 hb02 HFL hM hop hde
  have hde2 : (de != de) = false := by cases de <;> rfl
  go_wp2_with (fail)
  refine wp_region_plan [([0, 1, 2, 3, 4, 5, 6, 8, 9, 10, 11], some (7, false)), ([12, 13, 14, 15, 17, 18, 19, 20], some (16, false)), ([21, 22, 23, 24, 26, 27, 28, 29, 30], some (25, false)), ([31, 32], none)] (by kernel_rfl) (by kernel_rfl) ?_
  refine seg_act _ (by dsimp only [pick, ord.at_]) _ (by dsimp only [pick, ord.at_]) ?_
  repeat (go_big_quiet_step (fail))
  refine wpQuiet_nil ?_
  intro K1 g1 g2
  clear g2
  go_wp2_with (fail)
  refine (HOP.out _ (Below.refl _ w2).drew).mono ?_
  rintro e w3 ⟨rfl, rfl⟩
  go_wp2_with (fail)
  refine g1 _ _ (Below.refl _ w2).drew ?_
  clear g1
  refine seg_act _ (by dsimp only [pick, ord.at_]) _ (by dsimp only [pick, ord.at_]) ?_
  repeat (go_big_quiet_step (fail))
  refine wpQuiet_nil ?_
  intro K2 g1 g2
  clear g2
  go_wp2_with (fail)
  refine (HDE.out _ (Below.refl _ w2).drew).mono ?_
  rintro e w3 ⟨rfl, rfl⟩
  go_wp2_with (fail)
  refine g1 _ _ (Below.refl _ w2).drew ?_
  clear g1
  refine seg_act _ (by dsimp only [pick, ord.at_]) _ (by dsimp only [pick, ord.at_]) ?_
  repeat (go_big_quiet_step (fail))
  refine wpQuiet_nil ?_
  intro K3 g1 g2
  clear g2
  go_wp2_with (fail)
  refine (HPE.out _ (Below.refl _ w2).drew).mono ?_
  rintro e w3 ⟨rfl, rfl⟩
  go_wp2_with (fail)
  refine g1 _ _ (Below.refl _ w2).drew ?_
  clear g1 z2 z3 z8 hde2 HOP HDE HPE
  refine seg_end _ (by dsimp only [pick, ord.at_]) ?_
  repeat (go_big_quiet_step (fail))
  refine wpQuiet_nil (NoPanic.normal ?_)
  have HB3 := Lib.hid (show BS (Ext X w w2) w0 w2.drew s p t r st tx st tx2 ∧ Chg (fun k => ¬ Ext X w w2 k) w2 w2.drew from ⟨HBS2.out.quiet (Below.refl _ _).drew, (Chg.refl _ _).drew⟩)
  go_wp2_with (fail)
  go_loopg [4, 7, 8, 9] N (fun gg s4 s7 s8 s9 wr => ∃ i : Nat, s7 = .int .i64 i ∧ s4 = .bool false ∧ i ≤ N ∧ N - i ≤ gg ∧ Aside (BS (Ext X w w2) w0 wr s p t r st tx st tx2 ∧ Chg (fun k => ¬ Ext X w w2 k) w2 wr))
  case atStart => exact ⟨0, rfl, rfl, Nat.zero_le _, by omega, HB3.out⟩
  case round =>
    obtain ⟨i, rfl, rfl, hi, hg, HR⟩ := hrel
    obtain ⟨wv, rfl⟩ : ∃ wv, wv = wr := ⟨wr, rfl⟩
    have HR := Lib.hid HR
    by_cases hlt : i < N
    · have i1 : (i : Int) < (N : Int) := by omega
      have i0 : (0 : Int) ≤ (i : Int) := by omega
      obtain ⟨x, hx⟩ : ∃ x, st.shown[i]? = some x := ⟨_, List.getElem?_eq_getElem (by have := HN.out; omega)⟩
      obtain ⟨⟨b1, eA1, e1, l1⟩, ⟨b3, o3, eA3, e3, e4, l3⟩⟩ := HL1.out wv HR.out.2 i x hx
      have hrd := HR.out.1.1.on (st' := st) (f := 32) (args := #[ptr p, .string (bs x.1)]) (r := ans (some x.2)) (fun F hF => by
        have hxl : x.1.length ≤ maxLen := by have := HNM9.out x (List.mem_of_getElem? hx); unfold maxLen; omega
        have := read_d wv p F st x.1 hF hxl
        rw [al.get_mem HSR.out (q := x.1) (x := x.2) (List.mem_of_getElem? hx)] at this
        exact this)
      rw [ans_some] at hrd
      have HRD := Lib.hid hrd
      have HX := Lib.hid hx
      obtain ⟨s1, hs1⟩ : ∃ s1, bs x.1 = s1 := ⟨_, rfl⟩
      obtain ⟨s2, hs2⟩ : ∃ s2, bs x.2 = s2 := ⟨_, rfl⟩
      rw [hs1] at e1 HRD
      rw [hs2] at HRD
      subst eA1 eA3
      clear hx hrd e3 e4 l3
      go_wp2_with (fail)
      refine HRD.out.mono ?_
      rintro e w4 ⟨rfl, hk4, hc4⟩
      have hr4 : BS (Ext X w w2) w0 w4 s p t r st tx st tx2 ∧ Chg (fun k => ¬ Ext X w w2 k) w2 w4 := ⟨HR.out.1.prog (v := .int .i64 0) (e := .returned (.int .i64 0)) ⟨rfl, hk4, hc4⟩, HR.out.2.trans hc4 (fun _ _ e => e)⟩
      obtain ⟨⟨b1', eA1, e1', l1'⟩, ⟨b3', o3', eA3, e3', e4', l3'⟩⟩ := HL1.out w4 hr4.2 i x HX.out
      injection eA1 with eA1
      injection eA1 with eA1
      injection eA3 with eA3
      injection eA3 with eA3 eo3
      subst eA1 eA3 eo3
      have R4 := Lib.hid hr4
      rw [hs1] at e1' e3'
      rw [hs2] at e4'
      have y1 := Wb.at_ e1'
      have y3 := Wb.at_ e3'
      have y4 := Wb.at_ e4'
      have hq1 : (s1.toList == s1.toList) = true := beq_self_eq_true _
      have hq2 : (s2.toList == s2.toList) = true := beq_self_eq_true _
      clear hk4 hc4 hr4 e1 HRD hs1 hs2
      go_wp2_with (fail)
      refine wp_region_plan [([0, 1, 2, 3, 4, 5, 6, 7, 8, 9, 10, 11, 12, 13, 14, 15, 16, 17, 18], none)] (by kernel_rfl) (by kernel_rfl) ?_
      refine seg_end _ (by dsimp only [pick, ord.at_]) ?_
      repeat (go_big_quiet_step (fail))
      refine wpQuiet_nil (NoPanic.normal ?_)
      have R5 := Lib.hid (show BS (Ext X w w2) w0 w4.drew s p t r st tx st tx2 ∧ Chg (fun k => ¬ Ext X w w2 k) w2 w4.drew from ⟨R4.out.1.quiet (Below.refl _ _).drew, R4.out.2.trans (Chg.refl _ _).drew (fun _ _ e => e)⟩)
      clear y1 y3 y4 e1' e3' e4'
      go_wp2_with (fail)
      go_roundg (N - (i + 1))
      case measure => omega
      case rel => exact ⟨i + 1, by go_num, rfl, by omega, by omega, R5.out⟩
    · obtain rfl : i = N := by omega
      have i1 : ¬ (i : Int) < (i : Int) := by omega
      go_wp2_with (fail)
      go_ret
      exact ⟨rfl, _, HR.out.1⟩
end Go.Proofs.YtnjdondkggkfoaaGreat.ks
