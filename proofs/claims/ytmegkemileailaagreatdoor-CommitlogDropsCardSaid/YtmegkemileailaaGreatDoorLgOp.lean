/-
  The program's Open.
-/
import Derived.Test.YtmegkemileailaaGreatDoorLgIt
import Derived.Test.YtmegkemileailaaGreatDoorClD
import Derived.Test.YtmegkemileailaaGreatDoorLstIn
import Derived.Test.YtmegkemileailaaGreatDoorDkB
namespace Go.Proofs.YtmegkemileailaaGreatDoor.lg
open Go.ChangeShapes Go.WideShapes Go.ChangeAt Go.RowKit Go.Shelf Go.Maps Go.Sort plain words ord mem al cl uvs dk
attribute [local go_sem] Oper.semAt_some

theorem bs_string (w : World) (s : ByteArray) (C : Nat) (t : TypeId) (fr : Nat × Nat) : Bs ((w.alloc (.cells (bytesRow s C) t fr)).drew) (w.heap.size + 1) (some ⟨w.heap.size, 0, none⟩) s.size s.data.toList :=
  ⟨by rw [u8s_length]; simp, fun j hj => by
    refine ⟨_, _, .int .u8 (s.data[j].toNat : Int), rfl, by omega, ?_, ?_⟩
    · unfold u8s
      rw [List.getElem?_map, Array.getElem?_toList, Array.getElem?_eq_getElem hj]
      rfl
    · show (w.alloc (.cells (bytesRow s C) t fr)).cell? ⟨w.heap.size, 0 + j, none⟩ = _
      rw [World.cell?_alloc_mark, Nat.zero_add, bytesRow_at s C j hj]⟩
theorem files_c (w : World) (p : Nat) :
    Calls Tryz.prog 32 #[ptr p] w fun e w' => e = .returned (.func (.func 57) #[] #[.pointer (some ⟨w.heap.size, 0, none⟩)]) ∧ w' = w.alloc (.cells #[ptr p] 23) := by
  go_enter Tryz.func32, Tryz.ntmps32
  go_wp2_with (fail)
  go_ret
  exact ⟨rfl, rfl⟩
/-- the number behind the files' -/
def nextN (fs : AL By) : Nat := match (nums fs).getLast? with
  | none => 1
  | some n => n + 1
/-- what files tell -/
def recs (fs : AL By) (l : List Fn) : List Rec := l.flatMap fun x => (dec ((al.get fs (lname x.1)).getD [])).1
theorem recs_all (fs : AL By) : recs fs (ns fs) = told fs := by
  unfold recs told
  rw [← ns_val fs, List.flatMap_map]
def nextL (l : List Fn) : Nat := match l.getLast? with
  | none => 1
  | some x => x.1 + 1
theorem nextL_all (fs : AL By) : nextL (ns fs) = nextN fs := by
  unfold nextL nextN
  rw [← ns_val fs, List.getLast?_map]
  cases (ns fs).getLast? <;> rfl
theorem nextL_snoc (l : List Fn) (x : Fn) : nextL (l ++ [x]) = x.1 + 1 := by unfold nextL; rw [List.getLast?_concat]
theorem recs_snoc (fs : AL By) (l : List Fn) (x : Fn) : recs fs (l ++ [x]) = recs fs l ++ (dec ((al.get fs (lname x.1)).getD [])).1 := by unfold recs; simp
theorem enc_pos (r : Rec) : 0 < (enc r).length := by
  unfold enc
  have := uv_len (body r).length
  simp only [List.length_append]
  omega
theorem encs_len (l : List Rec) : l.length ≤ (encs l).length := by
  induction l with
  | nil => simp
  | cons r l ih =>
    rw [encs_cons, List.length_append, List.length_cons]
    have := enc_pos r
    omega
theorem dec_few (b : By) : (cl.dec b).1.length ≤ b.length := by
  obtain ⟨h1, h2, _, _⟩ := dec_form b.length b (Nat.le_refl _)
  have := encs_len (cl.dec b).1
  rw [← h2, List.length_take] at this
  omega
theorem get_sum {fs : AL By} (q : By) (hs : al.Srt fs) : ((al.get fs q).getD []).length ≤ fsum fs := by
  have := dk.del_sum hs q
  omega
/-- what lies between two rounds of Open: w0 the call's world, S0 its size -/
structure OI (w0 w W : World) (p : Nat) (F : Nat → Prop) (st : St) (pre : List Fn) : Prop where
  dk : Dk W p F st
  bd : W.heap[w.heap.size]? = some (.cells #[ptr p] 23 (0, 0))
  lg : W.heap[w.heap.size + 1]? = some (.cells #[ptr p, .int .i64 (nextL pre : Nat)] 68 (0, 0))
  lv : W.heap[w.heap.size + 1 + 1]? = some (.cells #[.pointer (some ⟨w.heap.size + 1, 0, none⟩)] 25 (0, 0))
  rv : ∃ A c, W.heap[w.heap.size + 1 + 1 + 1]? = some (.cells #[.slice A (recs st.shown pre).length c] 22 (0, 0)) ∧ Ow RE W (w.heap.size + 5) (.slice A (recs st.shown pre).length c) (recs st.shown pre).length (recs st.shown pre)
  few : (recs st.shown pre).length ≤ 4194304 * pre.length
  chg : Chg F w W
  bel : Below w0.heap.size w0 W
  big : w.heap.size + 5 ≤ W.heap.size
theorem OI.own {w0 w : World} {p : Nat} {F : Nat → Prop} {st : St} {B : Nat} (hF : ∀ k, F k → k < w.heap.size) (hB : w.heap.size + 4 < B) (hw : w0.heap.size ≤ w.heap.size) : OwnFrom B (fun pre W => OI w0 w W p F st pre) := by
  intro pre A C row h hg hr
  have hc : Chg (fun k => row = some k) A C := (Chg.refl _ _).grown hg (fun k hk _ => hk)
  obtain ⟨A', c', r1, r2⟩ := h.rv
  have ne : ∀ {k : Nat} {c : Array Value} {t : TypeId} {f : Nat × Nat}, A.heap[k]? = some (.cells c t f) → ¬ row = some k := fun hk e => by
    obtain ⟨_, o, ho, hoc⟩ := hr _ e
    rw [hk] at ho; cases ho; cases hoc
  refine ⟨h.dk.chg hc (fun k hk e => ?_), hc.blk h.bd (ne h.bd), hc.blk h.lg (ne h.lg), hc.blk h.lv (ne h.lv), ⟨A', c', hc.blk r1 (ne r1), r2.chg hc (fun g hg' e => ?_)⟩, h.few, h.chg.grown hg (fun k e hk => ?_), h.bel.grown hg (by have := h.bel.size; omega) (fun k e => ?_), Nat.le_trans h.big hg.size⟩
  · have := (hr k e).1; have := hF k hk; omega
  · obtain ⟨cu, hcu⟩ := r2.type hg'; exact ne hcu e
  · have := (hr k e).1; omega
  · have := (hr k e).1; omega
theorem OI.quiet {w0 w W W' : World} {p : Nat} {F : Nat → Prop} {st : St} {pre : List Fn} (h : OI w0 w W p F st pre) (hF : ∀ k, F k → k < w.heap.size) (hw : w0.heap.size ≤ w.heap.size) (hb : Below W.heap.size W W') : OI w0 w W' p F st pre :=
  OI.own (B := w.heap.size + 5) hF (by omega) hw pre W W' none h (grown_below hb) (fun r e => by cases e)
theorem OI.step {w0 w W W4 : World} {p : Nat} {F : Nat → Prop} {st : St} {pre : List Fn} {x : Fn} {A A4 : Option Addr} {n c n4 c4 : Nat} (h : OI w0 w W p F st pre) (hF : ∀ k, F k → k < w.heap.size) (hw : w0.heap.size ≤ w.heap.size)
    (ho : Ow RE W (w.heap.size + 5) (.slice A n c) n (recs st.shown pre)) (hg : W.grownBy W4 (Value.slice A n c).ownBlock) (ho4 : Ow RE W4 (w.heap.size + 5) (.slice A4 n4 c4) n4 (recs st.shown (pre ++ [x]))) (hfew : n4 ≤ 4194304 * (pre ++ [x]).length) :
    OI w0 w ((W4.setCell ⟨w.heap.size + 1 + 1 + 1, 0, none⟩ (.slice A4 n4 c4)).setCell ⟨w.heap.size + 1, 1, none⟩ (.int .i64 ((x.1 : Int) + 1))) p F st (pre ++ [x]) ∧
    KeepsOthers W ((W4.setCell ⟨w.heap.size + 1 + 1 + 1, 0, none⟩ (.slice A4 n4 c4)).setCell ⟨w.heap.size + 1, 1, none⟩ (.int .i64 ((x.1 : Int) + 1))) ∧
    (∀ (k : Nat) (c : Array Value) (fr : Nat × Nat), W.heap[k]? = some (.cells c 3 fr) → ((W4.setCell ⟨w.heap.size + 1 + 1 + 1, 0, none⟩ (.slice A4 n4 c4)).setCell ⟨w.heap.size + 1, 1, none⟩ (.int .i64 ((x.1 : Int) + 1))).heap[k]? = some (.cells c 3 fr)) := by
  obtain ⟨A', c', r1, r2⟩ := h.rv
  have hc1 : Chg (fun k => (Value.slice A n c).ownBlock = some k) W W4 := (Chg.refl _ _).grown hg (fun k hk _ => hk)
  have hrow : ∀ g, (Value.slice A n c).ownBlock = some g → w.heap.size + 5 ≤ g ∧ ∃ cu, W.heap[g]? = some (.cells cu 36 (0, 0)) := fun g e => ⟨(ho.lt g e).1, ho.type e⟩
  have b1 := hc1.blk h.bd (fun e => by have := (hrow _ e).1; omega)
  have l1 := hc1.blk h.lg (fun e => by have := (hrow _ e).1; omega)
  have v1 := hc1.blk h.lv (fun e => by have := (hrow _ e).1; omega)
  have x1 := hc1.blk r1 (fun e => by have := (hrow _ e).1; omega)
  obtain ⟨W5, hW5⟩ : ∃ W5, (W4.setCell ⟨w.heap.size + 1 + 1 + 1, 0, none⟩ (.slice A4 n4 c4)).setCell ⟨w.heap.size + 1, 1, none⟩ (.int .i64 ((x.1 : Int) + 1)) = W5 := ⟨_, rfl⟩
  have hc2 : Chg (fun k => k = w.heap.size + 1 + 1 + 1 ∨ k = w.heap.size + 1) W4 W5 := by
    rw [← hW5]
    exact ((Chg.refl _ _).setCell (fun _ => .inl rfl) _).setCell (fun _ => .inr rfl) _
  have x2 : W5.heap[w.heap.size + 1 + 1 + 1]? = some (.cells #[.slice A4 n4 c4] 22 (0, 0)) := by
    have h1 := setp_obj (o := 0) (u := .slice A4 n4 c4) x1
    have h2 := ((Chg.refl (fun k => k = w.heap.size + 1) (W4.setCell ⟨w.heap.size + 1 + 1 + 1, 0, none⟩ (.slice A4 n4 c4))).setCell (p := ⟨w.heap.size + 1, 1, none⟩) (fun _ => rfl) (.int .i64 ((x.1 : Int) + 1))).blk h1 (by omega)
    rw [hW5] at h2
    exact h2
  have l2 : W5.heap[w.heap.size + 1]? = some (.cells #[ptr p, .int .i64 (nextL (pre ++ [x]) : Nat)] 68 (0, 0)) := by
    have h1 := ((Chg.refl (fun k => k = w.heap.size + 1 + 1 + 1) W4).setCell (p := ⟨w.heap.size + 1 + 1 + 1, 0, none⟩) (fun _ => rfl) (.slice A4 n4 c4)).blk l1 (by omega)
    have h2 := setp_obj (o := 1) (u := .int .i64 ((x.1 : Int) + 1)) h1
    rw [hW5] at h2
    rw [h2, nextL_snoc]
    simp
  have hs4 := hc1.size
  have hsw := h.chg.size
  refine hW5 ▸ ⟨⟨(h.dk.chg hc1 (fun k hk e => by have := (hrow _ e).1; have := hF k hk; omega)).chg hc2 (fun k hk e => by have := hF k hk; omega), hc2.blk b1 (by omega), l2, hc2.blk v1 (by omega), ?_, ?_, ?_, ?_, Nat.le_trans h.big (Nat.le_trans hc1.size hc2.size)⟩, ?_, ?_⟩
  · obtain rfl := ho4.1
    exact ⟨A4, c4, x2, ho4.chg hc2 (fun g e => by have := (ho4.lt g e).1; omega)⟩
  · obtain rfl := ho4.1
    exact hfew
  · exact (h.chg.grown hg (fun k e hk => by have := (hrow _ e).1; omega)).trans hc2 (fun k hk e => by omega)
  · exact (h.bel.grown hg (by have := h.bel.size; omega) (fun k e => by have := (hrow _ e).1; omega)).trans (hc2.below (by have := h.bel.size; omega) (fun k e => by omega))
  · refine ⟨Nat.le_trans hs4 hc2.size, fun k o hk hoc => hc2.blk (hc1.blk hk (fun e => ?_)) (fun e => ?_)⟩
    · obtain ⟨_, cu, hcu⟩ := hrow _ e
      rw [hk] at hcu; cases hcu; cases hoc
    · rcases e with rfl | rfl
      · rw [r1] at hk; cases hk; cases hoc
      · rw [h.lg] at hk; cases hk; cases hoc
  · intro k cc fr hk
    refine hc2.blk (hc1.blk hk (fun e => ?_)) (fun e => ?_)
    · obtain ⟨_, cu, hcu⟩ := hrow _ e
      exact blk_type hk hcu (by decide) rfl
    · rcases e with rfl | rfl
      · exact blk_type hk r1 (by decide) rfl
      · exact blk_type hk h.lg (by decide) rfl
theorem OI.after {w0 w W W4 : World} {p : Nat} {F : Nat → Prop} {st : St} {pre : List Fn} {A : Option Addr} {n c : Nat} (h : OI w0 w W p F st pre)
    (ho : Ow RE W (w.heap.size + 5) (.slice A n c) n (recs st.shown pre)) (hx : W.heap[w.heap.size + 1 + 1 + 1]? = some (.cells #[.slice A n c] 22 (0, 0))) (hg : W.grownBy W4 (Value.slice A n c).ownBlock) :
    W4.heap[w.heap.size + 1]? = some (.cells #[ptr p, .int .i64 (nextL pre : Nat)] 68 (0, 0)) ∧ W4.heap[w.heap.size + 1 + 1]? = some (.cells #[.pointer (some ⟨w.heap.size + 1, 0, none⟩)] 25 (0, 0)) ∧ W4.heap[w.heap.size + 1 + 1 + 1]? = some (.cells #[.slice A n c] 22 (0, 0)) := by
  have hc1 : Chg (fun k => (Value.slice A n c).ownBlock = some k) W W4 := (Chg.refl _ _).grown hg (fun k hk _ => hk)
  exact ⟨hc1.blk h.lg (fun e => by have := (ho.lt _ e).1; omega), hc1.blk h.lv (fun e => by have := (ho.lt _ e).1; omega), hc1.blk hx (fun e => by have := (ho.lt _ e).1; omega)⟩
set_option maxHeartbeats 4000000 in
set_option maxRecDepth 100000 in
theorem open_x (w0 w : World) (p : Nat) (F : Nat → Prop) (st : St) (hd : Dk w p F st) (hl : LayS w0) (hb0 : Below w0.heap.size w0 w) (hF0 : ∀ k, F k → w0.heap.size ≤ k) (hf : fsum st.shown ≤ 4194304) (hfew : st.shown.length ≤ 65536) :
    Calls Tryz.prog 9 #[ptr p] w fun e w' => ∃ bl A n c, e = .returned (.tuple #[ptr bl, .slice A n c]) ∧ w.heap.size ≤ bl ∧ w'.heap[bl]? = some (.cells #[ptr p, .int .i64 (nextN st.shown : Nat)] 68 (0, 0)) ∧
      Ow RE w' w.heap.size (.slice A n c) n (told st.shown) ∧ Dk w' p F st ∧ Chg F w w' := by
  have hF1 := hd.lt
  have hsrt : al.Srt st.shown := fold_srt hd.srt _
  obtain ⟨S0, hS0⟩ : ∃ S0, w.heap.size = S0 := ⟨_, rfl⟩
  obtain ⟨W0, hW0⟩ : ∃ W0, ((((w.alloc (.cells #[ptr p] 23)).alloc (.cells #[ptr p, .int .i64 1] 68)).alloc (.cells #[.pointer (some ⟨w.heap.size + 1, 0, none⟩)] 25)).alloc (.cells #[.slice none 0 0] 22)).alloc (.cells #[ptr p] 23) = W0 := ⟨_, rfl⟩
  have b1 : Below w.heap.size w W0 := by rw [← hW0]; exact ((((Below.refl _ w).alloc (Nat.le_refl _) _).alloc (by simp) _).alloc (by simp; omega) _).alloc (by simp; omega) _ |>.alloc (by simp; omega) _
  have hsz : W0.heap.size = S0 + 5 := by rw [← hW0, ← hS0]; simp
  have f0 : W0.heap[w.heap.size]? = some (.cells #[ptr p] 23 (0, 0)) := by rw [← hW0]; exact alloc_old _ (alloc_old _ (alloc_old _ (alloc_old _ (alloc_new _ _))))
  have f1 : W0.heap[w.heap.size + 1]? = some (.cells #[ptr p, .int .i64 1] 68 (0, 0)) := by
    rw [← hW0]
    have := alloc_new (w.alloc (.cells #[ptr p] 23)) (.cells #[ptr p, .int .i64 1] 68)
    rw [World.size_alloc] at this
    exact alloc_old _ (alloc_old _ (alloc_old _ this))
  have f2 : W0.heap[w.heap.size + 1 + 1]? = some (.cells #[.pointer (some ⟨w.heap.size + 1, 0, none⟩)] 25 (0, 0)) := by
    rw [← hW0]
    have := alloc_new ((w.alloc (.cells #[ptr p] 23)).alloc (.cells #[ptr p, .int .i64 1] 68)) (.cells #[.pointer (some ⟨w.heap.size + 1, 0, none⟩)] 25)
    rw [World.size_alloc, World.size_alloc] at this
    exact alloc_old _ (alloc_old _ this)
  have f3 : W0.heap[w.heap.size + 1 + 1 + 1]? = some (.cells #[.slice none 0 0] 22 (0, 0)) := by
    rw [← hW0]
    have := alloc_new (((w.alloc (.cells #[ptr p] 23)).alloc (.cells #[ptr p, .int .i64 1] 68)).alloc (.cells #[.pointer (some ⟨w.heap.size + 1, 0, none⟩)] 25)) (.cells #[.slice none 0 0] 22)
    rw [World.size_alloc, World.size_alloc, World.size_alloc] at this
    exact alloc_old _ this
  have f4 : W0.heap[w.heap.size + 1 + 1 + 1 + 1]? = some (.cells #[ptr p] 23 (0, 0)) := by
    rw [← hW0]
    have := alloc_new ((((w.alloc (.cells #[ptr p] 23)).alloc (.cells #[ptr p, .int .i64 1] 68)).alloc (.cells #[.pointer (some ⟨w.heap.size + 1, 0, none⟩)] 25)).alloc (.cells #[.slice none 0 0] 22)) (.cells #[ptr p] 23)
    rw [World.size_alloc, World.size_alloc, World.size_alloc, World.size_alloc] at this
    exact this
  have HB0 := Lib.hid (hb0.trans (b1.mono hb0.size))
  have HI0 := Lib.hid (show OI w0 w W0 p F st [] from ⟨hd.chg (Chg.of_below b1) (fun _ _ e => e), f0, f1, f2, ⟨none, 0, f3, Ow.nil _ _⟩, Nat.zero_le _, (Chg.of_below b1).mono (fun _ _ e => e.elim), hb0.trans (b1.mono hb0.size), by omega⟩)
  have HSQ := Lib.hid (seq_f (3 - 1) p (w.heap.size + 1 + 1 + 1 + 1) F st W0 (hd.chg (Chg.of_below b1) (fun _ _ e => e)) f4 (hl.below (hb0.trans (b1.mono hb0.size))) (by omega))
  have HOWN := Lib.hid (OI.own (w0 := w0) (w := w) (p := p) (F := F) (st := st) (B := W0.heap.size) hF1 (by omega) hb0.size)
  have HL := Lib.hid hl
  have HF0 := Lib.hid hF0
  have HF1 := Lib.hid hF1
  have HSRT := Lib.hid hsrt
  have HSZ := Lib.hid (And.intro hsz hS0)
  have hsw : w0.heap.size ≤ S0 := by rw [← hS0]; exact hb0.size
  have HW := Lib.hid hW0
  rw [hS0] at HSQ
  clear hd hl hF0 hF1 hsrt b1 f0 f1 f2 f3 f4 hb0 hsz hW0 hS0
  refine (callsIn_wide (n := 3)).1 (callsIn_of_wp_marks Tryz.func9 rfl trivial ?_ rfl)
  simp only [Tryz.ntmps9, List.size_toArray, List.length_cons, List.length_nil, Nat.reduceAdd, Nat.reduceSub, Array.replicate_succ, Array.replicate_zero, List.push_toArray, List.append_toArray, List.nil_append, List.cons_append]
  gi_wp2
  refine ⟨trivial, (callsIn_wide.2 (files_c _ _)).mono ?_⟩
  rintro e w' ⟨rfl, rfl⟩
  gi_wp2
  rw [HW.out, HSZ.out.2]
  refine wpIn_rangeFunc_ownF rfl (by omega) (gf := 57) (lb := #[.pointer (some ⟨S0 + 1 + 1 + 1 + 1, 0, none⟩)]) (by rfl) trivial (enters_of Tryz.func57 (by kernel_rfl) rfl)
    HSQ.out Kf.tr Kf.put (Below.refl _ _) (fun _ => rfl)
    (fun pre W => OI w0 w W p F st pre)
    (fun _ _ _ => False)
    HOWN.out
    (fun _ _ _ _ _ h _ _ => h)
    HI0.out
    (fun x => { tmps := #[ptr p, .pointer (some ⟨S0, 0, none⟩), .pointer none, .slice none 0 0, .pointer (some ⟨S0 + 1 + 1, 0, none⟩), .pointer (some ⟨S0 + 1 + 1 + 1, 0, none⟩), .int .i64 (x.1 : Int), .string (tx (lname x.1)), undef, undef, undef, undef, ptr p, .agg #[ptr p, .int .i64 1], .pointer (some ⟨S0 + 1, 0, none⟩), ptr p, .func (.func 57) #[] #[.pointer (some ⟨S0 + 1 + 1 + 1 + 1, 0, none⟩)], .int .i64 (x.1 : Int), .string (tx (lname x.1)), undef, undef, undef, undef, undef, undef, undef, undef, undef, undef, undef, undef, undef, undef, undef, undef, undef, undef, undef, undef, undef, undef], defers := [] }) ?assign ?body ?done ?stop
  case assign =>
    intro l x W K hK
    unfold fnv
    gi_wp2
    exact hK
  case stop =>
    rintro D c pre W _ _ h _
    exact h.elim
  case body =>
    rintro l pre x W hI hlt
    have HI := Lib.hid hI
    have c0 : W.cell? ⟨S0, 0, none⟩ = some (ptr p) := by rw [cell_of_row _ _ _ _ _ _ (show W.heap[S0]? = _ by rw [← HSZ.out.2]; exact hI.bd)]; rfl
    have HRD := Lib.hid (read_dk W p F st (lname x.1) hI.dk (by rw [lname_len]; have := ndig_le (n := x.1) (k := 9) (by have := x.2; omega) (by decide); unfold maxLen; omega))
    rw [ans_eq] at HRD
    obtain ⟨T, hT⟩ : ∃ T, (al.get st.shown (lname x.1)).getD [] = T := ⟨_, rfl⟩
    obtain ⟨ok, hok⟩ : ∃ ok, (al.get st.shown (lname x.1)).isSome = ok := ⟨_, rfl⟩
    rw [hT, hok] at HRD
    have hTl : T.length ≤ 4194304 := by have := get_sum (lname x.1) HSRT.out; rw [hT] at this; omega
    have HT := Lib.hid hT
    have hl0 := blk_lt hI.bd
    rw [HSZ.out.2] at hl0
    clear hI hT hok
    gi_wp2
    refine ⟨trivial, (CallsIn.inRound l (callsIn_wide.2 HRD.out)).mono ?_⟩
    rintro e W1 ⟨rfl, hd1, hr1⟩
    have hk1 : ∀ {k : Nat} {c : Array Value} {t : TypeId} {f : Nat × Nat}, W.heap[k]? = some (.cells c t f) → t ≠ 5 → W1.heap[k]? = some (.cells c t f) := fun hk ht => hr1.keep hk (fun c fr e => by cases e; exact ht rfl)
    obtain ⟨W2, C, hconv, hbs2, hb2, hs2, hcap, hcap'⟩ : ∃ W2 C, (convert 9 28 (.string (bs T))).run Tryz.prog W1 = .ok (.slice (some ⟨W1.heap.size, 0, none⟩) T.length C) W2 ∧ Bs W2 (W1.heap.size + 1) (some ⟨W1.heap.size, 0, none⟩) T.length T ∧ Below W1.heap.size W1 W2 ∧ W2.heap.size = W1.heap.size + 1 ∧ T.length ≤ C ∧ C ≤ maxLen := by
      have h1 := run_bytes_of_string (P := Tryz.prog) W1 9 28 5 (bs T) Tryz.underlying9 Tryz.underlying28 Tryz.underlying5
      rw [bs_size] at h1
      have h2 := bs_string W1 (bs T)
      rw [bs_size, bs_list] at h2
      exact ⟨_, _, h1, h2 _ _ _, ((Below.refl _ W1).drew.alloc (Nat.le_refl _) _), World.size_alloc _ _, grownCap_ge _ _ _ _, grownCap_le_maxLen _ _ _ _ (by unfold maxLen; omega)⟩
    have HI1 := HI.out
    have B1 : OI w0 w W1 p F st pre := by
      obtain ⟨A', c', r1, r2⟩ := HI1.rv
      obtain ⟨S, hS1, hS2⟩ := hr1
      refine ⟨hd1, hk1 HI1.bd (by decide), hk1 HI1.lg (by decide), hk1 HI1.lv (by decide), ⟨A', c', hk1 r1 (by decide), r2.chg hS1 (fun g hg e => ?_)⟩, HI1.few, HI1.chg.trans hS1 (fun k _ e => (hS2 k e).1), HI1.bel.trans (hS1.below HI1.bel.size (fun k e => HF0.out k (hS2 k e).1)), Nat.le_trans HI1.big hS1.size⟩
      obtain ⟨cu, hcu⟩ := r2.type hg
      obtain ⟨_, c, fr, hh⟩ := hS2 g e
      rw [hcu] at hh
      injection hh with hh
      injection hh with _ hh
      exact absurd hh (by decide)
    have KF1 : KeepsOthers W W1 := ⟨hr1.chg.size, fun k o hk ho => hr1.keep hk (fun c fr e => by subst e; cases ho)⟩
    have KI1 : Kf W W1 := ⟨hr1.chg.size, fun k c fr hk => hk1 hk (by decide), fun _ => HL.out.below B1.bel⟩
    have HB1 := Lib.hid B1
    have HK1 := Lib.hid (And.intro KF1 KI1)
    have HDEC := Lib.hid (decode_x W2 (W1.heap.size + 1) T.length C (some ⟨W1.heap.size, 0, none⟩) T hbs2 (fun e => by cases e) (by omega) hcap (by unfold maxLen at hcap'; omega) (by omega))
    obtain ⟨DL, hDL⟩ : ∃ L, (cl.dec T).1 = L := ⟨_, rfl⟩
    obtain ⟨DN, hDN⟩ : ∃ L, (cl.dec T).2 = L := ⟨_, rfl⟩
    obtain ⟨dl, hdl⟩ : ∃ L, DL.length = L := ⟨_, rfl⟩
    have hfew := dec_few T
    unfold RetDec at HDEC
    rw [hDL, hDN, hdl] at HDEC
    rw [hDL, hdl] at hfew
    have HDL := Lib.hid (And.intro hDL hdl)
    have HB2 := Lib.hid hb2
    clear B1 KF1 KI1 HI1 hd1 hr1 hk1 hbs2 hb2 hDL hDN hdl c0
    gi_wp2
    refine ⟨trivial, (CallsIn.inRound l (callsIn_wide.2 HDEC.out)).mono ?_⟩
    rintro e W3 ⟨Ad, cd, rfl, hod, hb3⟩
    have hb13 : Below W1.heap.size W1 W3 := HB2.out.trans (hb3.mono (by omega))
    have I3 := Lib.hid (HB1.out.quiet HF1.out (by rw [HSZ.out.2]; exact hsw) hb13)
    obtain ⟨Ar, cr, r1, r2⟩ := I3.out.rv
    obtain ⟨nr, hnr⟩ : ∃ n, (recs st.shown pre).length = n := ⟨_, rfl⟩
    have hfr := I3.out.few
    rw [hnr] at r1 r2 hfr
    have c3 : W3.cell? ⟨S0 + 1 + 1 + 1, 0, none⟩ = some (.slice Ar nr cr) := by rw [cell_of_row _ _ _ _ _ _ (show W3.heap[S0 + 1 + 1 + 1]? = _ by rw [← HSZ.out.2]; exact r1)]; rfl
    have hl3 := blk_lt r1
    rw [HSZ.out.2] at hl3
    have OR_ := Lib.hid r2
    have RX := Lib.hid r1
    have OD := Lib.hid hod.ls
    obtain ⟨_, _, ee, hnild, _, _⟩ := hod.form
    injection ee with ee1 ee2 ee3
    subst ee1 ee3
    have HB13 := Lib.hid hb13
    obtain ⟨i0, hi, hz0, hz1, hz2⟩ := info_parts infoR
    have hpl : pre.length < 65536 := by
      have : (nums st.shown).length ≤ st.shown.length := by unfold nums; rw [List.length_mergeSort]; exact List.length_filterMap_le _ _
      omega
    have hsb : w.heap.size + 5 ≤ W3.heap.size := I3.out.big
    clear r1 r2 hod hb3 hb13 HDEC ee2 hconv
    gi_wp2_with (gi_at_builtin; refine wpListIn_append_ow RE (P := Tryz.prog) Tryz.underlying22 hi hz0 hz1 hz2 rfl (by decide) rfl (.tmp 31) (.tmp 32) rfl (w.heap.size + 5) _ nr (recs st.shown pre) rfl OR_.out W3.heap.size Ad dl cd hnild DL rfl OD.out (by omega) hsb ?_; intro A4 c4 W4 ho4 hg4 hnil4 hc41 hc42 hs4; obtain ⟨a1, a2, a3⟩ := I3.out.after OR_.out RX.out hg4; rw [HSZ.out.2] at a1 a2 a3; have y1 : W4.cell? ⟨S0 + 1, 1, none⟩ = some (.int .i64 (nextL pre : Nat)) := (by rw [cell_of_row _ _ _ _ _ _ a1]; rfl); have y2 : W4.cell? ⟨S0 + 1 + 1, 0, none⟩ = some (.pointer (some ⟨S0 + 1, 0, none⟩)) := (by rw [cell_of_row _ _ _ _ _ _ a2]; rfl); have y3 : W4.cell? ⟨S0 + 1 + 1 + 1, 0, none⟩ = some (.slice Ar nr cr) := (by rw [cell_of_row _ _ _ _ _ _ a3]; rfl); have z1 := frozen_of_row _ _ 1 _ _ a1; have z3 := frozen_of_row _ _ 0 _ _ a3; have m1 := blk_lt a1; have m2 := blk_lt a2; have m3 := blk_lt a3; have G4 := Lib.hid hg4; have O4 := Lib.hid ho4; clear a1 a2 a3 hg4 ho4)
    have hrw : recs st.shown pre ++ DL = recs st.shown (pre ++ [x]) := by rw [recs_snoc, HT.out, HDL.out.1]
    obtain ⟨s1, s2, s3⟩ := I3.out.step (x := x) HF1.out (by rw [HSZ.out.2]; exact hsw) OR_.out G4.out (hrw ▸ O4.out) (by rw [List.length_append, List.length_singleton]; omega)
    rw [HSZ.out.2] at s1 s2 s3
    have K13 : KeepsOthers W1 W3 := KeepsOthers.of_grownBy (grown_below HB13.out) (fun j o e => by cases e)
    refine ⟨HK1.out.1.trans (K13.trans s2), ⟨(HK1.out.1.trans (K13.trans s2)).size, fun k c fr hk => s3 k c fr ?_, fun _ => HL.out.below s1.bel⟩, s1⟩
    have h1 := HK1.out.2.ints k c fr hk
    exact (HB13.out.block k (blk_lt h1)).trans h1
  case done =>
    rintro D ys W hD rfl hI hK
    obtain ⟨Ar, cr, r1, r2⟩ := hI.rv
    rw [HSZ.out.2] at r1
    have g2 : W.heap[S0 + 1 + 1]? = some (.cells #[.pointer (some ⟨S0 + 1, 0, none⟩)] 25 (0, 0)) := by have := hI.lv; rw [HSZ.out.2] at this; exact this
    have q1 : W.cell? ⟨S0 + 1 + 1, 0, none⟩ = some (.pointer (some ⟨S0 + 1, 0, none⟩)) := by rw [cell_of_row _ _ _ _ _ _ g2]; rfl
    obtain ⟨nr, hnr⟩ : ∃ n, (recs st.shown (ns st.shown)).length = n := ⟨_, rfl⟩
    rw [hnr] at r1 r2
    have q2 : W.cell? ⟨S0 + 1 + 1 + 1, 0, none⟩ = some (.slice Ar nr cr) := by rw [cell_of_row _ _ _ _ _ _ r1]; rfl
    have l1 := blk_lt g2
    have l2 := blk_lt r1
    have HI := Lib.hid hI
    have HK := Lib.hid hK
    have HR := Lib.hid r2
    have HNR := Lib.hid hnr
    have z1 := Wb.at_ q1
    have z2 := Wb.at_ q2
    clear hI hK r1 r2 g2 hnr
    gi_wp2
    refine wpIn_wide.2 ?_
    refine wp_region_plan [([0, 1, 2, 3], none)] (by kernel_rfl) (by kernel_rfl) ?_
    refine seg_end _ (by dsimp only [pick, at_]) ?_
    repeat (go_big_quiet_step (fail))
    refine wpQuiet_nil (NoPanic.normal ?_)
    clear z1 z2 q1 q2
    gi_wp2
    have I2 : OI w0 w (W.drew.putObj D (.deferred none)) p F st (ns st.shown) := HOWN.out.putObj (.deferred none) (HI.out.quiet HF1.out (by rw [HSZ.out.2]; exact hsw) (Below.refl _ W).drew) hD HK.out rfl
    have HI2 := Lib.hid I2
    clear I2
    refine ⟨by simp, .inl ⟨_, _, rfl, run_takeDeferred (show W.drew.heap[D]? = _ from HK.out), ?_⟩⟩
    refine ⟨.tuple #[ptr (S0 + 1), .slice Ar nr cr], ?_, S0 + 1, Ar, nr, cr, rfl, by rw [HSZ.out.2]; omega, ?_, ?_, HI2.out.dk, HI2.out.chg⟩
    · simp [results, Tryz.f9, go_sem]
    · have h1 := HI2.out.lg
      rw [HSZ.out.2, nextL_all] at h1
      exact h1
    · have h1 := (HR.out.below (Below.refl _ W).drew (Nat.le_refl _)).chg (w' := W.drew.putObj D (.deferred none)) (S := fun k => k = D) ⟨rfl, rfl, rfl, by simp, fun k _ hk => World.putObj_heap_other hk⟩ (fun g hg e => by
        obtain ⟨cu, hcu⟩ := HR.out.type hg
        rw [e, HK.out] at hcu; cases hcu)
      rw [recs_all] at h1
      exact h1.base (by omega)
end Go.Proofs.YtmegkemileailaaGreatDoor.lg
