/-
  Sets of times as lists of ranges: the document's own answer.
-/
import Derived.Test.YtemmfcinpkfoiaaRgCode
import Derived.Test.YtemmfcinpkfoiaaRow
import Derived.Laws.AppendOwnNone
namespace Go.Proofs.Ytemmfcinpkfoiaa.rg
open Go.ChangeShapes Go.WideShapes Go.ChangeAt Go.RowKit plain words ord mem

theorem rd_new {w : World} (t : TypeId) (l : List Value) {m : Nat} (hm : l.length = m) : Rd (w.alloc (.cells l.toArray t)) (w.heap.size + 1) (some ⟨w.heap.size, 0, none⟩) m l :=
  ⟨hm, fun j hj => ⟨w.heap.size, 0, l[j]'(by omega), rfl, by omega, List.getElem?_eq_getElem _, by rw [Nat.zero_add, World.cell?_alloc_new w l.toArray t j]; simp⟩⟩
theorem rgs_new {w : World} (t : TypeId) (r : R) : Rgs (w.alloc (.cells #[.int .i64 r.1, .int .i64 r.2] t)) (w.heap.size + 1) (some ⟨w.heap.size, 0, none⟩) 1 [r] :=
  ⟨rfl, by rw [cs_one]; exact rd_new t [.int .i64 r.1, .int .i64 r.2] rfl⟩
theorem Own.form {w : World} {B n : Nat} {v : Value} {l : List R} (h : Own w B v n l) : ∃ A c, v = .slice A n c ∧ (A = none → c = 0) ∧ n ≤ c ∧ c ≤ 9223372036854775807 := by
  rcases own_form h.2 with ⟨rfl, rfl⟩ | ⟨g, cap, rfl, _, _, h1, h2⟩
  · exact ⟨none, 0, rfl, fun _ => rfl, Nat.le_refl _, by omega⟩
  · unfold maxLen at h2; exact ⟨_, cap, rfl, fun e => (by cases e), h1, h2⟩
theorem Own.nil (w : World) (B : Nat) : Own w B (.slice none 0 0) 0 [] := ⟨rfl, rfl, .inl ⟨rfl, rfl⟩⟩
theorem Own.lit (w : World) : Own (w.alloc (.cells #[] 34)) w.heap.size (.slice (some ⟨w.heap.size, 0, none⟩) 0 0) 0 [] :=
  ⟨rfl, World.ownsRow_lit (w := w) (base := w.heap.size) (e := 34) (size := 2) #[] 0 (Nat.le_refl _) (by simp) rfl⟩
theorem Own.chg {w w' : World} {B n : Nat} {v : Value} {l : List R} {S : Nat → Prop} (h : Own w B v n l) (hc : Chg S w w') (hS : ∀ g, S g → g < B) : Own w' B v n l :=
  ⟨h.1, own_chg h.2 hc fun g hg e => by have := (h.2.lt g hg).1; have := hS g e; omega⟩
/-- 'append(v, x...)' of ranges in a walk *-/
theorem wpList_append_rg {w : World} {ops : Array Oper} {rest : List Oper} {o : Oper} {a : Act} {Q : Exit → Act → World → Prop} (hgd : o.guard = none) (s x : Operand)
    (ho : o.op = .call { callee := .builtin .append, args := #[s, x], argTypes := #[44, 44] })
    (base : Nat) (v : Value) (n : Nat) (l : List R) (hs : a.eval s = v) (hown : Own w base v n l)
    (B : Nat) (A : Option Addr) (m c : Nat) (hA : A = none → c = 0) (news : List R) (hx : a.eval x = .slice A m c) (hr : Rgs w B A m news)
    (hn : n + m ≤ 1099511627776) (hbase : base ≤ w.heap.size) (w0 : World) (hb : Below base w0 w)
    (h : ∀ A' c' w', Own w' base (.slice A' (n + m) c') (n + m) (l ++ news) → Below base w0 w' → (A' = none → c' = 0) → n + m ≤ c' → c' ≤ 9223372036854775807 → w.heap.size ≤ w'.heap.size → wpList Try.prog ops Q rest (a.put o.dst (.slice A' (n + m) c')) w') : wpList Try.prog ops Q (o :: rest) a w := by
  obtain ⟨i0, hi, hz0, hz1, hz2⟩ := info_parts infoR
  refine wpList_append_rd hgd s x 44 ho base 34 i0 _ 2 16 Try.underlying44 hi hz0 hz1 hz2 rfl (by decide) v n (cs rgE l) hs hown.2 B A m c hA (cs rgE news) hx hr.2 (cs_oneCell rgE_one _) (by unfold maxLen; omega) (by omega) hbase ?_
  intro v' w' hown' hg hnn
  have ho' : Own w' base v' (n + m) (l ++ news) := ⟨by rw [List.length_append, hown.1, hr.1], by rw [cs_append]; exact hown'⟩
  obtain ⟨A', c', rfl, h1, h2, h3⟩ := ho'.form
  exact h A' c' w' ho' (own_below hb hown.2 hbase hg) h1 h2 h3 hg.size

theorem Rgs.rest {w : World} {B b off n : Nat} {l : List R} (h : Rgs w B (some ⟨b, off, none⟩) n l) (k : Nat) (hk : k ≤ n) (c : Nat) (hc : n ≤ c) :
    Rgs w B (if c = k then some ⟨b, off, none⟩ else some ⟨b, off + k * 2, none⟩) (n - k) (l.drop k) := by
  refine ⟨by rw [List.length_drop, h.1], ?_⟩
  by_cases e : c = k
  · rw [if_pos e]
    have hn : n - k = 0 := by omega
    rw [hn, List.drop_of_length_le (by have := h.1; omega)]
    exact Rd.nil _ _ _
  · rw [if_neg e, ← cs_drop rgE_len, Nat.sub_mul]
    exact rd_dropped h.2 (Nat.mul_le_mul_right _ hk)
theorem Rgs.none0 (w : World) (B : Nat) : Rgs w B none 0 [] := ⟨rfl, Rd.nil _ _ _⟩
theorem getRg {l : List R} {i : Nat} (hi : i < l.length) : l.drop i = l[i] :: l.drop (i + 1) := (List.drop_eq_getElem_cons hi)
theorem addF_step {l : List R} {r x : R} {i : Nat} (hi : i < l.length) (hx : l[i] = x) (h : x.2 < r.1) : l.take (i + 1) ++ addF (l.drop (i + 1)) r = l.take i ++ addF (l.drop i) r := by
  subst hx
  rw [getRg hi, addF, if_pos h, List.take_succ_eq_append_getElem hi, List.append_assoc]; rfl
theorem addF_stop {l : List R} {r x : R} {i : Nat} (hi : i < l.length) (hx : l[i] = x) (h : ¬ x.2 < r.1) : addF (l.drop i) r = eat (l.drop i) r := by
  subst hx
  rw [getRg hi, addF, if_neg h]
theorem addF_end {l : List R} {r : R} {i : Nat} (hi : l.length ≤ i) : addF (l.drop i) r = eat (l.drop i) r := by
  rw [List.drop_of_length_le hi]; rfl
theorem eat_step {l : List R} {r x : R} {i : Nat} (hi : i < l.length) (hx : l[i] = x) (h : x.1 ≤ r.2) : eat (l.drop i) r = eat (l.drop (i + 1)) (min r.1 x.1, max r.2 x.2) := by
  subst hx
  rw [getRg hi, eat, if_pos h]
theorem eat_stop {l : List R} {r x : R} {i : Nat} (hi : i < l.length) (hx : l[i] = x) (h : ¬ x.1 ≤ r.2) : eat (l.drop i) r = r :: l.drop i := by
  subst hx
  rw [getRg hi, eat, if_neg h]
theorem eat_end {l : List R} {r : R} {i : Nat} (hi : l.length ≤ i) : eat (l.drop i) r = r :: l.drop i := by
  rw [List.drop_of_length_le hi]; rfl
theorem below_da (w : World) (o : Obj) : Below w.heap.size w (w.drew.alloc o) := ((Below.refl _ _).drew).alloc (Nat.le_refl _) o
theorem below_a (w : World) (o : Obj) : Below w.heap.size w (w.alloc o) := (Below.refl _ _).alloc (Nat.le_refl _) o
set_option maxHeartbeats 2000000 in
set_option maxRecDepth 100000 in
theorem addF_x (w : World) (B n c : Nat) (A : Option Addr) (l : List R) (h : Rgs w B A n l) (hB : B ≤ w.heap.size) (hA : (A = none → c = 0) ∧ ∀ ad, A = some ad → ∃ g off, ad = (⟨g, off, none⟩ : Addr)) (hc1 : n ≤ c) (hc2 : c ≤ 9223372036854775807) (hn : n < 1099511627776) (r : R) (hr : r.1 < r.2) :
    Calls Try.prog 52 #[.slice A n c, .agg #[.int .i64 r.1, .int .i64 r.2]] w fun e w' => ∃ v', e = .returned v' ∧ Own w' w.heap.size v' (addF l r).length (addF l r) ∧ Below w.heap.size w w' := by
  have hr' : ¬ r.2 ≤ r.1 := by omega
  obtain ⟨L, hL⟩ : ∃ L, addF l r = L := ⟨_, rfl⟩
  rw [hL]
  obtain ⟨r1, r2⟩ := r
  simp only at hr'
  obtain ⟨wb, hwb⟩ : ∃ wb, w.alloc (.cells #[.int .i64 r1, .int .i64 r2] 34) = wb := ⟨_, rfl⟩
  have hsb : wb.heap.size = w.heap.size + 1 := by rw [← hwb]; simp
  have hbb : Below w.heap.size w wb := by rw [← hwb]; exact (Below.refl _ _).alloc (Nat.le_refl _) _
  have hbx : wb.heap[w.heap.size]? = some (.cells #[.int .i64 r1, .int .i64 r2] 34 (0, 0)) := by rw [← hwb]; exact alloc_new _ _
  have b0 : wb.cell? ⟨w.heap.size, 0, none⟩ = some (.int .i64 r1) := by rw [cell_of_row _ _ _ _ _ _ hbx]; rfl
  have b1 : wb.cell? ⟨w.heap.size, 1, none⟩ = some (.int .i64 r2) := by rw [cell_of_row _ _ _ _ _ _ hbx]; rfl
  have hlit := Own.lit wb
  have hbl : Below wb.heap.size wb (wb.alloc (.cells #[] 34)) := (Below.refl _ _).alloc (Nat.le_refl _) _
  rw [hsb] at hlit hbl
  have HLIT := Lib.hid hlit
  have HBL := Lib.hid hbl
  have HL := Lib.hid hL
  have HH := Lib.hid (h.below hbb hB)
  have HBX := Lib.hid hbx
  have HBB := Lib.hid hbb
  have HSB := Lib.hid hsb
  clear h hbb hbx hlit hbl hL hr
  go_enter Try.func52, Try.ntmps52
  go_wp2_with fail
  clear b0 b1 hwb
  go_loopg [5, 6] n (fun gg s5 s6 wr => ∃ (i : Nat) (A1 : Option Addr) (c1 : Nat), i ≤ n ∧ n - i ≤ gg ∧ s6 = .int .i64 i ∧ s5 = .slice A1 i c1 ∧ Aside (Own wr (w.heap.size + 1) (.slice A1 i c1) i (l.take i)) ∧ Aside (l.take i ++ addF (l.drop i) (r1, r2) = L) ∧ Aside (Below (w.heap.size + 1) wb wr))
  case atStart => exact ⟨0, _, 0, Nat.zero_le _, by omega, rfl, rfl, HLIT.out, HL.out, HBL.out⟩
  case round =>
    obtain ⟨i, A1, c1, hi, hg, rfl, rfl, OW, EQ, BW⟩ := hrel
    clear HLIT HBL HL
    have hsw : w.heap.size + 1 ≤ wr.heap.size := by have := BW.out.size; omega
    have hbxw := blk_below BW.out HBX.out (by omega)
    have b0 : wr.cell? ⟨w.heap.size, 0, none⟩ = some (.int .i64 r1) := by rw [cell_of_row _ _ _ _ _ _ hbxw]; rfl
    have hlw : w.heap.size < wr.heap.size := by omega
    have HBXW := Lib.hid hbxw
    clear hbxw
    have hl := HH.out.1
    by_cases hlo : ∃ h : i < l.length, l[i].2 < r1
    · obtain ⟨hlt', hlo⟩ := hlo
      have hlt : i < n := by omega
      have hltz : (i : Int) < (n : Int) := by omega
      obtain ⟨b, off, rfl, hb, l1, l2⟩ := (HH.out.below BW.out (by omega)).at_ hlt
      have hbw : b < wr.heap.size := by omega
      obtain ⟨x, hx⟩ : ∃ x, l[i]'(by omega) = x := ⟨_, rfl⟩
      rw [hx] at l1 l2 hlo
      obtain ⟨x1, x2⟩ := x
      have q0 := Wb.at_ b0
      have q1 := Wb.at_ l2
      go_wp2_with (fail)
      refine wp_region_plan [([0, 1, 2, 3, 4, 5, 6, 7, 8, 9, 10, 11, 12, 13], none)] (by kernel_rfl) (by kernel_rfl) ?_
      refine seg_end _ (by dsimp only [pick, at_]) ?_
      repeat (go_big_quiet_step (fail))
      refine wpQuiet_nil (NoPanic.normal ?_)
      go_wp2_with (at_builtin; refine wpList_append_rg rfl (.tmp 28) (.tmp 33) rfl (w.heap.size + 1) _ i (l.take i) rfl (OW.out.below (below_da wr _) (Nat.le_refl _)) (wr.heap.size + 1) _ 1 1 (fun e => by cases e) [(x1, x2)] rfl (rgs_new (w := wr.drew) _ (x1, x2)) (by omega) (by simp; omega) wb (BW.out.trans ((below_da wr _).mono hsw)) ?_; intro A2 c2 w2 hown2 hb2 hA2 hc21 hc22 hs2)
      have HX := Lib.hid hx
      go_roundg (n - (i + 1))
      case measure => omega
      case rel => exact ⟨i + 1, A2, c2, by omega, by omega, by go_num, by go_num, by rw [List.take_succ_eq_append_getElem (by omega), HX.out]; exact hown2, (addF_step (by omega) HX.out hlo).trans EQ.out, hb2⟩
    · have EQ2 : Aside (l.take i ++ eat (l.drop i) (r1, r2) = L) := by
        refine Eq.trans ?_ EQ.out
        by_cases hi' : i < l.length
        · rw [addF_stop hi' rfl (fun e => hlo ⟨hi', e⟩)]
        · rw [addF_end (by omega)]
      clear EQ
      by_cases hlt : i < n
      case' pos =>
        have hltz : (i : Int) < (n : Int) := by omega
        obtain ⟨b, off, rfl, hb, l1, l2⟩ := (HH.out.below BW.out (by omega)).at_ hlt
        have hbw : b < wr.heap.size := by omega
        have hlo' : ¬ (l[i]'(by omega)).2 < r1 := fun e => hlo ⟨by omega, e⟩
        clear l1 hlo
        generalize (l[i]'(by omega)).2 = x2 at l2 hlo'
        have q0 := Wb.at_ b0
        have q1 := Wb.at_ l2
        go_wp2_with (fail)
        refine wp_region_plan [([0, 1, 2, 3, 4, 5, 6, 7, 8, 9, 10, 11, 12, 13], none)] (by kernel_rfl) (by kernel_rfl) ?_
        refine seg_end _ (by dsimp only [pick, at_]) ?_
        repeat (go_big_quiet_step (fail))
        refine wpQuiet_nil (NoPanic.normal ?_)
        go_wp2_with (fail)
        generalize (some (⟨b, off, none⟩ : Addr)) = A at hA HH ⊢
        clear q0 q1 l2 hlo' hltz hb hbw hlt
      case' neg =>
        have hltz : ¬ (i : Int) < (n : Int) := by omega
        have q0 := Wb.at_ b0
        clear hlo
        go_wp2_with (fail)
        refine wp_region_plan [([0, 1, 2, 3, 4, 5, 6, 7, 8, 9, 10, 11, 12, 13], none)] (by kernel_rfl) (by kernel_rfl) ?_
        refine seg_end _ (by dsimp only [pick, at_]) ?_
        repeat (go_big_quiet_step (fail))
        refine wpQuiet_nil (NoPanic.normal ?_)
        go_wp2_with (fail)
        clear q0 hltz hlt
      all_goals
        clear b0
        have HBW := Lib.hid BW.out
        have HI := Lib.hid hi
        obtain ⟨wv, rfl⟩ : ∃ wv, wv = wr := ⟨wr, rfl⟩
        go_loopg [6] n (fun gg s6 w2 => ∃ (k : Nat) (y1 y2 : Int), i ≤ k ∧ k ≤ n ∧ n - k ≤ gg ∧ s6 = .int .i64 k ∧ Aside (w2.heap[w.heap.size]? = some (.cells #[.int .i64 y1, .int .i64 y2] 34 (0, 0))) ∧ Aside (Chg (fun b => b = w.heap.size) wv w2) ∧ Aside (l.take i ++ eat (l.drop k) (y1, y2) = L))
        case atStart => exact ⟨i, r1, r2, Nat.le_refl _, hi, by omega, rfl, HBXW.out, (Chg.refl _ _).drew, EQ2.out⟩
        case round =>
          obtain ⟨k, y1, y2, hik, hk, hg2, rfl, BX, CH, EQ3⟩ := hrel
          clear EQ2
          have hB2 : Below w.heap.size wv wr := CH.out.below (by omega) (fun j e => by omega)
          have HR := Lib.hid ((HH.out.below BW.out (by omega)).below hB2 hB)
          have hs2 : wv.heap.size ≤ wr.heap.size := hB2.size
          have hlw2 : w.heap.size < wr.heap.size := by omega
          have b1 : wr.cell? ⟨w.heap.size, 1, none⟩ = some (.int .i64 y2) := by rw [cell_of_row _ _ _ _ _ _ BX.out]; rfl
          by_cases hgo : ∃ h : k < l.length, l[k].1 ≤ y2
          · obtain ⟨hlt', hlo⟩ := hgo
            have hlt : k < n := by omega
            have hltz : (k : Int) < (n : Int) := by omega
            obtain ⟨b, off, rfl, hb, l1, l2⟩ := HR.out.at_ hlt
            have hbw : b < wr.heap.size := by omega
            have hbH : b ≠ w.heap.size := by omega
            obtain ⟨x, hx⟩ : ∃ x, l[k]'(by omega) = x := ⟨_, rfl⟩
            rw [hx] at l1 l2 hlo
            obtain ⟨x1, x2⟩ := x
            have HX := Lib.hid hx
            clear hx
            have b0 : wr.cell? ⟨w.heap.size, 0, none⟩ = some (.int .i64 y1) := by rw [cell_of_row _ _ _ _ _ _ BX.out]; rfl
            have q0 := Wb.at_ b1
            have q1 := Wb.at_ l1
            go_wp2_with (fail)
            refine wp_region_plan [([0, 1, 2, 3, 4, 5, 6, 7, 8, 9, 10, 11, 12, 13], none)] (by kernel_rfl) (by kernel_rfl) ?_
            refine seg_end _ (by dsimp only [pick, at_]) ?_
            repeat (go_big_quiet_step (fail))
            refine wpQuiet_nil (NoPanic.normal ?_)
            clear q0 q1
            go_wp2_with (fail)
            obtain ⟨w3, hw3⟩ : ∃ w3, wr.drew = w3 := ⟨_, rfl⟩
            have hs3 : w3.heap.size = wr.heap.size := by rw [← hw3]; rfl
            have CH3 : Chg (fun b => b = w.heap.size) wv w3 := by rw [← hw3]; exact CH.out.drew
            have BX3 : w3.heap[w.heap.size]? = some (.cells #[.int .i64 y1, .int .i64 y2] 34 (0, 0)) := by rw [← hw3]; exact BX.out
            have l13 : w3.cell? ⟨b, off + k * 2, none⟩ = some (.int .i64 x1) := by rw [← hw3]; exact l1
            have l23 : w3.cell? ⟨b, off + k * 2 + 1, none⟩ = some (.int .i64 x2) := by rw [← hw3]; exact l2
            have b03 : w3.cell? ⟨w.heap.size, 0, none⟩ = some (.int .i64 y1) := by rw [← hw3]; exact b0
            rw [hw3]
            clear hw3 l1 l2 b0 b1
            have f03 : w3.frozen? ⟨w.heap.size, 0, none⟩ = false := frozen_of_row _ _ _ _ _ BX3
            have f13 : w3.frozen? ⟨w.heap.size, 1, none⟩ = false := frozen_of_row _ _ _ _ _ BX3
            have q0 := Wb.at_ b03
            have q1 := Wb.at_ l13
            refine wp_region_plan [([0, 1, 2, 3, 4, 5, 6, 7, 8], some (9, true)), ([], none)] (by kernel_rfl) (by kernel_rfl) ?_
            refine seg_write _ (by dsimp only [pick, at_]) _ (by dsimp only [pick, at_]) ?_
            repeat (go_big_quiet_step (fail))
            all_goals
              refine wpQuiet_nil ?_
              intro K1 h1
              go_wp2_with (fail)
            all_goals
              refine seg_end _ (by dsimp only [pick, at_]) ?_
              refine wpQuiet_nil (NoPanic.normal ?_)
              go_wp2_with (fail)
            all_goals
              obtain ⟨z1, hz1, w4, hw4⟩ : ∃ z1, z1 = min y1 x1 ∧ ∃ w4, (w3.setCell ⟨w.heap.size, 0, none⟩ (.int .i64 z1)).drew = w4 := ⟨_, rfl, _, rfl⟩
              have BX4 : w4.heap[w.heap.size]? = some (.cells #[.int .i64 z1, .int .i64 y2] 34 (0, 0)) := by rw [← hw4]; exact heap_setCell_same _ _ _ _ _ _ BX3
              have CH4 : Chg (fun b => b = w.heap.size) wv w4 := by rw [← hw4]; exact (CH3.setCell (fun _ => rfl) _).drew
              have hs4 : w4.heap.size = w3.heap.size := by rw [← hw4]; simp [World.setCell]
              have l24 : w4.cell? ⟨b, off + k * 2 + 1, none⟩ = some (.int .i64 x2) := by
                rw [← l23, ← hw4]
                simp only [World.cell?]
                rw [show (w3.setCell ⟨w.heap.size, 0, none⟩ (.int .i64 z1)).drew.heap[b]? = w3.heap[b]? from Below.heap_setCell w3 ⟨w.heap.size, 0, none⟩ _ b hbH]
              have b14 : w4.cell? ⟨w.heap.size, 1, none⟩ = some (.int .i64 y2) := by rw [cell_of_row _ _ _ _ _ _ BX4]; rfl
              have f14 : w4.frozen? ⟨w.heap.size, 1, none⟩ = false := frozen_of_row _ _ _ _ _ BX4
              first
                | (have hm : x1 = z1 := by omega
                   rw [← hm] at hw4)
                | (have hm : y1 = z1 := by omega
                   rw [← hm] at hw4)
              rw [hw4]
              clear hw4 hm b03 f03 f13 l13 l23 BX3 CH3 q0 q1
              have q0 := Wb.at_ b14
              have q1 := Wb.at_ l24
              refine wp_region_plan [([0, 1, 2, 3, 4, 5, 6, 7, 8], some (9, true)), ([], none)] (by kernel_rfl) (by kernel_rfl) ?_
              refine seg_write _ (by dsimp only [pick, at_]) _ (by dsimp only [pick, at_]) ?_
              repeat (go_big_quiet_step (fail))
            all_goals
              refine wpQuiet_nil ?_
              intro K1 h1
              go_wp2_with (fail)
            all_goals
              refine seg_end _ (by dsimp only [pick, at_]) ?_
              refine wpQuiet_nil (NoPanic.normal ?_)
              go_wp2_with (fail)
            all_goals
              go_roundg (n - (k + 1))
              case measure => omega
              case rel =>
                refine ⟨k + 1, _, _, by omega, by omega, by omega, by go_num, heap_setCell_same _ _ _ _ _ _ BX4, (CH4.setCell (fun _ => rfl) _).drew, ?_⟩
                refine Eq.trans ?_ EQ3.out
                rw [eat_step (by omega) HX.out hlo, hz1]
                congr 3
                simp only
                omega
          · have EQ4 : Aside (l.take i ++ (y1, y2) :: l.drop k = L) := by
              refine Eq.trans ?_ EQ3.out
              by_cases hk' : k < l.length
              · rw [eat_stop hk' rfl (fun e => hgo ⟨hk', e⟩)]
              · rw [eat_end (by omega)]
            clear EQ3
            have OW4 : Aside (Own wr (w.heap.size + 1) (.slice A1 i c1) i (l.take i)) := OW.out.chg CH.out (fun g e => by omega)
            have HB4 : Aside (Below w.heap.size w wr) := (HBB.out.trans (BW.out.mono (by omega))).trans hB2
            have b0 : wr.cell? ⟨w.heap.size, 0, none⟩ = some (.int .i64 y1) := by rw [cell_of_row _ _ _ _ _ _ BX.out]; rfl
            have hlL : i + 1 + (n - k) ≤ 1099511627776 := by omega
            have hApp : ∀ (A' : Option Addr) (c' : Nat) (u : World), Own u (w.heap.size + 1) (.slice A' (i + 1 + (n - k)) c') (i + 1 + (n - k)) (l.take i ++ [(y1, y2)] ++ l.drop k) → Below w.heap.size w u → ∃ v', Value.slice A' (i + 1 + (n - k)) c' = v' ∧ Own u w.heap.size v' L.length L ∧ Below w.heap.size w u := by
              intro A' c' u h1 h2
              have e : l.take i ++ [(y1, y2)] ++ l.drop k = L := by rw [← EQ4.out]; simp
              rw [e] at h1
              have e2 : i + 1 + (n - k) = L.length := h1.1.symm
              rw [e2] at h1 ⊢
              exact ⟨_, rfl, h1.base (by omega), h2⟩
            clear OW CH hB2 BW HBXW HBW HBX HBB BX
            by_cases hlt : k < n
            case' pos =>
              have hltz : (k : Int) < (n : Int) := by omega
              obtain ⟨b, off, rfl, hb, l1, l2⟩ := HR.out.at_ hlt
              have hbw : b < wr.heap.size := by omega
              have hlo' : ¬ (l[k]'(by omega)).1 ≤ y2 := fun e => hgo ⟨by omega, e⟩
              clear l2 hgo
              generalize (l[k]'(by omega)).1 = x1 at l1 hlo'
              have q0 := Wb.at_ b1
              have q1 := Wb.at_ l1
              go_wp2_with (fail)
              refine wp_region_plan [([0, 1, 2, 3, 4, 5, 6, 7, 8, 9, 10, 11, 12, 13], none)] (by kernel_rfl) (by kernel_rfl) ?_
              refine seg_end _ (by dsimp only [pick, at_]) ?_
              repeat (go_big_quiet_step (fail))
              refine wpQuiet_nil (NoPanic.normal ?_)
              clear q0 q1 l1
            case' neg =>
              have hltz : ¬ (k : Int) < (n : Int) := by omega
              have q0 := Wb.at_ b1
              clear hgo
              go_wp2_with (fail)
              refine wp_region_plan [([0, 1, 2, 3, 4, 5, 6, 7, 8, 9, 10, 11, 12, 13], none)] (by kernel_rfl) (by kernel_rfl) ?_
              refine seg_end _ (by dsimp only [pick, at_]) ?_
              repeat (go_big_quiet_step (fail))
              refine wpQuiet_nil (NoPanic.normal ?_)
              clear q0
            case' pos =>
              have HRS : Aside (Rgs wr B (some ⟨b, off + k * 2, none⟩) (n - k) (l.drop k)) := by
                have := HR.out.rest k hk c hc1
                rw [if_neg (by omega)] at this
                exact this
            case' neg =>
              rcases hAA : A with _ | ad
            case' neg.none =>
              subst hAA
              obtain rfl := hA.1 rfl
              obtain rfl : n = 0 := by omega
              obtain rfl : k = 0 := by omega
              have HRS : Aside (Rgs wr B none 0 (l.drop 0)) := HR.out
            case' neg.some =>
              subst hAA
              obtain ⟨b, off, rfl⟩ := hA.2 _ rfl
              have HRS : Aside (Rgs wr B (if c = k then some ⟨b, off, none⟩ else some ⟨b, off + k * 2, none⟩) (n - k) (l.drop k)) := HR.out.rest k hk c hc1
            all_goals
              go_wp2_with (first
                | (at_builtin; refine wpList_append_rg rfl (.tmp 71) (.tmp 73) rfl (w.heap.size + 1) _ i (l.take i) rfl (OW4.out.below (below_da wr _) (Nat.le_refl _)) (wr.heap.size + 1) _ 1 1 (fun e => by cases e) [(y1, y2)] rfl (rgs_new (w := wr.drew) _ (y1, y2)) (by omega) (by simp; omega) wr ((below_da wr _).mono hlw2) ?_; intro A2 c2 w2 hown2 hb2 hA2 hc21 hc22 hs2)
                | (at_builtin; refine wpList_append_rg rfl (.tmp 75) (.tmp 78) rfl (w.heap.size + 1) _ (i + 1) (l.take i ++ [(y1, y2)]) rfl hown2 B _ _ _ (fun e => by first | rfl | cases e | (split at e <;> cases e)) _ rfl (HRS.out.below hb2 (by omega)) (by omega) (by have := hb2.size; omega) wr hb2 ?_; intro A3 c3 w3 hown3 hb3 hA3 hc31 hc32 hs3))
            all_goals
              go_ret
              obtain ⟨v', rfl, h1, h2⟩ := hApp A3 c3 w3 hown3 (HB4.out.trans (hb3.mono (by omega)))
              exact ⟨_, rfl, h1, h2⟩
end Go.Proofs.Ytemmfcinpkfoiaa.rg
