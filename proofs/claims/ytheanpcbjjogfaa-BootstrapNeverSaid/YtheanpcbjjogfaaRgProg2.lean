/-
  Sets of times as lists of ranges: the program's keep, Sub, Has, Covers, Len, Add; the law's same.
-/
import Derived.Test.YtheanpcbjjogfaaRgNorm
namespace Go.Proofs.Ytheanpcbjjogfaa.rg
open Go.ChangeShapes Go.WideShapes Go.ChangeAt Go.RowKit plain words ord mem

/-- 'append(v, x...)' of ranges in a walk: what it leaves elsewhere *-/
theorem wpList_append_rgg {w : World} {ops : Array Oper} {rest : List Oper} {o : Oper} {a : Act} {Q : Exit → Act → World → Prop} (hgd : o.guard = none) (s x : Operand)
    (ho : o.op = .call { callee := .builtin .append, args := #[s, x], argTypes := #[55, 55] })
    (base : Nat) (v : Value) (n : Nat) (l : List R) (hs : a.eval s = v) (hown : Own w base v n l)
    (B : Nat) (A : Option Addr) (m c : Nat) (hA : A = none → c = 0) (news : List R) (hx : a.eval x = .slice A m c) (hr : Rgs w B A m news)
    (hn : n + m ≤ 1099511627776) (hbase : base ≤ w.heap.size)
    (h : ∀ A' c' w', Own w' base (.slice A' (n + m) c') (n + m) (l ++ news) → w.grownBy w' v.ownBlock → wpList Try.prog ops Q rest (a.put o.dst (.slice A' (n + m) c')) w') : wpList Try.prog ops Q (o :: rest) a w := by
  obtain ⟨i0, hi, hz0, hz1, hz2⟩ := info_parts infoR
  refine wpList_append_rd hgd s x 55 ho base 27 i0 _ 2 16 Try.underlying55 hi hz0 hz1 hz2 rfl (by decide) v n (cs rgE l) hs hown.2 B A m c hA (cs rgE news) hx hr.2 (cs_oneCell rgE_one _) (by unfold maxLen; omega) (by omega) hbase ?_
  intro v' w' hown' hg hnn
  have ho' : Own w' base v' (n + m) (l ++ news) := ⟨by rw [List.length_append, hown.1, hr.1], by rw [cs_append]; exact hown'⟩
  obtain ⟨A', c', rfl, h1, h2, h3⟩ := ho'.form
  exact h A' c' w' ho' hg

/-- 'append(v, r)' as the program's keep does it -/
theorem keep_x (w : World) (B n : Nat) (v : Value) (l : List R) (h : Own w B v n l) (hB : B ≤ w.heap.size) (hn : n ≤ 10000000) (r : R) :
    Calls Try.prog 37 #[v, .agg #[.int .i64 r.1, .int .i64 r.2]] w (fun e w' => ∃ v', e = .returned v' ∧ Own w' B v' (l ++ keepR r).length (l ++ keepR r) ∧ Chg (fun b => some b = v.ownBlock) w w') := by
  obtain ⟨wb, hwb⟩ : ∃ wb, w.alloc (.cells #[.int .i64 r.1, .int .i64 r.2] 27) = wb := ⟨_, rfl⟩
  have hbb : Below w.heap.size w wb := by rw [← hwb]; exact (Below.refl _ _).alloc (Nat.le_refl _) _
  have hbx : wb.heap[w.heap.size]? = some (.cells #[.int .i64 r.1, .int .i64 r.2] 27 (0, 0)) := by rw [← hwb]; exact alloc_new _ _
  have b0 : wb.cell? ⟨w.heap.size, 0, none⟩ = some (.int .i64 r.1) := by rw [cell_of_row _ _ _ _ _ _ hbx]; rfl
  have b1 : wb.cell? ⟨w.heap.size, 1, none⟩ = some (.int .i64 r.2) := by rw [cell_of_row _ _ _ _ _ _ hbx]; rfl
  have hsz := hbb.size
  have hbw : w.heap.size < wb.heap.size := blk_lt hbx
  have hl := h.1
  have hem := empty_x r.1 r.2 wb
  obtain ⟨A, c, rfl, hA, hc1, hc2⟩ := h.form
  have HH := Lib.hid h
  have HBB := Lib.hid hbb
  have HBX := Lib.hid hbx
  have HEM := Lib.hid hem
  clear h hbb hbx hem
  by_cases hr : r.2 ≤ r.1
  · have HE := Lib.hid (show emptyR (r.1, r.2) = true by simp [emptyR]; omega)
    have HK := Lib.hid (show keepR r = [] by simp [keepR, hr])
    have hem := HEM.out
    rw [HE.out] at hem
    clear HEM HE
    go_enter Try.func37, Try.ntmps37
    go_wp2_with fail
    refine hem.mono ?_
    rintro e w1 ⟨rfl, hb1⟩
    clear hem
    go_wp2_with fail
    go_ret
    rw [HK.out, List.append_nil, hl]
    exact ⟨_, rfl, (HH.out.below HBB.out (Nat.le_refl _)).below hb1 (Nat.le_refl _), (Chg.of_below (HBB.out.trans (hb1.mono (by omega)))).mono (fun _ _ e => e.elim)⟩
  · have HE := Lib.hid (show emptyR (r.1, r.2) = false by simp [emptyR]; omega)
    have HK := Lib.hid (show keepR r = [r] by simp [keepR, hr])
    have hem := HEM.out
    rw [HE.out] at hem
    clear HEM HE
    go_enter Try.func37, Try.ntmps37
    go_wp2_with fail
    refine hem.mono ?_
    rintro e w1 ⟨rfl, hb1⟩
    have hs1 := hb1.size
    have hbx1 := blk_below hb1 HBX.out hbw
    have c0 : w1.cell? ⟨w.heap.size, 0, none⟩ = some (.int .i64 r.1) := by rw [cell_of_row _ _ _ _ _ _ hbx1]; rfl
    have c1 : w1.cell? ⟨w.heap.size, 1, none⟩ = some (.int .i64 r.2) := by rw [cell_of_row _ _ _ _ _ _ hbx1]; rfl
    have hlw : w.heap.size < w1.heap.size := by omega
    have ho1 := (HH.out.below HBB.out (Nat.le_refl _)).below hb1 (Nat.le_refl _)
    have hb01 : Below w.heap.size w (w1.alloc (.cells #[.int .i64 r.1, .int .i64 r.2] 27)) := (HBB.out.trans (hb1.mono (by omega))).trans ((below_a w1 _).mono (by omega))
    clear hem hbx1
    go_wp2_with (at_builtin; refine wpList_append_rgg rfl (.tmp 8) (.tmp 10) rfl B _ n l rfl (ho1.below (below_a w1 _) (Nat.le_refl _)) (w1.heap.size + 1) _ 1 1 (fun e => by cases e) [r] rfl (rgs_new (w := w1) _ r) (by omega) (by simp; omega) ?_; intro A2 c2 w2 hown2 hb2)
    go_ret
    rw [HK.out]
    have e : (l ++ [r]).length = n + 1 := by simp [hl]
    rw [e]
    exact ⟨_, rfl, hown2, ((Chg.of_below hb01).mono (fun _ _ e => e.elim)).grown hb2 (fun k hk _ => hk.symm)⟩


end Go.Proofs.Ytheanpcbjjogfaa.rg
