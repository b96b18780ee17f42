/-
  Points: slices.CompactFunc by time on a row of the call's own.
-/
import Derived.Test.YtemmfcinpkfoiaaMgSort
namespace Go.Proofs.Ytemmfcinpkfoiaa.mg
open Go.ChangeShapes Go.WideShapes Go.ChangeAt Go.RowKit plain words ord mem rg

/-- the first of each run of one time -/
def cmp' (h : Pt) : List Pt → List Pt
  | [] => [h]
  | b :: l => if b.1 = h.1 then cmp' h l else h :: cmp' b l
def comp : List Pt → List Pt
  | [] => []
  | h :: l => cmp' h l
theorem cmp_snoc_eq (h : Pt) (l : List Pt) (x y : Pt) (hy : (h :: l).getLast? = some y) (e : x.1 = y.1) : cmp' h (l ++ [x]) = cmp' h l := by
  induction l generalizing h with
  | nil =>
    have hy' : h = y := by simpa using hy
    subst hy'
    simp only [List.nil_append, cmp']
    rw [if_pos e]
  | cons b l ih =>
    have hl : (b :: l).getLast? = some y := by rw [← hy, List.getLast?_cons_cons]
    simp only [List.cons_append, cmp']
    by_cases k : b.1 = h.1
    · rw [if_pos k, if_pos k]
      cases l with
      | nil =>
        have hb : b = y := by simpa using hl
        subst hb
        simp only [List.nil_append, cmp']
        rw [if_pos (by omega)]
      | cons c l => exact ih h (by rw [← hl, List.getLast?_cons_cons, List.getLast?_cons_cons])
    · rw [if_neg k, if_neg k, ih b hl]
theorem cmp_snoc_ne (h : Pt) (l : List Pt) (x y : Pt) (hy : (h :: l).getLast? = some y) (e : x.1 ≠ y.1) : cmp' h (l ++ [x]) = cmp' h l ++ [x] := by
  induction l generalizing h with
  | nil =>
    have hy' : h = y := by simpa using hy
    subst hy'
    simp only [List.nil_append, cmp']
    rw [if_neg e]
    rfl
  | cons b l ih =>
    have hl : (b :: l).getLast? = some y := by rw [← hy, List.getLast?_cons_cons]
    simp only [List.cons_append, cmp']
    by_cases k : b.1 = h.1
    · rw [if_pos k, if_pos k]
      cases l with
      | nil =>
        have hb : b = y := by simpa using hl
        subst hb
        simp only [List.nil_append, cmp']
        rw [if_neg (by omega)]
        rfl
      | cons c l => exact ih h (by rw [← hl, List.getLast?_cons_cons, List.getLast?_cons_cons])
    · rw [if_neg k, if_neg k, ih b hl]
      rfl
theorem comp_eq (l : List Pt) (j : Nat) (a b : Pt) (ha : l[j]? = some a) (hb : l[j + 1]? = some b) (e : b.1 = a.1) : comp (l.take (j + 2)) = comp (l.take (j + 1)) := by
  rw [show j + 2 = j + 1 + 1 from rfl, take_succ_of hb]
  have h1 := take_succ_of ha
  cases hl : l.take (j + 1) with
  | nil => rw [hl] at h1; simp at h1
  | cons h t => exact cmp_snoc_eq h t b a (by rw [← hl, h1]; simp) e
theorem comp_ne (l : List Pt) (j : Nat) (a b : Pt) (ha : l[j]? = some a) (hb : l[j + 1]? = some b) (e : b.1 ≠ a.1) : comp (l.take (j + 2)) = comp (l.take (j + 1)) ++ [b] := by
  rw [show j + 2 = j + 1 + 1 from rfl, take_succ_of hb]
  have h1 := take_succ_of ha
  cases hl : l.take (j + 1) with
  | nil => rw [hl] at h1; simp at h1
  | cons h t => exact cmp_snoc_ne h t b a (by rw [← hl, h1]; simp) e
theorem comp_le (h : Pt) (l : List Pt) : (cmp' h l).length ≤ l.length + 1 := by
  induction l generalizing h with
  | nil => simp [cmp']
  | cons b l ih =>
    simp only [cmp']
    split
    · have := ih h; simp; omega
    · have := ih b; simp; omega
theorem comp_views (h : Pt) (l : List Pt) (hs : (h :: l).Pairwise fun a b => lessP b a = false) : Views (h :: l) (cmp' h l) := by
  induction l generalizing h with
  | nil => exact ⟨by simp [cmp'], by simp [cmp'], fun p hp => ⟨h, by simp [cmp'], by simp at hp; rw [hp], by simp at hp; rw [hp]; exact wins_irrefl h⟩⟩
  | cons b l ih =>
    have hhb : lessP b h = false := (List.pairwise_cons.1 hs).1 b (by simp)
    simp only [cmp']
    split
    · rename_i e
      have hs' : (h :: l).Pairwise fun a b => lessP b a = false := by
        rw [List.pairwise_cons] at hs ⊢
        exact ⟨fun x hx => hs.1 x (List.mem_cons_of_mem _ hx), (List.pairwise_cons.1 hs.2).2⟩
      have V := ih h hs'
      have hw : wins b h = false := by
        simp only [lessP, e, Bool.or_eq_false_iff, Bool.and_eq_false_iff] at hhb
        rcases hhb.2 with h2 | h2
        · simp at h2
        · exact h2
      refine ⟨V.rise, fun p hp => ?_, fun p hp => ?_⟩
      · rcases List.mem_cons.1 (V.from_ p hp) with h1 | h1
        · rw [h1]; simp
        · exact List.mem_cons_of_mem _ (List.mem_cons_of_mem _ h1)
      · rcases List.mem_cons.1 hp with rfl | hp
        · exact V.best _ (by simp)
        · rcases List.mem_cons.1 hp with rfl | hp
          · obtain ⟨q, hq, e2, hw2⟩ := V.best h (by simp)
            exact ⟨q, hq, by omega, not_wins_trans _ h q hw hw2⟩
          · exact V.best p (List.mem_cons_of_mem _ hp)
    · rename_i e
      have hs2 := (List.pairwise_cons.1 hs).2
      have V := ih b hs2
      have hlt : h.1 < b.1 := by
        simp only [lessP, Bool.or_eq_false_iff, decide_eq_false_iff_not] at hhb
        omega
      refine ⟨List.pairwise_cons.2 ⟨fun q hq => ?_, V.rise⟩, fun p hp => ?_, fun p hp => ?_⟩
      · rcases List.mem_cons.1 (V.from_ q hq) with rfl | h1
        · exact hlt
        · have := (List.pairwise_cons.1 hs2).1 q h1
          simp only [lessP, Bool.or_eq_false_iff, decide_eq_false_iff_not] at this
          omega
      · rcases List.mem_cons.1 hp with rfl | hp
        · simp
        · exact List.mem_cons_of_mem _ (V.from_ p hp)
      · rcases List.mem_cons.1 hp with rfl | hp
        · exact ⟨p, by simp, rfl, wins_irrefl p⟩
        · obtain ⟨q, hq, e2, hw⟩ := V.best p hp
          exact ⟨q, List.mem_cons_of_mem _ hq, e2, hw⟩
theorem comp_views' (l : List Pt) (hs : l.Pairwise fun a b => lessP b a = false) : Views l (comp l) := by
  cases l with
  | nil => exact ⟨by simp [comp], by simp [comp], by simp⟩
  | cons h l => exact comp_views h l hs
theorem same_x (a b : Pt) (w : World) : Calls Try.prog 60 #[.agg #[.int .i64 a.1, .int .u64 a.2.1, .int .u64 a.2.2], .agg #[.int .i64 b.1, .int .u64 b.2.1, .int .u64 b.2.2]] w fun e w' => e = .returned (.bool (a.1 == b.1)) ∧ Below w.heap.size w w' := by
  go_enter Try.func60, Try.ntmps60
  go_wp2_with fail
  go_ret
  exact ⟨rfl, ((Below.refl _ _).alloc (Nat.le_refl _) _).alloc (by simp) _⟩
theorem ow_setp {w : World} {B g n cap i : Nat} {l : List Pt} (h : Ow PE w B (.slice (some ⟨g, 0, none⟩) n cap) n l) (x : Pt) :
    Ow PE (((w.setCell ⟨g, i * 3, none⟩ (.int .i64 x.1)).setCell ⟨g, i * 3 + 1, none⟩ (.int .u64 x.2.1)).setCell ⟨g, i * 3 + 2, none⟩ (.int .u64 x.2.2)) B (.slice (some ⟨g, 0, none⟩) n cap) n (l.set i x) := by
  refine ⟨by rw [List.length_set]; exact h.1, ?_⟩
  have e : cs PE.enc (l.set i x) = (((cs PE.enc l).set (i * 3) (.int .i64 x.1)).set (i * 3 + 1) (.int .u64 x.2.1)).set (i * 3 + 2) (.int .u64 x.2.2) := by
    clear h
    induction l generalizing i with
    | nil => simp [cs]
    | cons y l ih =>
      cases i with
      | zero => simp [cs, PE, ptE]
      | succ i =>
        rw [List.set_cons_succ, cs_cons, cs_cons, ih, show (i + 1) * 3 = i * 3 + 3 from by omega]
        simp [PE, ptE]
  rw [e]
  exact own_set (own_set (own_set h.2 _) _) _
theorem clear_p (w : World) (B g n i cap : Nat) (l : List Pt) (h : Ow PE w B (.slice (some ⟨g, 0, none⟩) n cap) n l) (hi : i < n) :
    ∃ zs : List Value, ∀ ty, (Builtin.clear_ #[27] ty #[.slice (some ⟨g, i * 3, none⟩) (n - i) (cap - i)]).run Try.prog w = .ok (.tuple #[]) (w.setCells g (i * 3) zs) := by
  obtain ⟨m, hm⟩ : ∃ m, n - i = m + 1 := ⟨n - i - 1, by omega⟩
  refine ⟨(Builtin.zeroCells (Value.agg #[.int .i64 0, .int .u64 0, .int .u64 0]).cells (m + 1)).toList, fun ty => ?_⟩
  obtain ⟨cur, hc⟩ := own_blk h.2
  have hsz : (Builtin.zeroCells (Value.agg #[.int .i64 0, .int .u64 0, .int .u64 0]).cells (m + 1)).toList.length = (n - i) * 3 := by
    simp [Builtin.zeroCells, hm, Value.cells]
  have h23 : w.ownsRow B 24 3 (.slice (some ⟨g, 0, none⟩) n cap) n (cs PE.enc l) := h.2
  have hst := run_storeCells_cells (P := Try.prog) g (i * 3) (Builtin.zeroCells (Value.agg #[.int .i64 0, .int .u64 0, .int .u64 0]).cells (m + 1)).toList 0 w
    (fun j hj => by
      rw [hsz] at hj
      have hlt : i * 3 + 0 + j < n * 3 := by omega
      rw [h23.cellAt _ hlt, List.getElem?_eq_getElem (by rw [h23.1]; exact hlt)]; rfl)
    (fun j _ => frozen_of_row _ _ _ _ _ hc)
    (fun v hv => by
      simp only [Builtin.zeroCells, Array.toList_map, List.mem_map] at hv
      obtain ⟨q, _, rfl⟩ := hv
      have hq : q % 3 = 0 ∨ q % 3 = 1 ∨ q % 3 = 2 := by omega
      simp only [Value.cells, List.size_toArray, List.length_cons, List.length_nil, Nat.zero_add, Nat.reduceAdd]
      rcases hq with e | e | e <;> rw [e] <;> rfl)
  simp only [Nat.add_zero] at hst
  rw [hm]
  have hz := Try.zeroValue24
  simp [Builtin.clear_, run_underlying Try.underlying27, hz, hst]
end Go.Proofs.Ytemmfcinpkfoiaa.mg
