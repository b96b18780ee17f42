/-
  The document's one: mathematics, and its variables.
-/
import Derived.Test.YtmegkemileailaaClD
namespace Go.Proofs.Ytmegkemileailaa.cl
open Go.ChangeShapes Go.WideShapes Go.ChangeAt Go.RowKit plain words ord mem uvs uvc

theorem dec1_parts {b : By} {r : Rec} {m : Nat} (h : dec1 b = some (r, m)) : (ru b 0 0).2 ≠ 0 ∧ (ru b 0 0).1 ≤ 64 ∧ (ru b 0 0).2 + 4 + (ru b 0 0).1 ≤ b.length ∧ parse (((b.drop (ru b 0 0).2).drop 4).take (ru b 0 0).1) = some r ∧ m = (ru b 0 0).2 + 4 + (ru b 0 0).1 := by
  unfold dec1 at h
  split at h
  · cases h
  · rename_i hc
    split at h
    · cases h
    · rename_i r' hp
      split at h
      · injection h with h
        injection h with h1 h2
        subst h1
        rw [List.length_drop] at hc
        obtain ⟨g, hn, hb⟩ := parse_back hp
        have hl := (body_len g).2
        rw [← hb, List.length_take, List.length_drop, List.length_drop] at hl
        refine ⟨by omega, by omega, by omega, hp, h2.symm⟩
      · cases h
theorem one_no1 {b : By} {v n : Nat} (hv : (ru b 0 0).1 = v) (hn : (ru b 0 0).2 = n) (h : n = 0 ∨ 64 < v ∨ b.length < n + 4 + v) : dec1 b = none := by
  cases hd : dec1 b with
  | none => rfl
  | some p =>
    obtain ⟨r, m⟩ := p
    obtain ⟨h1, h2, h3, _, _⟩ := dec1_parts hd
    rw [hv, hn] at *
    omega
theorem one_no2 {b : By} {v n : Nat} (hv : (ru b 0 0).1 = v) (hn : (ru b 0 0).2 = n) (h : parse (((b.drop n).drop 4).take v) = none) : dec1 b = none := by
  cases hd : dec1 b with
  | none => rfl
  | some p =>
    obtain ⟨r, m⟩ := p
    obtain ⟨_, _, _, h4, _⟩ := dec1_parts hd
    rw [hv, hn, h] at h4
    cases h4
theorem one_yes {b : By} {v n : Nat} {r : Rec} (hv : (ru b 0 0).1 = v) (hn : (ru b 0 0).2 = n) (h : parse (((b.drop n).drop 4).take v) = some r) (hl : n + 4 + v ≤ b.length) : dec1 b = if enc r = b.take (n + 4 + v) then some (r, n + 4 + v) else none := by
  obtain ⟨g, hnum, _⟩ := parse_back h
  split
  · rename_i he
    have h1 := dec1_enc g hnum (b.drop (n + 4 + v))
    rw [he, List.take_append_drop] at h1
    rw [h1, List.length_take, Nat.min_eq_left hl]
  · rename_i he
    cases hd : dec1 b with
    | none => rfl
    | some p =>
      obtain ⟨r2, m⟩ := p
      obtain ⟨_, _, _, h4, h5⟩ := dec1_parts hd
      obtain ⟨_, _, h6, h7, h8⟩ := dec1_back hd
      rw [hv, hn] at h4 h5
      rw [h] at h4
      injection h4 with h4
      subst h4
      have e9 : b.take m = enc r := by rw [h6]; exact (congrArg (List.take (enc r).length) h8).trans (by rw [List.take_left])
      exact absurd (by rw [← h5, e9]) he
theorem parse_no1 {x : By} {s k : Nat} (hs : (ru x 0 0).1 = s) (hk : (ru x 0 0).2 = k) (h : k = 0 ∨ 3 < s) : parse x = none := by
  unfold parse num
  rw [hs, hk, if_pos h]
theorem parse_to2 {x : By} {s k : Nat} (hs : (ru x 0 0).1 = s) (hk : (ru x 0 0).2 = k) (h : ¬ (k = 0 ∨ 3 < s)) : parse x = match num 16 (x.drop k) with
    | none => none
    | some (n, b2) => parse2 s n b2 := by
  unfold parse
  have : num 3 x = some (s, x.drop k) := by unfold num; rw [hs, hk, if_neg h]
  rw [this]
  rfl
theorem num_none {m : Nat} {x : By} {s k : Nat} (hs : (ru x 0 0).1 = s) (hk : (ru x 0 0).2 = k) (h : k = 0 ∨ m < s) : num m x = none := by unfold num; rw [hs, hk, if_pos h]
theorem num_some {m : Nat} {x : By} {s k : Nat} (hs : (ru x 0 0).1 = s) (hk : (ru x 0 0).2 = k) (h : ¬ (k = 0 ∨ m < s)) : num m x = some (s, x.drop k) := by unfold num; rw [hs, hk, if_neg h]
theorem tx_eq (a b : By) : ((tx a).toList == (tx b).toList) = decide (a = b) := by
  rw [ByteArray.toList_eq, ByteArray.toList_eq, tx_list, tx_list]
  by_cases h : a = b
  · subst h; simp
  · simp [h]
/-- a record at the beginning, or none *-/
def RetOne (w : World) (bs : By) (e : Ending) (w' : World) : Prop :=
  (match dec1 bs with
    | some (r, n) => e = .returned (.tuple #[.agg (rc r).toArray, .int .i64 n])
    | none => ∃ r, e = .returned (.tuple #[.agg (rc r).toArray, .int .i64 0])) ∧ Below w.heap.size w w'
/-- its variables -/
structure OS (w0 w : World) (r : Rec) : Prop where
  res : RV w w0.heap.size r0
  cur : RV w (w0.heap.size + 1) r
  bel : Below w0.heap.size w0 w
section
variable {w0 w w' : World} {r : Rec}
theorem OS.quiet (h : OS w0 w r) (hb : Below w.heap.size w w') : OS w0 w' r :=
  ⟨blk_below hb h.res (blk_lt h.res), blk_below hb h.cur (blk_lt h.cur), h.bel.trans (hb.mono h.bel.size)⟩
theorem OS.set (h : OS w0 w r) (j : Nat) (v : Value) (r' : Rec) (hr : (rc r).toArray.setIfInBounds j v = (rc r').toArray) : OS w0 (w.setCell ⟨w0.heap.size + 1, j, none⟩ v) r' := by
  have hc : Chg (fun k => k = w0.heap.size + 1) w (w.setCell ⟨w0.heap.size + 1, j, none⟩ v) := chg_set _ _ _ _
  refine ⟨hc.blk h.res (by omega), ?_, h.bel.setCell (p := ⟨w0.heap.size + 1, j, none⟩) (show w0.heap.size ≤ w0.heap.size + 1 by omega) v⟩
  have := heap_setCell_same w (w0.heap.size + 1) j _ _ v h.cur
  show (w.setCell _ v).heap[_]? = some (Obj.cells (rc r').toArray _ (0, 0))
  rw [← hr]
  simpa using this
end
theorem one_no {w w1 : World} {bs : By} {r : Rec} (hd : dec1 bs = none) (hb : Below w.heap.size w w1) : RetOne w bs (.returned (.tuple #[.agg (rc r).toArray, .int .i64 0])) (W5 w1 w.heap.size r) := by
  unfold RetOne
  rw [hd]
  exact ⟨⟨r, rfl⟩, below5 hb (Nat.le_refl _) _⟩
theorem one_is {w w1 : World} {bs : By} {r : Rec} {n : Nat} (hd : dec1 bs = some (r, n)) (hb : Below w.heap.size w w1) : RetOne w bs (.returned (.tuple #[.agg (rc r).toArray, .int .i64 n])) (W5 w1 w.heap.size r) := by
  unfold RetOne
  rw [hd]
  exact ⟨rfl, below5 hb (Nat.le_refl _) _⟩
end Go.Proofs.Ytmegkemileailaa.cl
