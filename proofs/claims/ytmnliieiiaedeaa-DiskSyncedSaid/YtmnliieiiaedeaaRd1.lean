/-
  The document's disk: its lists of files; find, without.
-/
import Derived.Test.YtmnliieiiaedeaaDkB
import Derived.Sort.Walk0
namespace Go.Proofs.Ytmnliieiiaedeaa.dk
open Go.ChangeShapes Go.WideShapes Go.ChangeAt Go.RowKit Go.Maps Go.Sort Go.Shelf plain words ord mem al

theorem less_dec (a b : Nm) : Op.bytesLess (bs a).toList (bs b).toList = decide (a < b) := by
  rw [ByteArray.toList_eq, ByteArray.toList_eq, bs_list, bs_list, bytesLess_eq]
theorem eq_dec (a b : Nm) : ((bs a).toList == (bs b).toList) = decide (a = b) := by
  rw [ByteArray.toList_eq, ByteArray.toList_eq, bs_list, bs_list]
  by_cases h : a = b
  · subst h; simp
  · simp [h]
/-- where a name stands, or would -/
def pos : AL Nm → Nm → Nat
  | [], _ => 0
  | (k, _) :: r, q => if k < q then pos r q + 1 else 0
theorem pos_le (ls : AL Nm) (q : Nm) : pos ls q ≤ ls.length := by
  induction ls with
  | nil => exact Nat.le_refl _
  | cons p r ih =>
    obtain ⟨k, x⟩ := p
    unfold pos
    split <;> simp only [List.length_cons] <;> omega
theorem pos_lt {ls : AL Nm} {q : Nm} {i : Nat} {p : Nm × Nm} (hi : i < pos ls q) (h : ls[i]? = some p) : p.1 < q := by
  induction ls generalizing i with
  | nil => simp at h
  | cons p' r ih =>
    obtain ⟨k, x⟩ := p'
    unfold pos at hi
    split at hi
    · rename_i hk
      cases i with
      | zero => simp at h; subst h; exact hk
      | succ i => exact ih (i := i) (by omega) (by simpa using h)
    · omega
theorem pos_at {ls : AL Nm} {q : Nm} {p : Nm × Nm} (h : ls[pos ls q]? = some p) : ¬ p.1 < q := by
  induction ls with
  | nil => simp at h
  | cons p' r ih =>
    obtain ⟨k, x⟩ := p'
    unfold pos at h
    split at h
    · exact ih (by simpa using h)
    · rename_i hk; simp at h; subst h; exact hk
theorem get_none_of {ls : AL Nm} {q : Nm} (h : ∀ p ∈ ls, q < p.1) : al.get ls q = none := get_none.2 fun p hp e => by
  have := h p hp
  rw [e] at this
  exact nm_irrefl _ this
theorem get_pos {ls : AL Nm} (hs : Srt ls) (q : Nm) : al.get ls q = match ls[pos ls q]? with
    | some p => if p.1 = q then some p.2 else none
    | none => none := by
  induction ls with
  | nil => rfl
  | cons p' r ih =>
    obtain ⟨k, x⟩ := p'
    have hs2 := List.pairwise_cons.1 hs
    by_cases hlt : k < q
    · have h1 : pos ((k, x) :: r) q = pos r q + 1 := by show (if k < q then _ else _) = _; rw [if_pos hlt]
      have h2 : al.get ((k, x) :: r) q = al.get r q := by show (if k = q then _ else _) = _; rw [if_neg (nm_ne hlt)]
      rw [h1, h2, ih hs2.2, List.getElem?_cons_succ]
    · have h1 : pos ((k, x) :: r) q = 0 := by show (if k < q then _ else _) = _; rw [if_neg hlt]
      rw [h1]
      show (if k = q then some x else al.get r q) = if k = q then some x else none
      by_cases h : k = q
      · rw [if_pos h, if_pos h]
      · rw [if_neg h, if_neg h]
        exact get_none_of fun p hp => nm_trans (nm_total h hlt) (hs2.1 p hp)
theorem put_pos {ls : AL Nm} (hs : Srt ls) (q x : Nm) : al.put ls q x = ls.take (pos ls q) ++ (q, x) :: ls.drop (pos ls q + if (al.get ls q).isSome then 1 else 0) := by
  induction ls with
  | nil => rfl
  | cons p' r ih =>
    obtain ⟨k, y⟩ := p'
    have hs2 := List.pairwise_cons.1 hs
    simp only [al.put]
    split
    · rename_i h
      subst h
      have : pos ((k, y) :: r) k = 0 := by unfold pos; rw [if_neg (nm_irrefl _)]
      rw [this]
      simp [al.get]
    · rename_i h
      split
      · rename_i hlt
        have h0 : pos ((k, y) :: r) q = 0 := by unfold pos; rw [if_neg fun e => nm_irrefl _ (nm_trans e hlt)]
        rw [h0, get_none_of (ls := (k, y) :: r) fun p hp => by
          rcases List.mem_cons.1 hp with rfl | hp
          · exact hlt
          · exact nm_trans hlt (hs2.1 p hp)]
        simp
      · rename_i hlt
        have hk : k < q := nm_total (fun e => h e.symm) hlt
        have h1 : pos ((k, y) :: r) q = pos r q + 1 := by show (if k < q then _ else _) = _; rw [if_pos hk]
        have h2 : al.get ((k, y) :: r) q = al.get r q := by show (if k = q then _ else _) = _; rw [if_neg h]
        rw [h1, h2, ih hs2.2, List.take_succ_cons, Nat.add_right_comm, List.drop_succ_cons]
        rfl
theorem del_pos {ls : AL Nm} (hs : Srt ls) {q : Nm} (hg : (al.get ls q).isSome = true) : al.del ls q = ls.take (pos ls q) ++ ls.drop (pos ls q + 1) := by
  induction ls with
  | nil => cases hg
  | cons p' r ih =>
    obtain ⟨k, y⟩ := p'
    have hs2 := List.pairwise_cons.1 hs
    by_cases h : k = q
    · subst h
      have h0 : pos ((k, y) :: r) k = 0 := by unfold pos; rw [if_neg (nm_irrefl _)]
      rw [h0]
      have h2 : al.del r k = r := del_absent (get_none_of hs2.1)
      unfold al.del at h2 ⊢
      simp [h2]
    · have h2 : al.get ((k, y) :: r) q = al.get r q := by show (if k = q then _ else _) = _; rw [if_neg h]
      rw [h2] at hg
      have hk : k < q := by
        cases hgr : al.get r q with
        | none => rw [hgr] at hg; cases hg
        | some z => exact hs2.1 _ (mem_get hgr)
      have h1 : pos ((k, y) :: r) q = pos r q + 1 := by show (if k < q then _ else _) = _; rw [if_pos hk]
      rw [h1, List.take_succ_cons, List.drop_succ_cons, List.cons_append, ← ih hs2.2 hg]
      unfold al.del
      simp [h]
/-! ### their lists as memory -/
def feE (x : Nm × Nm) : List Value := [.string (bs x.1), .string (bs x.2)]
def FE : El (Nm × Nm) where
  enc := feE
  k := 2
  e := 46
  len := fun _ => rfl
  one := fun x v hv => by
    simp [feE] at hv
    rcases hv with rfl | rfl <;> rfl
  pos := by decide
abbrev Fls (w : World) (B : Nat) (A : Option Addr) (n : Nat) (ls : AL Nm) : Prop := Ls FE w B A n ls
theorem fls_at {w : World} {B n i : Nat} {A : Option Addr} {l : AL Nm} {x : Nm × Nm} (h : Fls w B A n l) (hx : l[i]? = some x) :
    ∃ b off, A = some ⟨b, off, none⟩ ∧ b < B ∧ w.cell? ⟨b, off + i * 2, none⟩ = some (.string (bs x.1)) ∧ w.cell? ⟨b, off + i * 2 + 1, none⟩ = some (.string (bs x.2)) := by
  obtain ⟨b, off, rfl, hb, hc⟩ := h.at_ hx
  exact ⟨b, off, rfl, hb, hc 0 (by decide), hc 1 (by decide)⟩
set_option maxHeartbeats 1000000 in
set_option maxRecDepth 100000 in
theorem find_y (w : World) (B n c : Nat) (A : Option Addr) (ls : AL Nm) (a : Nm) (h : Fls w B A n ls) (hB : B ≤ w.heap.size) (hs : Srt ls) (hn : n ≤ 1099511627776) :
    Calls Try.prog 76 #[.slice A n c, .string (bs a)] w fun e w' => e = .returned (.tuple #[.int .i64 (pos ls a : Nat), .bool (al.get ls a).isSome]) ∧ Below w.heap.size w w' := by
  have HH := Lib.hid h
  have hle := pos_le ls a
  rw [h.1] at hle
  have HP := Lib.hid (get_pos hs a)
  obtain ⟨P, hP⟩ : ∃ P, pos ls a = P := ⟨_, rfl⟩
  obtain ⟨G, hG⟩ : ∃ G, (al.get ls a).isSome = G := ⟨_, rfl⟩
  rw [hP] at hle
  rw [hP, hG]
  have KP := Lib.hid hP
  have KG := Lib.hid hG
  clear h hP hG hs
  go_enter Try.func76, Try.ntmps76
  go_wp2_with fail
  go_loopg [6] P (fun gg s6 wr => ∃ (i : Nat), s6 = .int .i64 i ∧ i ≤ P ∧ P - i ≤ gg ∧ Aside (Below w.heap.size w wr))
  case atStart => exact ⟨0, rfl, Nat.zero_le _, by omega, Below.refl _ _⟩
  case round =>
    obtain ⟨i, rfl, hi, hg, BW⟩ := hrel
    obtain ⟨wv, rfl⟩ : ∃ wv, wv = wr := ⟨wr, rfl⟩
    have i0 : (0 : Int) ≤ (i : Int) := by omega
    by_cases hin : i < n
    · have i1 : (i : Int) < (n : Int) := by omega
      obtain ⟨x, hx⟩ := HH.out.get hin
      obtain ⟨b, off, eA, hb, c0, c1⟩ := fls_at (HH.out.below BW.out hB) hx
      subst eA
      obtain ⟨k, y⟩ := x
      simp only at c0 c1
      have hbv : b < wv.heap.size := World.block_lt_of_cell? wv _ c0
      have hld := less_dec k a
      have hed := eq_dec k a
      clear c1
      by_cases hip : i < P
      · have hka : k < a := pos_lt (by rw [KP.out]; exact hip) hx
        have e1 : decide (k < a) = true := by simp [hka]
        rw [e1] at hld
        clear e1 hka hed hx
        go_wp2_with fail
        go_roundg (P - (i + 1))
        case measure => omega
        case rel => exact ⟨i + 1, by go_num, by omega, by omega, BW.out⟩
      · have hiP : i = P := by omega
        subst hiP
        have hka : ¬ k < a := by have := pos_at (ls := ls) (q := a) (p := (k, y)) (by rw [KP.out]; exact hx); exact this
        have e1 : decide (k < a) = false := by simp [hka]
        rw [e1] at hld
        have hGv : G = decide (k = a) := by
          have h9 := HP.out
          rw [KP.out, hx] at h9
          rw [← KG.out, h9]
          simp only
          by_cases hk : k = a
          · simp [hk]
          · simp [hk]
        rw [← hGv] at hed
        have z0 := Wb.at_ c0
        clear e1 hka hGv hx
        go_wp2_with fail
        refine wp_region_plan [([0, 1, 2, 3, 4, 5, 6, 7, 8, 9, 10, 11, 12, 13, 14, 15], none)] (by kernel_rfl) (by kernel_rfl) ?_
        refine seg_end _ (by dsimp only [pick, at_]) ?_
        repeat (go_big_quiet_step (fail))
        refine wpQuiet_nil (NoPanic.normal ?_)
        go_wp2_with fail
        go_ret2
        exact ⟨rfl, BW.out.drew⟩
    · have i1 : ¬ (i : Int) < (n : Int) := by omega
      have i2 : decide ((i : Int) < (n : Int)) = false := by simp; omega
      have hiP : i = P := by omega
      subst hiP
      have hGv : G = false := by
        have h9 := HP.out
        rw [KP.out, List.getElem?_eq_none (by have := HH.out.1; omega)] at h9
        rw [← KG.out, h9]
        rfl
      subst hGv
      go_wp2_with fail
      refine wp_region_plan [([0, 1, 2, 3, 4, 5, 6, 7, 8, 9, 10, 11, 12, 13, 14, 15], none)] (by kernel_rfl) (by kernel_rfl) ?_
      refine seg_end _ (by dsimp only [pick, at_]) ?_
      repeat (go_big_quiet_step (fail))
      refine wpQuiet_nil (NoPanic.normal ?_)
      go_wp2_with fail
      go_ret2
      exact ⟨rfl, BW.out.drew⟩
end Go.Proofs.Ytmnliieiiaedeaa.dk
