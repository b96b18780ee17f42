/-
  The document's disk: its lists of files; find, without.
-/
import Derived.Test.YtnjdondkggkfoaaGreatDkB
import Derived.Sort.Walk0
import Derived.Laws.Concat
namespace Go.Proofs.YtnjdondkggkfoaaGreat.dk
open Go.ChangeShapes Go.WideShapes Go.ChangeAt Go.RowKit Go.Maps Go.Sort Go.Shelf plain words ord mem al

theorem less_dec (a b : Nm) : Op.bytesLess (bs a).toList (bs b).toList = decide (a < b) := by
  rw [ByteArray.toList_eq, ByteArray.toList_eq, bs_list, bs_list, bytesLess_eq]
theorem eq_dec (a b : Nm) : ((bs a).toList == (bs b).toList) = decide (a = b) := by
  rw [ByteArray.toList_eq, ByteArray.toList_eq, bs_list, bs_list]
  by_cases h : a = b
  · subst h; simp
  · simp [h]
/-- where a name stands, or would -/
def pos : AL Nm → Nm → Nat
  | [], _ => 0
  | (k, _) :: r, q => if k < q then pos r q + 1 else 0
theorem pos_le (ls : AL Nm) (q : Nm) : pos ls q ≤ ls.length := by
  induction ls with
  | nil => exact Nat.le_refl _
  | cons p r ih =>
    obtain ⟨k, x⟩ := p
    unfold pos
    split <;> simp only [List.length_cons] <;> omega
theorem pos_lt {ls : AL Nm} {q : Nm} {i : Nat} {p : Nm × Nm} (hi : i < pos ls q) (h : ls[i]? = some p) : p.1 < q := by
  induction ls generalizing i with
  | nil => simp at h
  | cons p' r ih =>
    obtain ⟨k, x⟩ := p'
    unfold pos at hi
    split at hi
    · rename_i hk
      cases i with
      | zero => simp at h; subst h; exact hk
      | succ i => exact ih (i := i) (by omega) (by simpa using h)
    · omega
theorem pos_at {ls : AL Nm} {q : Nm} {p : Nm × Nm} (h : ls[pos ls q]? = some p) : ¬ p.1 < q := by
  induction ls with
  | nil => simp at h
  | cons p' r ih =>
    obtain ⟨k, x⟩ := p'
    unfold pos at h
    split at h
    · exact ih (by simpa using h)
    · rename_i hk; simp at h; subst h; exact hk
theorem get_none_of {ls : AL Nm} {q : Nm} (h : ∀ p ∈ ls, q < p.1) : al.get ls q = none := get_none.2 fun p hp e => by
  have := h p hp
  rw [e] at this
  exact nm_irrefl _ this
theorem get_pos {ls : AL Nm} (hs : Srt ls) (q : Nm) : al.get ls q = match ls[pos ls q]? with
    | some p => if p.1 = q then some p.2 else none
    | none => none := by
  induction ls with
  | nil => rfl
  | cons p' r ih =>
    obtain ⟨k, x⟩ := p'
    have hs2 := List.pairwise_cons.1 hs
    by_cases hlt : k < q
    · have h1 : pos ((k, x) :: r) q = pos r q + 1 := by show (if k < q then _ else _) = _; rw [if_pos hlt]
      have h2 : al.get ((k, x) :: r) q = al.get r q := by show (if k = q then _ else _) = _; rw [if_neg (nm_ne hlt)]
      rw [h1, h2, ih hs2.2, List.getElem?_cons_succ]
    · have h1 : pos ((k, x) :: r) q = 0 := by show (if k < q then _ else _) = _; rw [if_neg hlt]
      rw [h1]
      show (if k = q then some x else al.get r q) = if k = q then some x else none
      by_cases h : k = q
      · rw [if_pos h, if_pos h]
      · rw [if_neg h, if_neg h]
        exact get_none_of fun p hp => nm_trans (nm_total h hlt) (hs2.1 p hp)
theorem put_pos {ls : AL Nm} (hs : Srt ls) (q x : Nm) : al.put ls q x = ls.take (pos ls q) ++ (q, x) :: ls.drop (pos ls q + if (al.get ls q).isSome then 1 else 0) := by
  induction ls with
  | nil => rfl
  | cons p' r ih =>
    obtain ⟨k, y⟩ := p'
    have hs2 := List.pairwise_cons.1 hs
    simp only [al.put]
    split
    · rename_i h
      subst h
      have : pos ((k, y) :: r) k = 0 := by unfold pos; rw [if_neg (nm_irrefl _)]
      rw [this]
      simp [al.get]
    · rename_i h
      split
      · rename_i hlt
        have h0 : pos ((k, y) :: r) q = 0 := by unfold pos; rw [if_neg fun e => nm_irrefl _ (nm_trans e hlt)]
        rw [h0, get_none_of (ls := (k, y) :: r) fun p hp => by
          rcases List.mem_cons.1 hp with rfl | hp
          · exact hlt
          · exact nm_trans hlt (hs2.1 p hp)]
        simp
      · rename_i hlt
        have hk : k < q := nm_total (fun e => h e.symm) hlt
        have h1 : pos ((k, y) :: r) q = pos r q + 1 := by show (if k < q then _ else _) = _; rw [if_pos hk]
        have h2 : al.get ((k, y) :: r) q = al.get r q := by show (if k = q then _ else _) = _; rw [if_neg h]
        rw [h1, h2, ih hs2.2, List.take_succ_cons, Nat.add_right_comm, List.drop_succ_cons]
        rfl
theorem del_pos {ls : AL Nm} (hs : Srt ls) {q : Nm} (hg : (al.get ls q).isSome = true) : al.del ls q = ls.take (pos ls q) ++ ls.drop (pos ls q + 1) := by
  induction ls with
  | nil => cases hg
  | cons p' r ih =>
    obtain ⟨k, y⟩ := p'
    have hs2 := List.pairwise_cons.1 hs
    by_cases h : k = q
    · subst h
      have h0 : pos ((k, y) :: r) k = 0 := by unfold pos; rw [if_neg (nm_irrefl _)]
      rw [h0]
      have h2 : al.del r k = r := del_absent (get_none_of hs2.1)
      unfold al.del at h2 ⊢
      simp [h2]
    · have h2 : al.get ((k, y) :: r) q = al.get r q := by show (if k = q then _ else _) = _; rw [if_neg h]
      rw [h2] at hg
      have hk : k < q := by
        cases hgr : al.get r q with
        | none => rw [hgr] at hg; cases hg
        | some z => exact hs2.1 _ (mem_get hgr)
      have h1 : pos ((k, y) :: r) q = pos r q + 1 := by show (if k < q then _ else _) = _; rw [if_pos hk]
      rw [h1, List.take_succ_cons, List.drop_succ_cons, List.cons_append, ← ih hs2.2 hg]
      unfold al.del
      simp [h]
/-! ### their lists as memory -/
def feE (x : Nm × Nm) : List Value := [.string (bs x.1), .string (bs x.2)]
def FE : El (Nm × Nm) where
  enc := feE
  k := 2
  e := 104
  len := fun _ => rfl
  one := fun x v hv => by
    simp [feE] at hv
    rcases hv with rfl | rfl <;> rfl
  pos := by decide
abbrev Fls (w : World) (B : Nat) (A : Option Addr) (n : Nat) (ls : AL Nm) : Prop := Ls FE w B A n ls
theorem fls_at {w : World} {B n i : Nat} {A : Option Addr} {l : AL Nm} {x : Nm × Nm} (h : Fls w B A n l) (hx : l[i]? = some x) :
    ∃ b off, A = some ⟨b, off, none⟩ ∧ b < B ∧ w.cell? ⟨b, off + i * 2, none⟩ = some (.string (bs x.1)) ∧ w.cell? ⟨b, off + i * 2 + 1, none⟩ = some (.string (bs x.2)) := by
  obtain ⟨b, off, rfl, hb, hc⟩ := h.at_ hx
  exact ⟨b, off, rfl, hb, hc 0 (by decide), hc 1 (by decide)⟩
set_option maxHeartbeats 1000000 in
set_option maxRecDepth 100000 in
theorem find_y (w : World) (B n c : Nat) (A : Option Addr) (ls : AL Nm) (a : Nm) (h : Fls w B A n ls) (hB : B ≤ w.heap.size) (hs : Srt ls) (hn : n ≤ 1099511627776) :
    Calls Tryz.prog 83 #[.slice A n c, .string (bs a)] w fun e w' => e = .returned (.tuple #[.int .i64 (pos ls a : Nat), .bool (al.get ls a).isSome]) ∧ Below w.heap.size w w' := by
  have HH := Lib.hid h
  have hle := pos_le ls a
  rw [h.1] at hle
  have HP := Lib.hid (get_pos hs a)
  obtain ⟨P, hP⟩ : ∃ P, pos ls a = P := ⟨_, rfl⟩
  obtain ⟨G, hG⟩ : ∃ G, (al.get ls a).isSome = G := ⟨_, rfl⟩
  rw [hP] at hle
  rw [hP, hG]
  have KP := Lib.hid hP
  have KG := Lib.hid hG
  clear h hP hG hs
  go_enter Tryz.func83, Tryz.ntmps83
  go_wp2_with fail
  go_loopg [6] P (fun gg s6 wr => ∃ (i : Nat), s6 = .int .i64 i ∧ i ≤ P ∧ P - i ≤ gg ∧ Aside (Below w.heap.size w wr))
  case atStart => exact ⟨0, rfl, Nat.zero_le _, by omega, Below.refl _ _⟩
  case round =>
    obtain ⟨i, rfl, hi, hg, BW⟩ := hrel
    obtain ⟨wv, rfl⟩ : ∃ wv, wv = wr := ⟨wr, rfl⟩
    have i0 : (0 : Int) ≤ (i : Int) := by omega
    by_cases hin : i < n
    · have i1 : (i : Int) < (n : Int) := by omega
      obtain ⟨x, hx⟩ := HH.out.get hin
      obtain ⟨b, off, eA, hb, c0, c1⟩ := fls_at (HH.out.below BW.out hB) hx
      subst eA
      obtain ⟨k, y⟩ := x
      simp only at c0 c1
      have hbv : b < wv.heap.size := World.block_lt_of_cell? wv _ c0
      have hld := less_dec k a
      have hed := eq_dec k a
      clear c1
      by_cases hip : i < P
      · have hka : k < a := pos_lt (by rw [KP.out]; exact hip) hx
        have e1 : decide (k < a) = true := by simp [hka]
        rw [e1] at hld
        clear e1 hka hed hx
        go_wp2_with fail
        go_roundg (P - (i + 1))
        case measure => omega
        case rel => exact ⟨i + 1, by go_num, by omega, by omega, BW.out⟩
      · have hiP : i = P := by omega
        subst hiP
        have hka : ¬ k < a := by have := pos_at (ls := ls) (q := a) (p := (k, y)) (by rw [KP.out]; exact hx); exact this
        have e1 : decide (k < a) = false := by simp [hka]
        rw [e1] at hld
        have hGv : G = decide (k = a) := by
          have h9 := HP.out
          rw [KP.out, hx] at h9
          rw [← KG.out, h9]
          simp only
          by_cases hk : k = a
          · simp [hk]
          · simp [hk]
        rw [← hGv] at hed
        have z0 := Wb.at_ c0
        clear e1 hka hGv hx
        go_wp2_with fail
        refine wp_region_plan [([0, 1, 2, 3, 4, 5, 6, 7, 8, 9, 10, 11, 12, 13, 14, 15], none)] (by kernel_rfl) (by kernel_rfl) ?_
        refine seg_end _ (by dsimp only [pick, at_]) ?_
        repeat (go_big_quiet_step (fail))
        refine wpQuiet_nil (NoPanic.normal ?_)
        go_wp2_with fail
        go_ret2
        exact ⟨rfl, BW.out.drew⟩
    · have i1 : ¬ (i : Int) < (n : Int) := by omega
      have i2 : decide ((i : Int) < (n : Int)) = false := by simp; omega
      have hiP : i = P := by omega
      subst hiP
      have hGv : G = false := by
        have h9 := HP.out
        rw [KP.out, List.getElem?_eq_none (by have := HH.out.1; omega)] at h9
        rw [← KG.out, h9]
        rfl
      subst hGv
      go_wp2_with fail
      refine wp_region_plan [([0, 1, 2, 3, 4, 5, 6, 7, 8, 9, 10, 11, 12, 13, 14, 15], none)] (by kernel_rfl) (by kernel_rfl) ?_
      refine seg_end _ (by dsimp only [pick, at_]) ?_
      repeat (go_big_quiet_step (fail))
      refine wpQuiet_nil (NoPanic.normal ?_)
      go_wp2_with fail
      go_ret2
      exact ⟨rfl, BW.out.drew⟩
end Go.Proofs.YtnjdondkggkfoaaGreat.dk
/-
  The document's disk: without, with.
-/
namespace Go.Proofs.YtnjdondkggkfoaaGreat.dk
open Go.ChangeShapes Go.WideShapes Go.ChangeAt Go.RowKit Go.Maps Go.Sort Go.Shelf plain words ord mem al

theorem infoFE : (Tryz.prog.info? 104).map (fun i => (i.zero, i.size, i.bytes)) = some (some (.agg #[.string ByteArray.empty, .string ByteArray.empty]), 2, 32) := by kernel_rfl
/-- 'append(v, x...)' of files in a walk -/
theorem append_f {w : World} {ops : Array Oper} {rest : List Oper} {o : Oper} {a : Act} {Q : Exit → Act → World → Prop} (hgd : o.guard = none) (s x : Operand)
    (ho : o.op = .call { callee := .builtin .append, args := #[s, x], argTypes := #[87, 87] })
    (base : Nat) (v : Value) (n : Nat) (l : AL Nm) (hs : a.eval s = v) (hown : Ow FE w base v n l)
    (B : Nat) (A : Option Addr) (m c : Nat) (hA : A = none → c = 0) (news : AL Nm) (hx : a.eval x = .slice A m c) (hr : Ls FE w B A m news)
    (hn : n + m ≤ 1099511627776) (hbase : base ≤ w.heap.size)
    (h : ∀ A' c' w', Ow FE w' base (.slice A' (n + m) c') (n + m) (l ++ news) → w.grownBy w' v.ownBlock → (A' = none → c' = 0) → n + m ≤ c' → c' ≤ 9223372036854775807 → w.heap.size ≤ w'.heap.size → wpList Tryz.prog ops Q rest (a.put o.dst (.slice A' (n + m) c')) w') : wpList Tryz.prog ops Q (o :: rest) a w := by
  obtain ⟨i0, hi, hz0, hz1, hz2⟩ := info_parts infoFE
  exact wpList_append_ow FE (P := Tryz.prog) Tryz.underlying87 hi hz0 hz1 hz2 rfl (by decide) hgd s x ho base v n l hs hown B A m c hA news hx hr hn hbase h
/-- a list of files -/
structure Fr (w : World) (A : Option Addr) (c : Nat) (l : AL Nm) : Prop where
  ls : Fls w w.heap.size A l.length l
  nil : A = none → c = 0
  len : l.length ≤ c
  cap : c ≤ 9223372036854775807
/-- a new list is handed back -/
def RetF (w : World) (l : AL Nm) (e : Ending) (w' : World) : Prop := ∃ A c, e = .returned (.slice A l.length c) ∧ Fr w' A c l ∧ Below w.heap.size w w' ∧ ∀ a, A = some a → w.heap.size ≤ a.block ∧ a.block < w'.heap.size
/-- a list is handed back: a new one, or the one at A0 -/
def RetD (w : World) (A0 : Option Addr) (l : AL Nm) (e : Ending) (w' : World) : Prop := ∃ A c, e = .returned (.slice A l.length c) ∧ Fr w' A c l ∧ Below w.heap.size w w' ∧ (A = A0 ∨ ∀ a, A = some a → w.heap.size ≤ a.block ∧ a.block < w'.heap.size)
theorem RetF.d {w : World} {A0 : Option Addr} {l : AL Nm} {e : Ending} {w' : World} (h : RetF w l e w') : RetD w A0 l e w' := by
  obtain ⟨A, c, h1, h2, h3, h4⟩ := h
  exact ⟨A, c, h1, h2, h3, .inr h4⟩
theorem Fr.below {w w' : World} {A : Option Addr} {c : Nat} {l : AL Nm} (h : Fr w A c l) (hb : Below w.heap.size w w') : Fr w' A c l :=
  ⟨(h.ls.below hb (Nat.le_refl _)).more hb.size, h.nil, h.len, h.cap⟩
theorem ls_cut {α : Type} {E : El α} {w : World} {B n c k b off : Nat} {l : List α} (h : Ls E w B (some ⟨b, off, none⟩) n l) (hk : k ≤ n) (hc : n ≤ c) (hck : ¬ c = k) : Ls E w B (some ⟨b, off + k * E.k, none⟩) (n - k) (l.drop k) := h.drop hk
theorem ls_cut0 {α : Type} {E : El α} {w : World} {B n c k b off : Nat} {l : List α} (h : Ls E w B (some ⟨b, off, none⟩) n l) (hk : k ≤ n) (hc : n ≤ c) (hck : c = k) : Ls E w B (some ⟨b, off, none⟩) 0 (l.drop k) := by
  rw [List.drop_eq_nil_of_le (by rw [h.1]; omega)]
  exact Ls.nil _ _ _
theorem ow_fr {w : World} {B n : Nat} {A : Option Addr} {c : Nat} {l : AL Nm} (h : Ow FE w B (.slice A n c) n l) : Fr w A c l := by
  obtain ⟨A', c', e, h1, h2, h3⟩ := h.form
  injection e with e1 e2 e3
  subst e1 e3
  have e0 := h.1
  refine ⟨?_, h1, by omega, h3⟩
  rw [e0]; exact h.ls
theorem ret_f {w w' : World} {B n c : Nat} {A : Option Addr} {l : AL Nm} (ho : Ow FE w' B (.slice A n c) n l) (hb : Below w.heap.size w w') (hB : w.heap.size ≤ B) : RetF w l (.returned (.slice A n c)) w' := by
  have := ho.1
  subst this
  refine ⟨A, c, rfl, ow_fr ho, hb, fun a e => ?_⟩
  subst e
  exact ⟨Nat.le_trans hB (ho.lt a.block rfl).1, (ho.lt a.block rfl).2⟩
set_option maxHeartbeats 1000000 in
set_option maxRecDepth 100000 in
theorem without_y (w : World) (n c : Nat) (A : Option Addr) (ls : AL Nm) (i : Nat) (h : Fr w A c ls) (hi : i < n) (hl : ls.length = n) (hn : n ≤ 1000000000) :
    Calls Tryz.prog 93 #[.slice A n c, .int .i64 i] w (RetF w (ls.take i ++ ls.drop (i + 1))) := by
  obtain ⟨hls, hnil, hlen, hcap⟩ := h
  rw [hl] at hls hlen
  obtain ⟨b, off, rfl, hb⟩ := Rd.some_of hls.2 (show 0 < n * FE.k by show 0 < n * 2; omega)
  have i0 : (0 : Int) ≤ (i : Int) := by omega
  have i1 : (i : Int) ≤ (c : Int) := by omega
  have i2 : (i : Int) ≤ (n : Int) := by omega
  obtain ⟨M, hM⟩ : ∃ M, i + 1 = M := ⟨_, rfl⟩
  rw [hM]
  have w1 : IntKind.i64.wrap ((i : Int) + 1) = (M : Int) := by rw [IntWalk.i64_in _ (by omega)]; omega
  have m0 : (0 : Int) ≤ (M : Int) := by omega
  have m1 : (M : Int) ≤ (n : Int) := by omega
  have m2 : (n : Int) ≤ (c : Int) := by omega
  have m3 : (M : Int) ≤ (c : Int) := by omega
  have hb0 : Below w.heap.size w (w.alloc (.cells #[] 104)) := (Below.refl _ _).alloc (Nat.le_refl _) _
  have hown : Ow FE (w.alloc (.cells #[] 104)) w.heap.size (.slice (some ⟨w.heap.size, 0, none⟩) 0 0) 0 [] := Ow.lit w
  have hcut1 := (hls.take (i := i) (by omega)).below hb0 (Nat.le_refl _)
  by_cases hck : c = M
  · have hcut2 := ls_cut0 (c := c) hls (k := M) (by omega) (by omega) hck
    obtain rfl : M = c := hck.symm
    have HC2 := Lib.hid hcut2
    clear hcut2
    go_enter Tryz.func93, Tryz.ntmps93
    go_wp2_with (first | (at_builtin; (refine append_f rfl (.tmp 7) (.tmp 10) rfl w.heap.size _ 0 [] rfl hown w.heap.size _ i _ (fun e => by cases e) (ls.take i) rfl hcut1 (by omega) (by simp) ?_; intro A2 c2 w2 hown2 hg2 hA2 hc21 hc22 hs2; simp only [Nat.zero_add, List.nil_append] at hown2; have hb2 := hown.below_grown hb0 hg2 (by simp); clear hg2 hcut1)) | (at_builtin; (refine append_f rfl (.tmp 12) (.tmp 16) rfl w.heap.size _ i (ls.take i) rfl hown2 w.heap.size _ _ _ (fun e => by cases e) (ls.drop M) rfl (HC2.out.below hb2 (Nat.le_refl _)) (by omega) hb2.size ?_; intro A3 c3 w3 hown3 hg3 hA3 hc31 hc32 hs3; have hb3 := hown2.below_grown hb2 hg3 hb2.size; clear hg3)))
    go_ret
    exact ret_f hown3 hb3 (Nat.le_refl _)
  · have hcut2 := ls_cut (c := c) hls (k := M) (by omega) (by omega) hck
    have hk2 : FE.k = 2 := rfl
    rw [hk2] at hcut2
    have HC2 := Lib.hid hcut2
    clear hcut2
    go_enter Tryz.func93, Tryz.ntmps93
    go_wp2_with (first | (at_builtin; (refine append_f rfl (.tmp 7) (.tmp 10) rfl w.heap.size _ 0 [] rfl hown w.heap.size _ i _ (fun e => by cases e) (ls.take i) rfl hcut1 (by omega) (by simp) ?_; intro A2 c2 w2 hown2 hg2 hA2 hc21 hc22 hs2; simp only [Nat.zero_add, List.nil_append] at hown2; have hb2 := hown.below_grown hb0 hg2 (by simp); clear hg2 hcut1)) | (at_builtin; (refine append_f rfl (.tmp 12) (.tmp 16) rfl w.heap.size _ i (ls.take i) rfl hown2 w.heap.size _ _ _ (fun e => by cases e) (ls.drop M) rfl (HC2.out.below hb2 (Nat.le_refl _)) (by omega) hb2.size ?_; intro A3 c3 w3 hown3 hg3 hA3 hc31 hc32 hs3; have hb3 := hown2.below_grown hb2 hg3 hb2.size; clear hg3)))
    go_ret
    exact ret_f hown3 hb3 (Nat.le_refl _)
end Go.Proofs.YtnjdondkggkfoaaGreat.dk
/-
  The document's disk: with.
-/
namespace Go.Proofs.YtnjdondkggkfoaaGreat.dk
open Go.ChangeShapes Go.WideShapes Go.ChangeAt Go.RowKit Go.Maps Go.Sort Go.Shelf plain words ord mem al

theorem put_new {ls : AL Nm} (hs : Srt ls) {q x : Nm} (hg : (al.get ls q).isSome = false) : (ls.take (pos ls q) ++ [(q, x)]) ++ ls.drop (pos ls q) = al.put ls q x := by
  rw [put_pos hs, hg]; simp
theorem put_old {ls : AL Nm} (hs : Srt ls) {q x : Nm} (hg : (al.get ls q).isSome = true) (l : AL Nm) (hl : ls.take (pos ls q) ++ ls.drop (pos ls q + 1) = l) : (l.take (pos ls q) ++ [(q, x)]) ++ l.drop (pos ls q) = al.put ls q x := by
  have hp := pos_le ls q
  have h1 : (ls.take (pos ls q)).length = pos ls q := by rw [List.length_take]; omega
  rw [put_pos hs, hg, ← hl, List.take_left' h1, List.drop_left' h1]; simp
theorem pos_some {ls : AL Nm} (hs : Srt ls) {q : Nm} (hg : (al.get ls q).isSome = true) : pos ls q < ls.length := by
  rcases Nat.lt_or_ge (pos ls q) ls.length with h | h
  · exact h
  · rw [get_pos hs, List.getElem?_eq_none h] at hg; cases hg
set_option maxHeartbeats 2000000 in
set_option maxRecDepth 100000 in
theorem with_y (w : World) (n c : Nat) (A : Option Addr) (ls : AL Nm) (q x : Nm) (h : Fr w A c ls) (hl : ls.length = n) (hs : Srt ls) (hn : n ≤ 1000000000) :
    Calls Tryz.prog 92 #[.slice A n c, .agg #[.string (bs q), .string (bs x)]] w (RetF w (al.put ls q x)) := by
  obtain ⟨wb, hwb⟩ : ∃ wb, w.alloc (.cells #[.string (bs q), .string (bs x)] 104) = wb := ⟨_, rfl⟩
  have hbb : Below w.heap.size w wb := by rw [← hwb]; exact (Below.refl _ _).alloc (Nat.le_refl _) _
  have gb : wb.heap[w.heap.size]? = some (.cells #[.string (bs q), .string (bs x)] 104 (0, 0)) := by rw [← hwb]; exact alloc_new _ _
  have hlb : w.heap.size < wb.heap.size := blk_lt gb
  have c0 : wb.cell? ⟨w.heap.size, 0, none⟩ = some (.string (bs q)) := by rw [cell_of_row _ _ _ _ _ _ gb]; rfl
  have hfr := h.below hbb
  have hfls := hfr.ls
  rw [hl] at hfls
  have HF := Lib.hid (find_y wb wb.heap.size n c A ls q hfls (Nat.le_refl _) hs (by omega))
  have HFR := Lib.hid hfr
  have HB := Lib.hid hbb
  have GB := Lib.hid gb
  have hps := fun hg => pos_some hs (q := q) hg
  have hpl := pos_le ls q
  rw [hl] at hpl
  have HPN := Lib.hid (fun hg => put_new hs (q := q) (x := x) hg)
  have HPO := Lib.hid (fun hg => @put_old ls hs q x hg)
  obtain ⟨P, hP⟩ : ∃ P, pos ls q = P := ⟨_, rfl⟩
  obtain ⟨G, hG⟩ : ∃ G, (al.get ls q).isSome = G := ⟨_, rfl⟩
  rw [hG, hP] at HF hps
  rw [hP] at hpl
  rw [hG, hP] at HPN HPO
  have HL := Lib.hid hl
  clear h hbb gb hfr hfls hs hl hP hG
  obtain ⟨T, hT⟩ : ∃ T, al.put ls q x = T := ⟨_, rfl⟩
  rw [hT] at HPN HPO ⊢
  clear hT
  cases G with
  | true =>
    have hPn := hps rfl
    rw [HL.out] at hPn
    have HPQ := Lib.hid (HPO.out rfl)
    clear hps HPN HPO
    go_enter Tryz.func92, Tryz.ntmps92
    go_wp2_with fail
    refine HF.out.mono ?_
    rintro e w1 ⟨rfl, hb1⟩
    have HB1 := Lib.hid (HB.out.trans (hb1.mono HB.out.size))
    have HW := Lib.hid (without_y w1 n c A ls P (HFR.out.below hb1) hPn HL.out hn)
    have GB1 := Lib.hid (blk_below hb1 GB.out hlb)
    clear hb1 HF c0
    go_wp2_with fail
    refine HW.out.mono ?_
    rintro e wk ⟨A', c', rfl, hfr, hbk, _⟩
    have HBK := Lib.hid (HB1.out.trans (hbk.mono HB1.out.size))
    have GBK := Lib.hid (blk_below hbk GB1.out (blk_lt GB1.out))
    obtain ⟨l', hl'⟩ : ∃ l', ls.take P ++ ls.drop (P + 1) = l' := ⟨_, rfl⟩
    have hln : l'.length = n - 1 := by rw [← hl', List.length_append, List.length_take, List.length_drop, HL.out]; omega
    have HE := Lib.hid (HPQ.out _ hl')
    rw [hl'] at hfr
    rw [hl', hln]
    obtain ⟨n', hn'⟩ : ∃ n', n - 1 = n' := ⟨_, rfl⟩
    rw [hn'] at hln ⊢
    have hPn' : P ≤ n' := by omega
    have hn9 : n' ≤ 1000000000 := by omega
    clear HW hbk hl' HPQ hn'
    obtain ⟨hfls, hnil, hlen, hcap⟩ := hfr
    rw [hln] at hfls hlen
    have LN := Lib.hid hln
    clear hln
    have hb0 : Below wk.heap.size wk (wk.alloc (.cells #[] 104)) := (Below.refl _ _).alloc (Nat.le_refl _) _
    have hown : Ow FE (wk.alloc (.cells #[] 104)) wk.heap.size (.slice (some ⟨wk.heap.size, 0, none⟩) 0 0) 0 [] := Ow.lit wk
    have hcut1 := (hfls.take (i := P) hPn').below hb0 (Nat.le_refl _)
    have p0 : (0 : Int) ≤ (P : Int) := by omega
    have p1 : (P : Int) ≤ (n' : Int) := by omega
    have p2 : (P : Int) ≤ (c' : Int) := by omega
    have p3 : (n' : Int) ≤ (c' : Int) := by omega
    rcases A' with _ | ⟨b, off, sp⟩
    · obtain rfl := hnil rfl
      have hn0 : n' = 0 := by omega
      have hP0 : P = 0 := by omega
      subst hn0 hP0
      have hcut2 : Ls FE wk wk.heap.size none 0 (l'.drop 0) := by rw [List.drop_zero]; exact hfls
      have HC2 := Lib.hid hcut2
      clear hcut2 hnil
      go_wp2_with (first | (at_builtin; refine append_f rfl (.tmp 20) (.tmp 23) rfl wk.heap.size _ 0 [] rfl hown wk.heap.size _ _ _ (fun _ => rfl) (l'.take 0) rfl hcut1 (by omega) (by simp) ?_; intro A2 c2 w2 hown2 hg2 hA2 hc21 hc22 hs2; simp only [Nat.zero_add, List.nil_append] at hown2; have hb2 := hown.below_grown hb0 hg2 (by simp); have g2 := blk_below hb2 GBK.out (blk_lt GBK.out); have d0 : w2.cell? ⟨w.heap.size, 0, none⟩ = some (.string (bs q)) := by { rw [cell_of_row _ _ _ _ _ _ g2]; rfl }; have d1 : w2.cell? ⟨w.heap.size, 1, none⟩ = some (.string (bs x)) := by { rw [cell_of_row _ _ _ _ _ _ g2]; rfl }; clear hg2 hcut1 g2) | (at_builtin; refine append_f rfl (.tmp 25) (.tmp 27) rfl wk.heap.size _ _ (l'.take 0) rfl (hown2.below ((Below.refl _ _).alloc (Nat.le_refl _) _) (Nat.le_refl _)) (w2.heap.size + 1) _ 1 _ (fun e => by cases e) [(q, x)] rfl (ls_new (E := FE) _ (q, x)) (by omega) (by have := hb2.size; simp; omega) ?_; intro A3 c3 w3 hown3 hg3 hA3 hc31 hc32 hs3; have hb3 := (hown2.below ((Below.refl _ _).alloc (Nat.le_refl _) _) (Nat.le_refl _)).below_grown (hb2.alloc hb2.size _) hg3 (by have := hb2.size; simp; omega); clear hg3) | (at_builtin; refine append_f rfl (.tmp 29) (.tmp 32) rfl wk.heap.size _ _ (l'.take 0 ++ [(q, x)]) rfl hown3 wk.heap.size _ _ _ (fun _ => rfl) (l'.drop 0) rfl (HC2.out.below hb3 (Nat.le_refl _)) (by omega) hb3.size ?_; intro A4 c4 w4 hown4 hg4 hA4 hc41 hc42 hs4; have hb4 := hown3.below_grown hb3 hg4 hb3.size; clear hg4))
      go_ret
      rw [← HE.out]
      exact ret_f hown4 (HBK.out.trans (hb4.mono HBK.out.size)) HBK.out.size
    · have hsp : n' = 0 ∨ sp = none := by
        rcases Nat.eq_zero_or_pos n' with h0 | h0
        · exact .inl h0
        · obtain ⟨_, _, e, _⟩ := Rd.some_of hfls.2 (show 0 < n' * FE.k by show 0 < n' * 2; omega)
          injection e with e; injection e with _ _ e; exact .inr e
      by_cases hck : c' = P
      · have hcut2 : Ls FE wk wk.heap.size (some ⟨b, off, sp⟩) 0 (l'.drop P) := by rw [List.drop_eq_nil_of_le (by rw [LN.out]; omega)]; exact Ls.nil _ _ _
        obtain rfl : P = c' := hck.symm
        have HC2 := Lib.hid hcut2
        clear hcut2 hnil
        go_wp2_with (first | (at_builtin; refine append_f rfl (.tmp 20) (.tmp 23) rfl wk.heap.size _ 0 [] rfl hown wk.heap.size _ _ _ (fun e => by cases e) (l'.take P) rfl hcut1 (by omega) (by simp) ?_; intro A2 c2 w2 hown2 hg2 hA2 hc21 hc22 hs2; simp only [Nat.zero_add, List.nil_append] at hown2; have hb2 := hown.below_grown hb0 hg2 (by simp); have g2 := blk_below hb2 GBK.out (blk_lt GBK.out); have d0 : w2.cell? ⟨w.heap.size, 0, none⟩ = some (.string (bs q)) := by { rw [cell_of_row _ _ _ _ _ _ g2]; rfl }; have d1 : w2.cell? ⟨w.heap.size, 1, none⟩ = some (.string (bs x)) := by { rw [cell_of_row _ _ _ _ _ _ g2]; rfl }; clear hg2 hcut1 g2) | (at_builtin; refine append_f rfl (.tmp 25) (.tmp 27) rfl wk.heap.size _ _ (l'.take P) rfl (hown2.below ((Below.refl _ _).alloc (Nat.le_refl _) _) (Nat.le_refl _)) (w2.heap.size + 1) _ 1 _ (fun e => by cases e) [(q, x)] rfl (ls_new (E := FE) _ (q, x)) (by omega) (by have := hb2.size; simp; omega) ?_; intro A3 c3 w3 hown3 hg3 hA3 hc31 hc32 hs3; have hb3 := (hown2.below ((Below.refl _ _).alloc (Nat.le_refl _) _) (Nat.le_refl _)).below_grown (hb2.alloc hb2.size _) hg3 (by have := hb2.size; simp; omega); clear hg3) | (at_builtin; refine append_f rfl (.tmp 29) (.tmp 32) rfl wk.heap.size _ _ (l'.take P ++ [(q, x)]) rfl hown3 wk.heap.size _ _ _ (fun e => by cases e) (l'.drop P) rfl (HC2.out.below hb3 (Nat.le_refl _)) (by omega) hb3.size ?_; intro A4 c4 w4 hown4 hg4 hA4 hc41 hc42 hs4; have hb4 := hown3.below_grown hb3 hg4 hb3.size; clear hg4))
        go_ret
        rw [← HE.out]
        exact ret_f hown4 (HBK.out.trans (hb4.mono HBK.out.size)) HBK.out.size
      · have hcut2 : Ls FE wk wk.heap.size (some (Addr.add ⟨b, off, sp⟩ (P * 2))) (n' - P) (l'.drop P) := by
          rcases hsp with h0 | h0
          · rw [show n' - P = 0 by omega, List.drop_eq_nil_of_le (by rw [LN.out]; omega)]; exact Ls.nil _ _ _
          · subst h0; rw [words.add_plain]; exact ls_cut (c := c') hfls hPn' (by omega) hck
        have HC2 := Lib.hid hcut2
        clear hcut2 hnil
        go_wp2_with (first | (at_builtin; refine append_f rfl (.tmp 20) (.tmp 23) rfl wk.heap.size _ 0 [] rfl hown wk.heap.size _ _ _ (fun e => by cases e) (l'.take P) rfl hcut1 (by omega) (by simp) ?_; intro A2 c2 w2 hown2 hg2 hA2 hc21 hc22 hs2; simp only [Nat.zero_add, List.nil_append] at hown2; have hb2 := hown.below_grown hb0 hg2 (by simp); have g2 := blk_below hb2 GBK.out (blk_lt GBK.out); have d0 : w2.cell? ⟨w.heap.size, 0, none⟩ = some (.string (bs q)) := by { rw [cell_of_row _ _ _ _ _ _ g2]; rfl }; have d1 : w2.cell? ⟨w.heap.size, 1, none⟩ = some (.string (bs x)) := by { rw [cell_of_row _ _ _ _ _ _ g2]; rfl }; clear hg2 hcut1 g2) | (at_builtin; refine append_f rfl (.tmp 25) (.tmp 27) rfl wk.heap.size _ _ (l'.take P) rfl (hown2.below ((Below.refl _ _).alloc (Nat.le_refl _) _) (Nat.le_refl _)) (w2.heap.size + 1) _ 1 _ (fun e => by cases e) [(q, x)] rfl (ls_new (E := FE) _ (q, x)) (by omega) (by have := hb2.size; simp; omega) ?_; intro A3 c3 w3 hown3 hg3 hA3 hc31 hc32 hs3; have hb3 := (hown2.below ((Below.refl _ _).alloc (Nat.le_refl _) _) (Nat.le_refl _)).below_grown (hb2.alloc hb2.size _) hg3 (by have := hb2.size; simp; omega); clear hg3) | (at_builtin; refine append_f rfl (.tmp 29) (.tmp 32) rfl wk.heap.size _ _ (l'.take P ++ [(q, x)]) rfl hown3 wk.heap.size _ _ _ (fun e => by cases e) (l'.drop P) rfl (HC2.out.below hb3 (Nat.le_refl _)) (by omega) hb3.size ?_; intro A4 c4 w4 hown4 hg4 hA4 hc41 hc42 hs4; have hb4 := hown3.below_grown hb3 hg4 hb3.size; clear hg4))
        go_ret
        rw [← HE.out]
        exact ret_f hown4 (HBK.out.trans (hb4.mono HBK.out.size)) HBK.out.size
  | false =>
    have HE := Lib.hid (HPN.out rfl)
    clear hps HPO HPN
    go_enter Tryz.func92, Tryz.ntmps92
    go_wp2_with fail
    refine HF.out.mono ?_
    rintro e wk ⟨rfl, hb1⟩
    have HBK := Lib.hid (HB.out.trans (hb1.mono HB.out.size))
    have GBK := Lib.hid (blk_below hb1 GB.out hlb)
    have hfr := HFR.out.below hb1
    have hln := HL.out
    obtain ⟨A', rfl⟩ : ∃ A', A' = A := ⟨_, rfl⟩
    obtain ⟨c', rfl⟩ : ∃ c', c' = c := ⟨_, rfl⟩
    obtain ⟨l', rfl⟩ : ∃ l', l' = ls := ⟨_, rfl⟩
    obtain ⟨n', rfl⟩ : ∃ n', n' = n := ⟨_, rfl⟩
    have hPn' : P ≤ n' := hpl
    have hn9 : n' ≤ 1000000000 := hn
    clear hb1 HF c0 HFR HB GB HL
    obtain ⟨hfls, hnil, hlen, hcap⟩ := hfr
    rw [hln] at hfls hlen
    have LN := Lib.hid hln
    clear hln
    have hb0 : Below wk.heap.size wk (wk.alloc (.cells #[] 104)) := (Below.refl _ _).alloc (Nat.le_refl _) _
    have hown : Ow FE (wk.alloc (.cells #[] 104)) wk.heap.size (.slice (some ⟨wk.heap.size, 0, none⟩) 0 0) 0 [] := Ow.lit wk
    have hcut1 := (hfls.take (i := P) hPn').below hb0 (Nat.le_refl _)
    have p0 : (0 : Int) ≤ (P : Int) := by omega
    have p1 : (P : Int) ≤ (n' : Int) := by omega
    have p2 : (P : Int) ≤ (c' : Int) := by omega
    have p3 : (n' : Int) ≤ (c' : Int) := by omega
    rcases A' with _ | ⟨b, off, sp⟩
    · obtain rfl := hnil rfl
      have hn0 : n' = 0 := by omega
      have hP0 : P = 0 := by omega
      subst hn0 hP0
      have hcut2 : Ls FE wk wk.heap.size none 0 (l'.drop 0) := by rw [List.drop_zero]; exact hfls
      have HC2 := Lib.hid hcut2
      clear hcut2 hnil
      go_wp2_with (first | (at_builtin; refine append_f rfl (.tmp 20) (.tmp 23) rfl wk.heap.size _ 0 [] rfl hown wk.heap.size _ _ _ (fun _ => rfl) (l'.take 0) rfl hcut1 (by omega) (by simp) ?_; intro A2 c2 w2 hown2 hg2 hA2 hc21 hc22 hs2; simp only [Nat.zero_add, List.nil_append] at hown2; have hb2 := hown.below_grown hb0 hg2 (by simp); have g2 := blk_below hb2 GBK.out (blk_lt GBK.out); have d0 : w2.cell? ⟨w.heap.size, 0, none⟩ = some (.string (bs q)) := by { rw [cell_of_row _ _ _ _ _ _ g2]; rfl }; have d1 : w2.cell? ⟨w.heap.size, 1, none⟩ = some (.string (bs x)) := by { rw [cell_of_row _ _ _ _ _ _ g2]; rfl }; clear hg2 hcut1 g2) | (at_builtin; refine append_f rfl (.tmp 25) (.tmp 27) rfl wk.heap.size _ _ (l'.take 0) rfl (hown2.below ((Below.refl _ _).alloc (Nat.le_refl _) _) (Nat.le_refl _)) (w2.heap.size + 1) _ 1 _ (fun e => by cases e) [(q, x)] rfl (ls_new (E := FE) _ (q, x)) (by omega) (by have := hb2.size; simp; omega) ?_; intro A3 c3 w3 hown3 hg3 hA3 hc31 hc32 hs3; have hb3 := (hown2.below ((Below.refl _ _).alloc (Nat.le_refl _) _) (Nat.le_refl _)).below_grown (hb2.alloc hb2.size _) hg3 (by have := hb2.size; simp; omega); clear hg3) | (at_builtin; refine append_f rfl (.tmp 29) (.tmp 32) rfl wk.heap.size _ _ (l'.take 0 ++ [(q, x)]) rfl hown3 wk.heap.size _ _ _ (fun _ => rfl) (l'.drop 0) rfl (HC2.out.below hb3 (Nat.le_refl _)) (by omega) hb3.size ?_; intro A4 c4 w4 hown4 hg4 hA4 hc41 hc42 hs4; have hb4 := hown3.below_grown hb3 hg4 hb3.size; clear hg4))
      go_ret
      rw [← HE.out]
      exact ret_f hown4 (HBK.out.trans (hb4.mono HBK.out.size)) HBK.out.size
    · have hsp : n' = 0 ∨ sp = none := by
        rcases Nat.eq_zero_or_pos n' with h0 | h0
        · exact .inl h0
        · obtain ⟨_, _, e, _⟩ := Rd.some_of hfls.2 (show 0 < n' * FE.k by show 0 < n' * 2; omega)
          injection e with e; injection e with _ _ e; exact .inr e
      by_cases hck : c' = P
      · have hcut2 : Ls FE wk wk.heap.size (some ⟨b, off, sp⟩) 0 (l'.drop P) := by rw [List.drop_eq_nil_of_le (by rw [LN.out]; omega)]; exact Ls.nil _ _ _
        obtain rfl : P = c' := hck.symm
        have HC2 := Lib.hid hcut2
        clear hcut2 hnil
        go_wp2_with (first | (at_builtin; refine append_f rfl (.tmp 20) (.tmp 23) rfl wk.heap.size _ 0 [] rfl hown wk.heap.size _ _ _ (fun e => by cases e) (l'.take P) rfl hcut1 (by omega) (by simp) ?_; intro A2 c2 w2 hown2 hg2 hA2 hc21 hc22 hs2; simp only [Nat.zero_add, List.nil_append] at hown2; have hb2 := hown.below_grown hb0 hg2 (by simp); have g2 := blk_below hb2 GBK.out (blk_lt GBK.out); have d0 : w2.cell? ⟨w.heap.size, 0, none⟩ = some (.string (bs q)) := by { rw [cell_of_row _ _ _ _ _ _ g2]; rfl }; have d1 : w2.cell? ⟨w.heap.size, 1, none⟩ = some (.string (bs x)) := by { rw [cell_of_row _ _ _ _ _ _ g2]; rfl }; clear hg2 hcut1 g2) | (at_builtin; refine append_f rfl (.tmp 25) (.tmp 27) rfl wk.heap.size _ _ (l'.take P) rfl (hown2.below ((Below.refl _ _).alloc (Nat.le_refl _) _) (Nat.le_refl _)) (w2.heap.size + 1) _ 1 _ (fun e => by cases e) [(q, x)] rfl (ls_new (E := FE) _ (q, x)) (by omega) (by have := hb2.size; simp; omega) ?_; intro A3 c3 w3 hown3 hg3 hA3 hc31 hc32 hs3; have hb3 := (hown2.below ((Below.refl _ _).alloc (Nat.le_refl _) _) (Nat.le_refl _)).below_grown (hb2.alloc hb2.size _) hg3 (by have := hb2.size; simp; omega); clear hg3) | (at_builtin; refine append_f rfl (.tmp 29) (.tmp 32) rfl wk.heap.size _ _ (l'.take P ++ [(q, x)]) rfl hown3 wk.heap.size _ _ _ (fun e => by cases e) (l'.drop P) rfl (HC2.out.below hb3 (Nat.le_refl _)) (by omega) hb3.size ?_; intro A4 c4 w4 hown4 hg4 hA4 hc41 hc42 hs4; have hb4 := hown3.below_grown hb3 hg4 hb3.size; clear hg4))
        go_ret
        rw [← HE.out]
        exact ret_f hown4 (HBK.out.trans (hb4.mono HBK.out.size)) HBK.out.size
      · have hcut2 : Ls FE wk wk.heap.size (some (Addr.add ⟨b, off, sp⟩ (P * 2))) (n' - P) (l'.drop P) := by
          rcases hsp with h0 | h0
          · rw [show n' - P = 0 by omega, List.drop_eq_nil_of_le (by rw [LN.out]; omega)]; exact Ls.nil _ _ _
          · subst h0; rw [words.add_plain]; exact ls_cut (c := c') hfls hPn' (by omega) hck
        have HC2 := Lib.hid hcut2
        clear hcut2 hnil
        go_wp2_with (first | (at_builtin; refine append_f rfl (.tmp 20) (.tmp 23) rfl wk.heap.size _ 0 [] rfl hown wk.heap.size _ _ _ (fun e => by cases e) (l'.take P) rfl hcut1 (by omega) (by simp) ?_; intro A2 c2 w2 hown2 hg2 hA2 hc21 hc22 hs2; simp only [Nat.zero_add, List.nil_append] at hown2; have hb2 := hown.below_grown hb0 hg2 (by simp); have g2 := blk_below hb2 GBK.out (blk_lt GBK.out); have d0 : w2.cell? ⟨w.heap.size, 0, none⟩ = some (.string (bs q)) := by { rw [cell_of_row _ _ _ _ _ _ g2]; rfl }; have d1 : w2.cell? ⟨w.heap.size, 1, none⟩ = some (.string (bs x)) := by { rw [cell_of_row _ _ _ _ _ _ g2]; rfl }; clear hg2 hcut1 g2) | (at_builtin; refine append_f rfl (.tmp 25) (.tmp 27) rfl wk.heap.size _ _ (l'.take P) rfl (hown2.below ((Below.refl _ _).alloc (Nat.le_refl _) _) (Nat.le_refl _)) (w2.heap.size + 1) _ 1 _ (fun e => by cases e) [(q, x)] rfl (ls_new (E := FE) _ (q, x)) (by omega) (by have := hb2.size; simp; omega) ?_; intro A3 c3 w3 hown3 hg3 hA3 hc31 hc32 hs3; have hb3 := (hown2.below ((Below.refl _ _).alloc (Nat.le_refl _) _) (Nat.le_refl _)).below_grown (hb2.alloc hb2.size _) hg3 (by have := hb2.size; simp; omega); clear hg3) | (at_builtin; refine append_f rfl (.tmp 29) (.tmp 32) rfl wk.heap.size _ _ (l'.take P ++ [(q, x)]) rfl hown3 wk.heap.size _ _ _ (fun e => by cases e) (l'.drop P) rfl (HC2.out.below hb3 (Nat.le_refl _)) (by omega) hb3.size ?_; intro A4 c4 w4 hown4 hg4 hA4 hc41 hc42 hs4; have hb4 := hown3.below_grown hb3 hg4 hb3.size; clear hg4))
        go_ret
        rw [← HE.out]
        exact ret_f hown4 (HBK.out.trans (hb4.mono HBK.out.size)) HBK.out.size
end Go.Proofs.YtnjdondkggkfoaaGreat.dk
/-
  The document's disk: done.
-/
namespace Go.Proofs.YtnjdondkggkfoaaGreat.dk
open Go.ChangeShapes Go.WideShapes Go.ChangeAt Go.RowKit Go.Maps Go.Sort Go.Shelf plain words ord mem al

theorem bs_append (a b : Nm) : bs a ++ bs b = bs (a ++ b) := by
  obtain ⟨c, hc⟩ := ba_bs (bs a ++ bs b)
  rw [hc]
  congr 1
  have h1 := congrArg (fun x : ByteArray => x.data.toList) hc
  simp only [bs_list] at h1
  rw [← h1]
  simp [bs]
theorem add_s {a b : Nm} (h : a.length + b.length ≤ 1125899906842624) (w : World) : (Op.stringOp .add (bs a) (bs b)).run Tryz.prog w = .ok (.string (bs (a ++ b))) w := by
  rw [run_string_add_sum w _ _ (by rw [bs_size, bs_size]; omega), bs_append]
theorem Fr.at_ {w : World} {A : Option Addr} {c : Nat} {l : AL Nm} (h : Fr w A c l) {i : Nat} {x : Nm × Nm} (hx : l[i]? = some x) :
    ∃ b off, A = some ⟨b, off, none⟩ ∧ b < w.heap.size ∧ w.cell? ⟨b, off + i * 2, none⟩ = some (.string (bs x.1)) ∧ w.cell? ⟨b, off + i * 2 + 1, none⟩ = some (.string (bs x.2)) := fls_at h.ls hx
theorem get_at {ls : AL Nm} (hs : Srt ls) {q y : Nm} (h : al.get ls q = some y) : ls[pos ls q]? = some (q, y) := by
  rw [get_pos hs] at h
  cases hp : ls[pos ls q]? with
  | none => rw [hp] at h; cases h
  | some p =>
    rw [hp] at h
    simp only at h
    split at h
    · rename_i e
      injection h with h
      obtain ⟨k, z⟩ := p
      simp only at e h
      rw [e, h]
    · cases h
def chV : Chn → Value
  | .app a b => .agg #[.int .i64 0, .string (bs a), .string (bs b)]
  | .ren a b => .agg #[.int .i64 1, .string (bs a), .string (bs b)]
  | .rem a => .agg #[.int .i64 2, .string (bs a), .string ⟨#[]⟩]
set_option maxHeartbeats 2000000 in
set_option maxRecDepth 100000 in
theorem app_y (w : World) (n c : Nat) (A : Option Addr) (ls : AL Nm) (a b : Nm) (h : Fr w A c ls) (hl : ls.length = n) (hs : Srt ls) (hn : n ≤ 1000000000) (hz : ((al.get ls a).getD []).length + b.length ≤ 1125899906842624) :
    Calls Tryz.prog 53 #[.slice A n c, .agg #[.int .i64 0, .string (bs a), .string (bs b)]] w (RetF w (done ls (.app a b))) := by
  show Calls Tryz.prog _ _ w (RetF w (al.put ls a ((al.get ls a).getD [] ++ b)))
  obtain ⟨wb, hwb⟩ : ∃ wb, w.alloc (.cells #[.int .i64 0, .string (bs a), .string (bs b)] 99) = wb := ⟨_, rfl⟩
  have hbb : Below w.heap.size w wb := by rw [← hwb]; exact (Below.refl _ _).alloc (Nat.le_refl _) _
  have gb : wb.heap[w.heap.size]? = some (.cells #[.int .i64 0, .string (bs a), .string (bs b)] 99 (0, 0)) := by rw [← hwb]; exact alloc_new _ _
  have hlb : w.heap.size < wb.heap.size := blk_lt gb
  have c0 : wb.cell? ⟨w.heap.size, 1, none⟩ = some (.string (bs a)) := by rw [cell_of_row _ _ _ _ _ _ gb]; rfl
  have hfr := h.below hbb
  have hfls := hfr.ls
  rw [hl] at hfls
  have HF := Lib.hid (find_y wb wb.heap.size n c A ls a hfls (Nat.le_refl _) hs (by omega))
  have HFR := Lib.hid hfr
  have HB := Lib.hid hbb
  have GB := Lib.hid gb
  have HL := Lib.hid hl
  have HS := Lib.hid hs
  have hpl := pos_le ls a
  rw [hl] at hpl
  cases hg : al.get ls a with
  | none =>
    rw [hg] at HF hz
    obtain ⟨P, hP⟩ : ∃ P, pos ls a = P := ⟨_, rfl⟩
    rw [hP] at HF
    clear h hbb gb hfr hfls hl hs hP hg hpl
    go_enter Tryz.func53, Tryz.ntmps53
    go_wp2_with fail
    refine HF.out.mono ?_
    rintro e w1 ⟨rfl, hb1⟩
    have g1 := blk_below hb1 GB.out hlb
    have d0 : w1.cell? ⟨w.heap.size, 0, none⟩ = some (.int .i64 0) := by rw [cell_of_row _ _ _ _ _ _ g1]; rfl
    have d1 : w1.cell? ⟨w.heap.size, 1, none⟩ = some (.string (bs a)) := by rw [cell_of_row _ _ _ _ _ _ g1]; rfl
    have d2 : w1.cell? ⟨w.heap.size, 2, none⟩ = some (.string (bs b)) := by rw [cell_of_row _ _ _ _ _ _ g1]; rfl
    have HW := Lib.hid (with_y w1 n c A ls a b (HFR.out.below hb1) HL.out HS.out hn)
    have HB1 := Lib.hid (HB.out.trans (hb1.mono HB.out.size))
    have hap : ∀ w : World, (Op.stringOp .add ⟨#[]⟩ (bs b)).run Tryz.prog w = .ok (.string (bs b)) w := fun w => add_s (a := []) hz w
    clear hb1 g1 HF c0
    go_wp2_with fail
    refine HW.out.mono ?_
    rintro e w2 ⟨A', c', rfl, hfr, hb2, hat2⟩
    have HR := Lib.hid (And.intro hfr (And.intro hb2 hat2))
    clear hfr hb2 hat2 HW
    go_wp2_with fail
    go_ret
    exact ⟨A', c', rfl, HR.out.1, HB1.out.trans (HR.out.2.1.mono HB1.out.size), fun a e => ⟨Nat.le_trans HB1.out.size (HR.out.2.2 a e).1, (HR.out.2.2 a e).2⟩⟩
  | some y =>
    rw [hg] at HF hz
    have hx := get_at hs hg
    obtain ⟨b0, off, eA, hb0, e0, e1⟩ := hfr.at_ hx
    simp only at e0 e1
    subst eA
    have hPn : pos ls a < n := by
      rcases Nat.lt_or_ge (pos ls a) n with h9 | h9
      · exact h9
      · rw [List.getElem?_eq_none (by omega)] at hx; cases hx
    obtain ⟨P, hP⟩ : ∃ P, pos ls a = P := ⟨_, rfl⟩
    rw [hP] at HF e0 e1 hPn
    have E1 := Lib.hid e1
    clear h hbb gb hfr hfls hl hs hP hg hpl hx e0 e1
    go_enter Tryz.func53, Tryz.ntmps53
    go_wp2_with fail
    refine HF.out.mono ?_
    rintro e w1 ⟨rfl, hb1⟩
    have g1 := blk_below hb1 GB.out hlb
    have d0 : w1.cell? ⟨w.heap.size, 0, none⟩ = some (.int .i64 0) := by rw [cell_of_row _ _ _ _ _ _ g1]; rfl
    have d1 : w1.cell? ⟨w.heap.size, 1, none⟩ = some (.string (bs a)) := by rw [cell_of_row _ _ _ _ _ _ g1]; rfl
    have d2 : w1.cell? ⟨w.heap.size, 2, none⟩ = some (.string (bs b)) := by rw [cell_of_row _ _ _ _ _ _ g1]; rfl
    have d3 : w1.cell? ⟨b0, off + P * 2 + 1, none⟩ = some (.string (bs y)) := (hb1.cell (p := ⟨b0, off + P * 2 + 1, none⟩) hb0).trans E1.out
    have hb01 : b0 < w1.heap.size := World.block_lt_of_cell? w1 _ d3
    have p0 : (0 : Int) ≤ (P : Int) := by omega
    have p1 : (P : Int) < (n : Int) := by omega
    have HW := Lib.hid (with_y w1 n c _ ls a (y ++ b) (HFR.out.below hb1) HL.out HS.out hn)
    have HB1 := Lib.hid (HB.out.trans (hb1.mono HB.out.size))
    have hap : ∀ w : World, (Op.stringOp .add (bs y) (bs b)).run Tryz.prog w = .ok (.string (bs (y ++ b))) w := fun w => add_s (a := y) hz w
    clear hb1 g1 HF c0 hb0
    go_wp2_with fail
    refine HW.out.mono ?_
    rintro e w2 ⟨A', c', rfl, hfr, hb2, hat2⟩
    have HR := Lib.hid (And.intro hfr (And.intro hb2 hat2))
    clear hfr hb2 hat2 HW
    go_wp2_with fail
    go_ret
    exact ⟨A', c', rfl, HR.out.1, HB1.out.trans (HR.out.2.1.mono HB1.out.size), fun a e => ⟨Nat.le_trans HB1.out.size (HR.out.2.2 a e).1, (HR.out.2.2 a e).2⟩⟩
end Go.Proofs.YtnjdondkggkfoaaGreat.dk
/-
  The document's disk: done, of whatever change.
-/
namespace Go.Proofs.YtnjdondkggkfoaaGreat.dk
open Go.ChangeShapes Go.WideShapes Go.ChangeAt Go.RowKit Go.Maps Go.Sort Go.Shelf plain words ord mem al

set_option maxHeartbeats 2000000 in
set_option maxRecDepth 100000 in
theorem rem_y (w : World) (n c : Nat) (A : Option Addr) (ls : AL Nm) (a : Nm) (h : Fr w A c ls) (hl : ls.length = n) (hs : Srt ls) (hn : n ≤ 1000000000) :
    Calls Tryz.prog 53 #[.slice A n c, .agg #[.int .i64 2, .string (bs a), .string ⟨#[]⟩]] w (RetD w A (done ls (.rem a))) := by
  show Calls Tryz.prog _ _ w (RetD w A (al.del ls a))
  obtain ⟨wb, hwb⟩ : ∃ wb, w.alloc (.cells #[.int .i64 2, .string (bs a), .string ⟨#[]⟩] 99) = wb := ⟨_, rfl⟩
  have hbb : Below w.heap.size w wb := by rw [← hwb]; exact (Below.refl _ _).alloc (Nat.le_refl _) _
  have gb : wb.heap[w.heap.size]? = some (.cells #[.int .i64 2, .string (bs a), .string ⟨#[]⟩] 99 (0, 0)) := by rw [← hwb]; exact alloc_new _ _
  have hlb : w.heap.size < wb.heap.size := blk_lt gb
  have c0 : wb.cell? ⟨w.heap.size, 1, none⟩ = some (.string (bs a)) := by rw [cell_of_row _ _ _ _ _ _ gb]; rfl
  have hfr := h.below hbb
  have hfls := hfr.ls
  rw [hl] at hfls
  have HF := Lib.hid (find_y wb wb.heap.size n c A ls a hfls (Nat.le_refl _) hs (by omega))
  have HFR := Lib.hid hfr
  have HB := Lib.hid hbb
  have GB := Lib.hid gb
  have HL := Lib.hid hl
  have hps := fun hg => pos_some hs (q := a) hg
  have HDP := Lib.hid (fun hg => del_pos hs (q := a) hg)
  have HDA := Lib.hid (fun hg => @del_absent _ ls a hg)
  cases hg : al.get ls a with
  | none =>
    have hd := HDA.out hg
    rw [hd]
    rw [hg] at HF
    obtain ⟨P, hP⟩ : ∃ P, pos ls a = P := ⟨_, rfl⟩
    rw [hP] at HF
    clear h hbb gb hfr hfls hl hs hP hg hps HDP HDA hd
    go_enter Tryz.func53, Tryz.ntmps53
    go_wp2_with fail
    refine HF.out.mono ?_
    rintro e w1 ⟨rfl, hb1⟩
    have g1 := blk_below hb1 GB.out hlb
    have d0 : w1.cell? ⟨w.heap.size, 0, none⟩ = some (.int .i64 2) := by rw [cell_of_row _ _ _ _ _ _ g1]; rfl
    have FR1 := Lib.hid (HFR.out.below hb1)
    have HB1 := Lib.hid (HB.out.trans (hb1.mono HB.out.size))
    clear hb1 g1 HF c0
    go_wp2_with fail
    go_ret
    exact ⟨A, c, by rw [HL.out]; rfl, FR1.out, HB1.out, .inl rfl⟩
  | some y =>
    have hgs : (al.get ls a).isSome = true := by rw [hg]; rfl
    have hd := HDP.out hgs
    have hPn := hps hgs
    rw [hd]
    rw [hg] at HF
    rw [hl] at hPn
    obtain ⟨P, hP⟩ : ∃ P, pos ls a = P := ⟨_, rfl⟩
    rw [hP] at HF hPn ⊢
    obtain ⟨l', hl'⟩ : ∃ l', ls.take P ++ ls.drop (P + 1) = l' := ⟨_, rfl⟩
    rw [hl']
    have HLE := Lib.hid hl'
    clear h hbb gb hfr hfls hl hs hP hg hps HDP HDA hd hgs hl'
    go_enter Tryz.func53, Tryz.ntmps53
    go_wp2_with fail
    refine HF.out.mono ?_
    rintro e w1 ⟨rfl, hb1⟩
    have g1 := blk_below hb1 GB.out hlb
    have d0 : w1.cell? ⟨w.heap.size, 0, none⟩ = some (.int .i64 2) := by rw [cell_of_row _ _ _ _ _ _ g1]; rfl
    have HW := Lib.hid (without_y w1 n c A ls P (HFR.out.below hb1) hPn HL.out hn)
    rw [HLE.out] at HW
    have HB1 := Lib.hid (HB.out.trans (hb1.mono HB.out.size))
    clear hb1 g1 HF c0
    go_wp2_with fail
    refine HW.out.mono ?_
    rintro e w2 ⟨A', c', rfl, hfr, hb2, hat2⟩
    have HR := Lib.hid (And.intro hfr (And.intro hb2 hat2))
    clear hfr hb2 hat2 HW
    go_wp2_with fail
    go_ret
    exact ⟨A', c', rfl, HR.out.1, HB1.out.trans (HR.out.2.1.mono HB1.out.size), .inr fun a e => ⟨Nat.le_trans HB1.out.size (HR.out.2.2 a e).1, (HR.out.2.2 a e).2⟩⟩
set_option maxHeartbeats 2000000 in
set_option maxRecDepth 100000 in
theorem ren_y (w : World) (n c : Nat) (A : Option Addr) (ls : AL Nm) (a b : Nm) (h : Fr w A c ls) (hl : ls.length = n) (hs : Srt ls) (hn : n ≤ 1000000000) :
    Calls Tryz.prog 53 #[.slice A n c, .agg #[.int .i64 1, .string (bs a), .string (bs b)]] w (RetD w A (done ls (.ren a b))) := by
  show Calls Tryz.prog _ _ w (RetD w A (mv ls a b))
  obtain ⟨wb, hwb⟩ : ∃ wb, w.alloc (.cells #[.int .i64 1, .string (bs a), .string (bs b)] 99) = wb := ⟨_, rfl⟩
  have hbb : Below w.heap.size w wb := by rw [← hwb]; exact (Below.refl _ _).alloc (Nat.le_refl _) _
  have gb : wb.heap[w.heap.size]? = some (.cells #[.int .i64 1, .string (bs a), .string (bs b)] 99 (0, 0)) := by rw [← hwb]; exact alloc_new _ _
  have hlb : w.heap.size < wb.heap.size := blk_lt gb
  have c0 : wb.cell? ⟨w.heap.size, 1, none⟩ = some (.string (bs a)) := by rw [cell_of_row _ _ _ _ _ _ gb]; rfl
  have hfr := h.below hbb
  have hfls := hfr.ls
  rw [hl] at hfls
  have HF := Lib.hid (find_y wb wb.heap.size n c A ls a hfls (Nat.le_refl _) hs (by omega))
  have HFR := Lib.hid hfr
  have HB := Lib.hid hbb
  have GB := Lib.hid gb
  have HL := Lib.hid hl
  have HS := Lib.hid hs
  have hps := fun hg => pos_some hs (q := a) hg
  have HDP := Lib.hid (fun hg => del_pos hs (q := a) hg)
  have hed := eq_dec a b
  cases hg : al.get ls a with
  | none =>
    have hd : mv ls a b = ls := by unfold mv; split; rfl; rw [hg]
    rw [hd]
    rw [hg] at HF
    obtain ⟨P, hP⟩ : ∃ P, pos ls a = P := ⟨_, rfl⟩
    rw [hP] at HF
    clear h hbb gb hfr hfls hl hs hP hg hps HDP hd hed
    go_enter Tryz.func53, Tryz.ntmps53
    go_wp2_with fail
    refine HF.out.mono ?_
    rintro e w1 ⟨rfl, hb1⟩
    have g1 := blk_below hb1 GB.out hlb
    have d0 : w1.cell? ⟨w.heap.size, 0, none⟩ = some (.int .i64 1) := by rw [cell_of_row _ _ _ _ _ _ g1]; rfl
    have FR1 := Lib.hid (HFR.out.below hb1)
    have HB1 := Lib.hid (HB.out.trans (hb1.mono HB.out.size))
    clear hb1 g1 HF c0
    go_wp2_with fail
    go_ret
    exact ⟨A, c, by rw [HL.out]; rfl, FR1.out, HB1.out, .inl rfl⟩
  | some y =>
    by_cases hab : a = b
    · have hd : mv ls a b = ls := by unfold mv; rw [if_pos hab]
      rw [hd]
      rw [hg] at HF
      rw [decide_eq_true hab] at hed
      obtain ⟨P, hP⟩ : ∃ P, pos ls a = P := ⟨_, rfl⟩
      rw [hP] at HF
      clear h hbb gb hfr hfls hl hs hP hg hps HDP hd hab
      go_enter Tryz.func53, Tryz.ntmps53
      go_wp2_with fail
      refine HF.out.mono ?_
      rintro e w1 ⟨rfl, hb1⟩
      have g1 := blk_below hb1 GB.out hlb
      have d0 : w1.cell? ⟨w.heap.size, 0, none⟩ = some (.int .i64 1) := by rw [cell_of_row _ _ _ _ _ _ g1]; rfl
      have d1 : w1.cell? ⟨w.heap.size, 1, none⟩ = some (.string (bs a)) := by rw [cell_of_row _ _ _ _ _ _ g1]; rfl
      have d2 : w1.cell? ⟨w.heap.size, 2, none⟩ = some (.string (bs b)) := by rw [cell_of_row _ _ _ _ _ _ g1]; rfl
      have FR1 := Lib.hid (HFR.out.below hb1)
      have HB1 := Lib.hid (HB.out.trans (hb1.mono HB.out.size))
      clear hb1 g1 HF c0
      go_wp2_with fail
      go_ret
      exact ⟨A, c, by rw [HL.out]; rfl, FR1.out, HB1.out, .inl rfl⟩
    · have hgs : (al.get ls a).isSome = true := by rw [hg]; rfl
      have hmv : mv ls a b = al.put (al.del ls a) b y := by unfold mv; rw [if_neg hab, hg]
      have hd := HDP.out hgs
      have hPn := hps hgs
      have hsd : Srt (al.del ls a) := srt_del hs _
      have hx := get_at hs hg
      obtain ⟨b0, off, eA, hb0, e0, e1⟩ := hfr.at_ hx
      simp only at e0 e1
      subst eA
      rw [hd] at hmv hsd
      rw [hmv]
      rw [hg] at HF
      rw [hl] at hPn
      rw [decide_eq_false hab] at hed
      obtain ⟨P, hP⟩ : ∃ P, pos ls a = P := ⟨_, rfl⟩
      rw [hP] at HF hPn hsd e0 e1 ⊢
      obtain ⟨l', hl'⟩ : ∃ l', ls.take P ++ ls.drop (P + 1) = l' := ⟨_, rfl⟩
      rw [hl'] at hsd ⊢
      have hln : l'.length ≤ 1000000000 := by rw [← hl', List.length_append, List.length_take, List.length_drop]; omega
      obtain ⟨n', hn'⟩ : ∃ n', l'.length = n' := ⟨_, rfl⟩
      rw [hn'] at hln
      have HLE := Lib.hid (And.intro hl' hn')
      have E1 := Lib.hid e1
      have SD := Lib.hid hsd
      clear h hbb gb hfr hfls hl hs hP hg hps HDP hd hab hmv hgs hsd hx e0 e1 hl' hn'
      go_enter Tryz.func53, Tryz.ntmps53
      go_wp2_with fail
      refine HF.out.mono ?_
      rintro e w1 ⟨rfl, hb1⟩
      have g1 := blk_below hb1 GB.out hlb
      have d0 : w1.cell? ⟨w.heap.size, 0, none⟩ = some (.int .i64 1) := by rw [cell_of_row _ _ _ _ _ _ g1]; rfl
      have d1 : w1.cell? ⟨w.heap.size, 1, none⟩ = some (.string (bs a)) := by rw [cell_of_row _ _ _ _ _ _ g1]; rfl
      have d2 : w1.cell? ⟨w.heap.size, 2, none⟩ = some (.string (bs b)) := by rw [cell_of_row _ _ _ _ _ _ g1]; rfl
      have d3 : w1.cell? ⟨b0, off + P * 2 + 1, none⟩ = some (.string (bs y)) := (hb1.cell (p := ⟨b0, off + P * 2 + 1, none⟩) hb0).trans E1.out
      have hb01 : b0 < w1.heap.size := World.block_lt_of_cell? w1 _ d3
      have lw1 : w.heap.size < w1.heap.size := blk_lt g1
      have p0 : (0 : Int) ≤ (P : Int) := by omega
      have p1 : (P : Int) < (n : Int) := by omega
      have HB1 := Lib.hid (HB.out.trans (hb1.mono HB.out.size))
      have HWO := Lib.hid (without_y w1.drew n c _ ls P ((HFR.out.below hb1).below (Below.refl _ _).drew) hPn HL.out hn)
      have G1 := Lib.hid g1
      rw [HLE.out.1] at HWO
      unfold RetF at HWO
      rw [HLE.out.2] at HWO
      have z2 := Wb.at_ d2
      clear hb1 g1 HF c0 hb0
      go_wp2_with fail
      refine wp_region_plan [([0, 1, 3, 4, 5, 6], some (2, false)), ([], some (7, false)), ([8], none)] (by kernel_rfl) (by kernel_rfl) ?_
      refine seg_act _ (by dsimp only [pick, at_]) _ (by dsimp only [pick, at_]) ?_
      repeat (go_big_quiet_step (fail))
      refine wpQuiet_nil ?_
      intro K1 h1 h2
      clear h1 z2
      go_wp2_with (fail)
      refine HWO.out.mono ?_
      rintro e w2 ⟨A', c', rfl, hfr2, hb2, _⟩
      have HW2 := Lib.hid (with_y w2 n' c' A' l' b y hfr2 HLE.out.2 SD.out hln)
      have b12 : Below w1.heap.size w1 w2 := ((Below.refl _ w1).drew).trans hb2
      have HB2 := Lib.hid (HB1.out.trans (b12.mono HB1.out.size))
      clear hfr2 hb2 HWO
      go_wp2_with (fail)
      refine h2 _ _ b12 ?_
      clear h2 b12
      refine seg_act _ (by dsimp only [pick, at_]) _ (by dsimp only [pick, at_]) ?_
      repeat (go_big_quiet_step (fail))
      refine wpQuiet_nil ?_
      intro K3 h1 h2
      clear h1
      go_wp2_with (fail)
      refine HW2.out.mono ?_
      rintro e w3 ⟨A3, c3, rfl, hfr3, hb3, hat3⟩
      have HR := Lib.hid (And.intro hfr3 (And.intro (HB2.out.trans (hb3.mono HB2.out.size)) (fun a (e : A3 = some a) => And.intro (Nat.le_trans HB2.out.size (hat3 a e).1) (hat3 a e).2)))
      clear hat3
      clear HW2 hfr3
      go_wp2_with (fail)
      refine h2 _ _ hb3 ?_
      clear h2 hb3
      refine seg_end _ (by dsimp only [pick, at_]) ?_
      repeat (go_big_quiet_step (fail))
      refine wpQuiet_nil (NoPanic.normal ?_)
      go_wp2_with fail
      go_ret
      exact ⟨A3, c3, rfl, HR.out.1, HR.out.2.1, .inr HR.out.2.2⟩
end Go.Proofs.YtnjdondkggkfoaaGreat.dk
