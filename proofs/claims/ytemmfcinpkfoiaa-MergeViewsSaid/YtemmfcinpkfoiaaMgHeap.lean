/-
  The heap of lists: its memory, its methods.
-/
import Derived.Test.YtemmfcinpkfoiaaMgView
import Derived.Test.YtemmfcinpkfoiaaRow
import Derived.Handy
namespace Go.Proofs.Ytemmfcinpkfoiaa.mem
open Go.ChangeShapes Go.WideShapes Go.ChangeAt Go.RowKit Go.Shelf plain words ord mem rg

/-- elements in a row that a slice shows from its head on -/
def Rw {α : Type} (E : El α) (w : World) (v : Value) (n : Nat) (l : List α) : Prop := l.length = n ∧ Row w E.e E.k v n (cs E.enc l)
section
variable {α : Type} {E : El α} {w w' : World} {B n g cap i : Nat} {A : Option Addr} {v : Value} {l : List α}
theorem Rw.of_ow (h : Ow E w B v n l) : Rw E w v n l := ⟨h.1, Row.of_own h.2⟩
theorem Rw.nil (w : World) : Rw E w (.slice none 0 0) 0 [] := ⟨rfl, Row.nil _ _ _⟩
theorem Rw.lt (h : Rw E w v n l) (hg : v.ownBlock = some g) : g < w.heap.size := h.2.lt hg
theorem Rw.type (h : Rw E w v n l) (hg : v.ownBlock = some g) : ∃ cur, w.heap[g]? = some (.cells cur E.e (0, 0)) := h.2.type hg
theorem Rw.chg {S : Nat → Prop} (h : Rw E w v n l) (hc : Chg S w w') (hS : ∀ g, v.ownBlock = some g → ¬ S g) : Rw E w' v n l := ⟨h.1, h.2.chg hc hS⟩
theorem Rw.form (h : Rw E w v n l) : ∃ A c, v = .slice A n c ∧ n ≤ c ∧ c ≤ 9223372036854775807 ∧ (A = none → c = 0) := h.2.form
theorem Rw.pos (h : Rw E w v n l) (hn : 0 < n) : ∃ g cap, v = .slice (some ⟨g, 0, none⟩) n cap ∧ g < w.heap.size ∧ n ≤ cap ∧ cap ≤ 9223372036854775807 := h.2.pos hn
theorem Rw.ls (h : Rw E w (.slice A n cap) n l) : Ls E w w.heap.size A n l := ⟨h.1, h.2.rd A cap rfl⟩
theorem Rw.cut (h : Rw E w (.slice (some ⟨g, 0, none⟩) n cap) n l) (hi : i ≤ n) (hc : i ≤ cap) : Rw E w (.slice (some ⟨g, 0, none⟩) i cap) i (l.take i) := by
  refine ⟨by rw [List.length_take, h.1]; omega, ?_⟩
  have := h.2.cut i cap hi hc (Nat.le_refl _)
  rwa [cs_take E.len] at this
theorem Row.set {e : TypeId} {size j : Nat} {xs : List Value} (h : Row w e size (.slice (some ⟨g, 0, none⟩) n cap) n xs) (u : Value) : Row (w.setCell ⟨g, j, none⟩ u) e size (.slice (some ⟨g, 0, none⟩) n cap) n (xs.set j u) := by
  refine ⟨by rw [List.length_set]; exact h.1, ?_⟩
  rcases h.2 with ⟨h0, _⟩ | ⟨g', cap', cur, h0, hb, h1, h2, h3, h4⟩
  · cases h0
  · cases h0
    refine .inr ⟨g, cap, cur.setIfInBounds j u, rfl, ?_, h1, h2, by simpa using h3, ?_⟩
    · exact heap_setCell_same _ _ _ _ _ _ hb
    · rw [Array.toList_setIfInBounds, List.take_set, h4]
end
end Go.Proofs.Ytemmfcinpkfoiaa.mem
namespace Go.Proofs.Ytemmfcinpkfoiaa.mg
open Go.ChangeShapes Go.WideShapes Go.ChangeAt Go.RowKit Go.Shelf plain words ord mem rg

/-- a list that is a head: where it lies, its points -/
structure It where
  A : Option Addr
  c : Nat
  l : List Pt
instance : Inhabited It := ⟨⟨none, 0, []⟩⟩
def It.val (x : It) : Value := .slice x.A x.l.length x.c
def It.key (x : It) : Int := (x.l.headD (0, 0, 0)).1
def itE (x : It) : List Value := [x.val]
def HE : El It := ⟨itE, 1, 27, fun _ => rfl, fun x v hv => by simp [itE] at hv; subst hv; rfl, by decide⟩
theorem infoH : (Try.prog.info? 27).map (fun i => (i.zero, i.size, i.bytes)) = some (some (.slice none 0 0), 1, 24) := by kernel_rfl
/-- an item that may be a head -/
structure ItOk (w : World) (H : Nat) (x : It) : Prop where
  ls : Ls PE w H x.A x.l.length x.l
  ne : x.l ≠ []
  cap : x.l.length ≤ x.c
  most : x.c ≤ 9223372036854775807
theorem ItOk.below {w w' : World} {H C : Nat} {x : It} (h : ItOk w H x) (hb : Below C w w') (hC : H ≤ C) : ItOk w' H x := ⟨h.ls.below hb hC, h.ne, h.cap, h.most⟩
/-- the heads at block p, all behind H -/
structure Hd (w : World) (H p : Nat) (v : Value) (its : List It) : Prop where
  at_ : w.heap[p]? = some (.cells #[v] 55 (0, 0))
  lo : H ≤ p
  row : Rw HE w v its.length its
  own : ∀ g, v.ownBlock = some g → H ≤ g
  ok : ∀ x ∈ its, ItOk w H x
theorem Hd.lt {w : World} {H p : Nat} {v : Value} {its : List It} (h : Hd w H p v its) : p < w.heap.size := blk_lt h.at_
theorem Hd.ne {w : World} {H p : Nat} {v : Value} {its : List It} (h : Hd w H p v its) {g : Nat} (hg : v.ownBlock = some g) : p ≠ g := by
  obtain ⟨cur, hc⟩ := h.row.type hg
  exact blk_type h.at_ hc (by decide)
theorem Hd.cell {w : World} {H p : Nat} {v : Value} {its : List It} (h : Hd w H p v its) : w.cell? ⟨p, 0, none⟩ = some v := by rw [cell_of_row _ _ _ _ _ _ h.at_]; rfl
theorem Hd.chg {S : Nat → Prop} {w w' : World} {H p : Nat} {v : Value} {its : List It} (h : Hd w H p v its) (hc : Chg S w w') (hp : ¬ S p) (hg : ∀ g, v.ownBlock = some g → ¬ S g) (hS : ∀ k, S k → H ≤ k) : Hd w' H p v its :=
  ⟨hc.blk h.at_ hp, h.lo, h.row.chg hc hg, h.own, fun x hx => (h.ok x hx).below (hc.below (Nat.le_of_lt (Nat.lt_of_le_of_lt h.lo h.lt)) hS) (Nat.le_refl _)⟩
theorem Hd.quiet {w w' : World} {H p : Nat} {v : Value} {its : List It} (h : Hd w H p v its) (hc : Chg (fun _ => False) w w') : Hd w' H p v its :=
  h.chg hc (fun e => e) (fun _ _ e => e) (fun _ e => e.elim)
/-- where a head lies, and its first point -/
theorem Hd.get {w : World} {H p i : Nat} {v : Value} {its : List It} {x : It} (h : Hd w H p v its) (hx : its[i]? = some x) :
    ∃ g c b off q t, v = .slice (some ⟨g, 0, none⟩) its.length c ∧ g < w.heap.size ∧ its.length ≤ c ∧ c ≤ 9223372036854775807 ∧ w.cell? ⟨g, i, none⟩ = some (.slice (some ⟨b, off, none⟩) x.l.length x.c) ∧ x.l = q :: t ∧ x.A = some ⟨b, off, none⟩ ∧ x.l.length ≤ x.c ∧ x.c ≤ 9223372036854775807 ∧
      w.cell? ⟨b, off, none⟩ = some (.int .i64 q.1) ∧ w.cell? ⟨b, off + 1, none⟩ = some (.int .u64 q.2.1) ∧ w.cell? ⟨b, off + 2, none⟩ = some (.int .u64 q.2.2) ∧ b < H := by
  have hi : i < its.length := by
    rcases Nat.lt_or_ge i its.length with h | h
    · exact h
    · rw [List.getElem?_eq_none h] at hx; cases hx
  obtain ⟨g, c, hv, hg2, hc1, hc2⟩ := h.row.pos (by omega)
  have ho := h.ok x (List.mem_of_getElem? hx)
  obtain ⟨q, t, hl⟩ : ∃ q t, x.l = q :: t := by
    cases hxl : x.l with
    | nil => exact absurd hxl ho.ne
    | cons q t => exact ⟨q, t, rfl⟩
  obtain ⟨b, off, hA, hb, p0, p1, p2⟩ := Ls.pt ho.ls (i := 0) (x := q) (by rw [hl]; rfl)
  have hrow := h.row
  subst hv
  obtain ⟨b2, off2, e2, _, hc⟩ := hrow.ls.at_ hx
  cases e2
  have hc0 := hc 0 (by decide)
  simp only [HE, Nat.mul_one, Nat.add_zero, Nat.zero_add] at hc0
  refine ⟨g, c, b, off, q, t, rfl, hg2, hc1, hc2, ?_, hl, hA, ho.cap, ho.most, by simpa using p0, by simpa using p1, by simpa using p2, hb⟩
  rw [hc0]
  simp [itE, It.val, hA]
abbrev hp (p : Nat) : Value := .pointer (some ⟨p, 0, none⟩)
theorem inv_len0 (w : World) (a : Addr) : Sem.run Try.prog (method 232 67 (.pointer (some a)) "Len") w = Sem.run Try.prog (do let x ← load a; pure (118, x)) w := by kernel_rfl
theorem inv_len (w : World) (a : Addr) (v : Value) (h : w.cell? a = some v) : Sem.run Try.prog (method 232 67 (.pointer (some a)) "Len") w = .ok (118, v) w := by
  rw [inv_len0]; simp [h]
theorem inv_less0 (w : World) (a : Addr) : Sem.run Try.prog (method 232 67 (.pointer (some a)) "Less") w = Sem.run Try.prog (do let x ← load a; pure (119, x)) w := by kernel_rfl
theorem inv_less (w : World) (a : Addr) (v : Value) (h : w.cell? a = some v) : Sem.run Try.prog (method 232 67 (.pointer (some a)) "Less") w = .ok (119, v) w := by
  rw [inv_less0]; simp [h]
theorem inv_swap0 (w : World) (a : Addr) : Sem.run Try.prog (method 232 67 (.pointer (some a)) "Swap") w = Sem.run Try.prog (do let x ← load a; pure (120, x)) w := by kernel_rfl
theorem inv_swap (w : World) (a : Addr) (v : Value) (h : w.cell? a = some v) : Sem.run Try.prog (method 232 67 (.pointer (some a)) "Swap") w = .ok (120, v) w := by
  rw [inv_swap0]; simp [h]
theorem inv_pop (w : World) (a : Addr) : Sem.run Try.prog (method 232 67 (.pointer (some a)) "Pop") w = .ok (121, .pointer (some a)) w := by kernel_rfl
theorem inv_push (w : World) (a : Addr) : Sem.run Try.prog (method 232 67 (.pointer (some a)) "Push") w = .ok (122, .pointer (some a)) w := by kernel_rfl

theorem len_m (w : World) (H p : Nat) (v : Value) (its : List It) (h : Hd w H p v its) :
    Calls Try.prog 118 #[v] w fun e w' => e = .returned (.int .i64 its.length) ∧ w = w' := by
  obtain ⟨A, c, rfl, hc1, hc2, hA⟩ := h.row.form
  go_enter Try.func118, Try.ntmps118
  go_wp2_with fail
  go_ret
  exact ⟨rfl, rfl⟩
set_option maxRecDepth 100000 in
theorem less_m (w : World) (H p : Nat) (v : Value) (its : List It) (h : Hd w H p v its) (i j : Nat) (x y : It) (hi : its[i]? = some x) (hj : its[j]? = some y) :
    Calls Try.prog 119 #[v, .int .i64 i, .int .i64 j] w fun e w' => e = .returned (.bool (decide (x.key < y.key))) ∧ Chg (fun _ => False) w w' := by
  have hil : i < its.length := by
    rcases Nat.lt_or_ge i its.length with h | h
    · exact h
    · rw [List.getElem?_eq_none h] at hi; cases hi
  have hjl : j < its.length := by
    rcases Nat.lt_or_ge j its.length with h | h
    · exact h
    · rw [List.getElem?_eq_none h] at hj; cases hj
  obtain ⟨g, c, b1, o1, q1, t1, hv, hg, hc1, hc2, c1, hl1, hA1, hx1, hx2, p1, _, _, hb1⟩ := h.get hi
  obtain ⟨g', c', b2, o2, q2, t2, hv', _, _, _, c2, hl2, hA2, hy1, hy2, p2, _, _, hb2⟩ := h.get hj
  subst hv
  cases hv'
  have hk1 : x.key = q1.1 := by simp [It.key, hl1]
  have hk2 : y.key = q2.1 := by simp [It.key, hl2]
  rw [hk1, hk2]
  obtain ⟨n, hn⟩ : ∃ n, its.length = n := ⟨_, rfl⟩
  obtain ⟨n1, hn1⟩ : ∃ n, x.l.length = n + 1 := ⟨t1.length, by rw [hl1]; rfl⟩
  obtain ⟨n2, hn2⟩ : ∃ n, y.l.length = n + 1 := ⟨t2.length, by rw [hl2]; rfl⟩
  rw [hn1] at c1 hx1
  rw [hn2] at c2 hy1
  rw [hn] at hil hjl hc1 ⊢
  have i0 : (0 : Int) ≤ (i : Int) := by omega
  have i1 : (i : Int) < (n : Int) := by omega
  have j0 : (0 : Int) ≤ (j : Int) := by omega
  have j1 : (j : Int) < (n : Int) := by omega
  have m1 : (0 : Int) < ((n1 + 1 : Nat) : Int) := by omega
  have m2 : (0 : Int) < ((n2 + 1 : Nat) : Int) := by omega
  have hb1' : b1 < w.heap.size := World.block_lt_of_cell? w _ p1
  have hb2' : b2 < w.heap.size := World.block_lt_of_cell? w _ p2
  have a1 := Wb.at_ c1
  have a2 := Wb.at_ c2
  have a3 := Wb.at_ p1
  have a4 := Wb.at_ p2
  clear h hi hj c1 c2 p1 p2 hl1 hl2 hA1 hA2 hn hn1 hn2 hk1 hk2
  go_enter Try.func119, Try.ntmps119
  go_wp2_with fail
  refine wp_region_plan [([0, 1, 2, 3, 4, 5, 6, 7, 8, 9, 10, 11, 12, 13, 14, 15], none)] (by kernel_rfl) (by kernel_rfl) ?_
  refine seg_end _ (by dsimp only [pick, at_]) ?_
  repeat (go_big_quiet_step (fail))
  refine wpQuiet_nil ?_
  refine NoPanic.normal ?_
  go_wp2_with fail
  go_ret
  exact ⟨rfl, (Chg.refl _ _).drew⟩
theorem cs_seth (l : List It) (i : Nat) (x : It) : cs HE.enc (l.set i x) = (cs HE.enc l).set i x.val := by
  induction l generalizing i with
  | nil => simp [cs]
  | cons y l ih =>
    cases i with
    | zero => simp [cs, HE, itE]
    | succ i =>
      have := ih i
      simp only [cs, HE] at this
      simp [cs, HE, itE, this]
theorem ow_seth {w : World} {g n cap i : Nat} {l : List It} (h : Rw HE w (.slice (some ⟨g, 0, none⟩) n cap) n l) (x : It) :
    Rw HE (w.setCell ⟨g, i, none⟩ x.val) (.slice (some ⟨g, 0, none⟩) n cap) n (l.set i x) :=
  ⟨by rw [List.length_set]; exact h.1, by rw [cs_seth]; exact Row.set h.2 _⟩
/-- a head put into the row -/
theorem Hd.set {w : World} {H p g c : Nat} {its : List It} (h : Hd w H p (.slice (some ⟨g, 0, none⟩) its.length c) its) (i : Nat) (x : It) (hx : ItOk w H x) :
    Hd (w.setCell ⟨g, i, none⟩ x.val) H p (.slice (some ⟨g, 0, none⟩) its.length c) (its.set i x) := by
  have hne := h.ne (g := g) rfl
  have hge := h.own g rfl
  have hch : Chg (fun b => b = g) w (w.setCell ⟨g, i, none⟩ x.val) := (Chg.refl (fun b => b = g) w).setCell (p := ⟨g, i, none⟩) (fun _ => rfl) _
  have hb : Below H w (w.setCell ⟨g, i, none⟩ x.val) := hch.below (Nat.le_of_lt (Nat.lt_of_le_of_lt h.lo h.lt)) (fun k e => by subst e; exact hge)
  refine ⟨hch.blk h.at_ hne, h.lo, ?_, h.own, fun y hy => ?_⟩
  · rw [List.length_set]; exact ow_seth h.row x
  · rcases List.mem_or_eq_of_mem_set hy with hy | rfl
    · exact (h.ok y hy).below hb (Nat.le_refl _)
    · exact hx.below hb (Nat.le_refl _)
/-- what a call on the heads may change, and where their row lies then -/
structure HdTo (p : Nat) (w : World) (v : Value) (w' : World) (v' : Value) : Prop where
  chg : Chg (fun b => b = p ∨ v.ownBlock = some b) w w'
  row : ∀ g, v'.ownBlock = some g → v.ownBlock = some g ∨ w.heap.size ≤ g
theorem HdTo.trans {p : Nat} {w w1 w2 : World} {v v1 v2 : Value} (h : HdTo p w v w1 v1) (k : HdTo p w1 v1 w2 v2) : HdTo p w v w2 v2 := by
  have hs := h.chg.size
  refine ⟨h.chg.trans k.chg fun i hi e => ?_, fun g hg => ?_⟩
  · rcases e with e | e
    · exact .inl e
    · rcases h.row i e with e | e
      · exact .inr e
      · omega
  · rcases k.row g hg with e | e
    · exact h.row g e
    · exact .inr (by omega)
theorem HdTo.quiet {p : Nat} {w w' : World} (v : Value) (h : Chg (fun _ => False) w w') : HdTo p w v w' v := ⟨h.mono fun _ _ e => e.elim, fun _ h => .inl h⟩
theorem HdTo.below {H p : Nat} {w w' : World} {v v' : Value} {its : List It} (h : HdTo p w v w' v') (k : Hd w H p v its) : Below H w w' :=
  h.chg.below (Nat.le_of_lt (Nat.lt_of_le_of_lt k.lo k.lt)) fun b e => by
    rcases e with rfl | e
    · exact k.lo
    · exact k.own b e
def RetHd (w : World) (H p : Nat) (v : Value) (its : List It) (r : Value) (e : Ending) (w' : World) : Prop :=
  ∃ v', e = .returned r ∧ Hd w' H p v' its ∧ HdTo p w v w' v'
set_option maxRecDepth 100000 in
theorem swap_m (w : World) (H p : Nat) (v : Value) (its : List It) (h : Hd w H p v its) (i j : Nat) (x y : It) (hi : its[i]? = some x) (hj : its[j]? = some y) :
    Calls Try.prog 120 #[v, .int .i64 i, .int .i64 j] w (RetHd w H p v ((its.set i y).set j x) (.tuple #[])) := by
  have hil : i < its.length := by
    rcases Nat.lt_or_ge i its.length with h | h
    · exact h
    · rw [List.getElem?_eq_none h] at hi; cases hi
  have hjl : j < its.length := by
    rcases Nat.lt_or_ge j its.length with h | h
    · exact h
    · rw [List.getElem?_eq_none h] at hj; cases hj
  obtain ⟨g, c, b1, o1, q1, t1, hv, hg, hc1, hc2, c1, hl1, hA1, hx1, hx2, p1, _, _, hb1⟩ := h.get hi
  obtain ⟨g', c', b2, o2, q2, t2, hv', _, _, _, c2, hl2, hA2, hy1, hy2, p2, _, _, hb2⟩ := h.get hj
  subst hv
  cases hv'
  have hokx := h.ok x (List.mem_of_getElem? hi)
  have hoky := h.ok y (List.mem_of_getElem? hj)
  have h1 := h.set i y hoky
  have hch1 : Chg (fun b => b = g) w (w.setCell ⟨g, i, none⟩ y.val) := (Chg.refl (fun b => b = g) w).setCell (p := ⟨g, i, none⟩) (fun _ => rfl) _
  have hge := h.own g rfl
  have hb1 : Below H w (w.setCell ⟨g, i, none⟩ y.val) := hch1.below (Nat.le_of_lt (Nat.lt_of_le_of_lt h.lo h.lt)) (fun k e => by subst e; exact hge)
  have hlen : (its.set i y).length = its.length := List.length_set
  rw [← hlen] at h1
  have h2 := h1.set j x (hokx.below hb1 (Nat.le_refl _))
  have fz2 : (w.setCell ⟨g, i, none⟩ y.val).frozen? ⟨g, j, none⟩ = false := by
    obtain ⟨cur, hc⟩ := h1.row.type (g := g) rfl
    exact frozen_of_row _ _ _ _ _ hc
  have hch2 : Chg (fun b => b = g) w ((w.setCell ⟨g, i, none⟩ y.val).setCell ⟨g, j, none⟩ x.val) := hch1.setCell (p := ⟨g, j, none⟩) (fun _ => rfl) _
  rw [hlen] at h2
  have hyv : Value.slice (some ⟨b2, o2, none⟩) y.l.length y.c = y.val := by simp [It.val, hA2]
  have hxv : Value.slice (some ⟨b1, o1, none⟩) x.l.length x.c = x.val := by simp [It.val, hA1]
  rw [← hyv, ← hxv] at h2 hch2
  rw [← hyv] at fz2
  obtain ⟨u2, c2'⟩ := cell?_setCell_some (p := ⟨g, i, none⟩) (x := Value.slice (some ⟨b2, o2, none⟩) y.l.length y.c) c2
  have HP := Lib.hid (And.intro h2 hch2)
  obtain ⟨n, hn⟩ : ∃ n, its.length = n := ⟨_, rfl⟩
  rw [hn] at hil hjl hc1
  have i0 : (0 : Int) ≤ (i : Int) := by omega
  have i1 : (i : Int) < (n : Int) := by omega
  have j0 : (0 : Int) ≤ (j : Int) := by omega
  have j1 : (j : Int) < (n : Int) := by omega
  have a1 := Wb.at_ c1
  have a2 := Wb.at_ c2
  have a3 := Wb.at_ c2'
  have fz : w.frozen? ⟨g, i, none⟩ = false := by
    obtain ⟨cur, hc⟩ := h.row.type (g := g) rfl
    exact frozen_of_row _ _ _ _ _ hc
  clear h h1 h2 hch1 hch2 hi hj p1 p2 hl1 hl2 hA1 hA2 hlen hxv hyv hokx hoky hb1
  rw [hn]
  go_enter Try.func120, Try.ntmps120
  go_wp2_with fail
  refine wp_region_plan [([0, 1, 2, 3, 4, 5, 6, 7, 8, 9, 10, 11, 12], some (13, true)), ([14], some (15, true)), ([], none)] (by kernel_rfl) (by kernel_rfl) ?_
  refine seg_write _ (by dsimp only [pick, at_]) _ (by dsimp only [pick, at_]) ?_
  repeat (go_big_quiet_step (fail))
  refine wpQuiet_nil ?_
  intro K3 h3
  go_wp2_with (fail)
  refine seg_write _ (by dsimp only [pick, at_]) _ (by dsimp only [pick, at_]) ?_
  repeat (go_big_quiet_step (fail))
  refine wpQuiet_nil ?_
  intro K4 h4
  go_wp2_with (fail)
  refine seg_end _ (by dsimp only [pick, at_]) ?_
  refine wpQuiet_nil (NoPanic.normal ?_)
  go_wp2_with (fail)
  go_returns
  refine ⟨_, rfl, ?_, ⟨HP.out.2.drew.mono (fun b _ e => .inr (by subst e; rfl)), fun _ h => .inl h⟩⟩
  rw [← hn]
  exact HP.out.1.quiet (Chg.refl _ _).drew
set_option maxRecDepth 100000 in
theorem pop_m (w : World) (H p : Nat) (v : Value) (its : List It) (x : It) (h : Hd w H p v (its ++ [x])) :
    Calls Try.prog 121 #[hp p] w (RetHd w H p v its (.iface 27 x.val)) := by
  obtain ⟨n, hn⟩ : ∃ n, its.length = n := ⟨_, rfl⟩
  have hx : (its ++ [x])[n]? = some x := by simp [← hn]
  obtain ⟨g, c, b1, o1, q1, t1, hv, hg, hc1, hc2, c1, hl1, hA1, hx1, hx2, p1, _, _, hb1⟩ := h.get hx
  subst hv
  have hlen : (its ++ [x]).length = n + 1 := by simp [hn]
  have c0 := h.cell
  have f0 := frozen_of_row _ _ 0 _ _ h.at_
  have hrow := h.row
  rw [hlen] at hc1 c0 hrow
  have hcut := hrow.cut (i := n) (by omega) (by omega)
  rw [List.take_left' hn] at hcut
  have hne := h.ne (g := g) rfl
  have hlt := h.lt
  obtain ⟨w1, hw1⟩ : ∃ w1, w.setCell ⟨p, 0, none⟩ (.slice (some ⟨g, 0, none⟩) n c) = w1 := ⟨_, rfl⟩
  have hch : Chg (fun b => b = p) w w1 := by rw [← hw1]; exact (Chg.refl (fun b => b = p) w).setCell (p := ⟨p, 0, none⟩) (fun _ => rfl) _
  have hHd : Hd w1 H p (.slice (some ⟨g, 0, none⟩) n c) its := by
    refine ⟨?_, h.lo, ?_, h.own, fun y hy => (h.ok y (by simp [hy])).below (hch.below (Nat.le_of_lt (Nat.lt_of_le_of_lt h.lo hlt)) (fun k e => by subst e; exact h.lo)) (Nat.le_refl _)⟩
    · rw [← hw1]
      have := heap_setCell_same w p 0 _ _ (.slice (some ⟨g, 0, none⟩) n c) h.at_
      simpa using this
    · rw [hn]; exact hcut.chg hch (fun g' hg' e => by cases hg'; exact hne e.symm)
  have hxv : x.val = Value.slice (some ⟨b1, o1, none⟩) x.l.length x.c := by simp [It.val, hA1]
  rw [hxv]
  have HP := Lib.hid (And.intro hHd hch)
  have HW := Lib.hid hw1
  have n0 : ((n + 1 : Nat) : Int) - 1 = (n : Int) := by omega
  have n1 : (0 : Int) ≤ (n : Int) := by omega
  have n2 : (n : Int) < ((n + 1 : Nat) : Int) := by omega
  have n3 : (n : Int) ≤ ((n + 1 : Nat) : Int) := by omega
  have n4 : (n : Int) ≤ (c : Int) := by omega
  rw [hlen]
  clear h hrow hcut hHd hch hw1 hx hlen p1 hl1 hA1 hxv hn
  go_enter Try.func121, Try.ntmps121
  go_wp2_with fail
  rw [HW.out]
  go_ret
  exact ⟨_, rfl, HP.out.1, ⟨HP.out.2.mono (fun b _ e => .inl e), fun g' hg' => .inl hg'⟩⟩
theorem assert_p (v : Value) (xT : TypeId) (w : World) : (Instr.typeAssert (.iface 27 v) xT 27 false).run Try.prog w = .ok v w := by kernel_rfl
/-- 'append(h, x)' of heads in a walk -/
theorem append_h {w : World} {ops : Array Oper} {rest : List Oper} {o : Oper} {a : Act} {Q : Exit → Act → World → Prop} (hgd : o.guard = none) (s x : Operand)
    (ho : o.op = .call { callee := .builtin .append, args := #[s, x], argTypes := #[53, 53] })
    (v : Value) (n : Nat) (l : List It) (hs : a.eval s = v) (hown : Rw HE w v n l)
    (B : Nat) (A : Option Addr) (m c : Nat) (hA : A = none → c = 0) (news : List It) (hx : a.eval x = .slice A m c) (hr : Ls HE w B A m news)
    (hn : n + m ≤ 1000000)
    (h : ∀ v' w', Rw HE w' v' (n + m) (l ++ news) → w.grownBy w' v.ownBlock → (v'.ownBlock = v.ownBlock ∨ v'.ownBlock = some w.heap.size) → wpList Try.prog ops Q rest (a.put o.dst v') w') : wpList Try.prog ops Q (o :: rest) a w := by
  obtain ⟨i0, hi, hz0, hz1, hz2⟩ := info_parts infoH
  refine wpList_append_row (P := Try.prog) _ hgd s x 53 ho HE.e i0 _ 1 24 Try.underlying53 hi hz0 hz1 hz2 rfl (by decide) v n (cs HE.enc l) hs hown.2 B A m c hA (cs HE.enc news) hx hr.2 (cs_oneCell HE.one _) (by unfold maxLen; omega) (by omega) ?_
  intro v' w' h1 h2 h3 _
  exact h v' w' ⟨by rw [List.length_append, hown.1, hr.1], by rw [cs_append]; exact h1⟩ h2 h3
set_option maxRecDepth 100000 in
theorem push_m (w : World) (H p : Nat) (v : Value) (its : List It) (x : It) (h : Hd w H p v its) (hx : ItOk w H x) (hn : its.length ≤ 100000) :
    Calls Try.prog 122 #[hp p, .iface 27 x.val] w (RetHd w H p v (its ++ [x]) (.tuple #[])) := by
  have c0 := h.cell
  have hlt := h.lt
  have HH := Lib.hid h
  have HX := Lib.hid hx
  obtain ⟨xv, hxv⟩ : ∃ xv, x.val = xv := ⟨_, rfl⟩
  have hx1 : xv = .slice x.A x.l.length x.c := hxv.symm
  have HXV := Lib.hid hxv
  rw [hxv]
  subst hx1
  have p0 := Wb.at_ c0
  have ta := assert_p
  clear h hx hxv
  go_enter Try.func122, Try.ntmps122
  go_wp2_with fail
  refine wp_region_plan [([0, 1, 2, 3, 4, 5], some (6, false)), ([], some (7, true)), ([8], some (9, true)), ([], none)] (by kernel_rfl) (by kernel_rfl) ?_
  refine seg_act _ (by dsimp only [pick, at_]) _ (by dsimp only [pick, at_]) ?_
  repeat (go_big_quiet_step (fail))
  refine wpQuiet_nil ?_
  intro K1 h1 h2
  clear h1
  go_wp2_with (fail)
  have hb1 : Below w.heap.size w (w.alloc (.cells #[.slice x.A x.l.length x.c] 27)).drew := ((Below.refl _ _).alloc (Nat.le_refl _) _).drew
  refine h2 _ _ hb1 ?_
  clear p0 h2 K1
  have hnews : Ls HE (w.alloc (.cells (HE.enc x).toArray 27)).drew (w.heap.size + 1) (some ⟨w.heap.size, 0, none⟩) 1 [x] := (ls_new _ x).drew
  have hnews : Ls HE (w.alloc (.cells #[.slice x.A x.l.length x.c] 27)).drew (w.heap.size + 1) (some ⟨w.heap.size, 0, none⟩) 1 [x] := hnews
  have h1 := HH.out.quiet (Chg.of_below hb1)
  obtain ⟨w1, hw1⟩ : ∃ w1, (w.alloc (.cells #[.slice x.A x.l.length x.c] 27)).drew = w1 := ⟨_, rfl⟩
  rw [hw1] at hb1 hnews h1 ⊢
  have hs1 := hb1.size
  have hrow1 := h1.row
  have H1 := Lib.hid h1
  have HB1 := Lib.hid hb1
  clear hw1 h1 hb1
  refine seg_write _ (by dsimp only [pick, at_]) _ (by dsimp only [pick, at_]) ?_
  refine wpQuiet_nil ?_
  intro K3 h3
  refine append_h rfl (.tmp 7) (.tmp 10) rfl v its.length its (by rfl) hrow1 _ _ 1 1 (fun e => by cases e) [x] (by rfl) hnews (by omega) ?_
  intro v3 w3 hown3 hgrow hat
  have hpv : ∀ g, v.ownBlock = some g → p ≠ g := fun g hg => H1.out.ne hg
  have hp3 : w3.heap[p]? = some (.cells #[v] 55 (0, 0)) := (hgrow.block p H1.out.lt (fun e => hpv p e.symm rfl)).trans H1.out.at_
  have hc3 : w3.cell? ⟨p, 0, none⟩ = some v := by rw [cell_of_row _ _ _ _ _ _ hp3]; rfl
  have hf3 : w3.frozen? ⟨p, 0, none⟩ = false := frozen_of_row _ _ _ _ _ hp3
  have hch3 : Chg (fun b => b = p ∨ v.ownBlock = some b) w w3 := ((Chg.of_below HB1.out).mono (fun _ _ e => e.elim)).grown hgrow (fun k hk _ => .inr hk)
  obtain ⟨A3, c3, rfl, hc31, hc32, hA3⟩ := hown3.form
  have HOWN3 := Lib.hid hown3
  have HCH3 := Lib.hid hch3
  have HP3 := Lib.hid hp3
  have HG3 := Lib.hid hgrow
  clear hown3 hch3 hp3 hgrow hrow1 hnews hA3
  go_wp2_with (fail)
  refine seg_write _ (by dsimp only [pick, at_]) _ (by dsimp only [pick, at_]) ?_
  repeat (go_big_quiet_step (fail))
  refine wpQuiet_nil ?_
  intro K4 h4
  go_wp2_with (fail)
  refine seg_end _ (by dsimp only [pick, at_]) ?_
  refine wpQuiet_nil (NoPanic.normal ?_)
  go_wp2_with (fail)
  go_returns
  have hpg : ∀ g, (Value.slice A3 (its.length + 1) c3).ownBlock = some g → p ≠ g := fun g hg => by
    rcases hat with e | e
    · exact hpv g (e.symm.trans hg)
    · rw [hg] at e; injection e with e; omega
  have hch4 : Chg (fun b => b = p) w3 (w3.setCell ⟨p, 0, none⟩ (.slice A3 (its.length + 1) c3)) := (Chg.refl (fun b => b = p) w3).setCell (p := ⟨p, 0, none⟩) (fun _ => rfl) _
  have hlo := HH.out.lo
  have hall : Chg (fun b => b = p ∨ v.ownBlock = some b) w (w3.setCell ⟨p, 0, none⟩ (.slice A3 (its.length + 1) c3)) := HCH3.out.setCell (p := ⟨p, 0, none⟩) (fun _ => .inl rfl) _
  have hbl : Below H w (w3.setCell ⟨p, 0, none⟩ (.slice A3 (its.length + 1) c3)) := (HdTo.mk (v' := v) hall (fun g h => .inl h)).below HH.out
  refine ⟨.slice A3 (its.length + 1) c3, rfl, ⟨?_, hlo, ?_, fun g hg => ?_, fun y hy => ?_⟩, hall, fun g hg => ?_⟩
  · have := heap_setCell_same w3 p 0 _ _ (.slice A3 (its.length + 1) c3) HP3.out
    simpa using this
  · have e : (its ++ [x]).length = its.length + 1 := by simp
    rw [e]
    exact HOWN3.out.chg hch4 (fun g hg e => hpg g hg e.symm)
  · rcases hat with e | e
    · exact HH.out.own g (e.symm.trans hg)
    · rw [hg] at e; injection e with e; have := HH.out.lt; omega
  · rcases List.mem_append.1 hy with hy | hy
    · exact (HH.out.ok y hy).below hbl (Nat.le_refl _)
    · simp at hy; subst hy; exact HX.out.below hbl (Nat.le_refl _)
  · rcases hat with e | e
    · exact .inl (e.symm.trans hg)
    · rw [hg] at e; injection e with e; exact .inr (by omega)
end Go.Proofs.Ytemmfcinpkfoiaa.mg
