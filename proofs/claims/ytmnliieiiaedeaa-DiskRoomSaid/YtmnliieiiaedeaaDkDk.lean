/-
  The disk as memory: its own block, two lots of files, the changes that are pending, the order.
-/
import Derived.Test.YtmnliieiiaedeaaDkCh
import Derived.Test.YtmnliieiiaedeaaLst
import Derived.Test.YtmnliieiiaedeaaRow
namespace Go.Proofs.Ytmnliieiiaedeaa.dk
open Go.ChangeShapes Go.WideShapes Go.ChangeAt Go.RowKit Go.Maps Go.Sort Go.Shelf plain words ord mem al

theorem infoC : (Try.prog.info? 83).map (fun i => (i.zero, i.size, i.bytes)) = some (some (.agg #[.nilFunc, .bool false]), 2, 16) := by kernel_rfl
def pdE (q : Pd) : List Value := [.func (.func q.fid) #[] q.caps, .bool q.isApp]
theorem pdE_one (q : Pd) : ∀ v ∈ pdE q, v.oneCell' = true := by
  intro v hv
  simp only [pdE, List.mem_cons, List.not_mem_nil, or_false] at hv
  rcases hv with rfl | rfl <;> rfl
def CE : El Pd := ⟨pdE, 2, 83, fun _ => rfl, pdE_one, by decide⟩
/-- a list in a row that a slice shows from its head on -/
def Rw {α : Type} (E : El α) (w : World) (v : Value) (n : Nat) (l : List α) : Prop := l.length = n ∧ Row w E.e E.k v n (cs E.enc l)
section
variable {α : Type} {E : El α} {w w' : World} {A : Option Addr} {v : Value} {n c g : Nat} {l : List α}
theorem Rw.nil (w : World) : Rw E w (.slice none 0 0) 0 [] := ⟨rfl, Row.nil _ _ _⟩
theorem Rw.lt (h : Rw E w v n l) (hg : v.ownBlock = some g) : g < w.heap.size := h.2.lt hg
theorem Rw.type (h : Rw E w v n l) (hg : v.ownBlock = some g) : ∃ cur, w.heap[g]? = some (.cells cur E.e (0, 0)) := h.2.type hg
theorem Rw.chg {S : Nat → Prop} (h : Rw E w v n l) (hc : Chg S w w') (hS : ∀ g, v.ownBlock = some g → ¬ S g) : Rw E w' v n l := ⟨h.1, h.2.chg hc hS⟩
theorem Rw.form (h : Rw E w v n l) : ∃ A c, v = .slice A n c ∧ (A = none → c = 0) ∧ n ≤ c ∧ c ≤ 9223372036854775807 := by
  obtain ⟨A, c, e, h1, h2, h3⟩ := h.2.form
  exact ⟨A, c, e, h3, h1, h2⟩
theorem Rw.ls (h : Rw E w (.slice A n c) n l) : Ls E w w.heap.size A n l := ⟨h.1, h.2.rd A c rfl⟩
end
abbrev Due := Option (Int × Int × Int)
def lossO (x : Int × Int × Int) : Obj := .cells #[.int .i64 x.1, .int .i64 x.2.1, .int .i64 x.2.2] 92 (0, 0)
/-- the order, as memory -/
def IsDue (w : World) (Fo : Nat → Prop) (due : Due) (dv : Option Nat) : Prop := match due, dv with
  | none, none => True
  | some x, some b => w.heap[b]? = some (lossO x) ∧ Fo b
  | _, _ => False
def dptr (dv : Option Nat) : Value := .pointer (dv.map fun b => ⟨b, 0, none⟩)
def diskO (room : Int) (fs fh : Nat) (v : Value) (dv : Option Nat) (dead : Bool) (ops : Int) : Obj :=
  .cells #[.int .i64 room, ptr fs, ptr fh, v, dptr dv, .bool dead, .int .i64 ops] 75 (0, 0)
/-- all but the disk's own block -/
structure Parts (w : World) (p fs fh : Nat) (Fs Fh Fo : Nat → Prop) (ls sh : AL Nm) (v : Value) (ps : List Pd) (due : Due) (dv : Option Nat) : Prop where
  hs : Fil w fs Fs ls
  hh : Fil w fh Fh sh
  row : Rw CE w v ps.length ps
  box : ∀ q ∈ ps, q.boxes w
  due_ : IsDue w Fo due dv
  po : Fo p
  ro : ∀ g, v.ownBlock = some g → Fo g
  bo : ∀ q ∈ ps, ∀ k, q.foot k → Fo k
  ap1 : ∀ k, Fs k → ¬ Fh k
  ap2 : ∀ k, Fs k → ¬ Fo k
  ap3 : ∀ k, Fh k → ¬ Fo k
  lto : ∀ k, Fo k → k < w.heap.size
theorem IsDue.chg {S Fo : Nat → Prop} {w w' : World} {due : Due} {dv : Option Nat} (h : IsDue w Fo due dv) (hc : Chg S w w') (hS : ∀ b, dv = some b → ¬ S b) : IsDue w' Fo due dv := by
  cases due with
  | none => cases dv with
    | none => trivial
    | some b => exact h.elim
  | some x => cases dv with
    | none => exact h.elim
    | some b => exact ⟨hc.blk h.1 (hS b rfl), h.2⟩
theorem IsDue.mono {Fo Go : Nat → Prop} {w : World} {due : Due} {dv : Option Nat} (h : IsDue w Fo due dv) (hs : ∀ k, Fo k → Go k) : IsDue w Go due dv := by
  cases due with
  | none => cases dv with
    | none => trivial
    | some b => exact h.elim
  | some x => cases dv with
    | none => exact h.elim
    | some b => exact ⟨h.1, hs b h.2⟩
section
variable {w w' : World} {p fs fh : Nat} {Fs Fh Fo : Nat → Prop} {ls sh : AL Nm} {v : Value} {ps : List Pd} {due : Due} {dv : Option Nat}
theorem Parts.chg {S : Nat → Prop} (h : Parts w p fs fh Fs Fh Fo ls sh v ps due dv) (hc : Chg S w w') (h1 : ∀ k, Fs k → ¬ S k) (h2 : ∀ k, Fh k → ¬ S k) (h3 : ∀ g, v.ownBlock = some g → ¬ S g) (h4 : ∀ q ∈ ps, ∀ k, q.foot k → ¬ S k) (h5 : ∀ b, dv = some b → ¬ S b) :
    Parts w' p fs fh Fs Fh Fo ls sh v ps due dv :=
  ⟨h.hs.chg hc h1, h.hh.chg hc h2, h.row.chg hc h3, fun q hq => Pd.boxes_chg (h.box q hq) hc (h4 q hq), h.due_.chg hc h5, h.po, h.ro, h.bo, h.ap1, h.ap2, h.ap3, fun k hk => Nat.lt_of_lt_of_le (h.lto k hk) hc.size⟩
theorem Parts.quiet (h : Parts w p fs fh Fs Fh Fo ls sh v ps due dv) (hb : Below w.heap.size w w') : Parts w' p fs fh Fs Fh Fo ls sh v ps due dv :=
  h.chg (Chg.of_below hb) (fun _ _ e => e) (fun _ _ e => e) (fun _ _ e => e) (fun _ _ _ _ e => e) (fun _ _ e => e)
theorem Parts.dueo (h : Parts w p fs fh Fs Fh Fo ls sh v ps due dv) {b : Nat} (hb : dv = some b) : Fo b ∧ ∃ x, w.heap[b]? = some (lossO x) := by
  have := h.due_
  rw [hb] at this
  cases due with
  | none => exact this.elim
  | some x => exact ⟨this.2, x, this.1⟩
theorem box_type {q : Pd} (h : q.boxes w) {k : Nat} (hk : q.foot k) : ∃ c, w.heap[k]? = some (.cells c 9 (0, 0)) := by
  obtain ⟨c, ba, bb⟩ := q
  cases c with
  | app a b =>
    rcases hk with e | e
    · subst e; exact ⟨_, h.1⟩
    · subst e; exact ⟨_, h.2⟩
  | ren a b =>
    rcases hk with e | e
    · subst e; exact ⟨_, h.1⟩
    · subst e; exact ⟨_, h.2⟩
  | rem a => cases hk; exact ⟨_, h⟩
/-- the disk's own block is written -/
theorem Parts.setp (h : Parts w p fs fh Fs Fh Fo ls sh v ps due dv) {c : Array Value} {f : Nat × Nat} (hb : w.heap[p]? = some (.cells c 75 f)) (hc : Chg (fun k => k = p) w w') : Parts w' p fs fh Fs Fh Fo ls sh v ps due dv := by
  refine h.chg hc (fun k hk e => h.ap2 k hk (e ▸ h.po)) (fun k hk e => h.ap3 k hk (e ▸ h.po)) (fun g hg e => ?_) (fun q hq k hk e => ?_) (fun b hb2 e => ?_)
  · obtain ⟨c2, hc2⟩ := h.row.type hg
    exact blk_type hb hc2 (by decide) e.symm
  · obtain ⟨c2, hc2⟩ := box_type (h.box q hq) hk
    exact blk_type hb hc2 (by decide) e.symm
  · obtain ⟨_, x, hx⟩ := h.dueo hb2
    exact blk_type hb hx (by decide) e.symm
/-- the lasting files have changed -/
theorem Parts.fils {Fs' : Nat → Prop} {ls' : AL Nm} (h : Parts w p fs fh Fs Fh Fo ls sh v ps due dv) (hc : Chg Fs w w') (hf : Fil w' fs Fs' ls') (hn : ∀ k, Fs' k → Fs k ∨ w.heap.size ≤ k) : Parts w' p fs fh Fs' Fh Fo ls' sh v ps due dv := by
  have h1 := h.chg hc
  have hlh : ∀ k, Fh k → k < w.heap.size := by obtain ⟨_, _, _, _, _, _, h9⟩ := h.hh; exact h9
  refine ⟨hf, h.hh.chg hc (fun k hk e => h.ap1 k e hk), h.row.chg hc (fun g hg e => h.ap2 g e (h.ro g hg)), fun q hq => Pd.boxes_chg (h.box q hq) hc (fun k hk e => h.ap2 k e (h.bo q hq k hk)), h.due_.chg hc (fun b hb e => h.ap2 b e (h.dueo hb).1), h.po, h.ro, h.bo, fun k hk e => ?_, fun k hk e => ?_, h.ap3, fun k hk => Nat.lt_of_lt_of_le (h.lto k hk) hc.size⟩
  · rcases hn k hk with h2 | h2
    · exact h.ap1 k h2 e
    · have := hlh k e; omega
  · rcases hn k hk with h2 | h2
    · exact h.ap2 k h2 e
    · have := h.lto k e; omega
/-- the files that are shown have changed -/
theorem Parts.filh {Fh' : Nat → Prop} {sh' : AL Nm} (h : Parts w p fs fh Fs Fh Fo ls sh v ps due dv) (hc : Chg Fh w w') (hf : Fil w' fh Fh' sh') (hn : ∀ k, Fh' k → Fh k ∨ w.heap.size ≤ k) : Parts w' p fs fh Fs Fh' Fo ls sh' v ps due dv := by
  have hls : ∀ k, Fs k → k < w.heap.size := by obtain ⟨_, _, _, _, _, _, h9⟩ := h.hs; exact h9
  refine ⟨h.hs.chg hc (fun k hk e => h.ap1 k hk e), hf, h.row.chg hc (fun g hg e => h.ap3 g e (h.ro g hg)), fun q hq => Pd.boxes_chg (h.box q hq) hc (fun k hk e => h.ap3 k e (h.bo q hq k hk)), h.due_.chg hc (fun b hb e => h.ap3 b e (h.dueo hb).1), h.po, h.ro, h.bo, fun k hk e => ?_, h.ap2, fun k hk e => ?_, fun k hk => Nat.lt_of_lt_of_le (h.lto k hk) hc.size⟩
  · rcases hn k e with h2 | h2
    · exact h.ap1 k hk h2
    · have := hls k hk; omega
  · rcases hn k hk with h2 | h2
    · exact h.ap3 k h2 e
    · have := h.lto k e; omega
end
theorem Ext.new {F : Nat → Prop} {w w' : World} {k : Nat} (h : Ext F w w' k) : F k ∨ w.heap.size ≤ k := h.imp id (fun e => e.1)
theorem disk_cell {w : World} {p : Nat} {room : Int} {fs fh : Nat} {v : Value} {dv : Option Nat} {dead : Bool} {ops : Int} (h : w.heap[p]? = some (diskO room fs fh v dv dead ops)) :
    w.cell? ⟨p, 0, none⟩ = some (.int .i64 room) ∧ w.cell? ⟨p, 1, none⟩ = some (ptr fs) ∧ w.cell? ⟨p, 2, none⟩ = some (ptr fh) ∧ w.cell? ⟨p, 3, none⟩ = some v ∧ w.cell? ⟨p, 4, none⟩ = some (dptr dv) ∧ w.cell? ⟨p, 5, none⟩ = some (.bool dead) ∧ w.cell? ⟨p, 6, none⟩ = some (.int .i64 ops) := by
  refine ⟨?_, ?_, ?_, ?_, ?_, ?_, ?_⟩ <;> (rw [cell_of_row _ _ _ _ _ _ h]; rfl)
theorem disk_froz {w : World} {p : Nat} {room : Int} {fs fh : Nat} {v : Value} {dv : Option Nat} {dead : Bool} {ops : Int} (h : w.heap[p]? = some (diskO room fs fh v dv dead ops)) (o : Nat) : w.frozen? ⟨p, o, none⟩ = false := by
  simp [World.frozen?, h, diskO]
/-- what settling makes of the files -/
def fold (ls : AL Nm) (l : List Chn) : AL Nm := l.foldl done ls
def legal : AL Nm → List Chn → Prop
  | _, [] => True
  | fs, c :: r => okc fs c ∧ legal (done fs c) r
def sumc (l : List Chn) : Nat := (l.map chlen).sum
theorem fold_srt {ls : AL Nm} (h : Srt ls) (l : List Chn) : Srt (fold ls l) := by
  induction l generalizing ls with
  | nil => exact h
  | cons c r ih => exact ih (done_srt h c)
theorem fold_sum {ls : AL Nm} (h : Srt ls) (l : List Chn) : fsum (fold ls l) ≤ fsum ls + sumc l := by
  induction l generalizing ls with
  | nil => simp [fold, sumc]
  | cons c r ih =>
    have h1 := ih (done_srt h c)
    have h2 := done_sum h c
    simp only [fold, List.foldl_cons, sumc, List.map_cons, List.sum_cons] at h1 ⊢
    omega
theorem fold_len (ls : AL Nm) (l : List Chn) : (fold ls l).length ≤ ls.length + l.length := by
  induction l generalizing ls with
  | nil => simp [fold]
  | cons c r ih =>
    have h1 := ih (ls := done ls c)
    have h2 := done_len ls c
    simp only [fold, List.foldl_cons, List.length_cons] at h1 ⊢
    omega
theorem fold_snoc (ls : AL Nm) (l : List Chn) (c : Chn) : fold ls (l ++ [c]) = done (fold ls l) c := by simp [fold]
theorem legal_snoc {ls : AL Nm} {l : List Chn} {c : Chn} (h : legal ls l) (k : okc (fold ls l) c) : legal ls (l ++ [c]) := by
  induction l generalizing ls with
  | nil => exact ⟨k, trivial⟩
  | cons d r ih => exact ⟨h.1, ih h.2 k⟩
theorem legal_at {ls : AL Nm} {l : List Chn} (h : legal ls l) {i : Nat} {c : Chn} (hi : l[i]? = some c) : okc (fold ls (l.take i)) c := by
  induction l generalizing ls i with
  | nil => cases hi
  | cons d r ih =>
    cases i with
    | zero => simp at hi; subst hi; exact h.1
    | succ i => exact ih h.2 (by simpa using hi)
theorem sumc_at {l : List Chn} {i : Nat} {c : Chn} (hi : l[i]? = some c) : sumc (l.take i) + chlen c ≤ sumc l := by
  induction l generalizing i with
  | nil => cases hi
  | cons d r ih =>
    cases i with
    | zero => simp at hi; subst hi; simp [sumc]
    | succ i =>
      have := ih (i := i) (by simpa using hi)
      simp only [sumc, List.take_succ_cons, List.map_cons, List.sum_cons] at this ⊢
      omega
theorem fold_take {ls : AL Nm} {l : List Chn} {i : Nat} {c : Chn} (hi : l[i]? = some c) : fold ls (l.take (i + 1)) = done (fold ls (l.take i)) c := by
  have h1 : i < l.length := by
    rcases Nat.lt_or_ge i l.length with h | h
    · exact h
    · rw [List.getElem?_eq_none h] at hi; cases hi
  rw [List.getElem?_eq_getElem h1] at hi
  injection hi with hi
  rw [List.take_succ_eq_append_getElem h1, hi, fold_snoc]
end Go.Proofs.Ytmnliieiiaedeaa.dk
