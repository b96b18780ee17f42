/-
  Boots: the map from names to points: how it lies in memory; one more list behind a name's.
-/
import Derived.Test.YtheanpcbjjogfaaMapR
import Derived.Test.YtheanpcbjjogfaaMg
import Derived.Test.YtheanpcbjjogfaaCells
import Derived.Maps.AppendAt
namespace Go.Proofs.Ytheanpcbjjogfaa.bt
open Go.ChangeShapes Go.WideShapes Go.ChangeAt Go.RowKit Go.Shelf Go.Maps plain words ord mem mg al mp
open Go.WideMaps (keyOf_string_mk)

/-- 'append' of a row that is not empty: where the new row lies -/
theorem app_p {w : World} {ops : Array Oper} {rest : List Oper} {o : Oper} {a : Act} {Q : Exit → Act → World → Prop} (hgd : o.guard = none) (s x : Operand) (ho : o.op = .call { callee := .builtin .append, args := #[s, x], argTypes := #[51, 51] })
    (base : Nat) (v : Value) (n : Nat) (l : List Pt) (hs : a.eval s = v) (hown : Ow PE w base v n l)
    (B : Nat) (A : Option Addr) (m c : Nat) (news : List Pt) (hx : a.eval x = .slice A m c) (hr : Ls PE w B A m news) (hm : 0 < m)
    (hn : n + m ≤ 1099511627776) (hbase : base ≤ w.heap.size)
    (h : ∀ g c' w', Ow PE w' base (.slice (some ⟨g, 0, none⟩) (n + m) c') (n + m) (l ++ news) → w.grownBy w' v.ownBlock → (v.ownBlock = some g ∨ g = w.heap.size) → wpList Try.prog ops Q rest (a.put o.dst (.slice (some ⟨g, 0, none⟩) (n + m) c')) w') : wpList Try.prog ops Q (o :: rest) a w := by
  obtain ⟨i0, hi, hz0, hz1, hz2⟩ : ∃ i, Try.prog.info? 91 = some i ∧ i.zero = some (.agg #[.int .i64 0, .int .u64 0, .int .u64 0]) ∧ i.size = 3 ∧ i.bytes = 24 := by
    have h := infoP
    cases hi : Try.prog.info? 91 with
    | none => rw [hi] at h; cases h
    | some i => rw [hi] at h; simp at h; exact ⟨i, rfl, h.1, h.2.1, h.2.2⟩
  obtain ⟨bA, offA, rfl, _⟩ := Rd.some_of hr.2 (show 0 < m * PE.k from Nat.mul_pos hm PE.pos)
  refine wpList_append_own_at w hgd s x 51 ho base 91 i0 _ 3 24 Try.underlying51 hi hz0 hz1 hz2 rfl (by decide) v n (cs PE.enc l) hs hown.2 ⟨bA, offA, none⟩ m c (cs PE.enc news) hx hr.2.len (rd_cells hr.2) (cs_oneCell PE.one _) (by unfold maxLen; omega) (by omega) hbase ?_
  intro v' w' hown' hg hnn hb
  have ho' : Ow PE w' base v' (n + m) (l ++ news) := ⟨by rw [List.length_append, hown.1, hr.1], by rw [cs_append]; exact hown'⟩
  obtain ⟨g, c', rfl, h1, h2, h3, h4⟩ := ho'.some_ (by omega)
  refine h g c' w' ho' hg ?_
  rcases hb with hb | hb
  · exact .inl hb.symm
  · exact .inr (by simpa [Value.ownBlock] using hb)
abbrev Ent := Hd × List Pt
/-- the points by names: the map f, its rows; all their blocks among F -/
structure Pts (w : World) (B : Nat) (F : Nat → Prop) (f : Nat) (es : AL Ent) : Prop where
  m : ∃ D, w.ownsMap Try.prog 9 he f es.length D ∧ Rep (fun x : Ent => x.1.dat) D es
  srt : Srt es
  row : ∀ q x, get es q = some x → Ow PE w B x.1.val x.1.n x.2
  ne : ∀ q x, get es q = some x → x.1.b ≠ f ∧ F x.1.b ∧ x.2 ≠ []
  apart : ∀ q r x y, get es q = some x → get es r = some y → x.1.b = y.1.b → q = r
  ff : F f
  lo : B ≤ f
  hi : ∀ k, F k → k < w.heap.size
def Ext (F : Nat → Prop) (w w' : World) (k : Nat) : Prop := F k ∨ (w.heap.size ≤ k ∧ k < w'.heap.size)
/-- what a name has -/
def cont (es : AL Ent) (q : Nm) : List Pt := match get es q with | some x => x.2 | none => []
section
variable {w w' : World} {B f : Nat} {F : Nat → Prop} {es : AL Ent}
theorem Pts.chg {S : Nat → Prop} (h : Pts w B F f es) (hc : Chg S w w') (hS : ∀ k, F k → ¬ S k) : Pts w' B F f es := by
  obtain ⟨D, h1, h2⟩ := h.m
  exact ⟨⟨D, own_map_chg h1 hc (hS f h.ff), h2⟩, h.srt, fun q x hx => (h.row q x hx).chg hc (fun g hg => by
    obtain ⟨_, h3, _⟩ := h.ne q x hx
    have : x.1.b = g := by simpa [Hd.val, Value.ownBlock] using hg
    exact hS g (this ▸ h3)), h.ne, h.apart, h.ff, h.lo, fun k hk => Nat.lt_of_lt_of_le (h.hi k hk) hc.size⟩
theorem Pts.below {C : Nat} (h : Pts w B F f es) (hb : Below C w w') (hC : w.heap.size ≤ C) : Pts w' B F f es :=
  h.chg (S := fun _ => False) (Chg.of_below (hb.mono hC)) (fun _ _ e => e)
theorem Pts.more {F' : Nat → Prop} (h : Pts w B F f es) (hF : ∀ k, F k → F' k) (hi : ∀ k, F' k → k < w.heap.size) : Pts w B F' f es :=
  ⟨h.m, h.srt, h.row, fun q x hx => ⟨(h.ne q x hx).1, hF _ (h.ne q x hx).2.1, (h.ne q x hx).2.2⟩, h.apart, hF _ h.ff, h.lo, hi⟩
theorem Pts.empty {w : World} {B f : Nat} (h : w.ownsMap Try.prog 9 he f 0 (.map [])) (hB : B ≤ f) (hf : f < w.heap.size) : Pts w B (fun k => k = f) f [] :=
  ⟨⟨_, h, Rep.nil⟩, List.Pairwise.nil, fun q x hx => (by cases hx), fun q x hx => (by cases hx), fun q r x y hx => (by cases hx), rfl, hB, fun k e => by rw [e]; exact hf⟩
theorem Pts.map_lt (h : Pts w B F f es) : f < w.heap.size := h.hi f h.ff
/-- the row that a name has -/
def rowV (es : AL Ent) (q : Nm) : Value := match get es q with | some x => x.1.val | none => .slice none 0 0
theorem Pts.rowV_own (h : Pts w B F f es) (q : Nm) : Ow PE w B (rowV es q) (cont es q).length (cont es q) := by
  unfold rowV cont
  cases hx : get es q with
  | none => exact Ow.nil _ _
  | some x => have := h.row q x hx; rw [← this.1] at this; exact this
theorem Pts.rowV_form (h : Pts w B F f es) (q : Nm) : ∃ A c, rowV es q = .slice A (cont es q).length c := by
  unfold rowV cont
  cases hx : get es q with
  | none => exact ⟨none, 0, rfl⟩
  | some x => have := (h.row q x hx).1; exact ⟨_, _, by rw [this]; rfl⟩
theorem look_m {w : World} {n : Nat} {D : DU} (hm : w.ownsMap Try.prog 9 he f n D) (hr : Rep (fun x : Ent => x.1.dat) D es) (s : ByteArray) (hl : s.size ≤ maxLen) :
    (Instr.lookup 58 (.map (some f)) (.string s) false).run Try.prog w = .ok (rowV es s.data.toList) w := by
  have hz : (zeroValue 51).run Try.prog w = .ok (.slice none 0 0) w := by kernel_rfl
  obtain ⟨v, ps, hrun, hv⟩ := hm.lookup law Try.underlying58 hz (zd := .nil) (zp := []) rfl (keyOf_string_mk Try.underlying9 hl)
  unfold rowV
  cases hx : get es s.data.toList with
  | none =>
    rw [atKey_of_not_has (by rw [hr.has, hx]; rfl)] at hv
    rw [he_nil hv] at hrun
    exact hrun
  | some x =>
    rw [hr.at_ _ x hx] at hv
    rw [he_inv hv] at hrun
    exact hrun
/-- one more list behind a name's: the append and the map's update -/
theorem Pts.put (h : Pts w B F f es) (q : Nm) {w1 w2 : World} {g n c : Nat} {l : List Pt} (hB : B ≤ w.heap.size) (hn : 0 < n) (ho : Ow PE w1 B (.slice (some ⟨g, 0, none⟩) n c) n l) (hg : w.grownBy w1 (rowV es q).ownBlock) (hb : (rowV es q).ownBlock = some g ∨ g = w.heap.size)
    {N : Nat} {D : DU} (hD : Rep (fun x : Ent => x.1.dat) D es) (hN : w2.ownsMap Try.prog 9 he f N (D.put (.string q) (Hd.dat ⟨g, n, c⟩))) (hg2 : w1.grownBy w2 (some f)) :
    Pts w2 B (Ext F w w2) f (al.put es q (⟨g, n, c⟩, l)) ∧ Chg F w w2 := by
  have hs1 := hg.size
  have hs2 := hg2.size
  have c1 : Chg (fun k => (rowV es q).ownBlock = some k) w w1 := (Chg.refl _ _).grown hg (fun k hk _ => hk)
  have c2 : Chg (fun k => k = f) w1 w2 := (Chg.refl _ _).grown hg2 (fun k hk _ => by injection hk with hk; exact hk.symm)
  have hold : ∀ k, (rowV es q).ownBlock = some k → ∃ x, get es q = some x ∧ x.1.b = k := fun k hk => by
    unfold rowV at hk
    cases hx : get es q with
    | none => rw [hx] at hk; simp [Value.ownBlock] at hk
    | some x => rw [hx] at hk; exact ⟨x, rfl, by simpa [Hd.val, Value.ownBlock] using hk⟩
  have hflt := h.map_lt
  have gne : g ≠ f := by
    rcases hb with hb | hb
    · obtain ⟨x, hx, e⟩ := hold g hb
      rw [← e]; exact (h.ne q x hx).1
    · omega
  have ho2 : Ow PE w2 B (.slice (some ⟨g, 0, none⟩) n c) n l := ho.chg c2 (fun k hk e => by
    have : g = k := by simpa [Value.ownBlock] using hk
    omega)
  have hgl := (ho2.lt g rfl).2
  have hrep := hD.put q ((⟨g, n, c⟩, l) : Ent)
  have hsrt := srt_put h.srt q ((⟨g, n, c⟩, l) : Ent)
  have hc12 : Chg F w w2 := by
    refine Chg.trans (c1.mono (S' := F) fun k _ hk => ?_) c2 (fun k _ e => by rw [e]; exact h.ff)
    obtain ⟨x, hx, e⟩ := hold k hk
    rw [← e]; exact (h.ne q x hx).2.1
  have gF : Ext F w w2 g := by
    rcases hb with hb | hb
    · obtain ⟨x, hx, e⟩ := hold g hb
      exact .inl (e ▸ (h.ne q x hx).2.1)
    · exact .inr ⟨by omega, hgl⟩
  have oth : ∀ r x, r ≠ q → get es r = some x → x.1.b ≠ g ∧ x.1.b < w.heap.size := fun r x hr hx => by
    have hlt := h.hi _ (h.ne r x hx).2.1
    refine ⟨fun e => ?_, hlt⟩
    rcases hb with hb | hb
    · obtain ⟨y, hy, e2⟩ := hold g hb
      exact hr (h.apart r q x y hx hy (by omega))
    · omega
  refine ⟨⟨⟨_, mp.Rep.tight hrep hsrt hN, hrep⟩, hsrt, fun r x hx => ?_, fun r x hx => ?_, fun r t x y hx hy e => ?_, .inl h.ff, h.lo, fun k hk => ?_⟩, hc12⟩
  · by_cases e : r = q
    · subst e; rw [get_put_same] at hx; injection hx with hx; subst hx; exact ho2
    · rw [get_put_other _ e] at hx
      refine ((h.row r x hx).chg c1 (fun k hk hk2 => ?_)).chg c2 (fun k hk e2 => ?_)
      · have e3 : x.1.b = k := by simpa [Hd.val, Value.ownBlock] using hk
        obtain ⟨y, hy, e4⟩ := hold k hk2
        exact e (h.apart r q x y hx hy (by omega))
      · have e3 : x.1.b = k := by simpa [Hd.val, Value.ownBlock] using hk
        exact (h.ne r x hx).1 (by omega)
  · by_cases e : r = q
    · subst e; rw [get_put_same] at hx; injection hx with hx; subst hx
      refine ⟨gne, gF, fun e => ?_⟩
      have := ho.1
      simp only at e
      rw [e] at this
      simp at this
      omega
    · rw [get_put_other _ e] at hx
      exact ⟨(h.ne r x hx).1, .inl (h.ne r x hx).2.1, (h.ne r x hx).2.2⟩
  · by_cases e1 : r = q <;> by_cases e2 : t = q
    · rw [e1, e2]
    · subst e1; rw [get_put_same] at hx; injection hx with hx; subst hx
      rw [get_put_other _ e2] at hy
      exact absurd e.symm (oth t y e2 hy).1
    · subst e2; rw [get_put_same] at hy; injection hy with hy; subst hy
      rw [get_put_other _ e1] at hx
      exact absurd e (oth r x e1 hx).1
    · rw [get_put_other _ e1] at hx
      rw [get_put_other _ e2] at hy
      exact h.apart r t x y hx hy e
  · rcases hk with hk | hk
    · have := h.hi k hk; omega
    · exact hk.2
end
end Go.Proofs.Ytheanpcbjjogfaa.bt
