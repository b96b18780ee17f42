/-
  Tsz: reading points one by one, as mathematics; which bytes are points, and of which points.
-/
import Derived.Test.YtknjejejkgihbaaDoorTsSt
import Derived.Test.YtknjejejkgihbaaDoorFree
import Derived.Test.YtknjejejkgihbaaDoorTsGetX
import Derived.Test.YtknjejejkgihbaaDoorMem
import Derived.Test.YtknjejejkgihbaaDoorTsPw
import Derived.Test.YtknjejejkgihbaaDoorUvCode
import Derived.Test.YtknjejejkgihbaaDoorTsEncX
import Derived.Defers
import Derived.Recover
import Derived.Laws.Pointers
namespace Go.Proofs.YtknjejejkgihbaaDoor.ts
open Go.RowKit plain words bitm uvs

/-- what is known between two points -/
structure DS where
  t : Int
  d : Int
  v : Nat
  s : Nat
  a : Win
  b : Win
  X : List Bool
def DS.pt (q : DS) : Pt := (q.t, (q.v : Int), (q.s : Int))
structure DSok (q : DS) : Prop where
  t : -9223372036854775808 ≤ q.t ∧ q.t ≤ 9223372036854775807
  d : -9223372036854775808 ≤ q.d ∧ q.d ≤ 9223372036854775807
  v : lt64 q.v
  s : lt64 q.s
  a : WinOk q.a
  b : WinOk q.b
def dNext (q : DS) : Option DS :=
  (dTime q.X).bind fun x => (dVal q.a x.2).bind fun y => (dVal q.b y.2.2).bind fun z =>
    some ⟨w64 (q.t + w64 (q.d + x.1)), w64 (q.d + x.1), q.v ^^^ y.1, q.s ^^^ z.1, y.2.1, z.2.1, z.2.2⟩
def dFirst (X : List Bool) : Option DS :=
  (gb 64 X).bind fun t => (gb 64 t.2).bind fun v => (gb 64 v.2).bind fun s => some ⟨w64 t.1, 0, v.1, s.1, none, none, s.2⟩
theorem dRest_eq (q : DS) (n : Nat) : dRest q.t q.d q.v q.s q.a q.b (n + 1) q.X = (dNext q).bind fun q' => (dRest q'.t q'.d q'.v q'.s q'.a q'.b n q'.X).map fun r => (q'.pt :: r.1, r.2) := by
  unfold dNext
  rw [dRest]
  cases dTime q.X with
  | none => rfl
  | some x =>
    obtain ⟨x, X1⟩ := x
    simp only [Option.bind_some]
    cases dVal q.a X1 with
    | none => rfl
    | some y =>
      obtain ⟨y, a, X2⟩ := y
      simp only [Option.bind_some]
      cases dVal q.b X2 with
      | none => rfl
      | some z => rfl
theorem dPts_eq (X : List Bool) (n : Nat) : dPts (n + 1) X = (dFirst X).bind fun q' => (dRest q'.t q'.d q'.v q'.s q'.a q'.b n q'.X).map fun r => (q'.pt :: r.1, r.2) := by
  unfold dFirst
  rw [dPts]
  cases gb 64 X with
  | none => rfl
  | some x =>
    obtain ⟨x, X1⟩ := x
    simp only [Option.bind_some]
    cases gb 64 X1 with
    | none => rfl
    | some y =>
      obtain ⟨y, X2⟩ := y
      simp only [Option.bind_some]
      cases gb 64 X2 with
      | none => rfl
      | some z => rfl
theorem dWin_ok {w : Win} (hw : WinOk w) {X : List Bool} {y : Nat} {w' : Win} {X' : List Bool} (h : dWin w X = some (y, w', X')) : lt64 y ∧ WinOk w' := by
  cases w with
  | none => cases h
  | some w =>
    obtain ⟨a, b⟩ := w
    unfold dWin at h
    simp only at h
    obtain ⟨⟨v, X1⟩, e1, h⟩ := Option.map_eq_some_iff.1 h
    have hv := gb_lt e1
    cases h
    refine ⟨?_, hw⟩
    have hab := hw a b rfl
    unfold lt64
    rw [← p64]
    have h1 : v * 2 ^ b < 2 ^ (64 - a - b) * 2 ^ b := Nat.mul_lt_mul_of_pos_right hv (Nat.two_pow_pos _)
    rw [← Nat.pow_add] at h1
    exact Nat.lt_of_lt_of_le h1 (Nat.pow_le_pow_right (by omega) (by omega))
theorem dVal_ok {w : Win} (hw : WinOk w) {X : List Bool} {y : Nat} {w' : Win} {X' : List Bool} (h : dVal w X = some (y, w', X')) : lt64 y ∧ WinOk w' := by
  unfold dVal at h
  obtain ⟨⟨b, X1⟩, e1, h⟩ := Option.bind_eq_some_iff.1 h
  simp only at h
  split at h
  · cases h; exact ⟨by unfold lt64; omega, hw⟩
  · obtain ⟨⟨b, X2⟩, e2, h⟩ := Option.bind_eq_some_iff.1 h
    simp only at h
    split at h
    · exact dWin_ok hw h
    · obtain ⟨⟨a, X3⟩, e3, h⟩ := Option.bind_eq_some_iff.1 h
      obtain ⟨⟨n, X4⟩, e4, h⟩ := Option.bind_eq_some_iff.1 h
      simp only at h
      split at h
      · exact dWin_ok (fun x y e => by cases e; omega) h
      · cases h
theorem dTime_bd {X : List Bool} {x : Int} {X' : List Bool} (h : dTime X = some (x, X')) : -9223372036854775808 ≤ x ∧ x ≤ 9223372036854775807 := by
  have g : ∀ {n V : Nat} {Y Y' : List Bool}, gb n Y = some (V, Y') → n ≤ 12 → (V : Int) ≤ 4096 := fun h hn => by
    have h1 := gb_lt h
    have h2 := Nat.pow_le_pow_right (n := 2) (by omega) hn
    have h3 : (2 : Nat) ^ 12 = 4096 := by decide
    omega
  unfold dTime at h
  obtain ⟨⟨b, X1⟩, e1, h⟩ := Option.bind_eq_some_iff.1 h
  simp only at h
  split at h
  · cases h; omega
  · obtain ⟨⟨b, X2⟩, e2, h⟩ := Option.bind_eq_some_iff.1 h
    simp only at h
    split at h
    · obtain ⟨⟨v, X3⟩, e3, h⟩ := Option.map_eq_some_iff.1 h
      have := g e3 (by omega)
      cases h; omega
    · obtain ⟨⟨b, X3⟩, e3, h⟩ := Option.bind_eq_some_iff.1 h
      simp only at h
      split at h
      · obtain ⟨⟨v, X4⟩, e4, h⟩ := Option.map_eq_some_iff.1 h
        have := g e4 (by omega)
        cases h; omega
      · obtain ⟨⟨b, X4⟩, e4, h⟩ := Option.bind_eq_some_iff.1 h
        simp only at h
        split at h
        · obtain ⟨⟨v, X5⟩, e5, h⟩ := Option.map_eq_some_iff.1 h
          have := g e5 (by omega)
          cases h; omega
        · obtain ⟨⟨v, X5⟩, e5, h⟩ := Option.map_eq_some_iff.1 h
          have h1 := congrArg Prod.fst h
          simp only at h1
          rw [← h1]
          exact w64_bd _
theorem dNext_ok {q q' : DS} (hq : DSok q) (h : dNext q = some q') : DSok q' := by
  unfold dNext at h
  obtain ⟨⟨x, X1⟩, e1, h⟩ := Option.bind_eq_some_iff.1 h
  obtain ⟨⟨y, a, X2⟩, e2, h⟩ := Option.bind_eq_some_iff.1 h
  obtain ⟨⟨z, b, X3⟩, e3, h⟩ := Option.bind_eq_some_iff.1 h
  have h2 := dVal_ok hq.a e2
  have h3 := dVal_ok hq.b e3
  have h4 := Option.some.inj h
  subst h4
  exact ⟨w64_bd _, w64_bd _, xor_lt _ _ hq.v h2.1, xor_lt _ _ hq.s h3.1, h2.2, h3.2⟩
theorem gb64 {V : Nat} {X X' : List Bool} (h : gb 64 X = some (V, X')) : lt64 V := by have := gb_lt h; unfold lt64; rwa [p64] at this
theorem dFirst_ok {X : List Bool} {q' : DS} (h : dFirst X = some q') : DSok q' := by
  unfold dFirst at h
  obtain ⟨⟨x, X1⟩, e1, h⟩ := Option.bind_eq_some_iff.1 h
  obtain ⟨⟨y, X2⟩, e2, h⟩ := Option.bind_eq_some_iff.1 h
  obtain ⟨⟨z, X3⟩, e3, h⟩ := Option.bind_eq_some_iff.1 h
  have h4 := Option.some.inj h
  subst h4
  exact ⟨w64_bd _, by simp only; omega, gb64 e2, gb64 e3, win0, win0⟩
theorem DSok.fit {q : DS} (h : DSok q) : FitP q.pt := by
  have h1 := h.v
  have h2 := h.s
  unfold lt64 at h1 h2
  exact ⟨h.t, ⟨by simp only [DS.pt]; omega, by simp only [DS.pt]; omega⟩, by simp only [DS.pt]; omega, by simp only [DS.pt]; omega⟩
/-- k points are read: they, and what is known -/
def Dn (n : Nat) (X0 : List Bool) (acc : List Pt) (q : DS) : Prop :=
  (∀ x ∈ acc, FitP x) ∧ acc.length ≤ n ∧ ((acc = [] ∧ q.X = X0) ∨ ∃ l, acc = l ++ [q.pt] ∧ DSok q ∧ dPts n X0 = (dRest q.t q.d q.v q.s q.a q.b (n - acc.length) q.X).map fun r => (acc ++ r.1, r.2))
theorem Dn.first {n : Nat} {X0 : List Bool} {q q' : DS} (h : Dn n X0 [] q) (hn : 0 < n) (hq : dFirst q.X = some q') : Dn n X0 [q'.pt] q' := by
  obtain ⟨_, _, h⟩ := h
  rcases h with ⟨_, e⟩ | ⟨l, e, _⟩
  · have hok := dFirst_ok hq
    refine ⟨fun x hx => by simp at hx; subst hx; exact hok.fit, by simp; omega, .inr ⟨[], rfl, hok, ?_⟩⟩
    rw [e] at hq
    obtain ⟨m, rfl⟩ : ∃ m, n = m + 1 := ⟨n - 1, by omega⟩
    rw [dPts_eq, hq]
    rfl
  · simp at e
theorem Dn.first_no {n : Nat} {X0 : List Bool} {q : DS} (h : Dn n X0 [] q) (hn : 0 < n) (hq : dFirst q.X = none) : dPts n X0 = none := by
  obtain ⟨_, _, h⟩ := h
  rcases h with ⟨_, e⟩ | ⟨l, e, _⟩
  · rw [e] at hq
    obtain ⟨m, rfl⟩ : ∃ m, n = m + 1 := ⟨n - 1, by omega⟩
    rw [dPts_eq, hq]; rfl
  · simp at e
theorem Dn.ok {n : Nat} {X0 : List Bool} {acc : List Pt} {q : DS} (h : Dn n X0 acc q) (ha : acc ≠ []) : DSok q := by
  obtain ⟨_, _, h⟩ := h
  rcases h with ⟨e, _⟩ | ⟨l, e, h, _⟩
  · exact absurd e ha
  · exact h
theorem Dn.next {n : Nat} {X0 : List Bool} {acc : List Pt} {q q' : DS} (h : Dn n X0 acc q) (ha : acc ≠ []) (hn : acc.length < n) (hq : dNext q = some q') : Dn n X0 (acc ++ [q'.pt]) q' := by
  have hok := dNext_ok (h.ok ha) hq
  obtain ⟨h1, _, h⟩ := h
  rcases h with ⟨e, _⟩ | ⟨l, e, _, h⟩
  · exact absurd e ha
  · refine ⟨fun x hx => ?_, by simp; omega, .inr ⟨acc, rfl, hok, ?_⟩⟩
    · simp only [List.mem_append, List.mem_singleton] at hx
      rcases hx with hx | rfl
      · exact h1 x hx
      · exact hok.fit
    · rw [h, show n - acc.length = (n - (acc ++ [q'.pt]).length) + 1 from by simp; omega, dRest_eq, hq]
      simp only [Option.bind_some, Option.map_map]
      congr 1
      funext r
      simp
theorem Dn.next_no {n : Nat} {X0 : List Bool} {acc : List Pt} {q : DS} (h : Dn n X0 acc q) (ha : acc ≠ []) (hn : acc.length < n) (hq : dNext q = none) : dPts n X0 = none := by
  obtain ⟨h1, _, h⟩ := h
  rcases h with ⟨e, _⟩ | ⟨l, e, _, h⟩
  · exact absurd e ha
  · rw [h, show n - acc.length = (n - acc.length - 1) + 1 from by omega, dRest_eq, hq]; rfl
theorem Dn.done {n : Nat} {X0 : List Bool} {acc : List Pt} {q : DS} (h : Dn n X0 acc q) (hn : n ≤ acc.length) : dPts n X0 = some (acc, q.X) ∧ ∀ x ∈ acc, FitP x := by
  obtain ⟨h1, h2, h⟩ := h
  refine ⟨?_, h1⟩
  rcases h with ⟨e, e2⟩ | ⟨l, e, _, h⟩
  · subst e
    obtain rfl : n = 0 := by simpa using hn
    rw [← e2]; rfl
  · rw [h, show n - acc.length = 0 from by omega]
    simp [dRest]
theorem Dn.start (n : Nat) (q : DS) : Dn n q.X [] q := ⟨fun x hx => by simp at hx, by simp, .inl ⟨rfl, rfl⟩⟩

/-! ### which bytes are points -/
def ans (b : List UInt8) (l : List Pt) : Prop := (∀ x ∈ l, FitP x) ∧ checkP l = 0 ∧ encP l = b
theorem ans_read {b : List UInt8} {l : List Pt} (h : ans b l) : ru b 0 0 = (l.length, (uv l.length).length) ∧ l.length ≤ 512 ∧ b.drop (uv l.length).length = pack (bitsP l) ∧ (b.drop (uv l.length).length).length ≤ 14300 ∧ ∃ Y, dPts l.length (ofBytes (b.drop (uv l.length).length)) = some (l, Y) := by
  obtain ⟨hf, hc, rfl⟩ := h
  have hn := (check_goes hc).1
  have hd : (encP l).drop (uv l.length).length = pack (bitsP l) := by unfold encP; rw [List.drop_left]
  have hl := bitsP_len l hf
  refine ⟨?_, hn, hd, ?_, ?_⟩
  · unfold encP; exact ru_uv _ _ (by omega)
  · rw [hd, pack_len]; omega
  · rw [hd]
    obtain ⟨Y, hY⟩ : ∃ Y, ofBytes (pack (bitsP l)) = bitsP l ++ Y := ⟨_, ofBytes_pack (bitsP l)⟩
    exact ⟨Y, by rw [hY]; exact dPts_put l hf hc Y⟩
/-- no bytes are a part of others, if both are points -/
theorem ans_prefix {b c Y : List UInt8} {l m : List Pt} (h : ans b l) (h' : ans c m) (e : b = c ++ Y) : l = m ∧ Y = [] := by
  have r1 := ans_read h
  have r2 := ans_read h'
  obtain ⟨hf, hc, hb⟩ := h
  obtain ⟨hf', hc', hb'⟩ := h'
  have q1 : ru b 0 0 = (m.length, (uv m.length).length) := by
    rw [e, ← hb']
    unfold encP
    rw [List.append_assoc]
    exact ru_uv _ _ (by have := r2.2.1; omega)
  have hlen : l.length = m.length := congrArg Prod.fst (r1.1.symm.trans q1)
  have hm : ∃ Z, dPts l.length (ofBytes (b.drop (uv l.length).length)) = some (m, Z) := by
    obtain ⟨Z, hZ⟩ := r2.2.2.2.2
    have e2 : b.drop (uv l.length).length = c.drop (uv m.length).length ++ Y := by
      rw [hlen, e, List.drop_append_of_le_length]
      rw [← hb']; unfold encP; rw [List.length_append]; omega
    rw [e2, ofBytes_app, hlen]
    exact ⟨_, dPts_app _ _ _ _ _ hZ⟩
  obtain ⟨Z, hZ⟩ := hm
  obtain ⟨Z', hZ'⟩ := r1.2.2.2.2
  have hlm : l = m := by
    have := hZ'.symm.trans hZ
    exact congrArg Prod.fst (Option.some.inj this)
  refine ⟨hlm, ?_⟩
  subst hlm
  rw [← hb, ← hb'] at e
  have := congrArg List.length e
  rw [List.length_append] at this
  exact List.eq_nil_of_length_eq_zero (by omega)
theorem ans_one {b : List UInt8} {l m : List Pt} (h : ans b l) (h' : ans b m) : l = m := (ans_prefix h h' (List.append_nil b).symm).1
end Go.Proofs.YtknjejejkgihbaaDoor.ts
/-
  A region that draws its order, in which a call may panic and blocks of F may be written all along.
-/
namespace Go.Proofs.YtknjejejkgihbaaDoor.ord
open Go Go.RowKit words mem

/-- at a panic, whatever the frame's numbers hold -/
def PanicAll (Q : Exit → Act → World → Prop) : Exit → Act → World → Prop
  | .panic c, a, w => ∀ a' : Act, a'.defers = a.defers → Q (.panic c) a' w
  | e, a, w => Q e a w
theorem PanicAll.normal {Q : Exit → Act → World → Prop} {a : Act} {w : World} (h : Q .normal a w) : PanicAll Q .normal a w := h
theorem PanicAll.imp {Q : Exit → Act → World → Prop} : ∀ (e : Exit) (a : Act) (w : World), PanicAll Q e a w → Q e a w := fun e a w h => by
  cases e <;> first | exact h | exact (h : ∀ a' : Act, a'.defers = a.defers → Q _ a' w) a rfl
theorem put_defers (a : Act) (d : Option Tmp) (v : Value) : (a.put d v).defers = a.defers := by cases d <;> rfl
theorem PanicAll.weak {Q : Exit → Act → World → Prop} : ∀ c (a : Act) d v w, PanicAll Q (.panic c) (a.put d v) w → PanicAll Q (.panic c) a w := fun c a d v w h a' ha => h a' (ha.trans (put_defers a d v).symm)
namespace frp
section
variable {P : Program} {ops : Array Oper} {Q : Exit → Act → World → Prop} {md : Region.Mode} {S : World → Prop}
/-- taken before or behind another one that is apart from it -/
theorem callsIf_swap {j : Nat} {oi oj : Oper} {v : Value} (hj : ops[j]? = some oj) (hap : oi.apart ops oj = true) (hsi : ∀ cs b, oi.op ≠ .select cs b) (hsj : ∀ cs b, oj.op ≠ .select cs b)
    (hQ : ∀ c (a : Act) d v w, Q (.panic c) (a.put d v) w → Q (.panic c) a w) {K : Act → World → Prop} {a : Act} {w : World} (hy : CallsIf P ops S oi v a) (h : wpOp P ops Q j K (a.put oi.dst v) w) :
    wpOp P ops Q j (fun a' w' => CallsIf P ops S oi v a' ∧ K (a'.put oi.dst v) w') a w := by
  obtain ⟨h1, h2, h3⟩ := Oper.apart_spec hap
  have put : ∀ (b : Act), CallsIf P ops S oi v b → ∀ u, CallsIf P ops S oi v (b.put oj.dst u) := fun b hb u => hb.same (execOp_put oi hsi b oj.dst u h3) (wanted_put oi b oj.dst u h3)
  have eE := execOp_put oj hsj a oi.dst v h1
  have eW := wanted_put oj a oi.dst v h1
  unfold wpOp at h ⊢
  simp only [hj] at h ⊢
  rw [eW] at h
  by_cases hw : Region.wanted oj (yielded ops a.tmps) = true
  · rw [if_pos hw] at h ⊢
    rcases h with h | ⟨ha, hl⟩
    · refine .inl ?_
      unfold Oper.wp at h ⊢
      rw [eE] at h
      generalize (execOp a.eval oj).run P w = r at h ⊢
      rcases r with ⟨n, w'⟩ | ⟨x, w'⟩
      · cases n <;> simp only [Oper.upon] at h ⊢
        case value u => exact ⟨put a hy u, by rw [← Act.put_comm a v u h2]; exact h⟩
        case skip => exact ⟨put a hy _, by rw [← Act.put_comm a v undef h2]; exact h⟩
        case defer d => exact ⟨put { a with defers := d :: a.defers } (hy.same rfl rfl) _, by rw [← Act.put_comm _ v undef h2, ← Act.put_defers]; exact h⟩
        case enter f args =>
          refine Calls.mono h fun e w'' he => ?_
          rcases e with u | c | _
          · exact ⟨put a hy u, by rw [← Act.put_comm a v u h2]; exact he⟩
          · exact hQ _ _ _ _ _ he
          · exact he
        case row row args => exact Rows.mono h fun u w'' he => ⟨put a hy u, by rw [← Act.put_comm a v u h2]; exact he⟩
      · cases x <;> simp only [Oper.upon] at h ⊢
        exact hQ _ _ _ _ _ h
    · exact .inr ⟨by unfold Oper.asks at ha ⊢; rw [eE] at ha; exact ha, hl⟩
  · rw [if_neg hw] at h ⊢
    exact ⟨put a hy _, by rw [← Act.put_comm a v undef h2]; exact h⟩

theorem wpAnyE_call {ex : Nat → Bool} {i : Nat} {oi : Oper} {v : Value} (hi : ops[i]? = some oi) (hsel : ∀ (j : Nat) (o : Oper) cs b, ops[j]? = some o → o.op ≠ .select cs b) (hQ : ∀ c (a : Act) d v w, Q (.panic c) (a.put d v) w → Q (.panic c) a w) :
    ∀ (fuel : Nat) (listed : Array Bool) (a : Act) (w : World), Closed md ops listed → (∀ k, ex k = true → listed.getD k false = false → ∃ f, waits md ops i f k = true) →
      (∀ j oj, ops[j]? = some oj → j ≠ i → listed.getD j true = false → (∀ e ∈ oj.after, Region.binds md e = true → e.on ≠ i) → oi.apart ops oj = true) →
      i ∈ Region.ready md ops listed → CallsIf P ops S oi v a → S w →
      wpAnyE P md ops Q S ex fuel (listed.setIfInBounds i true) (a.put oi.dst v) w → wpAnyE P md ops Q S ex (fuel + 1) listed a w := by
  have getf : ∀ (l : Array Bool) k, l.getD k true = false → l.getD k false = false := fun l k h => by
    rcases Nat.lt_or_ge k l.size with h' | h'
    · simp [h'] at h ⊢; exact h
    · simp [Array.getElem?_eq_none h'] at h
  intro fuel
  induction fuel with
  | zero =>
    intro listed a w _ _ _ hr hy hS H
    refine ⟨fun h => (by rw [h] at hr; cases hr), fun j hj => ?_⟩
    by_cases hji : j = i
    · subst hji; exact hy.run hi hS (.inr ⟨hS, H⟩)
    · have := ready_mono hj hji
      rw [H.1] at this
      cases this
  | succ fuel ih =>
    intro listed a w hcl hexw hfree hr hy hS H
    refine ⟨fun h => (by rw [h] at hr; cases hr), fun j hj => ?_⟩
    by_cases hji : j = i
    · subst hji; exact hy.run hi hS (.inr ⟨hS, H⟩)
    obtain ⟨hjun, oj, hoj, hall⟩ := mem_ready.1 hj
    have hiun := (mem_ready.1 hr).1
    have hnot : ∀ e ∈ oj.after, Region.binds md e = true → e.on ≠ i := fun e he hb heq => by
      have h1 := hall e he hb
      rw [heq, getf _ _ hiun] at h1
      cases h1
    have hnex : ¬ ex j = true := fun hx => by
      obtain ⟨f, hf⟩ := hexw j hx (getf _ _ hjun)
      exact absurd hj (waits_not hcl (getf _ _ hiun) f j hf).2
    refine wpOp_mono (fun a' w' ⟨hy', h3⟩ => ?_) (callsIf_swap hoj (hfree j oj hoj hji hjun hnot) (fun cs b => hsel i oi cs b hi) (fun cs b => hsel j oj cs b hoj) hQ hy (H.2 j (ready_mono hj hji)))
    rcases h3 with ⟨hx, _⟩ | ⟨hS', h3⟩
    · exact absurd hx hnex
    refine .inr ⟨hS', ih (listed.setIfInBounds j true) a' w' (hcl.add hj) (fun k hk hun => hexw k hk ?_) (fun k ok hk hki hun hno => hfree k ok hk hki ?_ hno) (ready_mono hr (Ne.symm hji)) hy' hS' ?_⟩
    · by_cases hjk : j = k
      · subst hjk; exact getf _ _ hjun
      · rw [getD_set_ne false hjk] at hun; exact hun
    · by_cases hjk : j = k
      · subst hjk; exact hjun
      · rw [getD_set_ne true hjk] at hun; exact hun
    · rw [Array.setIfInBounds_comm _ _ hji]
      exact h3
end
section
variable {P : Program} {ops : Array Oper} {Q : Exit → Act → World → Prop} {md : Region.Mode} {F : Nat → Prop}
theorem read_step (hs : Region.noSelect ops = true) (hQ : ∀ c (a : Act) d v w, Q (.panic c) (a.put d v) w → Q (.panic c) a w) {k fuel : Nat} {listed : Array Bool} {w0 : World} {a : Act} {w : World} {ex : Nat → Bool} {o : Oper}
    (hcl : Closed md ops listed) (hw : Chg F w0 w) (hk : k ∈ Region.ready md ops listed) (hf : Region.free md ops listed k = true) (ho : ops[k]? = some o) (hp' : plainOp o.op = true)
    (hx : isMove o.op = true ∨ ∀ i, ex i = true → ∃ f, waits md ops k f i = true)
    (h : if Region.wanted o (yielded ops a.tmps) then o.quiet P a (fun w' => ∃ u : Wf F w0, w' = u.w) (fun a' => wpAnyE P md ops Q (fun w' => Chg F w0 w') ex fuel (listed.setIfInBounds k true) a' w) else wpAnyE P md ops Q (fun w' => Chg F w0 w') ex fuel (listed.setIfInBounds k true) (a.put o.dst undef) w) :
    wpAnyE P md ops Q (fun w' => Chg F w0 w') ex (fuel + 1) listed a w := by
  have key : ∃ v, YieldsIf P ops (fun w' => Chg F w0 w') o v a ∧ wpAnyE P md ops Q (fun w' => Chg F w0 w') ex fuel (listed.setIfInBounds k true) (a.put o.dst v) w := by
    by_cases hw' : Region.wanted o (yielded ops a.tmps) = true
    · rw [if_pos hw'] at h
      obtain ⟨v, hv, hn⟩ := h
      refine ⟨v, .inl ⟨hw', fun w1 h1 => ?_⟩, hn⟩
      have h2 := hv w1 ⟨⟨w1, h1⟩, rfl⟩
      unfold Oper.quietAt at h2
      generalize hrun : (execOp a.eval o).run P w1 = res at h2
      cases res with
      | halt x w2 => exact h2.elim
      | ok n w2 =>
        obtain ⟨u, rfl⟩ := plain_value o hp' _ _ _ _ hrun
        obtain ⟨e1, e2⟩ := h2
        rw [e1, e2]
    · rw [if_neg hw'] at h
      exact ⟨undef, .inr ⟨by simpa using hw', rfl⟩, h⟩
  obtain ⟨v, hy, hn⟩ := key
  rcases hx with hmv | hx
  · exact wpAnyE_move ho (Region.noSelect_spec hs) (fun c a w => hQ c a _ _ w) fuel listed a w (Region.free_spec ho hf) hk (move_yields hmv w hw hy) hw hn
  · exact wpAnyE_first ho (Region.noSelect_spec hs) (fun c a w => hQ c a _ _ w) fuel listed a w hcl (fun i hi _ => hx i hi) (Region.free_spec ho hf) hk hy hw hn

end
section
variable {P : Program} {l : List Oper} {Q : Exit → Act → World → Prop} {F : Nat → Prop}
theorem reads_any (hs : Region.noSelect l.toArray = true) (hQ : ∀ c (a : Act) d v w, Q (.panic c) (a.put d v) w → Q (.panic c) a w) {md : Region.Mode} {w0 w : World} {ex : Nat → Bool} {E : List Nat} (hE : ∀ i, ex i = true → i ∈ E) (hw : Chg F w0 w) {fuel : Nat} :
    ∀ (rs : List Nat) (listed : Array Bool) (a : Act), Closed md l.toArray listed → preB md l.toArray E rs listed = true →
      (Closed md l.toArray (lst rs listed) → wpQuiet P l.toArray (fun w' => ∃ u : Wf F w0, w' = u.w) (fun a' => wpAnyE P md l.toArray Q (fun w' => Chg F w0 w') ex fuel (lst rs listed) a' w) (pick l rs) a) →
      wpAnyE P md l.toArray Q (fun w' => Chg F w0 w') ex (fuel + rs.length) listed a w
  | [], listed, a, hcl, _, h => by simpa [pick, wpQuiet, lst] using h hcl
  | k :: rs, listed, a, hcl, hB, h => by
    simp only [preB, Bool.and_eq_true] at hB
    obtain ⟨⟨⟨⟨hr, hf⟩, hp⟩, hx⟩, hB'⟩ := hB
    have hk : k ∈ Region.ready md l.toArray listed := by simpa using hr
    cases ho : at_ l k with
    | none => rw [at_eq, ho] at hp; simp at hp
    | some o =>
      have ho' : l.toArray[k]? = some o := by rw [at_eq, ho]
      rw [ho'] at hp hx
      simp only [Option.map_some, Option.getD_some, Bool.or_eq_true] at hp hx
      have hcl2 := hcl.add hk
      have rest : ∀ a', wpQuiet P l.toArray (fun w' => ∃ u : Wf F w0, w' = u.w) (fun a' => wpAnyE P md l.toArray Q (fun w' => Chg F w0 w') ex fuel (lst rs (listed.setIfInBounds k true)) a' w) (pick l rs) a' → wpAnyE P md l.toArray Q (fun w' => Chg F w0 w') ex (fuel + rs.length) (listed.setIfInBounds k true) a' w :=
        fun a' h' => reads_any hs hQ hE hw rs _ a' hcl2 hB' (fun _ => h')
      have hcl3 : Closed md l.toArray (lst (k :: rs) listed) := by
        have : ∀ (rs : List Nat) (listed : Array Bool), Closed md l.toArray listed → preB md l.toArray E rs listed = true → Closed md l.toArray (lst rs listed) := by
          intro rs
          induction rs with
          | nil => intro listed h _; exact h
          | cons j rs ih =>
            intro listed h hb
            simp only [preB, Bool.and_eq_true] at hb
            exact ih _ (h.add (by simpa using hb.1.1.1.1)) hb.2
        exact this rs _ hcl2 hB'
      have h1 := h hcl3
      simp only [pick, ho, wpQuiet] at h1
      refine read_step hs hQ (fuel := fuel + rs.length) hcl hw hk hf ho' hp (hx.imp id fun hx i hi => ⟨l.toArray.size, by have := List.all_eq_true.1 hx i (hE i hi); exact this⟩) ?_
      split at h1
      · rename_i hw'
        rw [if_pos hw']
        exact Oper.quiet_mono (fun a' => rest a') h1
      · rename_i hw'
        rw [if_neg hw']
        exact rest _ h1

end
section
variable {P : Program} {l : List Oper} {Q : Exit → Act → World → Prop} {md : Region.Mode} {F : Nat → Prop}
theorem tr_any (hs : Region.noSelect l.toArray = true) (hQ : ∀ c (a : Act) d v w, Q (.panic c) (a.put d v) w → Q (.panic c) a w) : ∀ (t : Tr) (listed : Array Bool) (w0 : World) (a : Act) (w : World), Closed md l.toArray listed → Chg F w0 w → trB md l.toArray t listed = true →
    fr.wpTr F P l Q t w0 a w → wpAnyE P md l.toArray Q (fun w' => Chg F w0 w') (fun k => t.exs.contains k) t.size listed a w
  | .stop, listed, w0, a, w, _, _, hB, h => ⟨by simpa [trB] using hB, h⟩
  | .reads rs t, listed, w0, a, w, hcl, hw, hB, h => by
    simp only [trB, Bool.and_eq_true] at hB
    simp only [fr.wpTr] at h
    have := reads_any (P := P) (Q := Q) (md := md) (w0 := w0) (w := w) (ex := fun k => t.exs.contains k) (E := t.exs) (fuel := t.size) hs hQ (fun i hi => by simpa using hi) hw rs listed a hcl hB.1
      (fun hcl' => wpQuiet_mono' (fun a' h' => tr_any hs hQ t _ w0 a' w hcl' hw hB.2 h') _ _ h)
    rw [Nat.add_comm] at this
    exact this
  | .same k t, listed, w0, a, w, hcl, hw, hB, h => by
    simp only [trB, Bool.and_eq_true] at hB
    obtain ⟨⟨⟨⟨hr, hf⟩, _⟩, hx⟩, hB'⟩ := hB
    simp only [fr.wpTr] at h
    obtain ⟨o, v, ho, hy, h⟩ := h
    have ho' : l.toArray[k]? = some o := by rw [at_eq, ho]
    have hk : k ∈ Region.ready md l.toArray listed := by simpa using hr
    exact wpAnyE_call ho' (Region.noSelect_spec hs) hQ t.size listed a w hcl (fun i hi _ => ⟨l.toArray.size, List.all_eq_true.1 hx i (by simpa [Tr.exs] using hi)⟩) (Region.free_spec ho' hf) hk hy hw (tr_any hs hQ t _ w0 _ w (hcl.add hk) hw hB' h)
  | .one k b t, listed, w0, a, w, hcl, hw, hB, h => by
    simp only [trB, Bool.and_eq_true] at hB
    obtain ⟨⟨hr, ho⟩, hB'⟩ := hB
    have hrk : Region.ready md l.toArray listed = [k] := by simpa using hr
    rw [at_eq] at ho
    obtain ⟨o, ho⟩ := Option.isSome_iff_exists.1 ho
    simp only [fr.wpTr] at h
    refine ⟨fun h0 => (by rw [hrk] at h0; cases h0), fun j hj => ?_⟩
    have hj' := hj
    rw [hrk] at hj'
    obtain rfl : j = k := by simpa using hj'
    exact fr.act_any (E := t.exs) hs ho (fun w0 a w hb h' => tr_any hs hQ t _ w0 a w (hcl.add hj) hb hB' h') (fun i hi => by cases b <;> simp [Tr.exs, hi]) (fun hb => by subst hb; simp [Tr.exs]) h
  | .two k b t m c u, listed, w0, a, w, hcl, hw, hB, h => by
    simp only [trB, Bool.and_eq_true] at hB
    obtain ⟨⟨⟨⟨⟨hr, ho⟩, ho2⟩, hsz⟩, hB1⟩, hB2⟩ := hB
    have hrk : Region.ready md l.toArray listed = [k, m] := by simpa using hr
    have hsz' : t.size = u.size := by simpa using hsz
    rw [at_eq] at ho ho2
    obtain ⟨o, ho⟩ := Option.isSome_iff_exists.1 ho
    obtain ⟨o2, ho2⟩ := Option.isSome_iff_exists.1 ho2
    simp only [fr.wpTr] at h
    refine ⟨fun h0 => (by rw [hrk] at h0; cases h0), fun j hj => ?_⟩
    have hj' := hj
    rw [hrk] at hj'
    rcases List.mem_cons.1 hj' with rfl | hj'
    · exact fr.act_any (E := t.exs) hs ho (fun w0 a w hb h' => tr_any hs hQ t _ w0 a w (hcl.add hj) hb hB1 h') (fun i hi => by simp only [Tr.exs, List.mem_append]; exact .inl (by cases b <;> simp [hi])) (fun hb => by subst hb; simp [Tr.exs]) h.1
    · obtain rfl : j = m := by simpa using hj'
      refine fr.act_any (E := u.exs) hs ho2 (fun w0 a w hb h' => ?_) (fun i hi => by simp only [Tr.exs, List.mem_append]; exact .inr (by cases c <;> simp [hi])) (fun hb => by subst hb; simp [Tr.exs]) h.2
      rw [hsz']
      exact tr_any hs hQ u _ w0 a w (hcl.add hj) hb hB2 h'


theorem wp_region_ptree {id : Nat} {a : Act} {w : World} (t : Tr) (hm : P.follows .mixedOrders = true) (hB : treeB l t = true) (h : fr.wpTr F P l (PanicAll Q) t w a w.drew) : (Code.region id l.toArray true).wp P Q a w := by
  simp only [treeB, Bool.and_eq_true] at hB
  obtain ⟨⟨hs, hlen⟩, hord⟩ := hB
  have hlen' : t.size = l.length := by simpa using hlen
  refine Code.wp_mono PanicAll.imp (wp_region_any hm ?_)
  have := tr_any (md := .any) (Q := PanicAll Q) hs PanicAll.weak t (Array.replicate l.length false) w a w.drew (fun j oj hj => ?_) (Chg.refl _ _).drew hord h
  · have h2 := wpAny_of_E _ _ _ _ this
    rw [hlen'] at h2
    simpa using h2
  · exfalso
    rcases Nat.lt_or_ge j l.length with h | h
    · simp [h] at hj
    · simp [Array.getElem?_eq_none, h] at hj
variable {w0 w : World} {a : Act} {t : Tr} {k : Nat}
theorem tr_onep (one : List Oper) (ho : pick l [k] = one)
    (h : ∀ K : Exit → Act → World → Prop, (∀ a w, Chg F w0 w → fr.wpTr F P l (PanicAll Q) t w0 a w → K .normal a w) → (∀ a w, Chg F w0 w → fr.wpTr F P l (PanicAll Q) t w a w → K .normal a w) → (∀ c a w, (∀ a' : Act, a'.defers = a.defers → Q (.panic c) a' w) → K (.panic c) a w) → wpList P l.toArray K one a w) : fr.wpTr F P l (PanicAll Q) (.one k false t) w0 a w := by
  subst ho
  exact fun K h1 h2 h3 => h K h1 h2 fun c a w hq => h3 _ a w (by simp) hq
end
end frp
end Go.Proofs.YtknjejejkgihbaaDoor.ord
/-
  Tsz: the program's reader of bits; what the decoder gets of it.
-/
namespace Go.Proofs.YtknjejejkgihbaaDoor.ts
open Go.ChangeShapes Go.WideShapes Go.ChangeAt Go.RowKit plain words ord mem bitm uvs

/-- a reader, and the bits that it has left -/
def RX (w : World) (p : Nat) (r : Option Nat) (X : List Bool) : Prop := ∃ bs k, bitc.IsR w p r bs k ∧ bs.length ≤ 1099511627776 ∧ k ≤ 8 * bs.length ∧ X = (ofBytes bs).drop k
theorem RX.chg {S : Nat → Prop} {w w' : World} {p : Nat} {r : Option Nat} {X : List Bool} (h : RX w p r X) (hc : Chg S w w') (hp : ¬ S p) (hr : ∀ g, r = some g → ¬ S g) : RX w' p r X := by
  obtain ⟨bs, k, h1, h2⟩ := h
  exact ⟨bs, k, h1.chg (chg_to hc) hp hr, h2⟩
theorem RX.lt {w : World} {p : Nat} {r : Option Nat} {X : List Bool} (h : RX w p r X) : p < w.heap.size := by
  obtain ⟨bs, k, h1, _⟩ := h; exact h1.lt
def badC : List PanicEntry := [{ v := .iface 24 (.int .i64 50), recovered := false }]
def RetGot (w : World) (p : Nat) (r : Option Nat) (n : Nat) (X : List Bool) (e : Ending) (w' : World) : Prop := match gb n X with
  | some (V, X') => e = .returned (.tuple #[.int .u64 (V : Int), .bool true]) ∧ RX w' p r X' ∧ Chg (fun j => j = p) w w'
  | none => e = .returned (.tuple #[.int .u64 0, .bool false]) ∧ Chg (fun j => j = p) w w'
theorem got_x (w : World) (p : Nat) (r : Option Nat) (X : List Bool) (h : RX w p r X) (n : Nat) (hn : n ≤ 64) :
    Calls Tryd.prog 61 #[.pointer (some ⟨p, 0, none⟩), .int .i64 (n : Int)] w (RetGot w p r n X) := by
  obtain ⟨bs, k, h1, h2, h3, rfl⟩ := h
  have hcl : bitc.cl (n : Int) = n := by unfold bitc.cl; omega
  have hlen : ((ofBytes bs).drop k).length = 8 * bs.length - k := by rw [List.length_drop, ofBytes_len]
  by_cases hy : n ≤ 8 * bs.length - k
  · refine (bitc.get_x w p r bs k (n : Int) (by omega) h1 h2 h3 (by rw [hcl]; exact hy)).mono ?_
    rintro e w' ⟨rfl, h4, h5⟩
    unfold RetGot gb
    rw [if_pos (by rw [hlen]; exact hy)]
    rw [hcl] at h4 ⊢
    exact ⟨rfl, ⟨bs, k + n, h4, h2, by omega, by rw [List.drop_drop]⟩, chg_of h5⟩
  · refine (bitc.get_no w p r bs k (n : Int) (by omega) h1 h2 h3 (by rw [hcl]; exact hy)).mono ?_
    rintro e w' ⟨rfl, m, rfl⟩
    unfold RetGot gb
    rw [if_neg (by rw [hlen]; exact hy)]
    exact ⟨rfl, chg_of (bitc.chg_drewN _ _ _)⟩
def RetD (w : World) (p : Nat) (r : Option Nat) (n : Nat) (X : List Bool) (e : Ending) (w' : World) : Prop := match gb n X with
  | some (V, X') => e = .returned (.int .u64 (V : Int)) ∧ RX w' p r X' ∧ Chg (fun j => j = p) w w'
  | none => e = .panicked badC ∧ Chg (fun j => j = p) w w'
set_option maxRecDepth 100000 in
theorem get_d (w : World) (pd p : Nat) (r : Option Nat) (X : List Bool) (hp : w.cell? ⟨pd, 0, none⟩ = some (.pointer (some ⟨p, 0, none⟩))) (h : RX w p r X) (n : Nat) (hn : n ≤ 64) :
    Calls Tryd.prog 57 #[.pointer (some ⟨pd, 0, none⟩), .int .i64 (n : Int)] w (RetD w p r n X) := by
  have HG := Lib.hid (got_x w p r X h n hn)
  clear h hn
  go_enter Tryd.func57, Tryd.ntmps57
  go_wp2_with (fail)
  refine HG.out.mono ?_
  cases hg : gb n X with
  | none =>
    intro e w1 hr
    unfold RetGot at hr
    rw [hg] at hr
    obtain ⟨rfl, hc⟩ := hr
    have HC := Lib.hid hc
    clear hc HG
    go_wp2_with (fail)
    refine ⟨rfl, ?_⟩
    unfold RetD
    rw [hg]
    exact ⟨rfl, HC.out⟩
  | some q =>
    obtain ⟨V, X1⟩ := q
    intro e w1 hr
    unfold RetGot at hr
    rw [hg] at hr
    obtain ⟨rfl, hx, hc⟩ := hr
    have HC := Lib.hid hc
    have HX := Lib.hid hx
    clear hc hx HG
    go_wp2_with (fail)
    go_ret
    unfold RetD
    rw [hg]
    exact ⟨rfl, HX.out, HC.out⟩
end Go.Proofs.YtknjejejkgihbaaDoor.ts
/-
  Tsz: the program's decoder as memory.
-/
namespace Go.Proofs.YtknjejejkgihbaaDoor.ts
open Go.ChangeShapes Go.WideShapes Go.ChangeAt Go.RowKit plain words ord mem bitm uvs

/-- a window's cells -/
abbrev W3 := Bool × Int × Int
def w3 (a : Win) : W3 := (wS a, (wA a : Int), (wB a : Int))
/-- the decoder's numbers: the last point, the step, two columns -/
structure DC where
  t : Int
  v : Nat
  s : Nat
  d : Int
  lv : Nat
  a : W3
  ls : Nat
  b : W3
def DC.cells (q : DC) (pr : Nat) : Array Value :=
  #[.pointer (some ⟨pr, 0, none⟩), .int .i64 q.t, .int .u64 (q.v : Int), .int .u64 (q.s : Int), .int .i64 q.d, .int .u64 (q.lv : Int), .bool q.a.1, .int .i64 q.a.2.1, .int .i64 q.a.2.2, .int .u64 (q.ls : Int), .bool q.b.1, .int .i64 q.b.2.1, .int .i64 q.b.2.2]
structure PD (H : Nat) (w : World) (pd pr : Nat) (r : Option Nat) (X : List Bool) (q : DC) : Prop where
  dec : w.heap[pd]? = some (.cells (q.cells pr) 87 (0, 0))
  rd : RX w pr r X
  ne : pd ≠ pr
  nr : some pd ≠ r
  nq : some pr ≠ r
  hd : H ≤ pd
  hp : H ≤ pr
  lay : Lay w
  two : 2 ≤ H
def TD (pd pr : Nat) (k : Nat) : Prop := k = pd ∨ k = pr
theorem PD.sz {H : Nat} {w : World} {pd pr : Nat} {r : Option Nat} {X : List Bool} {q : DC} (h : PD H w pd pr r X q) : H ≤ w.heap.size := by
  have := blk_lt h.dec; have := h.hd; omega
theorem td_of {w w' : World} {pd pr : Nat} (h : Chg (fun k => k = pr) w w') : Chg (TD pd pr) w w' := h.mono (fun _ _ e => .inr e)
theorem td_pd {w w' : World} {pd pr : Nat} (h : Chg (fun k => k = pd) w w') : Chg (TD pd pr) w w' := h.mono (fun _ _ e => .inl e)
theorem td_none {w w' : World} {pd pr : Nat} (h : Below w.heap.size w w') : Chg (TD pd pr) w w' := (Chg.of_below h).mono (fun _ _ e => e.elim)
theorem pr_none {w w' : World} {pr : Nat} (h : Below w.heap.size w w') : Chg (fun k => k = pr) w w' := (Chg.of_below h).mono (fun _ _ e => e.elim)
theorem PD.bel {H : Nat} {w w' : World} {pd pr : Nat} {r : Option Nat} {X : List Bool} {q : DC} (h : PD H w pd pr r X q) (hc : Chg (TD pd pr) w w') : Below H w w' :=
  hc.below h.sz (fun k e => e.elim (fun e => by subst e; exact h.hd) (fun e => by subst e; exact h.hp))
theorem PD.got {H : Nat} {w w' : World} {pd pr : Nat} {r : Option Nat} {X X' : List Bool} {q : DC} (h : PD H w pd pr r X q) (hx : RX w' pr r X') (hc : Chg (fun k => k = pr) w w') : PD H w' pd pr r X' q :=
  ⟨hc.blk h.dec h.ne, hx, h.ne, h.nr, h.nq, h.hd, h.hp, h.lay.below (h.bel (td_of hc)) h.two, h.two⟩
theorem PD.below {H : Nat} {w w' : World} {pd pr : Nat} {r : Option Nat} {X : List Bool} {q : DC} (h : PD H w pd pr r X q) (hb : Below w.heap.size w w') : PD H w' pd pr r X q :=
  h.got (h.rd.chg (Chg.of_below hb) (fun e => e) (fun _ _ e => e)) (pr_none hb)
theorem PD.drew {H : Nat} {w : World} {pd pr : Nat} {r : Option Nat} {X : List Bool} {q : DC} (h : PD H w pd pr r X q) : PD H w.drew pd pr r X q := h.below (Below.refl _ _).drew
/-- a store into the decoder's own cells -/
theorem PD.set {H : Nat} {w w' : World} {pd pr : Nat} {r : Option Nat} {X : List Bool} {q q' : DC} (h : PD H w pd pr r X q) (hc : Chg (fun k => k = pd) w w')
    (he : w'.heap[pd]? = some (.cells (q'.cells pr) 87 (0, 0))) : PD H w' pd pr r X q' :=
  ⟨he, h.rd.chg hc (fun e => h.ne e.symm) (fun g hg e => h.nr (by rw [hg, e])), h.ne, h.nr, h.nq, h.hd, h.hp, h.lay.below (h.bel (td_pd hc)) h.two, h.two⟩
theorem PD.cell {H : Nat} {w : World} {pd pr : Nat} {r : Option Nat} {X : List Bool} {q : DC} (h : PD H w pd pr r X q) (j : Nat) {v : Value} (hv : (q.cells pr)[j]? = some v) : w.cell? ⟨pd, j, none⟩ = some v := by
  rw [cell_of_row _ _ _ _ _ _ h.dec]; exact hv
theorem PD.fz {H : Nat} {w : World} {pd pr : Nat} {r : Option Nat} {X : List Bool} {q : DC} (h : PD H w pd pr r X q) (j : Nat) : w.frozen? ⟨pd, j, none⟩ = false := frozen_of_row _ _ j _ _ h.dec
theorem PD.get {H : Nat} {w : World} {pd pr : Nat} {r : Option Nat} {X : List Bool} {q : DC} (h : PD H w pd pr r X q) (n : Nat) (hn : n ≤ 64) :
    Calls Tryd.prog 57 #[.pointer (some ⟨pd, 0, none⟩), .int .i64 (n : Int)] w (RetD w pr r n X) := get_d w pd pr r X (h.cell 0 rfl) h.rd n hn
theorem chg_pd {w : World} (pd i : Nat) (x : Value) : Chg (fun k => k = pd) w (w.setCell ⟨pd, i, none⟩ x) := (Chg.refl (fun k => k = pd) w).setCell (p := ⟨pd, i, none⟩) (fun _ => rfl) x

/-! ### a time, ones first -/
def dCls (k : Nat) (X : List Bool) : Option (Int × List Bool) := match k with
  | 0 => some (0, X)
  | 1 => (gb 7 X).map fun q => ((q.1 : Int) - 63, q.2)
  | 2 => (gb 9 X).map fun q => ((q.1 : Int) - 255, q.2)
  | _ => (gb 12 X).map fun q => ((q.1 : Int) - 2047, q.2)
def dTk : Nat → List Bool → Option (Int × List Bool)
  | 0, X => (gb 64 X).map fun q => (w64 q.1, q.2)
  | m + 1, X => (gb 1 X).bind fun q => if q.1 = 0 then dCls (3 - m) q.2 else dTk m q.2
theorem dTk_time (X : List Bool) : dTk 4 X = dTime X := by
  unfold dTime
  simp only [dTk, dCls]
  rfl
def RetT (H : Nat) (w : World) (pd pr : Nat) (r : Option Nat) (X : List Bool) (q : DC) (o : Option (Int × List Bool)) (e : Ending) (w' : World) : Prop := match o with
  | some (x, X') => e = .returned (.int .i64 x) ∧ PD H w' pd pr r X' q ∧ Chg (fun k => k = pr) w w'
  | none => e = .panicked badC ∧ Chg (fun k => k = pr) w w'
end Go.Proofs.YtknjejejkgihbaaDoor.ts
/-
  Tsz: how the program's decoder reads a time.
-/
namespace Go.Proofs.YtknjejejkgihbaaDoor.ts
open Go.ChangeShapes Go.WideShapes Go.ChangeAt Go.RowKit plain words ord mem bitm uvs

theorem clsV {X X' : List Bool} {V n : Nat} (h : gb n X = some (V, X')) (hn : n ≤ 12) : (V : Int) ≤ 4096 := by
  have h1 := gb_lt h
  have h2 := Nat.pow_le_pow_right (n := 2) (by omega) hn
  have h3 : (2 : Nat) ^ 12 = 4096 := by decide
  omega
set_option maxHeartbeats 2000000 in
set_option maxRecDepth 100000 in
theorem change_d (H : Nat) (w : World) (pd pr : Nat) (r : Option Nat) (X : List Bool) (q : DC) (h : PD H w pd pr r X q) :
    Calls Tryd.prog 58 #[.pointer (some ⟨pd, 0, none⟩)] w (RetT H w pd pr r X q (dTime X)) := by
  have HP := Lib.hid h
  have HD := Lib.hid (dTk_time X)
  clear h
  go_enter Tryd.func58, Tryd.ntmps58
  go_wp2_with (fail)
  go_loopg [3] 5 (fun gg s3 wr => ∃ (k : Nat) (X1 : List Bool), k ≤ 4 ∧ 4 - k ≤ gg ∧ s3 = .int .i64 k ∧ Aside (dTk (4 - k) X1 = dTime X) ∧ Aside (PD H wr pd pr r X1 q) ∧ Aside (Chg (fun k => k = pr) w wr))
  case atStart => exact ⟨0, X, by omega, by omega, rfl, HD.out, HP.out, Chg.refl _ _⟩
  case round =>
    clear HP HD
    obtain ⟨k, X1, hk, hg, rfl, HD, HP, HC⟩ := hrel
    by_cases hk3 : k ≤ 3
    · have hk3i : (k : Int) ≤ 3 := by omega
      have HG := Lib.hid (HP.out.get 1 (by omega))
      have hD := HD.out
      rw [show 4 - k = (3 - k) + 1 from by omega, dTk] at hD
      cases hb : gb 1 X1 with
      | none =>
        rw [hb] at hD
        have HN := Lib.hid (show dTime X = none from hD.symm)
        clear hD
        go_wp2_with (fail)
        refine HG.out.mono ?_
        intro e w1 hr
        unfold RetD at hr
        rw [hb] at hr
        obtain ⟨rfl, hc⟩ := hr
        have HC1 := Lib.hid (chg_trans HC.out hc)
        clear hc HG hb
        go_wp2_with (fail)
        refine ⟨rfl, ?_⟩
        unfold RetT
        rw [HN.out]
        exact ⟨rfl, HC1.out⟩
      | some z =>
        obtain ⟨V, X2⟩ := z
        have hV2 : V < 2 := gb_lt hb
        rw [hb] at hD
        simp only [Option.bind_some] at hD
        have HDD := Lib.hid hD
        clear hD
        go_wp2_with (fail)
        refine HG.out.mono ?_
        intro e w1 hr
        unfold RetD at hr
        rw [hb] at hr
        obtain ⟨rfl, hx, hc⟩ := hr
        have HP1 := Lib.hid (HP.out.got hx hc)
        have HC1 := Lib.hid (chg_trans HC.out hc)
        clear hx hc HG hb HP HC HD
        by_cases hV : V = 0
        · subst hV
          have hdd := HDD.out
          rw [if_pos rfl, show 3 - (3 - k) = k from by omega] at hdd
          have HDT := Lib.hid hdd
          clear hdd HDD
          have hk4 : k = 0 ∨ k = 1 ∨ k = 2 ∨ k = 3 := by omega
          clear hk hg hk3 hk3i hV2
          rcases hk4 with rfl | rfl | rfl | rfl
          · go_wp2_with (fail)
            go_ret
            unfold RetT
            rw [← HDT.out]
            exact ⟨rfl, HP1.out, HC1.out⟩
          · have c0 := HP1.out.lay.cls 0 7 rfl
            have c1 := HP1.out.lay.cls 1 63 rfl
            obtain ⟨N, hN⟩ : ∃ N, w1.heap.size = N := ⟨_, rfl⟩
            obtain ⟨w2, hw2⟩ : ∃ w2, w1.alloc (.cells #[.int .i64 7, .int .i64 63] 96) = w2 := ⟨_, rfl⟩
            have hb2 : Below w1.heap.size w1 w2 := by rw [← hw2]; exact (Below.refl _ _).alloc (Nat.le_refl _) _
            have hg2 : w2.heap[N]? = some (.cells #[.int .i64 7, .int .i64 63] 96 (0, 0)) := by rw [← hw2, ← hN]; exact alloc_new _ _
            have hNp : pr < w1.heap.size := HP1.out.rd.lt
            have HP2 := Lib.hid (HP1.out.below hb2)
            have HC2 := Lib.hid (chg_trans HC1.out (pr_none hb2))
            have HW2 := Lib.hid hw2
            have HNN := Lib.hid hN
            have d0 : w2.cell? ⟨N, 0, none⟩ = some (.int .i64 7) := by rw [cell_of_row _ _ _ _ _ _ hg2]; rfl
            have d1 : w2.cell? ⟨N, 1, none⟩ = some (.int .i64 63) := by rw [cell_of_row _ _ _ _ _ _ hg2]; rfl
            have hNn : N ≠ pr := by omega
            have hNl : N < w2.heap.size := blk_lt hg2
            have HDR := Lib.hid (show PD H w2.drew pd pr r X2 q from HP2.out.drew)
            clear hb2 hg2 hw2 hN HP1 HC1
            go_wp2_with (fail)
            rw [HNN.out, HW2.out]
            have q0 := Wf.at_ (F := fun k => k = pr) d0 hNn
            have q1 := Wf.at_ (F := fun k => k = pr) d1 hNn
            refine frp.wp_region_ptree (F := fun k => k = pr) (.reads [0, 1, 2, 5, 6] (.one 3 false (.reads [4, 7, 8] .stop))) (by kernel_rfl) (by kernel_rfl) ?_
            refine fr.tr_reads _ (by dsimp only [pick, at_]) ?_
            repeat (go_big_quiet_step (fail))
            refine wpQuiet_nil ?_
            refine frp.tr_onep _ (by dsimp only [pick, at_]) ?_
            intro K1 g1 g2 g3
            clear g2 q0 q1
            have HG := Lib.hid (HDR.out.get 7 (by omega))
            go_wp2_with (fail)
            refine HG.out.mono ?_
            cases hb : gb 7 X2 with
            | none =>
              intro e w3 hr
              unfold RetD at hr
              rw [hb] at hr
              obtain ⟨rfl, hc⟩ := hr
              have HN := Lib.hid (show dTime X = none by rw [← HDT.out]; simp only [dCls, hb, Option.map_none])
              have HC3 := Lib.hid (chg_trans (chg_trans HC2.out (pr_none (Below.refl _ _).drew)) hc)
              clear hc HG hb g1
              go_wp2_with (fail)
              intro a' ha'
              go_wp2_with (fail)
              refine ⟨ha', ?_⟩
              unfold RetT
              rw [HN.out]
              exact ⟨rfl, HC3.out⟩
            | some z =>
              obtain ⟨V, X3⟩ := z
              have hV4 := clsV hb (by omega)
              intro e w3 hr
              unfold RetD at hr
              rw [hb] at hr
              obtain ⟨rfl, hx, hc⟩ := hr
              have HN := Lib.hid (show dTime X = some ((V : Int) - 63, X3) by rw [← HDT.out]; simp only [dCls, hb, Option.map_some])
              have HP3 := Lib.hid (HDR.out.got hx hc)
              have HC3 := Lib.hid (chg_trans (chg_trans HC2.out (pr_none (Below.refl _ _).drew)) hc)
              have hc2 := Lib.hid (chg_trans (pr_none (pr := pr) (Below.refl w2.heap.size w2).drew) hc)
              clear hx hc HG hb g3
              go_wp2_with (fail)
              refine g1 _ _ hc2.out ?_
              clear g1
              refine fr.tr_reads _ (by dsimp only [pick, at_]) ?_
              repeat (go_big_quiet_step (fail))
              refine wpQuiet_nil ?_
              refine fr.tr_stop ?_
              refine PanicAll.normal ?_
              go_wp2_with (fail)
              go_ret
              unfold RetT
              rw [HN.out]
              exact ⟨by go_num, HP3.out, HC3.out⟩
          · have c0 := HP1.out.lay.cls 2 9 rfl
            have c1 := HP1.out.lay.cls 3 255 rfl
            obtain ⟨N, hN⟩ : ∃ N, w1.heap.size = N := ⟨_, rfl⟩
            obtain ⟨w2, hw2⟩ : ∃ w2, w1.alloc (.cells #[.int .i64 9, .int .i64 255] 96) = w2 := ⟨_, rfl⟩
            have hb2 : Below w1.heap.size w1 w2 := by rw [← hw2]; exact (Below.refl _ _).alloc (Nat.le_refl _) _
            have hg2 : w2.heap[N]? = some (.cells #[.int .i64 9, .int .i64 255] 96 (0, 0)) := by rw [← hw2, ← hN]; exact alloc_new _ _
            have hNp : pr < w1.heap.size := HP1.out.rd.lt
            have HP2 := Lib.hid (HP1.out.below hb2)
            have HC2 := Lib.hid (chg_trans HC1.out (pr_none hb2))
            have HW2 := Lib.hid hw2
            have HNN := Lib.hid hN
            have d0 : w2.cell? ⟨N, 0, none⟩ = some (.int .i64 9) := by rw [cell_of_row _ _ _ _ _ _ hg2]; rfl
            have d1 : w2.cell? ⟨N, 1, none⟩ = some (.int .i64 255) := by rw [cell_of_row _ _ _ _ _ _ hg2]; rfl
            have hNn : N ≠ pr := by omega
            have hNl : N < w2.heap.size := blk_lt hg2
            have HDR := Lib.hid (show PD H w2.drew pd pr r X2 q from HP2.out.drew)
            clear hb2 hg2 hw2 hN HP1 HC1
            go_wp2_with (fail)
            rw [HNN.out, HW2.out]
            have q0 := Wf.at_ (F := fun k => k = pr) d0 hNn
            have q1 := Wf.at_ (F := fun k => k = pr) d1 hNn
            refine frp.wp_region_ptree (F := fun k => k = pr) (.reads [0, 1, 2, 5, 6] (.one 3 false (.reads [4, 7, 8] .stop))) (by kernel_rfl) (by kernel_rfl) ?_
            refine fr.tr_reads _ (by dsimp only [pick, at_]) ?_
            repeat (go_big_quiet_step (fail))
            refine wpQuiet_nil ?_
            refine frp.tr_onep _ (by dsimp only [pick, at_]) ?_
            intro K1 g1 g2 g3
            clear g2 q0 q1
            have HG := Lib.hid (HDR.out.get 9 (by omega))
            go_wp2_with (fail)
            refine HG.out.mono ?_
            cases hb : gb 9 X2 with
            | none =>
              intro e w3 hr
              unfold RetD at hr
              rw [hb] at hr
              obtain ⟨rfl, hc⟩ := hr
              have HN := Lib.hid (show dTime X = none by rw [← HDT.out]; simp only [dCls, hb, Option.map_none])
              have HC3 := Lib.hid (chg_trans (chg_trans HC2.out (pr_none (Below.refl _ _).drew)) hc)
              clear hc HG hb g1
              go_wp2_with (fail)
              intro a' ha'
              go_wp2_with (fail)
              refine ⟨ha', ?_⟩
              unfold RetT
              rw [HN.out]
              exact ⟨rfl, HC3.out⟩
            | some z =>
              obtain ⟨V, X3⟩ := z
              have hV4 := clsV hb (by omega)
              intro e w3 hr
              unfold RetD at hr
              rw [hb] at hr
              obtain ⟨rfl, hx, hc⟩ := hr
              have HN := Lib.hid (show dTime X = some ((V : Int) - 255, X3) by rw [← HDT.out]; simp only [dCls, hb, Option.map_some])
              have HP3 := Lib.hid (HDR.out.got hx hc)
              have HC3 := Lib.hid (chg_trans (chg_trans HC2.out (pr_none (Below.refl _ _).drew)) hc)
              have hc2 := Lib.hid (chg_trans (pr_none (pr := pr) (Below.refl w2.heap.size w2).drew) hc)
              clear hx hc HG hb g3
              go_wp2_with (fail)
              refine g1 _ _ hc2.out ?_
              clear g1
              refine fr.tr_reads _ (by dsimp only [pick, at_]) ?_
              repeat (go_big_quiet_step (fail))
              refine wpQuiet_nil ?_
              refine fr.tr_stop ?_
              refine PanicAll.normal ?_
              go_wp2_with (fail)
              go_ret
              unfold RetT
              rw [HN.out]
              exact ⟨by go_num, HP3.out, HC3.out⟩
          · have c0 := HP1.out.lay.cls 4 12 rfl
            have c1 := HP1.out.lay.cls 5 2047 rfl
            obtain ⟨N, hN⟩ : ∃ N, w1.heap.size = N := ⟨_, rfl⟩
            obtain ⟨w2, hw2⟩ : ∃ w2, w1.alloc (.cells #[.int .i64 12, .int .i64 2047] 96) = w2 := ⟨_, rfl⟩
            have hb2 : Below w1.heap.size w1 w2 := by rw [← hw2]; exact (Below.refl _ _).alloc (Nat.le_refl _) _
            have hg2 : w2.heap[N]? = some (.cells #[.int .i64 12, .int .i64 2047] 96 (0, 0)) := by rw [← hw2, ← hN]; exact alloc_new _ _
            have hNp : pr < w1.heap.size := HP1.out.rd.lt
            have HP2 := Lib.hid (HP1.out.below hb2)
            have HC2 := Lib.hid (chg_trans HC1.out (pr_none hb2))
            have HW2 := Lib.hid hw2
            have HNN := Lib.hid hN
            have d0 : w2.cell? ⟨N, 0, none⟩ = some (.int .i64 12) := by rw [cell_of_row _ _ _ _ _ _ hg2]; rfl
            have d1 : w2.cell? ⟨N, 1, none⟩ = some (.int .i64 2047) := by rw [cell_of_row _ _ _ _ _ _ hg2]; rfl
            have hNn : N ≠ pr := by omega
            have hNl : N < w2.heap.size := blk_lt hg2
            have HDR := Lib.hid (show PD H w2.drew pd pr r X2 q from HP2.out.drew)
            clear hb2 hg2 hw2 hN HP1 HC1
            go_wp2_with (fail)
            rw [HNN.out, HW2.out]
            have q0 := Wf.at_ (F := fun k => k = pr) d0 hNn
            have q1 := Wf.at_ (F := fun k => k = pr) d1 hNn
            refine frp.wp_region_ptree (F := fun k => k = pr) (.reads [0, 1, 2, 5, 6] (.one 3 false (.reads [4, 7, 8] .stop))) (by kernel_rfl) (by kernel_rfl) ?_
            refine fr.tr_reads _ (by dsimp only [pick, at_]) ?_
            repeat (go_big_quiet_step (fail))
            refine wpQuiet_nil ?_
            refine frp.tr_onep _ (by dsimp only [pick, at_]) ?_
            intro K1 g1 g2 g3
            clear g2 q0 q1
            have HG := Lib.hid (HDR.out.get 12 (by omega))
            go_wp2_with (fail)
            refine HG.out.mono ?_
            cases hb : gb 12 X2 with
            | none =>
              intro e w3 hr
              unfold RetD at hr
              rw [hb] at hr
              obtain ⟨rfl, hc⟩ := hr
              have HN := Lib.hid (show dTime X = none by rw [← HDT.out]; simp only [dCls, hb, Option.map_none])
              have HC3 := Lib.hid (chg_trans (chg_trans HC2.out (pr_none (Below.refl _ _).drew)) hc)
              clear hc HG hb g1
              go_wp2_with (fail)
              intro a' ha'
              go_wp2_with (fail)
              refine ⟨ha', ?_⟩
              unfold RetT
              rw [HN.out]
              exact ⟨rfl, HC3.out⟩
            | some z =>
              obtain ⟨V, X3⟩ := z
              have hV4 := clsV hb (by omega)
              intro e w3 hr
              unfold RetD at hr
              rw [hb] at hr
              obtain ⟨rfl, hx, hc⟩ := hr
              have HN := Lib.hid (show dTime X = some ((V : Int) - 2047, X3) by rw [← HDT.out]; simp only [dCls, hb, Option.map_some])
              have HP3 := Lib.hid (HDR.out.got hx hc)
              have HC3 := Lib.hid (chg_trans (chg_trans HC2.out (pr_none (Below.refl _ _).drew)) hc)
              have hc2 := Lib.hid (chg_trans (pr_none (pr := pr) (Below.refl w2.heap.size w2).drew) hc)
              clear hx hc HG hb g3
              go_wp2_with (fail)
              refine g1 _ _ hc2.out ?_
              clear g1
              refine fr.tr_reads _ (by dsimp only [pick, at_]) ?_
              repeat (go_big_quiet_step (fail))
              refine wpQuiet_nil ?_
              refine fr.tr_stop ?_
              refine PanicAll.normal ?_
              go_wp2_with (fail)
              go_ret
              unfold RetT
              rw [HN.out]
              exact ⟨by go_num, HP3.out, HC3.out⟩
        · obtain rfl : V = 1 := by omega
          have hdd := HDD.out
          rw [if_neg (by omega), show 3 - k = 4 - (k + 1) from by omega] at hdd
          have HDT := Lib.hid hdd
          clear hdd HDD
          go_wp2_with (fail)
          go_roundg (4 - (k + 1))
          case measure => omega
          case rel => exact ⟨k + 1, X2, by omega, by omega, by go_num, HDT.out, HP1.out, HC1.out⟩
    · obtain rfl : k = 4 := by omega
      have hD : (gb 64 X1).map (fun q => (w64 q.1, q.2)) = dTime X := HD.out
      have HG := Lib.hid (HP.out.get 64 (by omega))
      go_wp2_with (fail)
      refine HG.out.mono ?_
      cases hb : gb 64 X1 with
      | none =>
        rw [hb] at hD
        have HN := Lib.hid (show dTime X = none from hD.symm)
        intro e w1 hr
        unfold RetD at hr
        rw [hb] at hr
        obtain ⟨rfl, hc⟩ := hr
        have HC1 := Lib.hid (chg_trans HC.out hc)
        clear hc HG hb hD
        go_wp2_with (fail)
        refine ⟨rfl, ?_⟩
        unfold RetT
        rw [HN.out]
        exact ⟨rfl, HC1.out⟩
      | some z =>
        obtain ⟨V, X2⟩ := z
        rw [hb] at hD
        have HN := Lib.hid (show dTime X = some (w64 V, X2) from hD.symm)
        intro e w1 hr
        unfold RetD at hr
        rw [hb] at hr
        obtain ⟨rfl, hx, hc⟩ := hr
        have HP1 := Lib.hid (HP.out.got hx hc)
        have HC1 := Lib.hid (chg_trans HC.out hc)
        clear hx hc HG hb hD
        go_wp2_with (fail)
        go_ret
        unfold RetT
        rw [HN.out]
        exact ⟨by simp [w64, wrap64], HP1.out, HC1.out⟩
end Go.Proofs.YtknjejejkgihbaaDoor.ts
/-
  Tsz: how the program's decoder reads a value.
-/
namespace Go.Proofs.YtknjejejkgihbaaDoor.ts
open Go.ChangeShapes Go.WideShapes Go.ChangeAt Go.RowKit plain words ord mem bitm uvs

/-- v is what was read: the column's own number and window turn -/
def RetV (H : Nat) (w : World) (pd pr : Nat) (r : Option Nat) (old : Nat) (set : Nat → Win → DC) (o : Option (Nat × Win × List Bool)) (e : Ending) (w' : World) : Prop := match o with
  | some (y, a, X') => e = .returned (.int .u64 ((old ^^^ y : Nat) : Int)) ∧ PD H w' pd pr r X' (set (old ^^^ y) a) ∧ Chg (TD pd pr) w w'
  | none => e = .panicked badC ∧ Chg (TD pd pr) w w'
theorem shl_z (V b : Nat) (h : lt64 (V * 2 ^ b)) : IntKind.u64.wrap ((V : Int) * 2 ^ b) = ((V * 2 ^ b : Nat) : Int) := by
  have e : (V : Int) * 2 ^ b = ((V * 2 ^ b : Nat) : Int) := by simp
  unfold lt64 at h
  rw [e, IntKind.wrap_u64]
  obtain ⟨z, hz⟩ : ∃ z, V * 2 ^ b = z := ⟨_, rfl⟩
  rw [hz] at h ⊢
  omega
theorem win_lt {p q V : Nat} {X X' : List Bool} (h : gb (64 - p - q) X = some (V, X')) (hpq : p + q ≤ 63) : lt64 (V * 2 ^ q) :=
  (dWin_ok (w := some (p, q)) (fun x y e => by cases e; exact hpq) (X := X) (y := V * 2 ^ q) (w' := some (p, q)) (X' := X') (by simp only [dWin, h, Option.map_some])).1
set_option maxHeartbeats 2000000 in
set_option maxRecDepth 100000 in
theorem value5_d (H : Nat) (w : World) (pd pr : Nat) (r : Option Nat) (X : List Bool) (q : DC) (h : PD H w pd pr r X q) (a : Win) (ha : q.a = w3 a) (hW : WinOk a) (old : Nat) (ho : q.lv = old) (hold : lt64 old) :
    Calls Tryd.prog 59 #[.pointer (some ⟨pd, 0, none⟩), .pointer (some ⟨pd, 5, none⟩)] w (RetV H w pd pr r old (fun l a => { q with lv := l, a := w3 a }) (dVal a X)) := by
  have HP := Lib.hid h
  have HG := Lib.hid (h.get 1 (by omega))
  have hdv : dVal a X = dVal a X := rfl
  conv at hdv => rhs; unfold dVal
  clear h
  subst ho
  obtain ⟨old, hold'⟩ : ∃ z, q.lv = z := ⟨_, rfl⟩
  rw [hold'] at hold ⊢
  go_enter Tryd.func59, Tryd.ntmps59
  go_wp2_with (fail)
  refine HG.out.mono ?_
  cases hb : gb 1 X with
  | none =>
    rw [hb] at hdv
    have HN := Lib.hid (show dVal a X = none from hdv)
    intro e w1 hr
    unfold RetD at hr
    rw [hb] at hr
    obtain ⟨rfl, hc⟩ := hr
    have HC1 := Lib.hid (td_of (pd := pd) hc)
    clear hc HG hb hdv
    go_wp2_with (fail)
    refine ⟨rfl, ?_⟩
    unfold RetV
    rw [HN.out]
    exact ⟨rfl, HC1.out⟩
  | some z =>
    obtain ⟨V, X1⟩ := z
    have hV2 : V < 2 := gb_lt hb
    rw [hb] at hdv
    simp only [Option.bind_some] at hdv
    intro e w1 hr
    unfold RetD at hr
    rw [hb] at hr
    obtain ⟨rfl, hx, hc⟩ := hr
    have P1 := Lib.hid (HP.out.got hx hc)
    have C1 := Lib.hid (td_of (pd := pd) hc)
    clear hx hc HG hb HP
    by_cases hV : V = 0
    · subst hV
      rw [if_pos rfl] at hdv
      have HN := Lib.hid hdv
      have c0 : w1.cell? ⟨pd, 5, none⟩ = some (.int .u64 (q.lv : Int)) := P1.out.cell 5 rfl
      have hlt1 : pd < w1.heap.size := blk_lt P1.out.dec
      rw [hold'] at c0
      have HQ := Lib.hid (show { q with lv := old ^^^ 0, a := w3 a } = q by rw [Nat.xor_zero, ← hold', ← ha])
      clear hdv
      go_wp2_with (fail)
      go_ret
      unfold RetV
      rw [HN.out]
      simp only [HQ.out]
      rw [Nat.xor_zero]
      exact ⟨rfl, P1.out, C1.out⟩
    · obtain rfl : V = 1 := by omega
      rw [if_neg (by omega)] at hdv
      have HG := Lib.hid (P1.out.get 1 (by omega))
      clear hV hV2
      go_wp2_with (fail)
      refine HG.out.mono ?_
      cases hb : gb 1 X1 with
      | none =>
        rw [hb] at hdv
        have HN := Lib.hid (show dVal a X = none from hdv)
        intro e w2 hr
        unfold RetD at hr
        rw [hb] at hr
        obtain ⟨rfl, hc⟩ := hr
        have C2 := Lib.hid (chg_trans C1.out (td_of (pd := pd) hc))
        clear hc HG hb hdv
        go_wp2_with (fail)
        refine ⟨rfl, ?_⟩
        unfold RetV
        rw [HN.out]
        exact ⟨rfl, C2.out⟩
      | some z =>
        obtain ⟨V, X2⟩ := z
        have hV2 : V < 2 := gb_lt hb
        rw [hb] at hdv
        simp only [Option.bind_some] at hdv
        intro e w2 hr
        unfold RetD at hr
        rw [hb] at hr
        obtain ⟨rfl, hx, hc⟩ := hr
        have P2 := Lib.hid (P1.out.got hx hc)
        have C2 := Lib.hid (chg_trans C1.out (td_of (pd := pd) hc))
        clear hx hc HG hb P1 C1
        by_cases hV : V = 0
        · subst hV
          rw [if_pos rfl] at hdv
          have HDV := Lib.hid hdv
          clear hdv hV2
          have k1 : w2.cell? ⟨pd, 6, none⟩ = some (.bool q.a.1) := P2.out.cell 6 rfl
          have k2 : w2.cell? ⟨pd, 7, none⟩ = some (.int .i64 q.a.2.1) := P2.out.cell 7 rfl
          have k3 : w2.cell? ⟨pd, 8, none⟩ = some (.int .i64 q.a.2.2) := P2.out.cell 8 rfl
          have hlt2 : pd < w2.heap.size := blk_lt P2.out.dec
          rw [ha] at k1 k2 k3
          simp only [w3] at k1 k2 k3
          cases a with
          | none =>
            simp only [wS, wA, wB, Option.isSome] at k1 k2 k3
            have HN := Lib.hid (show dVal none X = none from HDV.out)
            go_wp2_with (fail)
            refine ⟨rfl, ?_⟩
            unfold RetV
            rw [HN.out]
            exact ⟨rfl, C2.out⟩
          | some W =>
            obtain ⟨p, qq⟩ := W
            have hpq := hW p qq rfl
            simp only [wS, wA, wB, Option.isSome] at k1 k2 k3
            have j1 : ¬ ((qq : Int) < 0) := by omega
            go_wp2_with (fail)
            clear k1 k2 k3
            have HQQ := Lib.hid (show q = { q with lv := old, a := w3 (some (p, qq)) } by rw [← hold', ← ha])
            have P2 := Lib.hid (show PD H w2 pd pr r X2 { q with lv := old, a := w3 (some (p, qq)) } from HQQ.out ▸ P2.out)
            obtain ⟨nn, hnn⟩ : ∃ m, 64 - p - qq = m := ⟨_, rfl⟩
            have c0 : w2.cell? ⟨pd, 5, none⟩ = some (.int .u64 (old : Int)) := P2.out.cell 5 rfl
            have c1 : w2.cell? ⟨pd, 6, none⟩ = some (.bool true) := P2.out.cell 6 rfl
            have c2 : w2.cell? ⟨pd, 7, none⟩ = some (.int .i64 (p : Int)) := P2.out.cell 7 rfl
            have c3 : w2.cell? ⟨pd, 8, none⟩ = some (.int .i64 (qq : Int)) := P2.out.cell 8 rfl
            replace c0 := Wf.at_ (F := fun k => k = pr) c0 P2.out.ne
            replace c1 := Wf.at_ (F := fun k => k = pr) c1 P2.out.ne
            replace c2 := Wf.at_ (F := fun k => k = pr) c2 P2.out.ne
            replace c3 := Wf.at_ (F := fun k => k = pr) c3 P2.out.ne
            have hlt1 : pd < w2.heap.size := blk_lt P2.out.dec
            have i4 : (0 : Int) ≤ (qq : Int) := by omega
            have i5 : (qq : Int) < 64 := by omega
            refine frp.wp_region_ptree (F := fun k => k = pr) (.reads [0, 1, 2, 3, 4, 5, 6, 7, 8, 11, 12, 13, 14, 15] (.one 9 false (.one 10 false (.reads [16, 17, 18, 19] (.one 20 true .stop))))) (by kernel_rfl) (by kernel_rfl) ?_
            refine fr.tr_reads _ (by dsimp only [pick, at_]) ?_
            repeat (go_big_quiet_step (fail))
            refine wpQuiet_nil ?_
            clear c0 c1 c2 c3
            refine fr.tr_one _ (by dsimp only [pick, at_]) ?_
            intro K1 g1 g2
            clear g2
            go_wp2_with (fail)
            refine (size_x w2.drew true p qq nn (by omega) (by omega)).mono ?_
            rintro e w8 ⟨rfl, hb8⟩
            have hb9 : Below w2.heap.size w2 w8 := (Below.refl w2.heap.size w2).drew.trans hb8
            have P8 := Lib.hid (P2.out.below hb9)
            have C8 := Lib.hid (chg_trans C2.out (td_none hb9))
            have c8 := Lib.hid (pr_none (pr := pr) hb9)
            clear hb8 hb9
            go_wp2_with (fail)
            refine g1 _ _ c8.out ?_
            clear g1
            refine frp.tr_onep _ (by dsimp only [pick, at_]) ?_
            intro K1 g1 g2 g3
            clear g2
            have HG := Lib.hid (P8.out.get nn (by omega))
            go_wp2_with (fail)
            refine HG.out.mono ?_
            cases hb : gb nn X2 with
            | none =>
              intro e w9 hr
              unfold RetD at hr
              rw [hb] at hr
              obtain ⟨rfl, hc⟩ := hr
              have HN := Lib.hid (show dVal (some (p, qq)) X = none by rw [HDV.out]; simp only [dWin, hnn, hb, Option.map_none])
              have C9 := Lib.hid (chg_trans C8.out (td_of hc))
              clear hc HG hb g1
              go_wp2_with (fail)
              intro a' ha'
              go_wp2_with (fail)
              refine ⟨ha', ?_⟩
              unfold RetV
              rw [HN.out]
              exact ⟨rfl, C9.out⟩
            | some z =>
              obtain ⟨V, X9⟩ := z
              intro e w9 hr
              unfold RetD at hr
              rw [hb] at hr
              obtain ⟨rfl, hx, hc⟩ := hr
              have hV := win_lt (by rw [hnn]; exact hb) hpq
              have HN := Lib.hid (show dVal (some (p, qq)) X = some (V * 2 ^ qq, some (p, qq), X9) by rw [HDV.out]; simp only [dWin, hnn, hb, Option.map_some])
              have P9 := Lib.hid (P8.out.got hx hc)
              have C9 := Lib.hid (chg_trans C8.out (td_of hc))
              have c9 := Lib.hid (chg_trans c8.out hc)
              have hsh := shl_z V qq hV
              obtain ⟨Y, hY⟩ : ∃ Y, V * 2 ^ qq = Y := ⟨_, rfl⟩
              rw [hY] at hsh hV
              have hxo := xor_nat old Y _ hold hV rfl
              obtain ⟨Z, hZ⟩ : ∃ Z, old ^^^ Y = Z := ⟨_, rfl⟩
              rw [hZ] at hxo
              have HYZ := Lib.hid (And.intro hY hZ)
              clear hx hc HG hb g3 hV hY hZ
              go_wp2_with (fail)
              refine g1 _ _ c9.out ?_
              clear g1
              refine fr.tr_reads _ (by dsimp only [pick, at_]) ?_
              repeat (go_big_quiet_step (fail))
              refine wpQuiet_nil ?_
              refine fr.tr_write _ (by dsimp only [pick, at_]) ?_
              intro K1 g1
              have f0 := P9.out.fz 5
              have c0 : w9.cell? ⟨pd, 5, none⟩ = some (.int .u64 (old : Int)) := P9.out.cell 5 rfl
              go_wp2_with (fail)
              refine fr.tr_stop ?_
              refine PanicAll.normal ?_
              have PA := P9.out.set (q' := { q with lv := Z, a := w3 (some (p, qq)) }) (chg_pd pd 5 (.int .u64 (Z : Int))) (by rw [heap_setCell_same _ _ _ _ _ _ P9.out.dec]; rfl)
              have CA := Lib.hid (chg_trans C9.out (td_pd (chg_pd (w := w9) pd 5 (.int .u64 (Z : Int)))))
              have cA : (w9.setCell ⟨pd, 5, none⟩ (.int .u64 (Z : Int))).cell? ⟨pd, 5, none⟩ = some (.int .u64 (Z : Int)) := PA.cell 5 rfl
              replace PA := Lib.hid PA
              have hltA : pd < w9.heap.size := blk_lt P9.out.dec
              clear c0
              go_wp2_with (fail)
              go_ret
              unfold RetV
              rw [HN.out]
              simp only [HYZ.out.1, HYZ.out.2]
              exact ⟨rfl, PA.out, CA.out⟩
        · obtain rfl : V = 1 := by omega
          rw [if_neg (by omega)] at hdv
          have HG := Lib.hid (P2.out.get 5 (by omega))
          clear hV hV2
          go_wp2_with (fail)
          refine HG.out.mono ?_
          cases hb : gb 5 X2 with
          | none =>
            rw [hb] at hdv
            have HN := Lib.hid (show dVal a X = none from hdv)
            intro e w3' hr
            unfold RetD at hr
            rw [hb] at hr
            obtain ⟨rfl, hc⟩ := hr
            have C3 := Lib.hid (chg_trans C2.out (td_of (pd := pd) hc))
            clear hc HG hb hdv
            go_wp2_with (fail)
            refine ⟨rfl, ?_⟩
            unfold RetV
            rw [HN.out]
            exact ⟨rfl, C3.out⟩
          | some z =>
            obtain ⟨p, X3⟩ := z
            have hp5 : p < 32 := gb_lt hb
            rw [hb] at hdv
            simp only [Option.bind_some] at hdv
            intro e w3' hr
            unfold RetD at hr
            rw [hb] at hr
            obtain ⟨rfl, hx, hc⟩ := hr
            have P3 := Lib.hid (P2.out.got hx hc)
            have C3 := Lib.hid (chg_trans C2.out (td_of (pd := pd) hc))
            have HG := Lib.hid (P3.out.get 6 (by omega))
            have y1 : IntKind.i64.wrap (p : Int) = (p : Int) := IntWalk.i64_in _ (by omega)
            clear hx hc hb P2 C2
            go_wp2_with (fail)
            refine HG.out.mono ?_
            cases hb : gb 6 X3 with
            | none =>
              rw [hb] at hdv
              have HN := Lib.hid (show dVal a X = none from hdv)
              intro e w4 hr
              unfold RetD at hr
              rw [hb] at hr
              obtain ⟨rfl, hc⟩ := hr
              have C4 := Lib.hid (chg_trans C3.out (td_of (pd := pd) hc))
              clear hc HG hb hdv
              go_wp2_with (fail)
              refine ⟨rfl, ?_⟩
              unfold RetV
              rw [HN.out]
              exact ⟨rfl, C4.out⟩
            | some z =>
              obtain ⟨n, X4⟩ := z
              have hn6 : n < 64 := gb_lt hb
              rw [hb] at hdv
              simp only [Option.bind_some] at hdv
              intro e w4 hr
              unfold RetD at hr
              rw [hb] at hr
              obtain ⟨rfl, hx, hc⟩ := hr
              have P4 := Lib.hid (P3.out.got hx hc)
              have C4 := Lib.hid (chg_trans C3.out (td_of (pd := pd) hc))
              obtain ⟨T, hT⟩ : ∃ T : Int, 63 - (p : Int) - (n : Int) = T := ⟨_, rfl⟩
              have y2 : IntKind.i64.wrap (n : Int) = (n : Int) := IntWalk.i64_in _ (by omega)
              have y3 : IntKind.i64.wrap ((n : Int) + 1) = (n : Int) + 1 := IntWalk.i64_in _ (by omega)
              have y4 : IntKind.i64.wrap (64 - (p : Int)) = 64 - (p : Int) := IntWalk.i64_in _ (by omega)
              have y5 : IntKind.i64.wrap (64 - (p : Int) - ((n : Int) + 1)) = T := by rw [IntWalk.i64_in _ (by omega)]; omega
              have f1 := P4.out.fz 6
              have f2 := P4.out.fz 7
              have f3 := P4.out.fz 8
              have P5 := Lib.hid (P4.out.set (q' := { q with lv := old, a := (true, (p : Int), T) }) (((chg_pd pd 6 (.bool true)).setCell (p := ⟨pd, 7, none⟩) (fun _ => rfl) (.int .i64 (p : Int))).setCell (p := ⟨pd, 8, none⟩) (fun _ => rfl) (.int .i64 T)) (by
                rw [heap_setCell_same _ _ _ _ _ _ (heap_setCell_same _ _ _ _ _ _ (heap_setCell_same _ _ _ _ _ _ P4.out.dec)), ← hold']; rfl))
              have C5 := Lib.hid (chg_trans C4.out (td_pd (pr := pr) (((chg_pd (w := w4) pd 6 (.bool true)).setCell (p := ⟨pd, 7, none⟩) (fun _ => rfl) (.int .i64 (p : Int))).setCell (p := ⟨pd, 8, none⟩) (fun _ => rfl) (.int .i64 T))))
              obtain ⟨w5, hw5⟩ : ∃ wx, ((w4.setCell ⟨pd, 6, none⟩ (.bool true)).setCell ⟨pd, 7, none⟩ (.int .i64 (p : Int))).setCell ⟨pd, 8, none⟩ (.int .i64 T) = wx := ⟨_, rfl⟩
              rw [hw5] at P5 C5
              have c1 : w4.cell? ⟨pd, 6, none⟩ = some (.bool q.a.1) := P4.out.cell 6 rfl
              have c2 : w4.cell? ⟨pd, 7, none⟩ = some (.int .i64 q.a.2.1) := P4.out.cell 7 rfl
              have c3 : w4.cell? ⟨pd, 8, none⟩ = some (.int .i64 q.a.2.2) := P4.out.cell 8 rfl
              have hlt4 : pd < w4.heap.size := blk_lt P4.out.dec
              have HW5 := Lib.hid hw5
              have HT := Lib.hid hT
              have HDV' := Lib.hid hdv
              have k1 : w5.cell? ⟨pd, 6, none⟩ = some (.bool true) := P5.out.cell 6 rfl
              have k2 : w5.cell? ⟨pd, 7, none⟩ = some (.int .i64 (p : Int)) := P5.out.cell 7 rfl
              have k3 : w5.cell? ⟨pd, 8, none⟩ = some (.int .i64 T) := P5.out.cell 8 rfl
              clear hx hc HG hb P3 C3 hdv hT hw5
              by_cases hpn : p + n ≤ 63
              · obtain ⟨qq, hqq⟩ : ∃ z, 63 - p - n = z := ⟨_, rfl⟩
                have hTq : T = (qq : Int) := by have := HT.out; omega
                subst hTq
                have hpq : p + qq ≤ 63 := by omega
                have j1 : ¬ ((qq : Int) < 0) := by omega
                have hdv := HDV'.out
                rw [if_pos hpn, hqq] at hdv
                have HDV := Lib.hid hdv
                have P5 := Lib.hid (show PD H w5 pd pr r X4 { q with lv := old, a := w3 (some (p, qq)) } from P5.out)
                clear hdv
                go_wp2_with (rw [HW5.out])
                clear k1 k2 k3 c1 c2 c3 f1 f2 f3 y1 y2 y3 y4 y5
                obtain ⟨nn, hnn⟩ : ∃ m, 64 - p - qq = m := ⟨_, rfl⟩
                have c0 : w5.cell? ⟨pd, 5, none⟩ = some (.int .u64 (old : Int)) := P5.out.cell 5 rfl
                have c1 : w5.cell? ⟨pd, 6, none⟩ = some (.bool true) := P5.out.cell 6 rfl
                have c2 : w5.cell? ⟨pd, 7, none⟩ = some (.int .i64 (p : Int)) := P5.out.cell 7 rfl
                have c3 : w5.cell? ⟨pd, 8, none⟩ = some (.int .i64 (qq : Int)) := P5.out.cell 8 rfl
                replace c0 := Wf.at_ (F := fun k => k = pr) c0 P5.out.ne
                replace c1 := Wf.at_ (F := fun k => k = pr) c1 P5.out.ne
                replace c2 := Wf.at_ (F := fun k => k = pr) c2 P5.out.ne
                replace c3 := Wf.at_ (F := fun k => k = pr) c3 P5.out.ne
                have hlt1 : pd < w5.heap.size := blk_lt P5.out.dec
                have i4 : (0 : Int) ≤ (qq : Int) := by omega
                have i5 : (qq : Int) < 64 := by omega
                refine frp.wp_region_ptree (F := fun k => k = pr) (.reads [0, 1, 2, 3, 4, 5, 6, 7, 8, 11, 12, 13, 14, 15] (.one 9 false (.one 10 false (.reads [16, 17, 18, 19] (.one 20 true .stop))))) (by kernel_rfl) (by kernel_rfl) ?_
                refine fr.tr_reads _ (by dsimp only [pick, at_]) ?_
                repeat (go_big_quiet_step (fail))
                refine wpQuiet_nil ?_
                clear c0 c1 c2 c3
                refine fr.tr_one _ (by dsimp only [pick, at_]) ?_
                intro K1 g1 g2
                clear g2
                go_wp2_with (fail)
                refine (size_x w5.drew true p qq nn (by omega) (by omega)).mono ?_
                rintro e w8 ⟨rfl, hb8⟩
                have hb9 : Below w5.heap.size w5 w8 := (Below.refl w5.heap.size w5).drew.trans hb8
                have P8 := Lib.hid (P5.out.below hb9)
                have C8 := Lib.hid (chg_trans C5.out (td_none hb9))
                have c8 := Lib.hid (pr_none (pr := pr) hb9)
                clear hb8 hb9
                go_wp2_with (fail)
                refine g1 _ _ c8.out ?_
                clear g1
                refine frp.tr_onep _ (by dsimp only [pick, at_]) ?_
                intro K1 g1 g2 g3
                clear g2
                have HG := Lib.hid (P8.out.get nn (by omega))
                go_wp2_with (fail)
                refine HG.out.mono ?_
                cases hb : gb nn X4 with
                | none =>
                  intro e w9 hr
                  unfold RetD at hr
                  rw [hb] at hr
                  obtain ⟨rfl, hc⟩ := hr
                  have HN := Lib.hid (show dVal a X = none by rw [HDV.out]; simp only [dWin, hnn, hb, Option.map_none])
                  have C9 := Lib.hid (chg_trans C8.out (td_of hc))
                  clear hc HG hb g1
                  go_wp2_with (fail)
                  intro a' ha'
                  go_wp2_with (fail)
                  refine ⟨ha', ?_⟩
                  unfold RetV
                  rw [HN.out]
                  exact ⟨rfl, C9.out⟩
                | some z =>
                  obtain ⟨V, X9⟩ := z
                  intro e w9 hr
                  unfold RetD at hr
                  rw [hb] at hr
                  obtain ⟨rfl, hx, hc⟩ := hr
                  have hV := win_lt (by rw [hnn]; exact hb) hpq
                  have HN := Lib.hid (show dVal a X = some (V * 2 ^ qq, some (p, qq), X9) by rw [HDV.out]; simp only [dWin, hnn, hb, Option.map_some])
                  have P9 := Lib.hid (P8.out.got hx hc)
                  have C9 := Lib.hid (chg_trans C8.out (td_of hc))
                  have c9 := Lib.hid (chg_trans c8.out hc)
                  have hsh := shl_z V qq hV
                  obtain ⟨Y, hY⟩ : ∃ Y, V * 2 ^ qq = Y := ⟨_, rfl⟩
                  rw [hY] at hsh hV
                  have hxo := xor_nat old Y _ hold hV rfl
                  obtain ⟨Z, hZ⟩ : ∃ Z, old ^^^ Y = Z := ⟨_, rfl⟩
                  rw [hZ] at hxo
                  have HYZ := Lib.hid (And.intro hY hZ)
                  clear hx hc HG hb g3 hV hY hZ
                  go_wp2_with (fail)
                  refine g1 _ _ c9.out ?_
                  clear g1
                  refine fr.tr_reads _ (by dsimp only [pick, at_]) ?_
                  repeat (go_big_quiet_step (fail))
                  refine wpQuiet_nil ?_
                  refine fr.tr_write _ (by dsimp only [pick, at_]) ?_
                  intro K1 g1
                  have f0 := P9.out.fz 5
                  have c0 : w9.cell? ⟨pd, 5, none⟩ = some (.int .u64 (old : Int)) := P9.out.cell 5 rfl
                  go_wp2_with (fail)
                  refine fr.tr_stop ?_
                  refine PanicAll.normal ?_
                  have PA := P9.out.set (q' := { q with lv := Z, a := w3 (some (p, qq)) }) (chg_pd pd 5 (.int .u64 (Z : Int))) (by rw [heap_setCell_same _ _ _ _ _ _ P9.out.dec]; rfl)
                  have CA := Lib.hid (chg_trans C9.out (td_pd (chg_pd (w := w9) pd 5 (.int .u64 (Z : Int)))))
                  have cA : (w9.setCell ⟨pd, 5, none⟩ (.int .u64 (Z : Int))).cell? ⟨pd, 5, none⟩ = some (.int .u64 (Z : Int)) := PA.cell 5 rfl
                  replace PA := Lib.hid PA
                  have hltA : pd < w9.heap.size := blk_lt P9.out.dec
                  clear c0
                  go_wp2_with (fail)
                  go_ret
                  unfold RetV
                  rw [HN.out]
                  simp only [HYZ.out.1, HYZ.out.2]
                  exact ⟨rfl, PA.out, CA.out⟩
              · have hdv := HDV'.out
                rw [if_neg hpn] at hdv
                have HN := Lib.hid (show dVal a X = none from hdv)
                have j1 : T < 0 := by have := HT.out; omega
                clear hdv
                go_wp2_with (rw [HW5.out])
                refine ⟨rfl, ?_⟩
                unfold RetV
                rw [HN.out]
                exact ⟨rfl, C5.out⟩
set_option maxHeartbeats 2000000 in
set_option maxRecDepth 100000 in
theorem value9_d (H : Nat) (w : World) (pd pr : Nat) (r : Option Nat) (X : List Bool) (q : DC) (h : PD H w pd pr r X q) (a : Win) (ha : q.b = w3 a) (hW : WinOk a) (old : Nat) (ho : q.ls = old) (hold : lt64 old) :
    Calls Tryd.prog 59 #[.pointer (some ⟨pd, 0, none⟩), .pointer (some ⟨pd, 9, none⟩)] w (RetV H w pd pr r old (fun l a => { q with ls := l, b := w3 a }) (dVal a X)) := by
  have HP := Lib.hid h
  have HG := Lib.hid (h.get 1 (by omega))
  have hdv : dVal a X = dVal a X := rfl
  conv at hdv => rhs; unfold dVal
  clear h
  subst ho
  obtain ⟨old, hold'⟩ : ∃ z, q.ls = z := ⟨_, rfl⟩
  rw [hold'] at hold ⊢
  go_enter Tryd.func59, Tryd.ntmps59
  go_wp2_with (fail)
  refine HG.out.mono ?_
  cases hb : gb 1 X with
  | none =>
    rw [hb] at hdv
    have HN := Lib.hid (show dVal a X = none from hdv)
    intro e w1 hr
    unfold RetD at hr
    rw [hb] at hr
    obtain ⟨rfl, hc⟩ := hr
    have HC1 := Lib.hid (td_of (pd := pd) hc)
    clear hc HG hb hdv
    go_wp2_with (fail)
    refine ⟨rfl, ?_⟩
    unfold RetV
    rw [HN.out]
    exact ⟨rfl, HC1.out⟩
  | some z =>
    obtain ⟨V, X1⟩ := z
    have hV2 : V < 2 := gb_lt hb
    rw [hb] at hdv
    simp only [Option.bind_some] at hdv
    intro e w1 hr
    unfold RetD at hr
    rw [hb] at hr
    obtain ⟨rfl, hx, hc⟩ := hr
    have P1 := Lib.hid (HP.out.got hx hc)
    have C1 := Lib.hid (td_of (pd := pd) hc)
    clear hx hc HG hb HP
    by_cases hV : V = 0
    · subst hV
      rw [if_pos rfl] at hdv
      have HN := Lib.hid hdv
      have c0 : w1.cell? ⟨pd, 9, none⟩ = some (.int .u64 (q.ls : Int)) := P1.out.cell 9 rfl
      have hlt1 : pd < w1.heap.size := blk_lt P1.out.dec
      rw [hold'] at c0
      have HQ := Lib.hid (show { q with ls := old ^^^ 0, b := w3 a } = q by rw [Nat.xor_zero, ← hold', ← ha])
      clear hdv
      go_wp2_with (fail)
      go_ret
      unfold RetV
      rw [HN.out]
      simp only [HQ.out]
      rw [Nat.xor_zero]
      exact ⟨rfl, P1.out, C1.out⟩
    · obtain rfl : V = 1 := by omega
      rw [if_neg (by omega)] at hdv
      have HG := Lib.hid (P1.out.get 1 (by omega))
      clear hV hV2
      go_wp2_with (fail)
      refine HG.out.mono ?_
      cases hb : gb 1 X1 with
      | none =>
        rw [hb] at hdv
        have HN := Lib.hid (show dVal a X = none from hdv)
        intro e w2 hr
        unfold RetD at hr
        rw [hb] at hr
        obtain ⟨rfl, hc⟩ := hr
        have C2 := Lib.hid (chg_trans C1.out (td_of (pd := pd) hc))
        clear hc HG hb hdv
        go_wp2_with (fail)
        refine ⟨rfl, ?_⟩
        unfold RetV
        rw [HN.out]
        exact ⟨rfl, C2.out⟩
      | some z =>
        obtain ⟨V, X2⟩ := z
        have hV2 : V < 2 := gb_lt hb
        rw [hb] at hdv
        simp only [Option.bind_some] at hdv
        intro e w2 hr
        unfold RetD at hr
        rw [hb] at hr
        obtain ⟨rfl, hx, hc⟩ := hr
        have P2 := Lib.hid (P1.out.got hx hc)
        have C2 := Lib.hid (chg_trans C1.out (td_of (pd := pd) hc))
        clear hx hc HG hb P1 C1
        by_cases hV : V = 0
        · subst hV
          rw [if_pos rfl] at hdv
          have HDV := Lib.hid hdv
          clear hdv hV2
          have k1 : w2.cell? ⟨pd, 10, none⟩ = some (.bool q.b.1) := P2.out.cell 10 rfl
          have k2 : w2.cell? ⟨pd, 11, none⟩ = some (.int .i64 q.b.2.1) := P2.out.cell 11 rfl
          have k3 : w2.cell? ⟨pd, 12, none⟩ = some (.int .i64 q.b.2.2) := P2.out.cell 12 rfl
          have hlt2 : pd < w2.heap.size := blk_lt P2.out.dec
          rw [ha] at k1 k2 k3
          simp only [w3] at k1 k2 k3
          cases a with
          | none =>
            simp only [wS, wA, wB, Option.isSome] at k1 k2 k3
            have HN := Lib.hid (show dVal none X = none from HDV.out)
            go_wp2_with (fail)
            refine ⟨rfl, ?_⟩
            unfold RetV
            rw [HN.out]
            exact ⟨rfl, C2.out⟩
          | some W =>
            obtain ⟨p, qq⟩ := W
            have hpq := hW p qq rfl
            simp only [wS, wA, wB, Option.isSome] at k1 k2 k3
            have j1 : ¬ ((qq : Int) < 0) := by omega
            go_wp2_with (fail)
            clear k1 k2 k3
            have HQQ := Lib.hid (show q = { q with ls := old, b := w3 (some (p, qq)) } by rw [← hold', ← ha])
            have P2 := Lib.hid (show PD H w2 pd pr r X2 { q with ls := old, b := w3 (some (p, qq)) } from HQQ.out ▸ P2.out)
            obtain ⟨nn, hnn⟩ : ∃ m, 64 - p - qq = m := ⟨_, rfl⟩
            have c0 : w2.cell? ⟨pd, 9, none⟩ = some (.int .u64 (old : Int)) := P2.out.cell 9 rfl
            have c1 : w2.cell? ⟨pd, 10, none⟩ = some (.bool true) := P2.out.cell 10 rfl
            have c2 : w2.cell? ⟨pd, 11, none⟩ = some (.int .i64 (p : Int)) := P2.out.cell 11 rfl
            have c3 : w2.cell? ⟨pd, 12, none⟩ = some (.int .i64 (qq : Int)) := P2.out.cell 12 rfl
            replace c0 := Wf.at_ (F := fun k => k = pr) c0 P2.out.ne
            replace c1 := Wf.at_ (F := fun k => k = pr) c1 P2.out.ne
            replace c2 := Wf.at_ (F := fun k => k = pr) c2 P2.out.ne
            replace c3 := Wf.at_ (F := fun k => k = pr) c3 P2.out.ne
            have hlt1 : pd < w2.heap.size := blk_lt P2.out.dec
            have i4 : (0 : Int) ≤ (qq : Int) := by omega
            have i5 : (qq : Int) < 64 := by omega
            refine frp.wp_region_ptree (F := fun k => k = pr) (.reads [0, 1, 2, 3, 4, 5, 6, 7, 8, 11, 12, 13, 14, 15] (.one 9 false (.one 10 false (.reads [16, 17, 18, 19] (.one 20 true .stop))))) (by kernel_rfl) (by kernel_rfl) ?_
            refine fr.tr_reads _ (by dsimp only [pick, at_]) ?_
            repeat (go_big_quiet_step (fail))
            refine wpQuiet_nil ?_
            clear c0 c1 c2 c3
            refine fr.tr_one _ (by dsimp only [pick, at_]) ?_
            intro K1 g1 g2
            clear g2
            go_wp2_with (fail)
            refine (size_x w2.drew true p qq nn (by omega) (by omega)).mono ?_
            rintro e w8 ⟨rfl, hb8⟩
            have hb9 : Below w2.heap.size w2 w8 := (Below.refl w2.heap.size w2).drew.trans hb8
            have P8 := Lib.hid (P2.out.below hb9)
            have C8 := Lib.hid (chg_trans C2.out (td_none hb9))
            have c8 := Lib.hid (pr_none (pr := pr) hb9)
            clear hb8 hb9
            go_wp2_with (fail)
            refine g1 _ _ c8.out ?_
            clear g1
            refine frp.tr_onep _ (by dsimp only [pick, at_]) ?_
            intro K1 g1 g2 g3
            clear g2
            have HG := Lib.hid (P8.out.get nn (by omega))
            go_wp2_with (fail)
            refine HG.out.mono ?_
            cases hb : gb nn X2 with
            | none =>
              intro e w9 hr
              unfold RetD at hr
              rw [hb] at hr
              obtain ⟨rfl, hc⟩ := hr
              have HN := Lib.hid (show dVal (some (p, qq)) X = none by rw [HDV.out]; simp only [dWin, hnn, hb, Option.map_none])
              have C9 := Lib.hid (chg_trans C8.out (td_of hc))
              clear hc HG hb g1
              go_wp2_with (fail)
              intro a' ha'
              go_wp2_with (fail)
              refine ⟨ha', ?_⟩
              unfold RetV
              rw [HN.out]
              exact ⟨rfl, C9.out⟩
            | some z =>
              obtain ⟨V, X9⟩ := z
              intro e w9 hr
              unfold RetD at hr
              rw [hb] at hr
              obtain ⟨rfl, hx, hc⟩ := hr
              have hV := win_lt (by rw [hnn]; exact hb) hpq
              have HN := Lib.hid (show dVal (some (p, qq)) X = some (V * 2 ^ qq, some (p, qq), X9) by rw [HDV.out]; simp only [dWin, hnn, hb, Option.map_some])
              have P9 := Lib.hid (P8.out.got hx hc)
              have C9 := Lib.hid (chg_trans C8.out (td_of hc))
              have c9 := Lib.hid (chg_trans c8.out hc)
              have hsh := shl_z V qq hV
              obtain ⟨Y, hY⟩ : ∃ Y, V * 2 ^ qq = Y := ⟨_, rfl⟩
              rw [hY] at hsh hV
              have hxo := xor_nat old Y _ hold hV rfl
              obtain ⟨Z, hZ⟩ : ∃ Z, old ^^^ Y = Z := ⟨_, rfl⟩
              rw [hZ] at hxo
              have HYZ := Lib.hid (And.intro hY hZ)
              clear hx hc HG hb g3 hV hY hZ
              go_wp2_with (fail)
              refine g1 _ _ c9.out ?_
              clear g1
              refine fr.tr_reads _ (by dsimp only [pick, at_]) ?_
              repeat (go_big_quiet_step (fail))
              refine wpQuiet_nil ?_
              refine fr.tr_write _ (by dsimp only [pick, at_]) ?_
              intro K1 g1
              have f0 := P9.out.fz 9
              have c0 : w9.cell? ⟨pd, 9, none⟩ = some (.int .u64 (old : Int)) := P9.out.cell 9 rfl
              go_wp2_with (fail)
              refine fr.tr_stop ?_
              refine PanicAll.normal ?_
              have PA := P9.out.set (q' := { q with ls := Z, b := w3 (some (p, qq)) }) (chg_pd pd 9 (.int .u64 (Z : Int))) (by rw [heap_setCell_same _ _ _ _ _ _ P9.out.dec]; rfl)
              have CA := Lib.hid (chg_trans C9.out (td_pd (chg_pd (w := w9) pd 9 (.int .u64 (Z : Int)))))
              have cA : (w9.setCell ⟨pd, 9, none⟩ (.int .u64 (Z : Int))).cell? ⟨pd, 9, none⟩ = some (.int .u64 (Z : Int)) := PA.cell 9 rfl
              replace PA := Lib.hid PA
              have hltA : pd < w9.heap.size := blk_lt P9.out.dec
              clear c0
              go_wp2_with (fail)
              go_ret
              unfold RetV
              rw [HN.out]
              simp only [HYZ.out.1, HYZ.out.2]
              exact ⟨rfl, PA.out, CA.out⟩
        · obtain rfl : V = 1 := by omega
          rw [if_neg (by omega)] at hdv
          have HG := Lib.hid (P2.out.get 5 (by omega))
          clear hV hV2
          go_wp2_with (fail)
          refine HG.out.mono ?_
          cases hb : gb 5 X2 with
          | none =>
            rw [hb] at hdv
            have HN := Lib.hid (show dVal a X = none from hdv)
            intro e w3' hr
            unfold RetD at hr
            rw [hb] at hr
            obtain ⟨rfl, hc⟩ := hr
            have C3 := Lib.hid (chg_trans C2.out (td_of (pd := pd) hc))
            clear hc HG hb hdv
            go_wp2_with (fail)
            refine ⟨rfl, ?_⟩
            unfold RetV
            rw [HN.out]
            exact ⟨rfl, C3.out⟩
          | some z =>
            obtain ⟨p, X3⟩ := z
            have hp5 : p < 32 := gb_lt hb
            rw [hb] at hdv
            simp only [Option.bind_some] at hdv
            intro e w3' hr
            unfold RetD at hr
            rw [hb] at hr
            obtain ⟨rfl, hx, hc⟩ := hr
            have P3 := Lib.hid (P2.out.got hx hc)
            have C3 := Lib.hid (chg_trans C2.out (td_of (pd := pd) hc))
            have HG := Lib.hid (P3.out.get 6 (by omega))
            have y1 : IntKind.i64.wrap (p : Int) = (p : Int) := IntWalk.i64_in _ (by omega)
            clear hx hc hb P2 C2
            go_wp2_with (fail)
            refine HG.out.mono ?_
            cases hb : gb 6 X3 with
            | none =>
              rw [hb] at hdv
              have HN := Lib.hid (show dVal a X = none from hdv)
              intro e w4 hr
              unfold RetD at hr
              rw [hb] at hr
              obtain ⟨rfl, hc⟩ := hr
              have C4 := Lib.hid (chg_trans C3.out (td_of (pd := pd) hc))
              clear hc HG hb hdv
              go_wp2_with (fail)
              refine ⟨rfl, ?_⟩
              unfold RetV
              rw [HN.out]
              exact ⟨rfl, C4.out⟩
            | some z =>
              obtain ⟨n, X4⟩ := z
              have hn6 : n < 64 := gb_lt hb
              rw [hb] at hdv
              simp only [Option.bind_some] at hdv
              intro e w4 hr
              unfold RetD at hr
              rw [hb] at hr
              obtain ⟨rfl, hx, hc⟩ := hr
              have P4 := Lib.hid (P3.out.got hx hc)
              have C4 := Lib.hid (chg_trans C3.out (td_of (pd := pd) hc))
              obtain ⟨T, hT⟩ : ∃ T : Int, 63 - (p : Int) - (n : Int) = T := ⟨_, rfl⟩
              have y2 : IntKind.i64.wrap (n : Int) = (n : Int) := IntWalk.i64_in _ (by omega)
              have y3 : IntKind.i64.wrap ((n : Int) + 1) = (n : Int) + 1 := IntWalk.i64_in _ (by omega)
              have y4 : IntKind.i64.wrap (64 - (p : Int)) = 64 - (p : Int) := IntWalk.i64_in _ (by omega)
              have y5 : IntKind.i64.wrap (64 - (p : Int) - ((n : Int) + 1)) = T := by rw [IntWalk.i64_in _ (by omega)]; omega
              have f1 := P4.out.fz 10
              have f2 := P4.out.fz 11
              have f3 := P4.out.fz 12
              have P5 := Lib.hid (P4.out.set (q' := { q with ls := old, b := (true, (p : Int), T) }) (((chg_pd pd 10 (.bool true)).setCell (p := ⟨pd, 11, none⟩) (fun _ => rfl) (.int .i64 (p : Int))).setCell (p := ⟨pd, 12, none⟩) (fun _ => rfl) (.int .i64 T)) (by
                rw [heap_setCell_same _ _ _ _ _ _ (heap_setCell_same _ _ _ _ _ _ (heap_setCell_same _ _ _ _ _ _ P4.out.dec)), ← hold']; rfl))
              have C5 := Lib.hid (chg_trans C4.out (td_pd (pr := pr) (((chg_pd (w := w4) pd 10 (.bool true)).setCell (p := ⟨pd, 11, none⟩) (fun _ => rfl) (.int .i64 (p : Int))).setCell (p := ⟨pd, 12, none⟩) (fun _ => rfl) (.int .i64 T))))
              obtain ⟨w5, hw5⟩ : ∃ wx, ((w4.setCell ⟨pd, 10, none⟩ (.bool true)).setCell ⟨pd, 11, none⟩ (.int .i64 (p : Int))).setCell ⟨pd, 12, none⟩ (.int .i64 T) = wx := ⟨_, rfl⟩
              rw [hw5] at P5 C5
              have c1 : w4.cell? ⟨pd, 10, none⟩ = some (.bool q.b.1) := P4.out.cell 10 rfl
              have c2 : w4.cell? ⟨pd, 11, none⟩ = some (.int .i64 q.b.2.1) := P4.out.cell 11 rfl
              have c3 : w4.cell? ⟨pd, 12, none⟩ = some (.int .i64 q.b.2.2) := P4.out.cell 12 rfl
              have hlt4 : pd < w4.heap.size := blk_lt P4.out.dec
              have HW5 := Lib.hid hw5
              have HT := Lib.hid hT
              have HDV' := Lib.hid hdv
              have k1 : w5.cell? ⟨pd, 10, none⟩ = some (.bool true) := P5.out.cell 10 rfl
              have k2 : w5.cell? ⟨pd, 11, none⟩ = some (.int .i64 (p : Int)) := P5.out.cell 11 rfl
              have k3 : w5.cell? ⟨pd, 12, none⟩ = some (.int .i64 T) := P5.out.cell 12 rfl
              clear hx hc HG hb P3 C3 hdv hT hw5
              by_cases hpn : p + n ≤ 63
              · obtain ⟨qq, hqq⟩ : ∃ z, 63 - p - n = z := ⟨_, rfl⟩
                have hTq : T = (qq : Int) := by have := HT.out; omega
                subst hTq
                have hpq : p + qq ≤ 63 := by omega
                have j1 : ¬ ((qq : Int) < 0) := by omega
                have hdv := HDV'.out
                rw [if_pos hpn, hqq] at hdv
                have HDV := Lib.hid hdv
                have P5 := Lib.hid (show PD H w5 pd pr r X4 { q with ls := old, b := w3 (some (p, qq)) } from P5.out)
                clear hdv
                go_wp2_with (rw [HW5.out])
                clear k1 k2 k3 c1 c2 c3 f1 f2 f3 y1 y2 y3 y4 y5
                obtain ⟨nn, hnn⟩ : ∃ m, 64 - p - qq = m := ⟨_, rfl⟩
                have c0 : w5.cell? ⟨pd, 9, none⟩ = some (.int .u64 (old : Int)) := P5.out.cell 9 rfl
                have c1 : w5.cell? ⟨pd, 10, none⟩ = some (.bool true) := P5.out.cell 10 rfl
                have c2 : w5.cell? ⟨pd, 11, none⟩ = some (.int .i64 (p : Int)) := P5.out.cell 11 rfl
                have c3 : w5.cell? ⟨pd, 12, none⟩ = some (.int .i64 (qq : Int)) := P5.out.cell 12 rfl
                replace c0 := Wf.at_ (F := fun k => k = pr) c0 P5.out.ne
                replace c1 := Wf.at_ (F := fun k => k = pr) c1 P5.out.ne
                replace c2 := Wf.at_ (F := fun k => k = pr) c2 P5.out.ne
                replace c3 := Wf.at_ (F := fun k => k = pr) c3 P5.out.ne
                have hlt1 : pd < w5.heap.size := blk_lt P5.out.dec
                have i4 : (0 : Int) ≤ (qq : Int) := by omega
                have i5 : (qq : Int) < 64 := by omega
                refine frp.wp_region_ptree (F := fun k => k = pr) (.reads [0, 1, 2, 3, 4, 5, 6, 7, 8, 11, 12, 13, 14, 15] (.one 9 false (.one 10 false (.reads [16, 17, 18, 19] (.one 20 true .stop))))) (by kernel_rfl) (by kernel_rfl) ?_
                refine fr.tr_reads _ (by dsimp only [pick, at_]) ?_
                repeat (go_big_quiet_step (fail))
                refine wpQuiet_nil ?_
                clear c0 c1 c2 c3
                refine fr.tr_one _ (by dsimp only [pick, at_]) ?_
                intro K1 g1 g2
                clear g2
                go_wp2_with (fail)
                refine (size_x w5.drew true p qq nn (by omega) (by omega)).mono ?_
                rintro e w8 ⟨rfl, hb8⟩
                have hb9 : Below w5.heap.size w5 w8 := (Below.refl w5.heap.size w5).drew.trans hb8
                have P8 := Lib.hid (P5.out.below hb9)
                have C8 := Lib.hid (chg_trans C5.out (td_none hb9))
                have c8 := Lib.hid (pr_none (pr := pr) hb9)
                clear hb8 hb9
                go_wp2_with (fail)
                refine g1 _ _ c8.out ?_
                clear g1
                refine frp.tr_onep _ (by dsimp only [pick, at_]) ?_
                intro K1 g1 g2 g3
                clear g2
                have HG := Lib.hid (P8.out.get nn (by omega))
                go_wp2_with (fail)
                refine HG.out.mono ?_
                cases hb : gb nn X4 with
                | none =>
                  intro e w9 hr
                  unfold RetD at hr
                  rw [hb] at hr
                  obtain ⟨rfl, hc⟩ := hr
                  have HN := Lib.hid (show dVal a X = none by rw [HDV.out]; simp only [dWin, hnn, hb, Option.map_none])
                  have C9 := Lib.hid (chg_trans C8.out (td_of hc))
                  clear hc HG hb g1
                  go_wp2_with (fail)
                  intro a' ha'
                  go_wp2_with (fail)
                  refine ⟨ha', ?_⟩
                  unfold RetV
                  rw [HN.out]
                  exact ⟨rfl, C9.out⟩
                | some z =>
                  obtain ⟨V, X9⟩ := z
                  intro e w9 hr
                  unfold RetD at hr
                  rw [hb] at hr
                  obtain ⟨rfl, hx, hc⟩ := hr
                  have hV := win_lt (by rw [hnn]; exact hb) hpq
                  have HN := Lib.hid (show dVal a X = some (V * 2 ^ qq, some (p, qq), X9) by rw [HDV.out]; simp only [dWin, hnn, hb, Option.map_some])
                  have P9 := Lib.hid (P8.out.got hx hc)
                  have C9 := Lib.hid (chg_trans C8.out (td_of hc))
                  have c9 := Lib.hid (chg_trans c8.out hc)
                  have hsh := shl_z V qq hV
                  obtain ⟨Y, hY⟩ : ∃ Y, V * 2 ^ qq = Y := ⟨_, rfl⟩
                  rw [hY] at hsh hV
                  have hxo := xor_nat old Y _ hold hV rfl
                  obtain ⟨Z, hZ⟩ : ∃ Z, old ^^^ Y = Z := ⟨_, rfl⟩
                  rw [hZ] at hxo
                  have HYZ := Lib.hid (And.intro hY hZ)
                  clear hx hc HG hb g3 hV hY hZ
                  go_wp2_with (fail)
                  refine g1 _ _ c9.out ?_
                  clear g1
                  refine fr.tr_reads _ (by dsimp only [pick, at_]) ?_
                  repeat (go_big_quiet_step (fail))
                  refine wpQuiet_nil ?_
                  refine fr.tr_write _ (by dsimp only [pick, at_]) ?_
                  intro K1 g1
                  have f0 := P9.out.fz 9
                  have c0 : w9.cell? ⟨pd, 9, none⟩ = some (.int .u64 (old : Int)) := P9.out.cell 9 rfl
                  go_wp2_with (fail)
                  refine fr.tr_stop ?_
                  refine PanicAll.normal ?_
                  have PA := P9.out.set (q' := { q with ls := Z, b := w3 (some (p, qq)) }) (chg_pd pd 9 (.int .u64 (Z : Int))) (by rw [heap_setCell_same _ _ _ _ _ _ P9.out.dec]; rfl)
                  have CA := Lib.hid (chg_trans C9.out (td_pd (chg_pd (w := w9) pd 9 (.int .u64 (Z : Int)))))
                  have cA : (w9.setCell ⟨pd, 9, none⟩ (.int .u64 (Z : Int))).cell? ⟨pd, 9, none⟩ = some (.int .u64 (Z : Int)) := PA.cell 9 rfl
                  replace PA := Lib.hid PA
                  have hltA : pd < w9.heap.size := blk_lt P9.out.dec
                  clear c0
                  go_wp2_with (fail)
                  go_ret
                  unfold RetV
                  rw [HN.out]
                  simp only [HYZ.out.1, HYZ.out.2]
                  exact ⟨rfl, PA.out, CA.out⟩
              · have hdv := HDV'.out
                rw [if_neg hpn] at hdv
                have HN := Lib.hid (show dVal a X = none from hdv)
                have j1 : T < 0 := by have := HT.out; omega
                clear hdv
                go_wp2_with (rw [HW5.out])
                refine ⟨rfl, ?_⟩
                unfold RetV
                rw [HN.out]
                exact ⟨rfl, C5.out⟩
end Go.Proofs.YtknjejejkgihbaaDoor.ts
/-
  Tsz: how the program's decoder reads a point.
-/
namespace Go.Proofs.YtknjejejkgihbaaDoor.ts
open Go.ChangeShapes Go.WideShapes Go.ChangeAt Go.RowKit plain words ord mem bitm uvs

def dcOf (n : DS) : DC := ⟨n.t, n.v, n.s, n.d, n.v, w3 n.a, n.s, w3 n.b⟩
def dc0 : DC := ⟨0, 0, 0, 0, 0, w3 none, 0, w3 none⟩
def RetQ (H : Nat) (w : World) (pd pr : Nat) (r : Option Nat) (o : Option DS) (e : Ending) (w' : World) : Prop := match o with
  | some n => e = .returned (.agg #[.int .i64 n.t, .int .u64 (n.v : Int), .int .u64 (n.s : Int)]) ∧ PD H w' pd pr r n.X (dcOf n) ∧ Chg (TD pd pr) w w'
  | none => e = .panicked badC ∧ Chg (TD pd pr) w w'
theorem info3 : (Tryd.prog.info? 39).map (·.size) = some 3 := by kernel_rfl
/-- three numbers are stored as the last point -/
theorem PD.last {H : Nat} {w : World} {pd pr : Nat} {r : Option Nat} {X : List Bool} {q : DC} (h : PD H w pd pr r X q) (t : Int) (v s : Nat) : PD H (((w.setCell ⟨pd, 1, none⟩ (.int .i64 t)).setCell ⟨pd, 2, none⟩ (.int .u64 (v : Int))).setCell ⟨pd, 3, none⟩ (.int .u64 (s : Int))) pd pr r X { q with t := t, v := v, s := s } :=
  h.set (((chg_pd pd 1 _).setCell (p := ⟨pd, 2, none⟩) (fun _ => rfl) _).setCell (p := ⟨pd, 3, none⟩) (fun _ => rfl) _) (by rw [heap_setCell_same _ _ _ _ _ _ (heap_setCell_same _ _ _ _ _ _ (heap_setCell_same _ _ _ _ _ _ h.dec))]; rfl)
theorem PD.cols {H : Nat} {w : World} {pd pr : Nat} {r : Option Nat} {X : List Bool} {q : DC} (h : PD H w pd pr r X q) (v s : Nat) : PD H ((w.setCell ⟨pd, 5, none⟩ (.int .u64 (v : Int))).setCell ⟨pd, 9, none⟩ (.int .u64 (s : Int))) pd pr r X { q with lv := v, ls := s } :=
  h.set ((chg_pd pd 5 _).setCell (p := ⟨pd, 9, none⟩) (fun _ => rfl) _) (by rw [heap_setCell_same _ _ _ _ _ _ (heap_setCell_same _ _ _ _ _ _ h.dec)]; rfl)
theorem PD.one {H : Nat} {w : World} {pd pr : Nat} {r : Option Nat} {X : List Bool} {q q' : DC} (h : PD H w pd pr r X q) (j : Nat) (v : Value) (hq : (q.cells pr).setIfInBounds j v = q'.cells pr) : PD H (w.setCell ⟨pd, j, none⟩ v) pd pr r X q' :=
  h.set (chg_pd pd j _) (by rw [heap_setCell_same _ _ _ _ _ _ h.dec, hq])
theorem PD.new' {H : Nat} {w : World} {pd pr : Nat} {r : Option Nat} {X : List Bool} {q : DC} (h : PD H w pd pr r X q) {N : Nat} (hN : w.heap.size ≤ N) : some N ≠ r ∧ H ≤ N := by
  refine ⟨fun e => ?_, Nat.le_trans h.sz hN⟩
  subst e
  obtain ⟨bs, k, h1, _⟩ := h.rd
  have := h1.row_lt
  omega
theorem PD.new {H : Nat} {w : World} {pd pr : Nat} {r : Option Nat} {X : List Bool} {q : DC} (h : PD H w pd pr r X q) {N : Nat} (hN : w.heap.size ≤ N) : N ≠ pd ∧ N ≠ pr := by
  have h1 := blk_lt h.dec
  have h2 := h.rd.lt
  omega
theorem td_not {N pd pr : Nat} (h : N ≠ pd ∧ N ≠ pr) : ¬ TD pd pr N := fun e => e.elim h.1 h.2
theorem last_chg {w : World} {pd pr : Nat} (t v s : Value) : Chg (TD pd pr) w (((w.setCell ⟨pd, 1, none⟩ t).setCell ⟨pd, 2, none⟩ v).setCell ⟨pd, 3, none⟩ s) := td_pd (((chg_pd pd 1 _).setCell (p := ⟨pd, 2, none⟩) (fun _ => rfl) _).setCell (p := ⟨pd, 3, none⟩) (fun _ => rfl) _)
theorem cols_chg {w : World} {pd pr : Nat} (v s : Value) : Chg (TD pd pr) w ((w.setCell ⟨pd, 5, none⟩ v).setCell ⟨pd, 9, none⟩ s) := td_pd ((chg_pd pd 5 _).setCell (p := ⟨pd, 9, none⟩) (fun _ => rfl) _)
theorem PD.setN {H : Nat} {w : World} {pd pr : Nat} {r : Option Nat} {X : List Bool} {q : DC} (h : PD H w pd pr r X q) {N : Nat} (hn : ¬ TD pd pr N) (hr : some N ≠ r) (hH : H ≤ N) (x y z : Value) : PD H (((w.setCell ⟨N, 0, none⟩ x).setCell ⟨N, 1, none⟩ y).setCell ⟨N, 2, none⟩ z) pd pr r X q := by
  have hc : Chg (fun k => k = N) w (((w.setCell ⟨N, 0, none⟩ x).setCell ⟨N, 1, none⟩ y).setCell ⟨N, 2, none⟩ z) := ((chg_pd N 0 _).setCell (p := ⟨N, 1, none⟩) (fun _ => rfl) _).setCell (p := ⟨N, 2, none⟩) (fun _ => rfl) _
  exact ⟨hc.blk h.dec (fun e => hn (.inl e.symm)), h.rd.chg hc (fun e => hn (.inr e.symm)) (fun g hg e => hr (by rw [hg, e])), h.ne, h.nr, h.nq, h.hd, h.hp, h.lay.below (hc.below h.sz (fun k e => by subst e; exact hH)) h.two, h.two⟩
set_option maxHeartbeats 2000000 in
set_option maxRecDepth 100000 in
theorem first_d (H : Nat) (w : World) (pd pr : Nat) (r : Option Nat) (X : List Bool) (h : PD H w pd pr r X dc0) :
    Calls Tryd.prog 46 #[.pointer (some ⟨pd, 0, none⟩), .bool true] w (RetQ H w pd pr r (dFirst X)) := by
  obtain ⟨N, hN⟩ : ∃ N, w.heap.size = N := ⟨_, rfl⟩
  have hnn := h.new (N := N) (by omega)
  obtain ⟨w1, hw1⟩ : ∃ w1, w.alloc (.cells #[.int .i64 0, .int .u64 0, .int .u64 0] 39) = w1 := ⟨_, rfl⟩
  have hb1 : Below w.heap.size w w1 := by rw [← hw1]; exact (Below.refl _ _).alloc (Nat.le_refl _) _
  have hg1 : w1.heap[N]? = some (.cells #[.int .i64 0, .int .u64 0, .int .u64 0] 39 (0, 0)) := by rw [← hw1, ← hN]; exact alloc_new _ _
  have P1 := Lib.hid (h.below hb1)
  have C1 := Lib.hid (td_none (pd := pd) (pr := pr) hb1)
  have G1 := Lib.hid hg1
  have HW1 := Lib.hid (And.intro hN hw1)
  have HT := Lib.hid (td_not hnn)
  have HR := Lib.hid (h.new' (N := N) (by omega))
  have HG := Lib.hid (P1.out.get 64 (by omega))
  have hdn : dFirst X = dFirst X := rfl
  conv at hdn => rhs; unfold dFirst
  have HDN := Lib.hid hdn
  clear hdn
  have hNW := Lib.hid (show ∀ (t v s : Value) (x : World), Chg (TD pd pr) w x → Chg (TD pd pr) w (((x.setCell ⟨N, 0, none⟩ t).setCell ⟨N, 1, none⟩ v).setCell ⟨N, 2, none⟩ s) from fun t v s x h => chg_set3 h (by omega) t v s)
  clear h hnn hb1 hg1 hw1 hN
  go_enter Tryd.func46, Tryd.ntmps46
  go_wp2_with (fail)
  rw [HW1.out.1, HW1.out.2]
  refine HG.out.mono ?_
  cases hb : gb 64 X with
  | none =>
    have hdn := HDN.out
    rw [hb] at hdn
    have HN := Lib.hid (show dFirst X = none from hdn)
    intro e wz hr
    unfold RetD at hr
    rw [hb] at hr
    obtain ⟨rfl, hc⟩ := hr
    have CZ := Lib.hid (chg_trans C1.out (td_of (pd := pd) hc))
    clear hc HG hb hdn
    go_wp2_with (fail)
    refine ⟨rfl, ?_⟩
    unfold RetQ
    rw [HN.out]
    exact ⟨rfl, CZ.out⟩
  | some z =>
    obtain ⟨V1, X1⟩ := z
    have hdn := HDN.out
    rw [hb] at hdn
    simp only [Option.bind_some] at hdn
    replace HDN := Lib.hid hdn
    clear hdn
    intro e w2 hr
    unfold RetD at hr
    rw [hb] at hr
    obtain ⟨rfl, hx, hc⟩ := hr
    have P2 := Lib.hid (P1.out.got hx hc)
    have C2 := Lib.hid (chg_trans C1.out (td_of (pd := pd) hc))
    have G2 := Lib.hid ((td_of (pd := pd) hc).blk G1.out HT.out)
    have HG := Lib.hid (P2.out.get 64 (by omega))
    obtain ⟨T, hT⟩ : ∃ T, w64 (V1 : Int) = T := ⟨_, rfl⟩
    have y1 : IntKind.i64.wrap (V1 : Int) = T := by rw [← hT]; simp [w64, IntKind.wrap_i64]
    have hdn := HDN.out
    rw [hT] at hdn
    replace HDN := Lib.hid hdn
    clear hdn
    clear hx hc hb P1 C1 G1 hT
    go_wp2_with (fail)
    refine HG.out.mono ?_
    cases hb : gb 64 X1 with
    | none =>
      have hdn := HDN.out
      rw [hb] at hdn
      have HN := Lib.hid (show dFirst X = none from hdn)
      intro e wz hr
      unfold RetD at hr
      rw [hb] at hr
      obtain ⟨rfl, hc⟩ := hr
      have CZ := Lib.hid (chg_trans C2.out (td_of (pd := pd) hc))
      clear hc HG hb hdn
      go_wp2_with (fail)
      refine ⟨rfl, ?_⟩
      unfold RetQ
      rw [HN.out]
      exact ⟨rfl, CZ.out⟩
    | some z =>
      obtain ⟨V2, X2⟩ := z
      have hdn := HDN.out
      rw [hb] at hdn
      simp only [Option.bind_some] at hdn
      replace HDN := Lib.hid hdn
      clear hdn
      intro e w3 hr
      unfold RetD at hr
      rw [hb] at hr
      obtain ⟨rfl, hx, hc⟩ := hr
      have P3 := Lib.hid (P2.out.got hx hc)
      have C3 := Lib.hid (chg_trans C2.out (td_of (pd := pd) hc))
      have G3 := Lib.hid ((td_of (pd := pd) hc).blk G2.out HT.out)
      have HG := Lib.hid (P3.out.get 64 (by omega))
      clear hx hc hb P2 C2 G2
      go_wp2_with (fail)
      refine HG.out.mono ?_
      cases hb : gb 64 X2 with
      | none =>
        have hdn := HDN.out
        rw [hb] at hdn
        have HN := Lib.hid (show dFirst X = none from hdn)
        intro e wz hr
        unfold RetD at hr
        rw [hb] at hr
        obtain ⟨rfl, hc⟩ := hr
        have CZ := Lib.hid (chg_trans C3.out (td_of (pd := pd) hc))
        clear hc HG hb hdn
        go_wp2_with (fail)
        refine ⟨rfl, ?_⟩
        unfold RetQ
        rw [HN.out]
        exact ⟨rfl, CZ.out⟩
      | some z =>
        obtain ⟨V3, X3⟩ := z
        have hdn := HDN.out
        rw [hb] at hdn
        simp only [Option.bind_some] at hdn
        replace HDN := Lib.hid hdn
        clear hdn
        intro e w4 hr
        unfold RetD at hr
        rw [hb] at hr
        obtain ⟨rfl, hx, hc⟩ := hr
        have P4 := Lib.hid (P3.out.got hx hc)
        have C4 := Lib.hid (chg_trans C3.out (td_of (pd := pd) hc))
        have G4 := Lib.hid ((td_of (pd := pd) hc).blk G3.out HT.out)
        have f1 := P4.out.fz 1
        have f2 := P4.out.fz 2
        have f3 := P4.out.fz 3
        have c1 : w4.cell? ⟨pd, 1, none⟩ = some (.int .i64 0) := P4.out.cell 1 rfl
        have c2 : w4.cell? ⟨pd, 2, none⟩ = some (.int .u64 0) := P4.out.cell 2 rfl
        have c3 : w4.cell? ⟨pd, 3, none⟩ = some (.int .u64 0) := P4.out.cell 3 rfl
        have hl4 : pd < w4.heap.size := blk_lt P4.out.dec
        have p5 := P4.out.last T V2 V3
        have c5 := chg_trans C4.out (last_chg (w := w4) (pd := pd) (pr := pr) (.int .i64 T) (.int .u64 (V2 : Int)) (.int .u64 (V3 : Int)))
        have g5 := (last_chg (w := w4) (pd := pd) (pr := pr) (.int .i64 T) (.int .u64 (V2 : Int)) (.int .u64 (V3 : Int))).blk G4.out HT.out
        obtain ⟨w5, hw5⟩ : ∃ wx, ((w4.setCell ⟨pd, 1, none⟩ (.int .i64 T)).setCell ⟨pd, 2, none⟩ (.int .u64 (V2 : Int))).setCell ⟨pd, 3, none⟩ (.int .u64 (V3 : Int)) = wx := ⟨_, rfl⟩
        rw [hw5] at p5 c5 g5
        have P5 := Lib.hid p5
        have C5 := Lib.hid c5
        have G5 := Lib.hid g5
        have HW5 := Lib.hid hw5
        have HN := HDN
        clear hx hc hb HG P3 C3 G3 p5 c5 g5 hw5
        go_wp2_with (fail)
        rw [HW5.out]
        clear f1 f2 f3 c1 c2 c3 y1 HW5
        have k2 : w5.cell? ⟨pd, 2, none⟩ = some (.int .u64 (V2 : Int)) := P5.out.cell 2 rfl
        have k3 : w5.cell? ⟨pd, 3, none⟩ = some (.int .u64 (V3 : Int)) := P5.out.cell 3 rfl
        have q2 := Wb.at_ k2
        have q3 := Wb.at_ k3
        have hl5 : pd < w5.heap.size := blk_lt P5.out.dec
        refine wp_region_plan [([0, 1, 2, 3, 4, 5, 6, 7, 8, 9, 10, 11, 12, 13, 14], some (15, true)), ([16, 17, 18], some (19, true)), ([], none)] (by kernel_rfl) (by kernel_rfl) ?_
        refine seg_write _ (by dsimp only [pick, at_]) _ (by dsimp only [pick, at_]) ?_
        repeat (go_big_quiet_step (fail))
        refine wpQuiet_nil ?_
        intro K1 g1
        clear q2 q3 k2 k3
        have P6 := Lib.hid (show PD H w5.drew pd pr r X3 _ from P5.out.drew)
        have f5 := P6.out.fz 5
        have d5 : w5.drew.cell? ⟨pd, 5, none⟩ = some (.int .u64 0) := P6.out.cell 5 rfl
        go_wp2_with (fail)
        clear f5 d5
        refine seg_write _ (by dsimp only [pick, at_]) _ (by dsimp only [pick, at_]) ?_
        repeat (go_big_quiet_step (fail))
        refine wpQuiet_nil ?_
        intro K1 g1
        have P7 := Lib.hid (show PD H (w5.setCell ⟨pd, 5, none⟩ (.int .u64 (V2 : Int))).drew pd pr r X3 _ from P6.out.one (q' := { dc0 with t := T, v := V2, s := V3, lv := V2 }) 5 (.int .u64 (V2 : Int)) rfl)
        have f9 := P7.out.fz 9
        have d9 : (w5.setCell ⟨pd, 5, none⟩ (.int .u64 (V2 : Int))).drew.cell? ⟨pd, 9, none⟩ = some (.int .u64 0) := P7.out.cell 9 rfl
        go_wp2_with (fail)
        clear f9 d9
        refine seg_end _ (by dsimp only [pick, at_]) ?_
        repeat (go_big_quiet_step (fail))
        refine wpQuiet_nil ?_
        refine NoPanic.normal ?_
        have p8 : PD H ((w5.setCell ⟨pd, 5, none⟩ (.int .u64 (V2 : Int))).setCell ⟨pd, 9, none⟩ (.int .u64 (V3 : Int))).drew pd pr r X3 _ := P7.out.one (q' := dcOf ⟨T, 0, V2, V3, none, none, X3⟩) 9 (.int .u64 (V3 : Int)) rfl
        have c8 : Chg (TD pd pr) w ((w5.setCell ⟨pd, 5, none⟩ (.int .u64 (V2 : Int))).setCell ⟨pd, 9, none⟩ (.int .u64 (V3 : Int))).drew := chg_trans (chg_trans C5.out (td_none (Below.refl _ w5).drew)) (cols_chg (w := w5.drew) (pd := pd) (pr := pr) (.int .u64 (V2 : Int)) (.int .u64 (V3 : Int)))
        have g8 : ((w5.setCell ⟨pd, 5, none⟩ (.int .u64 (V2 : Int))).setCell ⟨pd, 9, none⟩ (.int .u64 (V3 : Int))).drew.heap[N]? = _ := (cols_chg (w := w5.drew) (pd := pd) (pr := pr) (.int .u64 (V2 : Int)) (.int .u64 (V3 : Int))).blk (show w5.drew.heap[N]? = _ from G5.out) HT.out
        obtain ⟨w8, hw8⟩ : ∃ wx, ((w5.setCell ⟨pd, 5, none⟩ (.int .u64 (V2 : Int))).setCell ⟨pd, 9, none⟩ (.int .u64 (V3 : Int))).drew = wx := ⟨_, rfl⟩
        rw [hw8] at p8 c8 g8 ⊢
        have P8 := Lib.hid p8
        have C8 := Lib.hid c8
        have G8 := Lib.hid g8
        have k1 : w8.cell? ⟨pd, 1, none⟩ = some (.int .i64 T) := P8.out.cell 1 rfl
        have k2 : w8.cell? ⟨pd, 2, none⟩ = some (.int .u64 (V2 : Int)) := P8.out.cell 2 rfl
        have k3 : w8.cell? ⟨pd, 3, none⟩ = some (.int .u64 (V3 : Int)) := P8.out.cell 3 rfl
        obtain ⟨z0, z1, z2⟩ := cells3 G8.out
        obtain ⟨f0, f1, f2⟩ := frozen3 G8.out
        have hl8 : pd < w8.heap.size := blk_lt P8.out.dec
        have hlN : N < w8.heap.size := blk_lt G8.out
        clear p8 c8 g8 hw8 P5 P6 P7 C5 G5
        go_wp2_with (fail)
        refine bodyPost_ret (results_cell_row rfl _ _ N 39 _ _ _ rfl (set3 rfl G8.out) Tryd.underlying39 rfl info3) rfl ?_
        unfold RetQ
        rw [HN.out]
        exact ⟨rfl, P8.out.setN HT.out HR.out.1 HR.out.2 _ _ _, hNW.out _ _ _ w8 C8.out⟩
end Go.Proofs.YtknjejejkgihbaaDoor.ts
/-
  Tsz: how the program's decoder reads a point that is not the first.
-/
namespace Go.Proofs.YtknjejejkgihbaaDoor.ts
open Go.ChangeShapes Go.WideShapes Go.ChangeAt Go.RowKit plain words ord mem bitm uvs

set_option maxHeartbeats 2000000 in
set_option maxRecDepth 100000 in
theorem next_d (H : Nat) (w : World) (pd pr : Nat) (r : Option Nat) (n : DS) (hok : DSok n) (h : PD H w pd pr r n.X (dcOf n)) :
    Calls Tryd.prog 46 #[.pointer (some ⟨pd, 0, none⟩), .bool false] w (RetQ H w pd pr r (dNext n)) := by
  obtain ⟨N, hN⟩ : ∃ N, w.heap.size = N := ⟨_, rfl⟩
  have hnn := h.new (N := N) (by omega)
  obtain ⟨w1, hw1⟩ : ∃ w1, w.alloc (.cells #[.int .i64 0, .int .u64 0, .int .u64 0] 39) = w1 := ⟨_, rfl⟩
  have hb1 : Below w.heap.size w w1 := by rw [← hw1]; exact (Below.refl _ _).alloc (Nat.le_refl _) _
  have hg1 : w1.heap[N]? = some (.cells #[.int .i64 0, .int .u64 0, .int .u64 0] 39 (0, 0)) := by rw [← hw1, ← hN]; exact alloc_new _ _
  have P1 := Lib.hid (h.below hb1)
  have C1 := Lib.hid (td_none (pd := pd) (pr := pr) hb1)
  have G1 := Lib.hid hg1
  have HW1 := Lib.hid (And.intro hN hw1)
  have HT := Lib.hid (td_not hnn)
  have HR := Lib.hid (h.new' (N := N) (by omega))
  have HOK := Lib.hid hok
  have hdn : dNext n = dNext n := rfl
  conv at hdn => rhs; unfold dNext
  have HDN := Lib.hid hdn
  have hNW := Lib.hid (show ∀ (t v s : Value) (x : World), Chg (TD pd pr) w x → Chg (TD pd pr) w (((x.setCell ⟨N, 0, none⟩ t).setCell ⟨N, 1, none⟩ v).setCell ⟨N, 2, none⟩ s) from fun t v s x h => chg_set3 h (by omega) t v s)
  have k4 : w1.cell? ⟨pd, 4, none⟩ = some (.int .i64 n.d) := P1.out.cell 4 rfl
  replace k4 := Wf.at_ (F := fun k => k = pr) k4 P1.out.ne
  have hl1 : pd < w1.heap.size := blk_lt P1.out.dec
  clear h hnn hb1 hg1 hw1 hN hdn hok
  go_enter Tryd.func46, Tryd.ntmps46
  go_wp2_with (fail)
  rw [HW1.out.1, HW1.out.2]
  refine frp.wp_region_ptree (F := fun k => k = pr) (.reads [0, 1, 2, 3, 4] (.one 5 false (.reads [6, 7, 8] (.one 9 true .stop)))) (by kernel_rfl) (by kernel_rfl) ?_
  refine fr.tr_reads _ (by dsimp only [pick, at_]) ?_
  repeat (go_big_quiet_step (fail))
  refine wpQuiet_nil ?_
  clear k4
  refine frp.tr_onep _ (by dsimp only [pick, at_]) ?_
  intro K1 g1 g2 g3
  clear g2
  have P1d := Lib.hid P1.out.drew
  have C1d := Lib.hid (chg_trans C1.out (td_none (Below.refl _ w1).drew))
  have HG := Lib.hid (change_d H w1.drew pd pr r n.X (dcOf n) P1d.out)
  go_wp2_with (fail)
  refine HG.out.mono ?_
  cases hb : dTime n.X with
  | none =>
    have hdn := HDN.out
    rw [hb] at hdn
    have HN := Lib.hid (show dNext n = none from hdn)
    intro e wz hr
    unfold RetT at hr
    try rw [hb] at hr
    obtain ⟨rfl, hc⟩ := hr
    have CZ := Lib.hid (chg_trans C1d.out (td_of (pd := pd) hc))
    clear hc HG hb hdn g1
    go_wp2_with (fail)
    intro a' ha'
    go_wp2_with (fail)
    refine ⟨ha', ?_⟩
    unfold RetQ
    rw [HN.out]
    exact ⟨rfl, CZ.out⟩
  | some z =>
    obtain ⟨x, X1⟩ := z
    have hdn := HDN.out
    rw [hb] at hdn
    simp only [Option.bind_some] at hdn
    have HDN := Lib.hid hdn
    intro e w2 hr
    unfold RetT at hr
    try rw [hb] at hr
    obtain ⟨rfl, hx, hc⟩ := hr
    have P2 := Lib.hid hx
    have C2 := Lib.hid (chg_trans C1d.out (td_of (pd := pd) hc))
    have c2 := Lib.hid (chg_trans (pr_none (pr := pr) (Below.refl w1.heap.size w1).drew) hc)
    have G2 := Lib.hid ((td_of (pd := pd) hc).blk (show w1.drew.heap[N]? = _ from G1.out) HT.out)
    obtain ⟨D, hD⟩ : ∃ D, w64 (n.d + x) = D := ⟨_, rfl⟩
    have y1 : IntKind.i64.wrap (n.d + x) = D := by rw [← hD]; simp [w64, IntKind.wrap_i64]
    have HDD := Lib.hid hD
    clear hx hc hb hdn hD HG g3
    go_wp2_with (fail)
    refine g1 _ _ c2.out ?_
    clear g1
    refine fr.tr_reads _ (by dsimp only [pick, at_]) ?_
    repeat (go_big_quiet_step (fail))
    refine wpQuiet_nil ?_
    refine fr.tr_write _ (by dsimp only [pick, at_]) ?_
    intro K1 g1
    have f4 := P2.out.fz 4
    have c4 : w2.cell? ⟨pd, 4, none⟩ = some (.int .i64 n.d) := P2.out.cell 4 rfl
    go_wp2_with (fail)
    refine fr.tr_stop ?_
    refine PanicAll.normal ?_
    clear f4 c4 y1
    have p3 := P2.out.one (q' := { dcOf n with d := D }) 4 (.int .i64 D) rfl
    have c3 := chg_trans C2.out (td_pd (pr := pr) (chg_pd (w := w2) pd 4 (.int .i64 D)))
    have g3 := (td_pd (pr := pr) (chg_pd (w := w2) pd 4 (.int .i64 D))).blk G2.out HT.out
    obtain ⟨u3, hu3⟩ : ∃ wx, w2.setCell ⟨pd, 4, none⟩ (.int .i64 D) = wx := ⟨_, rfl⟩
    rw [hu3] at p3 c3 g3 ⊢
    have P3 := Lib.hid p3
    have C3 := Lib.hid c3
    have G3 := Lib.hid g3
    clear p3 c3 g3 hu3 P2 C2 G2 c2
    obtain ⟨T, hT⟩ : ∃ T, w64 (n.t + D) = T := ⟨_, rfl⟩
    have y2 : IntKind.i64.wrap (n.t + D) = T := by rw [← hT]; simp [w64, IntKind.wrap_i64]
    have HTT := Lib.hid hT
    have k1 : u3.cell? ⟨pd, 1, none⟩ = some (.int .i64 n.t) := P3.out.cell 1 rfl
    have k4 : u3.cell? ⟨pd, 4, none⟩ = some (.int .i64 D) := P3.out.cell 4 rfl
    have hl3 : pd < u3.heap.size := blk_lt P3.out.dec
    clear hT
    go_wp2_with (fail)
    have q1 := Wb.at_ k1
    have q4 := Wb.at_ k4
    refine wp_region_plan [([0, 1, 2, 3, 4, 5, 6, 7, 8, 9, 10, 11, 12], some (13, true)), ([], none)] (by kernel_rfl) (by kernel_rfl) ?_
    refine seg_write _ (by dsimp only [pick, at_]) _ (by dsimp only [pick, at_]) ?_
    repeat (go_big_quiet_step (fail))
    refine wpQuiet_nil ?_
    intro K1 g1
    clear q1 q4 k1 k4 y2
    have P4 := Lib.hid (show PD H u3.drew pd pr r X1 _ from P3.out.drew)
    have f1 := P4.out.fz 1
    have d1 : u3.drew.cell? ⟨pd, 1, none⟩ = some (.int .i64 n.t) := P4.out.cell 1 rfl
    go_wp2_with (fail)
    clear f1 d1
    refine seg_end _ (by dsimp only [pick, at_]) ?_
    repeat (go_big_quiet_step (fail))
    refine wpQuiet_nil ?_
    refine NoPanic.normal ?_
    have p5 : PD H (u3.setCell ⟨pd, 1, none⟩ (.int .i64 T)).drew pd pr r X1 { dcOf n with t := T, d := D } := P4.out.one (q' := { dcOf n with t := T, d := D }) 1 (.int .i64 T) rfl
    have c5 : Chg (TD pd pr) w (u3.setCell ⟨pd, 1, none⟩ (.int .i64 T)).drew := chg_trans (chg_trans C3.out (td_none (Below.refl _ u3).drew)) (td_pd (pr := pr) (chg_pd (w := u3.drew) pd 1 (.int .i64 T)))
    have g5 : (u3.setCell ⟨pd, 1, none⟩ (.int .i64 T)).drew.heap[N]? = _ := (td_pd (pr := pr) (chg_pd (w := u3.drew) pd 1 (.int .i64 T))).blk (show u3.drew.heap[N]? = _ from G3.out) HT.out
    obtain ⟨w5, hw5⟩ : ∃ wx, (u3.setCell ⟨pd, 1, none⟩ (.int .i64 T)).drew = wx := ⟨_, rfl⟩
    rw [hw5] at p5 c5 g5 ⊢
    have P5 := Lib.hid p5
    have C5 := Lib.hid c5
    have G5 := Lib.hid g5
    have hl5 : pd < w5.heap.size := blk_lt P5.out.dec
    have HG := Lib.hid (value5_d H w5 pd pr r X1 _ P5.out n.a rfl HOK.out.a n.v rfl HOK.out.v)
    clear p5 c5 g5 hw5 P3 P4 C3 G3
    go_wp2_with (fail)
    refine HG.out.mono ?_
    cases hb : dVal n.a X1 with
    | none =>
      have hdn := HDN.out
      rw [hb] at hdn
      have HN := Lib.hid (show dNext n = none from hdn)
      intro e wz hr
      unfold RetV at hr
      try rw [hb] at hr
      obtain ⟨rfl, hc⟩ := hr
      have CZ := Lib.hid (chg_trans C5.out hc)
      clear hc HG hb hdn
      go_wp2_with (fail)
      refine ⟨rfl, ?_⟩
      unfold RetQ
      rw [HN.out]
      exact ⟨rfl, CZ.out⟩
    | some z =>
      obtain ⟨y, a, X2⟩ := z
      have hdn := HDN.out
      rw [hb] at hdn
      simp only [Option.bind_some] at hdn
      have HDN := Lib.hid hdn
      intro e w6 hr
      unfold RetV at hr
      try rw [hb] at hr
      obtain ⟨rfl, hx, hc⟩ := hr
      have P6 := Lib.hid hx
      have C6 := Lib.hid (chg_trans C5.out hc)
      have G6 := Lib.hid (hc.blk G5.out HT.out)
      obtain ⟨V, hV⟩ : ∃ V, n.v ^^^ y = V := ⟨_, rfl⟩
      have HV := Lib.hid hV
      have hv1 := P6.out
      rw [hV] at hv1 ⊢
      replace P6 := Lib.hid hv1
      have f2 := P6.out.fz 2
      have c2 : w6.cell? ⟨pd, 2, none⟩ = some (.int .u64 (n.v : Int)) := P6.out.cell 2 rfl
      have hl6 : pd < w6.heap.size := blk_lt P6.out.dec
      have p7 := P6.out.one (q' := { dcOf n with t := T, v := V, d := D, lv := V, a := w3 a }) 2 (.int .u64 (V : Int)) rfl
      have c7 := chg_trans C6.out (td_pd (pr := pr) (chg_pd (w := w6) pd 2 (.int .u64 (V : Int))))
      have g7 := (td_pd (pr := pr) (chg_pd (w := w6) pd 2 (.int .u64 (V : Int)))).blk G6.out HT.out
      obtain ⟨w7, hw7⟩ : ∃ wx, w6.setCell ⟨pd, 2, none⟩ (.int .u64 (V : Int)) = wx := ⟨_, rfl⟩
      rw [hw7] at p7 c7 g7
      have P7 := Lib.hid p7
      have C7 := Lib.hid c7
      have G7 := Lib.hid g7
      have HW7 := Lib.hid hw7
      have hl7 : pd < w7.heap.size := blk_lt P7.out.dec
      have HG := Lib.hid (value9_d H w7 pd pr r X2 _ P7.out n.b rfl HOK.out.b n.s rfl HOK.out.s)
      clear hx hc hb hdn hV hv1 p7 c7 g7 hw7 P5 C5 G5
      go_wp2_with (rw [HW7.out])
      try rw [HW7.out]
      refine HG.out.mono ?_
      cases hb : dVal n.b X2 with
      | none =>
        have hdn := HDN.out
        rw [hb] at hdn
        have HN := Lib.hid (show dNext n = none from hdn)
        intro e wz hr
        unfold RetV at hr
        try rw [hb] at hr
        obtain ⟨rfl, hc⟩ := hr
        have CZ := Lib.hid (chg_trans C7.out hc)
        clear hc HG hb hdn
        go_wp2_with (fail)
        refine ⟨rfl, ?_⟩
        unfold RetQ
        rw [HN.out]
        exact ⟨rfl, CZ.out⟩
      | some z =>
        obtain ⟨y2, b, X3⟩ := z
        have hdn := HDN.out
        rw [hb] at hdn
        simp only [Option.bind_some] at hdn
        rw [HDD.out, HTT.out, HV.out] at hdn
        intro e w8 hr
        unfold RetV at hr
        try rw [hb] at hr
        obtain ⟨rfl, hx, hc⟩ := hr
        have P8 := Lib.hid hx
        have C8 := Lib.hid (chg_trans C7.out hc)
        have G8 := Lib.hid (hc.blk G7.out HT.out)
        obtain ⟨S, hS⟩ : ∃ S, n.s ^^^ y2 = S := ⟨_, rfl⟩
        rw [hS] at hdn
        have HN := Lib.hid hdn
        have hv1 := P8.out
        rw [hS] at hv1 ⊢
        replace P8 := Lib.hid hv1
        clear hx hc hb hdn hS hv1 P6 P7 C6 C7 G6 G7 f2 c2 HG
        have f3 := P8.out.fz 3
        have c3 : w8.cell? ⟨pd, 3, none⟩ = some (.int .u64 (n.s : Int)) := P8.out.cell 3 rfl
        have hl8 : pd < w8.heap.size := blk_lt P8.out.dec
        have p9 := P8.out.one (q' := dcOf ⟨T, D, V, S, a, b, X3⟩) 3 (.int .u64 (S : Int)) rfl
        have c9 := chg_trans C8.out (td_pd (pr := pr) (chg_pd (w := w8) pd 3 (.int .u64 (S : Int))))
        have g9 := (td_pd (pr := pr) (chg_pd (w := w8) pd 3 (.int .u64 (S : Int)))).blk G8.out HT.out
        obtain ⟨w9, hw9⟩ : ∃ wx, w8.setCell ⟨pd, 3, none⟩ (.int .u64 (S : Int)) = wx := ⟨_, rfl⟩
        rw [hw9] at p9 c9 g9
        have P9 := Lib.hid p9
        have C9 := Lib.hid c9
        have G9 := Lib.hid g9
        have HW9 := Lib.hid hw9
        have k1 : w9.cell? ⟨pd, 1, none⟩ = some (.int .i64 T) := P9.out.cell 1 rfl
        have k2 : w9.cell? ⟨pd, 2, none⟩ = some (.int .u64 (V : Int)) := P9.out.cell 2 rfl
        have k3 : w9.cell? ⟨pd, 3, none⟩ = some (.int .u64 (S : Int)) := P9.out.cell 3 rfl
        obtain ⟨z0, z1, z2⟩ := cells3 G9.out
        obtain ⟨u0, u1, u2⟩ := frozen3 G9.out
        have hl9 : pd < w9.heap.size := blk_lt P9.out.dec
        have hlN : N < w9.heap.size := blk_lt G9.out
        clear p9 c9 g9 P8 C8 G8
        go_wp2_with (rw [hw9])
        refine bodyPost_ret (results_cell_row rfl _ _ N 39 _ _ _ rfl (set3 rfl G9.out) Tryd.underlying39 rfl info3) rfl ?_
        unfold RetQ
        rw [HN.out]
        exact ⟨rfl, P9.out.setN HT.out HR.out.1 HR.out.2 _ _ _, hNW.out _ _ _ w9 C9.out⟩
end Go.Proofs.YtknjejejkgihbaaDoor.ts
/-
  Tsz: how the program decodes.
-/
namespace Go.Proofs.YtknjejejkgihbaaDoor.ts
open Go.ChangeShapes Go.WideShapes Go.ChangeAt Go.RowKit plain words ord mem bitm uvs uvc

/-- what the decoder reads out of bytes, if it comes to an end *-/
def decOut (bs : List UInt8) : Option (List Pt) :=
  if (ru bs 0 0).2 = 0 ∨ 512 < (ru bs 0 0).1 then none else (dPts (ru bs 0 0).1 (ofBytes (bs.drop (ru bs 0 0).2))).map fun q => q.1
def RetDc (w : World) (bs : List UInt8) (e : Ending) (w' : World) : Prop := match decOut bs with
  | some l => ∃ A c, e = .returned (.slice A l.length c) ∧ Pts w' w'.heap.size A l.length l ∧ (∀ x ∈ l, FitP x) ∧ l.length ≤ 512 ∧ (∀ b off, A = some ⟨b, off, none⟩ → w.heap.size ≤ b) ∧ Below w.heap.size w w'
  | none => e = .panicked badC ∧ Below w.heap.size w w'
theorem RX.nq {w : World} {p : Nat} {r : Option Nat} {X : List Bool} (h : RX w p r X) : some p ≠ r := by
  obtain ⟨bs, k, ⟨v0, hp, hown, hr⟩, _⟩ := h
  intro e
  obtain ⟨cur, hc⟩ := own_type hown (hr.trans e.symm)
  exact blk_type hp hc (by decide) rfl
theorem PD.belowB {H B : Nat} {w w' : World} {pd pr : Nat} {r : Option Nat} {X : List Bool} {q : DC} (h : PD H w pd pr r X q) (hb : Below B w w') (hB : pd < B ∧ pr < B ∧ ∀ g, r = some g → g < B) (h2 : 2 ≤ B) : PD H w' pd pr r X q := by
  have hc : Chg (fun k => B ≤ k) w w' := ⟨hb.os, hb.tape, hb.output, hb.size, fun k _ hn => hb.block k (by omega)⟩
  exact ⟨hc.blk h.dec (by omega), h.rd.chg hc (by omega) (fun g hg e => by have := hB.2.2 g hg; omega), h.ne, h.nr, h.nq, h.hd, h.hp, h.lay.below hb h2, h.two⟩
theorem rd_newP (w : World) (T V S : Int) : Rd (w.alloc (.cells #[.int .i64 T, .int .u64 V, .int .u64 S] 39)) (w.heap.size + 1) (some ⟨w.heap.size, 0, none⟩) (1 * 3) [.int .i64 T, .int .u64 V, .int .u64 S] :=
  ⟨rfl, fun j hj => by
    have h := World.cell?_alloc_new w #[.int .i64 T, .int .u64 V, .int .u64 S] 39 j
    refine ⟨w.heap.size, 0, ([.int .i64 T, .int .u64 V, .int .u64 S] : List Value)[j]'(by simpa using hj), rfl, by omega, List.getElem?_eq_getElem _, ?_⟩
    rw [Nat.zero_add, h]
    simp [List.getElem?_eq_getElem (show j < ([.int .i64 T, .int .u64 V, .int .u64 S] : List Value).length from by simpa using hj)]⟩
theorem infoPt : (Tryd.prog.info? 39).map (fun i => (i.zero, i.size, i.bytes)) = some (some (.agg #[.int .i64 0, .int .u64 0, .int .u64 0]), 3, 24) := by kernel_rfl
/-- the decoder, before a point or between two -/
def PDn (H : Nat) (w : World) (pd pr : Nat) (r : Option Nat) (k : Nat) (q : DS) : Prop := PD H w pd pr r q.X (if k = 0 then dc0 else dcOf q)
set_option maxHeartbeats 4000000 in
set_option maxRecDepth 100000 in
theorem decode_d (w : World) (hl2 : 2 ≤ w.heap.size) (hlay : Lay w) (B n c : Nat) (A : Option Addr) (bs : List UInt8) (h : Bs w B A n bs) (hA : A = none → c = 0) (hB : B ≤ w.heap.size) (hnc : n ≤ c) (hcm : c ≤ 9223372036854775807) (hn : n ≤ 1073741824) :
    Calls Tryd.prog 26 #[.slice A n c] w (RetDc w bs) := by
  have hl := h.len_
  have HRU := Lib.hid (readuv_x w B n c A bs h (by omega))
  unfold RetNum at HRU
  obtain ⟨m, k, hmk⟩ : ∃ m k, ru bs 0 0 = (m, k) := ⟨_, _, rfl⟩
  have hdo : decOut bs = if k = 0 ∨ 512 < m then none else (dPts m (ofBytes (bs.drop k))).map fun q => q.1 := by unfold decOut; rw [hmk]
  have hback := ru_back0 bs m k hmk
  rw [hl] at hback
  rw [hmk] at HRU
  simp only at HRU
  have HDO := Lib.hid hdo
  clear hdo hmk
  by_cases hk0 : k = 0
  · have hz : ((k : Int) == 0) = true := by simp; omega
    have HN := Lib.hid (show decOut bs = none by rw [HDO.out, if_pos (.inl hk0)])
    clear hback
    go_enter Tryd.func26, Tryd.ntmps26
    go_wp2_with (fail)
    refine HRU.out.mono ?_
    rintro e w1 ⟨rfl, rfl⟩
    go_wp2_with (fail)
    refine ⟨rfl, ?_⟩
    unfold RetDc
    rw [HN.out]
    exact ⟨rfl, Below.refl _ _⟩
  · have hz : ((k : Int) == 0) = false := by simp; omega
    by_cases hm : 512 < m
    · have hmz : (512 : Int) < (m : Int) := by omega
      have HN := Lib.hid (show decOut bs = none by rw [HDO.out, if_pos (.inr hm)])
      clear hback
      go_enter Tryd.func26, Tryd.ntmps26
      go_wp2_with (fail)
      refine HRU.out.mono ?_
      rintro e w1 ⟨rfl, rfl⟩
      go_wp2_with (fail)
      refine ⟨rfl, ?_⟩
      unfold RetDc
      rw [HN.out]
      exact ⟨rfl, Below.refl _ _⟩
    · have hmz : ¬ (512 : Int) < (m : Int) := by omega
      have HDP := Lib.hid (show decOut bs = (dPts m (ofBytes (bs.drop k))).map fun q => q.1 by rw [HDO.out, if_neg (by omega)])
      have hkn := (hback hk0).2.1
      obtain ⟨b, off, rfl, hbB⟩ := Rd.some_of h (show 0 < n by omega)
      have hcut := Lib.hid (bs_cut h hkn hnc)
      have i1 : (0 : Int) ≤ (k : Int) := by omega
      have i2 : (k : Int) ≤ (n : Int) := by omega
      have i3 : (n : Int) ≤ (c : Int) := by omega
      obtain ⟨i0, hi, hz0, hz1, hz2⟩ := info_parts infoPt
      have HLAY := Lib.hid hlay
      obtain ⟨DX, hDX⟩ : ∃ DX, bs.drop k = DX := ⟨_, rfl⟩
      have hDL : DX.length = n - k := by rw [← hDX, List.length_drop, hl]
      rw [hDX] at hcut HDP
      have HDL := Lib.hid hDL
      clear hback h hlay hl hA hDL hDX HDO
      go_enter Tryd.func26, Tryd.ntmps26
      go_wp2_with (fail)
      refine HRU.out.mono ?_
      rintro e w1 ⟨rfl, rfl⟩
      clear HRU
      go_wp2_with (fail)
      all_goals
        have h3 := hcut.out
        first | rw [if_pos rfl] at h3 | rw [if_pos (by assumption)] at h3 | rw [if_neg (by assumption)] at h3
        refine (bitc.newreader_x w B (n - k) _ _ DX h3 (fun e => by cases e) hB (by omega)).mono ?_
        clear h3
        rintro e w2 ⟨pr, r, rfl, hir, hpr, hrg, hb2⟩
        have hrx : RX w2 pr r (ofBytes DX) := ⟨DX, 0, hir, by rw [HDL.out]; omega, by omega, by simp⟩
        have hs2 := hb2.size
        obtain ⟨pd, hpd⟩ : ∃ pd, w2.heap.size = pd := ⟨_, rfl⟩
        obtain ⟨w3, hw3⟩ : ∃ w3, w2.alloc (.cells #[.pointer (some ⟨pr, 0, none⟩), .int .i64 0, .int .u64 0, .int .u64 0, .int .i64 0, .int .u64 0, .bool false, .int .i64 0, .int .i64 0, .int .u64 0, .bool false, .int .i64 0, .int .i64 0] 87) = w3 := ⟨_, rfl⟩
        have hb3 : Below w2.heap.size w2 w3 := by rw [← hw3]; exact (Below.refl _ _).alloc (Nat.le_refl _) _
        have hg3 : w3.heap[pd]? = some (.cells (dc0.cells pr) 87 (0, 0)) := by rw [← hw3, ← hpd]; exact alloc_new _ _
        have hprl : pr < w2.heap.size := hrx.lt
        have hrl : ∀ g, r = some g → g < w2.heap.size := fun g hg => by subst hg; exact hir.row_lt
        have PD3 : PD w.heap.size w3 pd pr r (ofBytes DX) dc0 := ⟨hg3, hrx.chg (Chg.of_below hb3) (fun e => e) (fun _ _ e => e), by omega, (fun e => by have := hrl pd e.symm; omega), hrx.nq, by omega, hpr, HLAY.out.below (hb2.trans (hb3.mono hs2)) hl2, hl2⟩
        have P3 := Lib.hid PD3
        have B3 := Lib.hid (hb2.trans (hb3.mono hs2))
        have hH : pd < w3.heap.size ∧ pr < w3.heap.size ∧ ∀ g, r = some g → g < w3.heap.size := ⟨blk_lt hg3, by have := hb3.size; omega, fun g hg => by have := hrl g hg; have := hb3.size; omega⟩
        have HH := Lib.hid hH
        have HW3 := Lib.hid (And.intro hpd hw3)
        have hs3 : w.heap.size ≤ w3.heap.size := B3.out.size
        clear hir hpr hrg hb2 hrx hs2 hpd hw3 hb3 hg3 hprl hrl PD3 hH
        go_wp2_with (first | (at_make; refine wpList_make_own _ rfl _ _ 22 rfl w3.heap.size 39 i0 _ 3 Tryd.underlying22 hi hz0 hz1 _ _ _ m rfl rfl (by omega) (by rw [hz2]; omega) (by unfold maxLen; omega) (Nat.le_refl _) ?_; intro w4 ho4 hg4; have HO4 := Lib.hid ho4; have B4 := Lib.hid ((Below.refl w3.heap.size w3).grown hg4 (Nat.le_refl _) (fun j e => by cases e)); clear ho4 hg4) | (rw [HW3.out.1, HW3.out.2]))
        have HNIL := Lib.hid (show B4.out = B4.out from rfl)
        clear HNIL
        go_loopg [6, 27] m (fun gg s6 s27 wr => ∃ (j : Nat) (acc : List Pt) (q : DS) (v6 : Value), j ≤ m ∧ m - j ≤ gg ∧ s27 = .int .u64 j ∧ v6 = s6 ∧ Aside (acc.length = j) ∧ Aside (Dn m (ofBytes DX) acc q) ∧ Aside (PDn w.heap.size wr pd pr r j q) ∧ Aside (wr.ownsRow w3.heap.size 39 3 v6 j (cs pE acc)) ∧ Aside (Below w.heap.size w wr) ∧ Aside (Below w3.heap.size w3 (w3)) ∧ Aside (w3.heap.size ≤ wr.heap.size))
        case atStart => exact ⟨0, [], ⟨0, 0, 0, 0, none, none, ofBytes DX⟩, _, by omega, by omega, rfl, rfl, rfl, Dn.start m ⟨0, 0, 0, 0, none, none, ofBytes DX⟩, P3.out.belowB B4.out HH.out (by omega), HO4.out, B3.out.trans (B4.out.mono hs3), Below.refl _ _, B4.out.size⟩
        case round =>
          clear P3 B3 HO4 B4 HW3
          obtain ⟨j, acc, q, v6, hj, hg, rfl, rfl, HA, HD, HP, OW, BW, _, hsz⟩ := hrel
          obtain ⟨A6, c6, rfl, hrd6⟩ : ∃ A c, v6 = .slice A j c ∧ Pts wr wr.heap.size A j acc := by
            rcases own_form OW.out with ⟨e, e0⟩ | ⟨g, c, e, _⟩
            · subst e; subst e0; exact ⟨none, 0, rfl, ⟨HA.out, own_rd OW.out⟩⟩
            · subst e; exact ⟨some ⟨g, 0, none⟩, c, rfl, ⟨HA.out, own_rd OW.out⟩⟩
          have HRD6 := Lib.hid hrd6
          clear hrd6
          by_cases hlt : j < m
          · have hltz : (j : Int) < (m : Int) := by omega
            by_cases hj0 : j = 0
            · subst hj0
              have hacc : acc = [] := List.eq_nil_of_length_eq_zero HA.out
              subst hacc
              have HPP := Lib.hid (show PD w.heap.size wr pd pr r q.X dc0 from HP.out)
              have HC := Lib.hid (first_d w.heap.size wr pd pr r q.X HPP.out)
              go_wp2_with (fail)
              refine HC.out.mono ?_
              cases hb : dFirst q.X with
              | none =>
                have HN := Lib.hid (show decOut bs = none by rw [HDP.out, HD.out.first_no hlt hb]; rfl)
                intro e w5 hr
                unfold RetQ at hr
                try rw [hb] at hr
                obtain ⟨rfl, hc⟩ := hr
                have BZ := Lib.hid (BW.out.trans (HPP.out.bel hc))
                clear hc hb HC
                go_wp2_with (fail)
                refine ⟨rfl, ?_⟩
                unfold RetDc
                rw [HN.out]
                exact ⟨rfl, BZ.out⟩
              | some q2 =>
                have HDN := Lib.hid (HD.out.first hlt hb)
                intro e w5 hr
                unfold RetQ at hr
                try rw [hb] at hr
                obtain ⟨rfl, hp5, hc⟩ := hr
                have hsw := BW.out.size
                have hb5 : Below w.heap.size wr w5 := HPP.out.bel hc
                have ho5 := own_chg OW.out hc (fun g hg e => by
                  have h1 := (OW.out.lt g hg).1
                  have h2 := HH.out
                  rcases e with e | e
                  · have := h2.1; omega
                  · have := h2.2.1; omega)
                have hs5 := hc.size
                have hsz0 := hsz.out
                obtain ⟨w6, hw6⟩ : ∃ w6, w5.alloc (.cells #[.int .i64 q2.t, .int .u64 (q2.v : Int), .int .u64 (q2.s : Int)] 39) = w6 := ⟨_, rfl⟩
                have hb6 : Below w5.heap.size w5 w6 := by rw [← hw6]; exact (Below.refl _ _).alloc (Nat.le_refl _) _
                have hrd : Rd w6 (w5.heap.size + 1) (some ⟨w5.heap.size, 0, none⟩) (1 * 3) [.int .i64 q2.t, .int .u64 (q2.v : Int), .int .u64 (q2.s : Int)] := by rw [← hw6]; exact rd_newP w5 q2.t (q2.v : Int) (q2.s : Int)
                have ho6 := own_keep ho5 hb6 (Nat.le_refl _)
                have hs6 := hb6.size
                have hsz6 : w3.heap.size ≤ w6.heap.size := by omega
                have P6 := Lib.hid (hp5.below hb6)
                have B6 := Lib.hid ((BW.out.trans hb5).trans (hb6.mono (by omega)))
                clear hc hb HC hb5 hb6 ho5 hp5
                go_wp2_with (at_builtin; refine wpList_append_rd rfl (.tmp 29) (.tmp 34) 22 rfl w3.heap.size 39 i0 _ 3 24 Tryd.underlying22 hi hz0 hz1 hz2 rfl (by decide) _ 0 (cs pE []) rfl ho6 (w5.heap.size + 1) _ 1 1 (fun e => by cases e) [.int .i64 q2.t, .int .u64 (q2.v : Int), .int .u64 (q2.s : Int)] rfl hrd (by intro u hu; simp at hu; rcases hu with rfl | rfl | rfl <;> rfl) (by unfold maxLen; omega) (by omega) hsz6 ?_; intro v7 w7 hown7 hg7 hnn7)
                have hown8 : w7.ownsRow w3.heap.size 39 3 v7 (0 + 1) (cs pE [q2.pt]) := by
                  rw [cs_one]
                  exact hown7
                have hB67 := own_below (Below.refl w3.heap.size w6) ho6 hsz6 hg7
                have P8 := Lib.hid (P6.out.belowB hB67 HH.out (by omega))
                have B8 := Lib.hid (B6.out.trans (hB67.mono hs3))
                have HO8 := Lib.hid hown8
                have hs8 := hB67.size
                clear hown7 hown8 hB67 ho6 hrd hg7 hnn7
                go_roundg (m - (0 + 1))
                case measure => omega
                case rel => exact ⟨0 + 1, [q2.pt], q2, v7, by omega, by omega, by go_num, rfl, (show ([q2.pt] : List Pt).length = 0 + 1 by rfl), HDN.out, (show PDn w.heap.size w7 pd pr r (0 + 1) q2 by unfold PDn; rw [if_neg (by omega)]; exact P8.out), HO8.out, B8.out, Below.refl _ _, (show w3.heap.size ≤ w7.heap.size by omega)⟩
            · have hne : acc ≠ [] := fun e => by have := HA.out; rw [e] at this; exact hj0 this.symm
              have hjz : (((j : Int) == 0) : Bool) = false := by simp; omega
              have HPP := Lib.hid (show PD w.heap.size wr pd pr r q.X (dcOf q) by have := HP.out; unfold PDn at this; rwa [if_neg hj0] at this)
              have HC := Lib.hid (next_d w.heap.size wr pd pr r q (HD.out.ok hne) HPP.out)
              have HNE := Lib.hid hne
              clear hne
              go_wp2_with (fail)
              refine HC.out.mono ?_
              cases hb : dNext q with
              | none =>
                have HN := Lib.hid (show decOut bs = none by rw [HDP.out, HD.out.next_no HNE.out (by rw [HA.out]; exact hlt) hb]; rfl)
                intro e w5 hr
                unfold RetQ at hr
                try rw [hb] at hr
                obtain ⟨rfl, hc⟩ := hr
                have BZ := Lib.hid (BW.out.trans (HPP.out.bel hc))
                clear hc hb HC
                go_wp2_with (fail)
                refine ⟨rfl, ?_⟩
                unfold RetDc
                rw [HN.out]
                exact ⟨rfl, BZ.out⟩
              | some q2 =>
                have HDN := Lib.hid (HD.out.next HNE.out (by rw [HA.out]; exact hlt) hb)
                intro e w5 hr
                unfold RetQ at hr
                try rw [hb] at hr
                obtain ⟨rfl, hp5, hc⟩ := hr
                have hsw := BW.out.size
                have hb5 : Below w.heap.size wr w5 := HPP.out.bel hc
                have ho5 := own_chg OW.out hc (fun g hg e => by
                  have h1 := (OW.out.lt g hg).1
                  have h2 := HH.out
                  rcases e with e | e
                  · have := h2.1; omega
                  · have := h2.2.1; omega)
                have hs5 := hc.size
                have hsz0 := hsz.out
                obtain ⟨w6, hw6⟩ : ∃ w6, w5.alloc (.cells #[.int .i64 q2.t, .int .u64 (q2.v : Int), .int .u64 (q2.s : Int)] 39) = w6 := ⟨_, rfl⟩
                have hb6 : Below w5.heap.size w5 w6 := by rw [← hw6]; exact (Below.refl _ _).alloc (Nat.le_refl _) _
                have hrd : Rd w6 (w5.heap.size + 1) (some ⟨w5.heap.size, 0, none⟩) (1 * 3) [.int .i64 q2.t, .int .u64 (q2.v : Int), .int .u64 (q2.s : Int)] := by rw [← hw6]; exact rd_newP w5 q2.t (q2.v : Int) (q2.s : Int)
                have ho6 := own_keep ho5 hb6 (Nat.le_refl _)
                have hs6 := hb6.size
                have hsz6 : w3.heap.size ≤ w6.heap.size := by omega
                have P6 := Lib.hid (hp5.below hb6)
                have B6 := Lib.hid ((BW.out.trans hb5).trans (hb6.mono (by omega)))
                clear hc hb HC hb5 hb6 ho5 hp5
                go_wp2_with (at_builtin; refine wpList_append_rd rfl (.tmp 29) (.tmp 34) 22 rfl w3.heap.size 39 i0 _ 3 24 Tryd.underlying22 hi hz0 hz1 hz2 rfl (by decide) _ j (cs pE acc) rfl ho6 (w5.heap.size + 1) _ 1 1 (fun e => by cases e) [.int .i64 q2.t, .int .u64 (q2.v : Int), .int .u64 (q2.s : Int)] rfl hrd (by intro u hu; simp at hu; rcases hu with rfl | rfl | rfl <;> rfl) (by unfold maxLen; omega) (by omega) hsz6 ?_; intro v7 w7 hown7 hg7 hnn7)
                have hown8 : w7.ownsRow w3.heap.size 39 3 v7 (j + 1) (cs pE (acc ++ [q2.pt])) := by
                  rw [cs_append, cs_one]
                  exact hown7
                have hB67 := own_below (Below.refl w3.heap.size w6) ho6 hsz6 hg7
                have P8 := Lib.hid (P6.out.belowB hB67 HH.out (by omega))
                have B8 := Lib.hid (B6.out.trans (hB67.mono hs3))
                have HO8 := Lib.hid hown8
                have hs8 := hB67.size
                clear hown7 hown8 hB67 ho6 hrd hg7 hnn7
                go_roundg (m - (j + 1))
                case measure => omega
                case rel => exact ⟨j + 1, (acc ++ [q2.pt]), q2, v7, by omega, by omega, by go_num, rfl, (show ((acc ++ [q2.pt]) : List Pt).length = j + 1 by rw [List.length_append, HA.out]; rfl), HDN.out, (show PDn w.heap.size w7 pd pr r (j + 1) q2 by unfold PDn; rw [if_neg (by omega)]; exact P8.out), HO8.out, B8.out, Below.refl _ _, (show w3.heap.size ≤ w7.heap.size by omega)⟩
          · have hjm : j = m := by omega
            subst hjm
            have hltz : ¬ (j : Int) < (j : Int) := by omega
            have hdone := HD.out.done (by rw [HA.out]; exact Nat.le_refl _)
            have HN := Lib.hid (show decOut bs = some acc by rw [HDP.out, hdone.1]; rfl)
            have HF := Lib.hid hdone.2
            have HRD := HRD6
            clear hdone
            go_wp2_with (fail)
            go_ret
            unfold RetDc
            rw [HN.out]
            simp only [HA.out]
            exact ⟨A6, c6, rfl, HRD.out, HF.out, by omega, fun b off e => by
              have h1 := (OW.out.lt b (by rw [e]; rfl)).1
              omega, BW.out⟩
end Go.Proofs.YtknjejejkgihbaaDoor.ts
/-
  Tsz: Decode, the program's.
-/
namespace Go.Proofs.YtknjejejkgihbaaDoor.ts
open Go.ChangeShapes Go.WideShapes Go.ChangeAt Go.RowKit plain words ord mem bitm uvs

theorem decOut_ans {bs : List UInt8} {l : List Pt} (h : ans bs l) : decOut bs = some l := by
  obtain ⟨h1, h2, _, _, Y, hY⟩ := ans_read h
  unfold decOut
  have := (uvs.uv_len l.length).1
  rw [h1, if_neg (by simp only; omega)]
  simp only
  rw [hY]; rfl
theorem bytes_eq (l : List UInt8) : (⟨l.toArray⟩ : ByteArray).toList = l := by rw [ByteArray.toList_eq]
set_option maxRecDepth 100000 in
theorem equal_x (w : World) (B n c B' n' c' : Nat) (A A' : Option Addr) (xs bs : List UInt8) (h : Bs w B A n xs) (h' : Bs w B' A' n' bs) :
    Calls Tryd.prog 27 #[.slice A n c, .slice A' n' c'] w fun e w' => (∃ z : Bool, e = .returned (.bool z) ∧ (z = true ↔ xs = bs)) ∧ Below w.heap.size w w' := by
  have k2 := conv_string (P := Tryd.prog) (c := c) h 23 9 5 Tryd.underlying23 Tryd.underlying9 Tryd.underlying5
  have k3 := conv_string (P := Tryd.prog) (c := c') h' 23 9 5 Tryd.underlying23 Tryd.underlying9 Tryd.underlying5
  clear h h'
  go_enter Tryd.func27, Tryd.ntmps27
  go_wp2_with (fail)
  go_ret
  refine ⟨⟨_, rfl, ?_⟩, Below.refl _ _⟩
  simp [bytes_eq]
theorem catch_bad (p q : Nat) (x y : Value) (older : List PanicEntry) (w : World) (hpq : p ≠ q) (hp : w.heap[p]? = some (.cells #[x] 22 (0, 0))) (hq : w.heap[q]? = some (.cells #[y] 24 (0, 0))) :
    CallsD Tryd.prog 25 #[.pointer (some ⟨p, 0, none⟩), .pointer (some ⟨q, 0, none⟩)] (.panicking ({ v := .iface 24 (.int .i64 50), recovered := false } :: older)) w fun e u' w' =>
      e = .returned (.tuple #[]) ∧ u' = .panicking ({ v := .iface 24 (.int .i64 50), recovered := true } :: older) ∧ w' = (w.setCell ⟨p, 0, none⟩ (.slice none 0 0)).setCell ⟨q, 0, none⟩ (.int .i64 50) := by
  have c0 : w.cell? ⟨p, 0, none⟩ = some x := by rw [cell_of_row _ _ _ _ _ _ hp]; rfl
  have c1 : w.cell? ⟨q, 0, none⟩ = some y := by rw [cell_of_row _ _ _ _ _ _ hq]; rfl
  have f0 : w.frozen? ⟨p, 0, none⟩ = false := frozen_of_row _ _ 0 _ _ hp
  have f1 : w.frozen? ⟨q, 0, none⟩ = false := frozen_of_row _ _ 0 _ _ hq
  have c2 : (w.setCell ⟨p, 0, none⟩ (.slice none 0 0)).cell? ⟨q, 0, none⟩ = some y := by rw [cell_of_row _ _ _ _ _ _ ((Below.heap_setCell w ⟨p, 0, none⟩ _ q hpq.symm).trans hq)]; rfl
  refine callsD_of_wpS Tryd.func25 rfl fun c₀ cs hu => ?_
  apply wpS_seq
  apply wpS_region
  simp [wpOpsS, go_sem, recoverD, hu, Tryd.ntmps25, Exit.thenS]
  refine wpS_cond (t := true) (by simp [Act.eval, Array.replicate]) ?_
  simp only [if_true]
  apply wpS_region
  simp [wpOpsS, go_sem, c0, c1, c2, f0, f1, bodyPostS, results, Tryd.results25]
theorem catch_idle (p q : Addr) (w : World) :
    CallsD Tryd.prog 25 #[.pointer (some p), .pointer (some q)] .returning w fun e u' w' => e = .returned (.tuple #[]) ∧ u' = .returning ∧ w' = w := by
  refine callsD_of_wpS Tryd.func25 rfl fun c₀ cs hu => ?_
  apply wpS_seq
  apply wpS_region
  simp [wpOpsS, go_sem, recoverD, hu, Tryd.ntmps25, Exit.thenS]
  refine wpS_cond (t := false) (by simp [Act.eval, Array.replicate]) ?_
  simp only [Bool.false_eq_true, if_false]
  refine wpS_of_wp (wp_skip ?_)
  cases c₀
  simp_all [bodyPostS, results, Tryd.results25]
end Go.Proofs.YtknjejejkgihbaaDoor.ts
/-
  Tsz: Decode, the program's, as one contract.
-/
namespace Go.Proofs.YtknjejejkgihbaaDoor.ts
open Go.ChangeShapes Go.WideShapes Go.ChangeAt Go.RowKit plain words ord mem bitm uvs

def RetDec (w : World) (bs : List UInt8) (e : Ending) (w' : World) : Prop :=
  (∃ l, ans bs l ∧ ∃ A c, e = .returned (.tuple #[.slice A l.length c, .int .i64 0]) ∧ Pts w' w'.heap.size A l.length l ∧ Below w.heap.size w w') ∨
    ((∀ l, ¬ ans bs l) ∧ e = .returned (.tuple #[.slice none 0 0, .int .i64 50]) ∧ Below w.heap.size w w')
theorem set1 {T : TypeId} {w : World} {g : Nat} {x y : Value} (h : w.heap[g]? = some (.cells #[x] T (0, 0))) : (w.setCell ⟨g, 0, none⟩ y).heap[g]? = some (.cells #[y] T (0, 0)) := by
  rw [heap_setCell_same _ _ _ _ _ _ h]; rfl
theorem set1o {T : TypeId} {w : World} {g g' : Nat} {x y : Value} (h : w.heap[g]? = some (.cells #[x] T (0, 0))) (hn : g ≠ g') : (w.setCell ⟨g', 0, none⟩ y).heap[g]? = some (.cells #[x] T (0, 0)) := (Below.heap_setCell w ⟨g', 0, none⟩ _ g hn).trans h
theorem cell1 {T : TypeId} {w : World} {g : Nat} {x : Value} (h : w.heap[g]? = some (.cells #[x] T (0, 0))) : w.cell? ⟨g, 0, none⟩ = some x := by rw [cell_of_row _ _ _ _ _ _ h]; rfl
theorem fro1 {T : TypeId} {w : World} {g : Nat} {x : Value} (h : w.heap[g]? = some (.cells #[x] T (0, 0))) : w.frozen? ⟨g, 0, none⟩ = false := frozen_of_row _ _ 0 _ _ h
theorem bel1 {w0 w : World} {B g : Nat} (h : Below B w0 w) (hg : B ≤ g) (x : Value) : Below B w0 (w.setCell ⟨g, 0, none⟩ x) := h.setCell (p := ⟨g, 0, none⟩) hg x
theorem pts_set {w : World} {B g n : Nat} {A : Option Addr} {l : List Pt} (h : Pts w B A n l) (hB : B ≤ w.heap.size) (hn : ∀ b off, A = some ⟨b, off, none⟩ → b ≠ g) (x : Value) : Pts (w.setCell ⟨g, 0, none⟩ x) B A n l :=
  ⟨h.1, rd_chg h.2 ((Chg.refl (fun k => k = g) w).setCell (p := ⟨g, 0, none⟩) (fun _ => rfl) x) hB (fun b off e e2 => hn b off e e2)⟩
theorem pts_up {w : World} {B B' n : Nat} {A : Option Addr} {l : List Pt} (h : Pts w B A n l) (hB : B ≤ B') : Pts w B' A n l := ⟨h.1, h.2.more hB⟩
set_option maxHeartbeats 2000000 in
set_option maxRecDepth 100000 in
theorem decode_x (w : World) (hl2 : 2 ≤ w.heap.size) (hlay : Lay w) (B n c : Nat) (A : Option Addr) (bs : List UInt8) (h : Bs w B A n bs) (hA : A = none → c = 0) (hB : B ≤ w.heap.size) (hnc : n ≤ c) (hcm : c ≤ 9223372036854775807) (hn : n ≤ 1073741824) :
    Calls Tryd.prog 13 #[.slice A n c] w (RetDec w bs) := by
  have hmf : ∀ (fn : Fn) (first cap : Array Value) (w : World), (Instr.makeFunc fn first cap).run Tryd.prog w = .ok (.func fn first cap) w := fun _ _ _ _ => rfl
  obtain ⟨N, hN⟩ : ∃ N, w.heap.size = N := ⟨_, rfl⟩
  obtain ⟨w1, hw1⟩ : ∃ w1, (w.alloc (.cells #[.slice none 0 0] 22)).alloc (.cells #[.int .i64 0] 24) = w1 := ⟨_, rfl⟩
  have hb1 : Below w.heap.size w w1 := by rw [← hw1]; exact ((Below.refl _ _).alloc (Nat.le_refl _) _).alloc (by simp) _
  have g1 : w1.heap[N]? = some (.cells #[.slice none 0 0] 22 (0, 0)) := by rw [← hw1, ← hN]; exact alloc_old _ (alloc_new _ _)
  have g2 : w1.heap[N + 1]? = some (.cells #[.int .i64 0] 24 (0, 0)) := by
    rw [← hw1, ← hN]
    have := alloc_new (w.alloc (.cells #[.slice none 0 0] 22)) (.cells #[.int .i64 0] 24)
    rwa [World.size_alloc] at this
  have hs1 := hb1.size
  have hbs1 := h.below hb1 hB
  have HDC := Lib.hid (decode_d w1 (by omega) (hlay.below hb1 hl2) B n c A bs hbs1 hA (by omega) hnc hcm hn)
  have HBS := Lib.hid h
  have HLAY := Lib.hid hlay
  have B1 := Lib.hid hb1
  have G1 := Lib.hid g1
  have G2 := Lib.hid g2
  have HW1 := Lib.hid (And.intro hN hw1)
  have hl1 : N + 1 < w1.heap.size := blk_lt g2
  clear h hlay hb1 g1 g2 hbs1 hw1
  go_enter_defers Tryd.func13, Tryd.ntmps13
  go_wp2_with (fail)
  rw [HW1.out.2]
  refine HDC.out.mono ?_
  cases hd : decOut bs with
  | none =>
    intro e w2 hr
    unfold RetDc at hr
    try rw [hd] at hr
    obtain ⟨rfl, hb2⟩ := hr
    have B2 := Lib.hid (B1.out.trans (hb2.mono hs1))
    have g1 := blk_below hb2 G1.out (by omega)
    have g2 := blk_below hb2 G2.out (by omega)
    have HNO := Lib.hid (show ∀ l, ¬ ans bs l from fun l hl => by rw [decOut_ans hl] at hd; cases hd)
    clear hb2 HDC hd
    go_wp2_with (fail)
    refine leaves_cons (f := 25) (args := #[.pointer (some ⟨N, 0, none⟩), .pointer (some ⟨N + 1, 0, none⟩)]) (by simp) (by simp [go_sem]) ?_
    refine (catch_bad N (N + 1) _ _ [] w2 (by omega) g1 g2).mono ?_
    rintro e u' w'' ⟨rfl, rfl, rfl⟩
    have k1 := cell1 (set1o (y := .int .i64 50) (set1 (y := .slice none 0 0) g1) (show N ≠ N + 1 by omega))
    have k2 := cell1 (set1 (y := .int .i64 50) (set1o (y := .slice none 0 0) g2 (show N + 1 ≠ N by omega)))
    simp [Leaves, settle, results, Tryd.results13, go_sem, k1, k2]
    exact .inr ⟨HNO.out, rfl, bel1 (bel1 B2.out (by omega) _) (by omega) _⟩
  | some l =>
    intro e w2 hr
    unfold RetDc at hr
    try rw [hd] at hr
    obtain ⟨A2, c2, rfl, hp2, hf2, h512, hA2, hb2⟩ := hr
    have g1 := blk_below hb2 G1.out (by omega)
    have g2 := blk_below hb2 G2.out (by omega)
    have c1 := cell1 g1
    have f1 := fro1 g1
    have hbl2 := B1.out.trans (hb2.mono hs1)
    obtain ⟨w3, hw3⟩ : ∃ w3, w2.setCell ⟨N, 0, none⟩ (.slice A2 l.length c2) = w3 := ⟨_, rfl⟩
    have hb3 : Below w.heap.size w w3 := by rw [← hw3]; exact bel1 hbl2 (by omega) _
    have g3 : w3.heap[N]? = some (.cells #[.slice A2 l.length c2] 22 (0, 0)) := by rw [← hw3]; exact set1 g1
    have g4 : w3.heap[N + 1]? = some (.cells #[.int .i64 0] 24 (0, 0)) := by rw [← hw3]; exact set1o g2 (by omega)
    have hc3 : Chg (fun k => k = N) w2 w3 := by rw [← hw3]; exact (Chg.refl (fun k => k = N) w2).setCell (p := ⟨N, 0, none⟩) (fun _ => rfl) _
    have hp3 : Pts w3 w2.heap.size A2 l.length l := ⟨rfl, rd_chg hp2.2 hc3 (Nat.le_refl _) (fun b off e e2 => by have := hA2 b off e; omega)⟩
    have hs3 := hb3.size
    have hs23 := hc3.size
    have HEN := Lib.hid (encode_x w3 (by omega) (HLAY.out.below hb3 hl2) w2.heap.size l.length c2 A2 l hp3 hf2 hs23 (by omega))
    have HP3 := Lib.hid hp3
    have HA2 := Lib.hid (show ∀ b off, A2 = some ⟨b, off, none⟩ → b ≠ N ∧ b ≠ N + 1 from fun b off e => by have := hA2 b off e; omega)
    have HB2 := Lib.hid hs23
    have HF := Lib.hid hf2
    have B3 := Lib.hid hb3
    have G3 := Lib.hid g3
    have G4 := Lib.hid g4
    have HW3 := Lib.hid hw3
    have HUN := Lib.hid (show ∀ m, ans bs m → m = l from fun m hm => by have := (decOut_ans hm).symm.trans hd; exact Option.some.inj this)
    have hl3 : N + 1 < w3.heap.size := blk_lt g4
    clear hb2 hbl2 hw3 hb3 g3 g4 hc3 hp3 hf2 hA2 hp2 hd HDC g2 G1 G2 B1
    obtain ⟨L, hL⟩ : ∃ L, l.length = L := ⟨_, rfl⟩
    have HL := Lib.hid hL
    rw [hL] at HEN HP3 G3
    have HW3L := HW3.out
    rw [hL] at HW3L h512 ⊢
    replace HW3 := Lib.hid HW3L
    clear hL HW3L
    go_wp2_with (fail)
    rw [HW3.out]
    refine HEN.out.mono ?_
    clear g1 c1 f1 HEN
    by_cases hc : checkP l = 0
    · intro e w4 hr
      unfold RetEnc at hr
      rw [if_pos hc] at hr
      obtain ⟨A4, c4, rfl, ho4, hb4⟩ := hr
      have hbs4 := own_bs ho4
      have hs4 := hb4.size
      have g5 := blk_below hb4 G3.out (by omega)
      have g6 := blk_below hb4 G4.out hl3
      have c5 := cell1 g5
      have f5 := fro1 g5
      have c6 := cell1 g6
      have f6 := fro1 g6
      have hl4 : N + 1 < w4.heap.size := blk_lt g6
      have B4 := Lib.hid (B3.out.trans (hb4.mono hs3))
      have HP4 := Lib.hid (HP3.out.below hb4 hs23)
      obtain ⟨M, hM⟩ : ∃ M, (encP l).length = M := ⟨_, rfl⟩
      rw [hM] at hbs4 ⊢
      obtain ⟨w5, hw5⟩ : ∃ w5, w4.setCell ⟨N + 1, 0, none⟩ (.int .i64 0) = w5 := ⟨_, rfl⟩
      have hb5 : Below w.heap.size w w5 := by rw [← hw5]; exact bel1 B4.out (by omega) _
      have g7 : w5.heap[N]? = some (.cells #[.slice A2 L c2] 22 (0, 0)) := by rw [← hw5]; exact set1o g5 (by omega)
      have g8 : w5.heap[N + 1]? = some (.cells #[.int .i64 0] 24 (0, 0)) := by rw [← hw5]; exact set1 g6
      have hc5 : Chg (fun k => k = N + 1) w4 w5 := by rw [← hw5]; exact (Chg.refl (fun k => k = N + 1) w4).setCell (p := ⟨N + 1, 0, none⟩) (fun _ => rfl) _
      have hbs5 : Bs w5 w4.heap.size A4 M (encP l) := rd_chg hbs4 hc5 (Nat.le_refl _) (fun b off e e2 => by
        have h1 := (ho4.lt b (by rw [e]; rfl)).1
        omega)
      have HW5 := Lib.hid hw5
      have c7 := cell1 g8
      have hl5 : N + 1 < w5.heap.size := blk_lt g8
      have HEQ := Lib.hid (equal_x w5 w4.heap.size M c4 B n c A4 A (encP l) bs hbs5 (HBS.out.below hb5 hB))
      have HC := Lib.hid hc
      have B5 := Lib.hid hb5
      have G7 := Lib.hid g7
      have G8 := Lib.hid g8
      have HC5 := Lib.hid hc5
      clear hb4 hbs4 ho4 hc hw5 hb5 g7 g8 hc5 hbs5 g5 G3 G4 c5 f5 B3 B4 hM
      go_wp2_with (fail)
      rw [HW5.out]
      refine HEQ.out.mono ?_
      rintro e w6 ⟨⟨z, rfl, hz⟩, hb6⟩
      have hs5 := HC5.out.size
      have hs6 := hb6.size
      have g9 := blk_below hb6 G7.out (by omega)
      have g10 := blk_below hb6 G8.out hl5
      have c9 := cell1 g9
      have f9 := fro1 g9
      have c10 := cell1 g10
      have f10 := fro1 g10
      have hl6 : N + 1 < w6.heap.size := blk_lt g10
      have B6 := Lib.hid (B5.out.trans (hb6.mono (by have := B5.out.size; omega)))
      have hp5 : Pts w5 w2.heap.size A2 L l := by rw [← HW5.out]; exact pts_set HP4.out (by have := HB2.out; omega) (fun b off e => (HA2.out b off e).2) _
      have HP6 := Lib.hid (hp5.below hb6 (by have := HB2.out; omega))
      have G9 := Lib.hid g9
      have G10 := Lib.hid g10
      clear hb6 hp5 HP4 G7 G8 HC5 HEQ c7 c6 f6 g6
      cases z with
      | false =>
        have HNO := Lib.hid (show ∀ m, ¬ ans bs m from fun m hm => by
          have e := HUN.out m hm
          subst e
          have := hz.2 hm.2.2
          cases this)
        clear hz
        have c11 : (w6.setCell ⟨N, 0, none⟩ (.slice none 0 0)).cell? ⟨N + 1, 0, none⟩ = some (.int .i64 0) := cell1 (set1o g10 (by omega))
        clear g9 g10
        go_wp2_with (fail)
        refine leaves_cons (f := 25) (args := #[.pointer (some ⟨N, 0, none⟩), .pointer (some ⟨N + 1, 0, none⟩)]) (by simp) (by simp [go_sem]) ?_
        refine (catch_idle ⟨N, 0, none⟩ ⟨N + 1, 0, none⟩ _).mono ?_
        rintro e u' w'' ⟨rfl, rfl, rfl⟩
        have k1 := cell1 (set1o (y := .int .i64 50) (set1 (y := .slice none 0 0) G9.out) (show N ≠ N + 1 by omega))
        have k2 := cell1 (set1 (y := .int .i64 50) (set1o (y := .slice none 0 0) G10.out (show N + 1 ≠ N by omega)))
        simp [Leaves, settle, results, Tryd.results13, go_sem, k1, k2]
        exact .inr ⟨HNO.out, rfl, bel1 (bel1 B6.out (by omega) _) (by omega) _⟩
      | true =>
        have HAN := Lib.hid (show ans bs l from ⟨HF.out, HC.out, hz.1 rfl⟩)
        clear hz
        have c11 : (w6.setCell ⟨N, 0, none⟩ (.slice A2 L c2)).cell? ⟨N + 1, 0, none⟩ = some (.int .i64 0) := cell1 (set1o g10 (by omega))
        clear g9 g10
        go_wp2_with (fail)
        refine leaves_cons (f := 25) (args := #[.pointer (some ⟨N, 0, none⟩), .pointer (some ⟨N + 1, 0, none⟩)]) (by simp) (by simp [go_sem]) ?_
        refine (catch_idle ⟨N, 0, none⟩ ⟨N + 1, 0, none⟩ _).mono ?_
        rintro e u' w'' ⟨rfl, rfl, rfl⟩
        have k1 := cell1 (set1o (y := .int .i64 0) (set1 (y := .slice A2 L c2) G9.out) (show N ≠ N + 1 by omega))
        have k2 := cell1 (set1 (y := .int .i64 0) (set1o (y := .slice A2 L c2) G10.out (show N + 1 ≠ N by omega)))
        have hfin := pts_up (pts_set (pts_set HP6.out (by have := HB2.out; omega) (fun b off e => (HA2.out b off e).1) (.slice A2 L c2)) (by have := HB2.out; simp; omega) (fun b off e => (HA2.out b off e).2) (.int .i64 0)) (show w2.heap.size ≤ ((w6.setCell ⟨N, 0, none⟩ (.slice A2 L c2)).setCell ⟨N + 1, 0, none⟩ (.int .i64 0)).heap.size by have := HB2.out; simp; omega)
        have HFIN := Lib.hid hfin
        clear hfin
        simp [Leaves, settle, results, Tryd.results13, go_sem, k1, k2]
        refine .inl ⟨l, HAN.out, A2, c2, by rw [HL.out], by rw [HL.out]; simpa using HFIN.out, bel1 (bel1 B6.out (by omega) _) (by omega) _⟩
    · obtain ⟨z, hz⟩ : ∃ z, checkP l = z := ⟨_, rfl⟩
      have HNO := Lib.hid (show ∀ m, ¬ ans bs m from fun m hm => by
        have e := HUN.out m hm
        subst e
        exact hc hm.2.1)
      intro e w4 hr
      unfold RetEnc at hr
      rw [if_neg hc, hz] at hr
      obtain ⟨rfl, hb4⟩ := hr
      rw [hz] at hc
      have z1 : (z == 0) = false := by simpa using hc
      have z2 : (z != 0) = true := by simpa using hc
      have g5 := blk_below hb4 G3.out (by omega)
      have g6 := blk_below hb4 G4.out hl3
      have c5 := cell1 g5
      have f5 := fro1 g5
      have c6 := cell1 g6
      have f6 := fro1 g6
      have hl4 : N + 1 < w4.heap.size := blk_lt g6
      have B4 := Lib.hid (B3.out.trans (hb4.mono hs3))
      obtain ⟨w5, hw5⟩ : ∃ w5, w4.setCell ⟨N + 1, 0, none⟩ (.int .i64 z) = w5 := ⟨_, rfl⟩
      have B5 := Lib.hid (show Below w.heap.size w w5 by rw [← hw5]; exact bel1 B4.out (by omega) _)
      have g7 : w5.heap[N]? = some (.cells #[.slice A2 L c2] 22 (0, 0)) := by rw [← hw5]; exact set1o g5 (by omega)
      have g8 : w5.heap[N + 1]? = some (.cells #[.int .i64 z] 24 (0, 0)) := by rw [← hw5]; exact set1 g6
      have HW5 := Lib.hid hw5
      have c7 := cell1 g7
      have f7 := fro1 g7
      have c8 := cell1 g8
      have f8 := fro1 g8
      have hl5 : N + 1 < w5.heap.size := blk_lt g8
      have G7 := Lib.hid g7
      have G8 := Lib.hid g8
      have c11 : (w5.setCell ⟨N, 0, none⟩ (.slice none 0 0)).cell? ⟨N + 1, 0, none⟩ = some (.int .i64 z) := cell1 (set1o g8 (by omega))
      clear hb4 hc hz hw5 g5 g6 g7 g8 G3 G4 B3
      go_wp2_with (rw [HW5.out])
      refine leaves_cons (f := 25) (args := #[.pointer (some ⟨N, 0, none⟩), .pointer (some ⟨N + 1, 0, none⟩)]) (by simp) (by simp [go_sem]) ?_
      refine (catch_idle ⟨N, 0, none⟩ ⟨N + 1, 0, none⟩ _).mono ?_
      rintro e u' w'' ⟨rfl, rfl, rfl⟩
      have k1 := cell1 (set1o (y := .int .i64 50) (set1 (y := .slice none 0 0) G7.out) (show N ≠ N + 1 by omega))
      have k2 := cell1 (set1 (y := .int .i64 50) (set1o (y := .slice none 0 0) G8.out (show N + 1 ≠ N by omega)))
      simp [Leaves, settle, results, Tryd.results13, go_sem, k1, k2]
      exact .inr ⟨HNO.out, rfl, bel1 (bel1 B5.out (by omega) _) (by omega) _⟩
end Go.Proofs.YtknjejejkgihbaaDoor.ts
