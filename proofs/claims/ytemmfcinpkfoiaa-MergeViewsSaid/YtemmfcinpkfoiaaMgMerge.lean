/-
  merge.Merge: the view of all points of all lists.
-/
import Derived.Test.YtemmfcinpkfoiaaMgIter
import Derived.Laws.MakeOwn
namespace Go.Proofs.Ytemmfcinpkfoiaa.mg
open Go.ChangeShapes Go.WideShapes Go.ChangeAt Go.RowKit Go.Shelf plain words ord mem rg

/-- a list that came in -/
structure ItI (w : World) (B : Nat) (x : It) : Prop where
  ls : Ls PE w B x.A x.l.length x.l
  cap : x.l.length ≤ x.c
  most : x.c ≤ 9223372036854775807
  nil : x.A = none → x.c = 0
theorem ItI.below {w w' : World} {H C : Nat} {x : It} (h : ItI w H x) (hb : Below C w w') (hC : H ≤ C) : ItI w' H x := ⟨h.ls.below hb hC, h.cap, h.most, h.nil⟩
theorem ItI.more {w : World} {B C : Nat} {x : It} (h : ItI w B x) (hC : B ≤ C) : ItI w C x := ⟨h.ls.more hC, h.cap, h.most, h.nil⟩
/-- lists that came in -/
structure Lists (w : World) (B n : Nat) (A : Option Addr) (ls : List It) : Prop where
  row : Ls HE w B A n ls
  ok : ∀ x ∈ ls, ItI w B x
theorem Lists.below {w w' : World} {B C n : Nat} {A : Option Addr} {ls : List It} (h : Lists w B n A ls) (hb : Below C w w') (hC : B ≤ C) : Lists w' B n A ls := ⟨h.row.below hb hC, fun x hx => (h.ok x hx).below hb hC⟩
/-- each list's view -/
inductive Vw : List It → List It → Prop
  | nil : Vw [] []
  | snoc {l m : List It} {x y : It} : Vw l m → Views x.l y.l → y.l.length ≤ x.l.length → Vw (l ++ [x]) (m ++ [y])
theorem pts_snoc (l : List It) (x : It) : pts (l ++ [x]) = pts l ++ x.l := by simp [pts]
theorem Vw.mem {l m : List It} (h : Vw l m) : ∀ p ∈ pts m, p ∈ pts l := by
  induction h with
  | nil => exact fun _ h => h
  | snoc _ hv _ ih =>
    intro p hp
    rw [pts_snoc] at hp ⊢
    rcases List.mem_append.1 hp with hp | hp
    · exact List.mem_append.2 (.inl (ih p hp))
    · exact List.mem_append.2 (.inr (hv.from_ p hp))
theorem Vw.best {l m : List It} (h : Vw l m) : ∀ p ∈ pts l, ∃ q ∈ pts m, q.1 = p.1 ∧ wins p q = false := by
  induction h with
  | nil => intro p hp; simp [pts] at hp
  | snoc _ hv _ ih =>
    intro p hp
    rw [pts_snoc] at hp ⊢
    rcases List.mem_append.1 hp with hp | hp
    · obtain ⟨q, hq, h⟩ := ih p hp
      exact ⟨q, List.mem_append.2 (.inl hq), h⟩
    · obtain ⟨q, hq, h⟩ := hv.best p hp
      exact ⟨q, List.mem_append.2 (.inr hq), h⟩
theorem Vw.len {l m : List It} (h : Vw l m) : (pts m).length ≤ (pts l).length := by
  induction h with
  | nil => exact Nat.le_refl _
  | snoc _ _ hl ih => rw [pts_snoc, pts_snoc, List.length_append, List.length_append]; omega
theorem Vw.srt {l m : List It} (h : Vw l m) : ∀ y ∈ m, y.l.Pairwise fun a b => a.1 < b.1 := by
  induction h with
  | nil => intro y hy; simp at hy
  | snoc _ hv _ ih =>
    intro y hy
    rcases List.mem_append.1 hy with hy | hy
    · exact ih y hy
    · simp at hy; subst hy; exact hv.rise
/-- what Merge has so far: o of all points, its left -/
structure Mg (all : List Pt) (o : List Pt) (its : List It) : Prop where
  rise : o.Pairwise fun a b => a.1 < b.1
  sub : ∀ q ∈ o, q ∈ all
  left : ∀ r ∈ pts its, r ∈ all
  sep : ∀ q ∈ o, ∀ r ∈ pts its, q.1 < r.1
  cov : ∀ r ∈ all, r ∈ pts its ∨ ∃ q ∈ o, q.1 = r.1 ∧ wins r q = false
  len : o.length + (pts its).length ≤ all.length
theorem Mg.start (its : List It) : Mg (pts its) [] its := ⟨.nil, fun q h => by simp at h, fun r h => h, fun q h => by simp at h, fun r h => .inl h, by simp⟩
theorem Mg.step {all o : List Pt} {its its' : List It} {b : Pt} (h : Mg all o its) (k : Nx its its' b) : Mg all (o ++ [b]) its' := by
  refine ⟨?_, fun q hq => ?_, fun r hr => h.left r ((k.rest r).1 hr).1, fun q hq r hr => ?_, fun r hr => ?_, ?_⟩
  · rw [List.pairwise_append]
    refine ⟨h.rise, List.pairwise_singleton _ _, fun a ha c hc => ?_⟩
    simp at hc; subst hc
    exact h.sep a ha c k.mem
  · rcases List.mem_append.1 hq with hq | hq
    · exact h.sub q hq
    · simp at hq; subst hq; exact h.left q k.mem
  · have hr' := (k.rest r).1 hr
    rcases List.mem_append.1 hq with hq | hq
    · exact h.sep q hq r hr'.1
    · simp at hq; subst hq; exact hr'.2
  · rcases h.cov r hr with h1 | ⟨q, hq, h1⟩
    · by_cases e : r.1 = b.1
      · exact .inr ⟨b, by simp, e.symm, k.best r h1 e⟩
      · refine .inl ((k.rest r).2 ⟨h1, ?_⟩)
        have := k.min r h1
        omega
    · exact .inr ⟨q, List.mem_append.2 (.inl hq), h1⟩
  · have h1 := h.len
    have h2 := k.lt
    rw [List.length_append, List.length_singleton]
    omega
theorem Mg.done {all o : List Pt} (h : Mg all o []) : Views all o :=
  ⟨h.rise, h.sub, fun p hp => (h.cov p hp).resolve_left (fun e => by simp [pts] at e)⟩
/-- a list of the call's own -/
structure OwnP (w : World) (B : Nat) (v : Value) (o : List Pt) : Prop where
  row : Rw PE w v o.length o
  own : ∀ g, v.ownBlock = some g → B ≤ g
def RetMerge (w : World) (ls : List It) (e : Ending) (w' : World) : Prop :=
  ∃ A c o, e = .returned (.slice A o.length c) ∧ OwnP w' w.heap.size (.slice A o.length c) o ∧ Views (pts ls) o ∧ o.length ≤ (pts ls).length ∧ Below w.heap.size w w'
/-- 'append(v, x...)' of points in a walk -/
theorem append_q {w : World} {ops : Array Oper} {rest : List Oper} {o : Oper} {a : Act} {Q : Exit → Act → World → Prop} (hgd : o.guard = none) (s x : Operand)
    (ho : o.op = .call { callee := .builtin .append, args := #[s, x], argTypes := #[27, 27] })
    (v : Value) (n : Nat) (l : List Pt) (hs : a.eval s = v) (hown : Rw PE w v n l)
    (B : Nat) (A : Option Addr) (m c : Nat) (hA : A = none → c = 0) (news : List Pt) (hx : a.eval x = .slice A m c) (hr : Ls PE w B A m news)
    (hn : n + m ≤ 1000000)
    (h : ∀ v' w', Rw PE w' v' (n + m) (l ++ news) → w.grownBy w' v.ownBlock → (v'.ownBlock = v.ownBlock ∨ v'.ownBlock = some w.heap.size) → wpList Try.prog ops Q rest (a.put o.dst v') w') : wpList Try.prog ops Q (o :: rest) a w := by
  obtain ⟨i0, hi, hz0, hz1, hz2⟩ := info_parts infoP
  refine wpList_append_row (P := Try.prog) _ hgd s x 27 ho PE.e i0 _ 3 24 Try.underlying27 hi hz0 hz1 hz2 rfl (by decide) v n (cs PE.enc l) hs hown.2 B A m c hA (cs PE.enc news) hx hr.2 (cs_oneCell PE.one _) (by unfold maxLen; omega) (by omega) ?_
  intro v' w' h1 h2 h3 _
  exact h v' w' ⟨by rw [List.length_append, hown.1, hr.1], by rw [cs_append]; exact h1⟩ h2 h3
theorem append_l {w : World} {ops : Array Oper} {rest : List Oper} {o : Oper} {a : Act} {Q : Exit → Act → World → Prop} (hgd : o.guard = none) (s x : Operand)
    (ho : o.op = .call { callee := .builtin .append, args := #[s, x], argTypes := #[28, 28] })
    (v : Value) (n : Nat) (l : List It) (hs : a.eval s = v) (hown : Rw HE w v n l)
    (B : Nat) (A : Option Addr) (m c : Nat) (hA : A = none → c = 0) (news : List It) (hx : a.eval x = .slice A m c) (hr : Ls HE w B A m news)
    (hn : n + m ≤ 1000000)
    (h : ∀ v' w', Rw HE w' v' (n + m) (l ++ news) → w.grownBy w' v.ownBlock → (v'.ownBlock = v.ownBlock ∨ v'.ownBlock = some w.heap.size) → wpList Try.prog ops Q rest (a.put o.dst v') w') : wpList Try.prog ops Q (o :: rest) a w := by
  obtain ⟨i0, hi, hz0, hz1, hz2⟩ := info_parts infoH
  refine wpList_append_row (P := Try.prog) _ hgd s x 28 ho HE.e i0 _ 1 24 Try.underlying28 hi hz0 hz1 hz2 rfl (by decide) v n (cs HE.enc l) hs hown.2 B A m c hA (cs HE.enc news) hx hr.2 (cs_oneCell HE.one _) (by unfold maxLen; omega) (by omega) ?_
  intro v' w' h1 h2 h3 _
  exact h v' w' ⟨by rw [List.length_append, hown.1, hr.1], by rw [cs_append]; exact h1⟩ h2 h3
/-- the first i lists, each made its view -/
structure Sorted (w : World) (ls : List It) (i : Nat) (wr : World) (v1 : Value) (its : List It) : Prop where
  row : Rw HE wr v1 i its
  own : ∀ g, v1.ownBlock = some g → w.heap.size ≤ g
  ok : ∀ x ∈ its, Ow PE wr w.heap.size x.val x.l.length x.l
  vw : Vw (ls.take i) its
  bel : Below w.heap.size w wr
theorem Sorted.step {w wr w3 w4 : World} {ls its : List It} {i : Nat} {v1 v4 : Value} {x y : It} (h : Sorted w ls i wr v1 its) (hx : ls[i]? = some x) (hb : Below wr.heap.size wr w3)
    (hy : Ow PE w3 wr.heap.size y.val y.l.length y.l) (hv : Views x.l y.l) (hl : y.l.length ≤ x.l.length) (hr : Rw HE w4 v4 (i + 1) (its ++ [y])) (hg : w3.grownBy w4 v1.ownBlock)
    (hat : v4.ownBlock = v1.ownBlock ∨ v4.ownBlock = some w3.heap.size) : Sorted w ls (i + 1) w4 v4 (its ++ [y]) := by
  have hs := h.bel.size
  have hs3 := hb.size
  have hc : Chg (fun b => v1.ownBlock = some b) wr w4 := ((Chg.of_below hb).mono (fun _ _ e => e.elim)).grown hg (fun k hk _ => hk)
  have hc3 : Chg (fun b => v1.ownBlock = some b) w3 w4 := (Chg.refl _ _).grown hg (fun k hk _ => hk)
  refine ⟨hr, fun g hg => ?_, fun z hz => ?_, ?_, h.bel.trans (hc.below hs h.own)⟩
  · rcases hat with e | e
    · exact h.own g (e.symm.trans hg)
    · rw [hg] at e; injection e with e; omega
  · rcases List.mem_append.1 hz with hz | hz
    · refine (h.ok z hz).chg hc fun g hg e => ?_
      obtain ⟨c1, h1⟩ := (h.ok z hz).type hg
      obtain ⟨c2, h2⟩ := h.row.type e
      exact blk_type h1 h2 (by decide) rfl
    · simp at hz; subst hz
      refine (hy.base hs).chg hc3 fun g hg e => ?_
      obtain ⟨c1, h1⟩ := hy.type hg
      obtain ⟨c2, h2⟩ := (h.row.chg (Chg.of_below hb) (fun _ _ e => e)).type e
      exact blk_type h1 h2 (by decide) rfl
  · rw [take_succ_at hx]
    exact .snoc h.vw hv hl
theorem pts_at {l : List It} {i : Nat} {x : It} (h : l[i]? = some x) : x.l.length ≤ (pts l).length := by
  induction l generalizing i with
  | nil => simp at h
  | cons y l ih =>
    simp only [pts, List.flatMap_cons, List.length_append]
    cases i with
    | zero => simp at h; subst h; omega
    | succ i =>
      have := ih (i := i) (by simpa using h)
      simp only [pts] at this
      omega
/-- Next, whatever is left -/
def RetN (w : World) (H p : Nat) (v : Value) (its : List It) (e : Ending) (w' : World) : Prop :=
  ∃ b k v' its', e = .returned (.tuple #[pV b, .bool k]) ∧ Hd w' H p v' its' ∧ HdTo p w v w' v' ∧ Ts its' ∧ (k = false → its = [] ∧ its' = [] ∧ b = (0, 0, 0)) ∧ (k = true → Nx its its' b) ∧ its'.length ≤ its.length
theorem next_c (w : World) (H p : Nat) (v : Value) (its : List It) (h : Hd w H p v its) (hn : its.length ≤ 99999) (ht : Ts its) :
    Calls Try.prog 26 #[hp p] w (RetN w H p v its) := by
  cases its with
  | nil =>
    refine (next_no w H p v h).mono ?_
    rintro e w' ⟨rfl, hb⟩
    have hc := Chg.of_below hb
    exact ⟨_, false, v, [], rfl, h.quiet hc, .quiet v hc, ht, fun _ => ⟨rfl, rfl, rfl⟩, fun e => (by cases e), Nat.le_refl _⟩
  | cons x its =>
    refine (next_x w H p v (x :: its) h its.length rfl (by simp at hn; omega) ht).mono ?_
    rintro e w' ⟨b, v', its', rfl, h1, h2, h3, h4⟩
    exact ⟨b, true, v', its', rfl, h1, h2, h3, fun e => (by cases e), fun _ => h4, h4.len⟩
/-- the heads and what is made of them, side by side -/
structure MO (H p : Nat) (w0 wr : World) (v1 vo : Value) (its : List It) (o : List Pt) : Prop where
  hd : Hd wr H p v1 its
  ts : Ts its
  out : Rw PE wr vo o.length o
  own : ∀ g, vo.ownBlock = some g → H ≤ g
  bel : Below H w0 wr
  few : its.length ≤ 90000
theorem MO.apart {H p : Nat} {w0 wr : World} {v1 vo : Value} {its : List It} {o : List Pt} (h : MO H p w0 wr v1 vo its o) {g : Nat} (hg : vo.ownBlock = some g) : p ≠ g ∧ v1.ownBlock ≠ some g := by
  obtain ⟨c, hc⟩ := h.out.type hg
  refine ⟨fun e => blk_type h.hd.at_ hc (by decide) e, fun e => ?_⟩
  obtain ⟨c2, hc2⟩ := h.hd.row.type e
  exact blk_type hc2 hc (by decide) rfl
theorem MO.quiet {H p : Nat} {w0 wr w' : World} {v1 vo : Value} {its : List It} {o : List Pt} (h : MO H p w0 wr v1 vo its o) (hb : Below wr.heap.size wr w') : MO H p w0 w' v1 vo its o :=
  ⟨h.hd.quiet (Chg.of_below hb), h.ts, h.out.chg (Chg.of_below hb) (fun _ _ e => e), h.own, h.bel.trans (hb.mono (Nat.le_of_lt (Nat.lt_of_le_of_lt h.hd.lo h.hd.lt))), h.few⟩
theorem MO.app {H p n : Nat} {w0 wr w' : World} {v1 vo vo' : Value} {its : List It} {o : List Pt} {b : Pt} (h : MO H p w0 wr v1 vo its o) (hr : Rw PE w' vo' n (o ++ [b])) (hn : o.length + 1 = n) (hg : wr.grownBy w' vo.ownBlock)
    (hat : vo'.ownBlock = vo.ownBlock ∨ vo'.ownBlock = some wr.heap.size) : MO H p w0 w' v1 vo' its (o ++ [b]) := by
  have hc : Chg (fun k => vo.ownBlock = some k) wr w' := (Chg.refl _ _).grown hg (fun k hk _ => hk)
  have hlo := h.hd.lo
  have hlt := h.hd.lt
  refine ⟨h.hd.chg hc (fun e => (h.apart e).1 rfl) (fun g hg e => (h.apart e).2 hg) h.own, h.ts, ?_, fun g hg => ?_, h.bel.trans (hc.below (by omega) h.own), h.few⟩
  · rw [List.length_append, List.length_singleton, hn]; exact hr
  · rcases hat with e | e
    · exact h.own g (e.symm.trans hg)
    · rw [hg] at e; injection e with e; omega
theorem MO.to {H p : Nat} {w0 wr w' : World} {v1 v' vo : Value} {its its' : List It} {o : List Pt} (h : MO H p w0 wr v1 vo its o) (hd : Hd w' H p v' its') (ht : HdTo p wr v1 w' v') (hs : Ts its') (hl : its'.length ≤ its.length) : MO H p w0 w' v' vo its' o :=
  ⟨hd, hs, h.out.chg ht.chg (fun g hg e => by
    rcases e with e | e
    · exact (h.apart hg).1 e.symm
    · exact (h.apart hg).2 e), h.own, h.bel.trans (ht.below h.hd), Nat.le_trans hl h.few⟩
theorem MO.setP {H p m : Nat} {w0 wr : World} {v1 vo : Value} {its : List It} {o : List Pt} {q : Pt} (h : MO H p w0 wr v1 vo its o) (hm : IsP wr m q) (hH : H ≤ m) (hne : vo.ownBlock ≠ some m) (r : Pt) : MO H p w0 (setP wr m r) v1 vo its o := by
  have hc : Chg (fun k => k = m) wr (mg.setP wr m r) := setP_chg r (Chg.refl _ _) (fun _ => rfl)
  have hlo := h.hd.lo
  have hlt := h.hd.lt
  exact ⟨h.hd.setP hm hH r, h.ts, h.out.chg hc (fun g hg e => by subst e; exact hne hg), h.own, h.bel.trans (hc.below (by omega) (fun k e => by subst e; exact hH)), h.few⟩
set_option maxRecDepth 100000 in
set_option maxHeartbeats 4000000 in
theorem merge_x (w : World) (B n c : Nat) (A : Option Addr) (ls : List It) (h : Lists w B n A ls) (hB : B ≤ w.heap.size) (hn : n ≤ 90000) (hN : (pts ls).length ≤ 90000) :
    Calls Try.prog 16 #[.slice A n c] w (RetMerge w ls) := by
  obtain ⟨i0, hi, hz0, hz1, hz2⟩ := info_parts infoH
  obtain ⟨w1, hmk, hown1, hg1⟩ := run_make_own (P := Try.prog) w w.heap.size 28 HE.e i0 _ 1 Try.underlying28 hi hz0 hz1 .i64 .i64 n (by rw [hz2]; omega) (by unfold maxLen; omega) (Nat.le_refl _)
  have hrow1 : Rw HE w1 (.slice (some ⟨w.heap.size, 0, none⟩) 0 n) 0 [] := ⟨rfl, Row.of_own hown1⟩
  have hb1 : Below w.heap.size w w1 := ⟨hg1.os, hg1.tape, hg1.output, hg1.size, fun k hk => hg1.block k hk (by simp)⟩
  have HS := Lib.hid (show Sorted w ls 0 w1 (.slice (some ⟨w.heap.size, 0, none⟩) 0 n) [] from ⟨hrow1, fun g hg => by cases hg; exact Nat.le_refl _, fun x hx => by simp at hx, by rw [List.take_zero]; exact .nil, hb1⟩)
  have HL := Lib.hid h
  have HLL := Lib.hid h.row.1
  clear h hi hz0 hz1 hz2 hown1 hg1 hrow1 hb1
  go_enter Try.func16, Try.ntmps16
  go_wp2_with fail
  go_loopg [3, 5, 15] n (fun gg s3 s5 s15 wr => ∃ (i : Nat) (v1 : Value) (its : List It), s3 = v1 ∧ s15 = .int .i64 i ∧ i ≤ n ∧ n - i ≤ gg ∧ Aside (Sorted w ls i wr v1 its))
  case atStart => exact ⟨0, _, [], rfl, rfl, Nat.zero_le _, by omega, HS.out⟩
  case round =>
    clear HS hmk
    obtain ⟨i, v1, its, rfl, rfl, hi, hg, S⟩ := hrel
    obtain ⟨wv, rfl⟩ : ∃ wv, wv = wr := ⟨wr, rfl⟩
    obtain ⟨A1, c1, rfl, hc11, hc12, hA1⟩ := S.out.row.form
    by_cases hlt : i < n
    · obtain ⟨x, hx⟩ := HL.out.row.get hlt
      have hLv := HL.out.below S.out.bel hB
      obtain ⟨b, off, hA, hbB, hc⟩ := hLv.row.at_ hx
      have hx0 := hc 0 (by decide)
      simp only [HE, Nat.mul_one, Nat.add_zero, itE, It.val, List.getElem?_cons_zero] at hx0
      have hxi := hLv.ok x (List.mem_of_getElem? hx)
      have hxn := pts_at hx
      have hi1 : (i : Int) < (n : Int) := by omega
      have hi0 : (0 : Int) ≤ (i : Int) := by omega
      have hsz := S.out.bel.size
      have HV := Lib.hid (view_x wv B _ x.c x.A x.l hxi.ls hxi.nil (by omega) (by omega))
      have hbl : b < wv.heap.size := World.block_lt_of_cell? wv _ hx0
      have HX := Lib.hid hx
      subst hA
      clear hx hLv hc hxi
      go_wp2_with fail
      refine HV.out.mono ?_
      rintro e w2 ⟨A2, m2, c2, vs, rfl, hvs, hml, hown2, hb2⟩
      obtain rfl : vs.length = m2 := hown2.1
      have hb3 : Below wv.heap.size wv (w2.alloc (.cells #[.slice A2 vs.length c2] 27)) := hb2.alloc (by have := hb2.size; omega) _
      have hb23 : Below w2.heap.size w2 (w2.alloc (.cells #[.slice A2 vs.length c2] 27)) := (Below.refl _ _).alloc (Nat.le_refl _) _
      have hnews : Ls HE (w2.alloc (.cells (HE.enc ⟨A2, c2, vs⟩).toArray 27)) (w2.heap.size + 1) (some ⟨w2.heap.size, 0, none⟩) 1 [⟨A2, c2, vs⟩] := ls_new _ _
      have he : (HE.enc ⟨A2, c2, vs⟩).toArray = #[.slice A2 vs.length c2] := by simp [HE, itE, It.val]
      rw [he] at hnews
      have hrow3 := S.out.row.chg (Chg.of_below hb3) (fun _ _ e => e)
      have OW := Lib.hid (hown2.below hb23 (Nat.le_refl _))
      have VS := Lib.hid (And.intro hvs hml)
      have B3 := Lib.hid hb3
      clear hvs hml hown2 hb2 hb3 hb23 he HV
      go_wp2_with (at_builtin; refine append_l rfl (.tmp 19) (.tmp 22) rfl _ i its (by rfl) hrow3 _ _ 1 1 (fun e => by cases e) [⟨A2, c2, vs⟩] (by rfl) hnews (by omega) ?_; intro v3 w3 hown3 hgrow hat; have S3 := Lib.hid (S.out.step (y := ⟨A2, c2, vs⟩) HX.out B3.out OW.out VS.out.1 VS.out.2 hown3 hgrow hat); clear hown3 hgrow hat hnews hrow3)
      go_roundg (n - (i + 1))
      case measure => omega
      case rel => exact ⟨i + 1, v3, _, rfl, by go_num, by omega, by omega, S3.out⟩
    · have hi1 : ¬ (i : Int) < (n : Int) := by omega
      have hin : i = n := by omega
      subst hin
      have hvw := S.out.vw
      rw [List.take_of_length_le (Nat.le_of_eq HLL.out)] at hvw
      have hsz := S.out.bel.size
      have hik : ∀ y ∈ its, ItL wv wv.heap.size y := fun y hy => by
        have h1 := S.out.ok y hy
        obtain ⟨A', c', e1, e2, e3, e4⟩ := h1.form
        cases e1
        exact ⟨h1.ls, e3, e4⟩
      have HI := Lib.hid (iterate_x wv wv.heap.size i c1 A1 its S.out.row.ls (Nat.le_refl _) hn hik)
      have VW := Lib.hid hvw
      have BW := Lib.hid S.out.bel
      have hitl : its.length = i := S.out.row.1
      have IL := Lib.hid hitl
      clear hvw hik S hitl
      go_wp2_with fail
      refine HI.out.mono ?_
      rintro e w2 ⟨p, v2, its2, rfl, hd2, hb2, hp2, hf2⟩
      have hall := VW.out.len
      have hperm := pts_perm hp2
      rw [pts_full] at hperm
      have hts : Ts its2 := ⟨fun y hy => VW.out.srt y (List.mem_filter.1 (hp2.mem_iff.1 hy)).1, hf2⟩
      have hfew : its2.length ≤ i := by rw [hp2.length_eq, ← IL.out]; exact List.length_filter_le _ _
      have M2 := Lib.hid (show MO wv.heap.size p wv w2 v2 (.slice none 0 0) its2 [] from ⟨hd2, hts, Rw.nil _, fun g hg => (by cases hg), hb2, by omega⟩)
      have HF := Lib.hid (And.intro hall hperm)
      have HC := Lib.hid (next_c w2 wv.heap.size p v2 its2 hd2 (by omega) hts)
      clear hall hperm hts hd2 hb2 hp2 hf2 HI
      go_wp2_with fail
      refine HC.out.mono ?_
      rintro e w3 ⟨b, k, v3, its3, rfl, hd3, ht3, hs3, hk0, hk1, hl3⟩
      have M3 := Lib.hid (M2.out.to hd3 ht3 hs3 hl3)
      have K0 := Lib.hid hk0
      have G3 := Lib.hid (show Mg (pts its2) (if k then [] ++ [b] else []) its3 from by
        cases k with
        | true => exact (Mg.start its2).step (hk1 rfl)
        | false =>
          obtain ⟨e1, e2, _⟩ := hk0 rfl
          subst e1 e2
          exact Mg.start [])
      clear hd3 ht3 hs3 hk0 hk1 hl3 M2 HC
      go_wp2_with fail
      have hb4 : Below w3.heap.size w3 (w3.alloc (.cells #[.int .i64 b.1, .int .u64 b.2.1, .int .u64 b.2.2] 24)) := (Below.refl _ _).alloc (Nat.le_refl _) _
      have hg4 : IsP (w3.alloc (.cells #[.int .i64 b.1, .int .u64 b.2.1, .int .u64 b.2.2] 24)) w3.heap.size b := alloc_new _ _
      have hm4 := M3.out.quiet hb4
      have hlo := M3.out.hd.lo
      have hlt3 := M3.out.hd.lt
      obtain ⟨m, hm⟩ : ∃ m, w3.heap.size = m := ⟨_, rfl⟩
      obtain ⟨w4, hw4⟩ : ∃ w4, w3.alloc (.cells #[.int .i64 b.1, .int .u64 b.2.1, .int .u64 b.2.2] 24) = w4 := ⟨_, rfl⟩
      obtain ⟨H, hH⟩ : ∃ H, wv.heap.size = H := ⟨_, rfl⟩
      rw [hw4] at hg4 hm4
      rw [hm] at hg4 hlt3
      rw [hH] at hm4 hlo hsz
      rw [hm, hw4]
      have M4 := Lib.hid hm4
      have G4 := Lib.hid hg4
      have HH := Lib.hid hH
      have hHm : H ≤ m := by omega
      clear hb4 hg4 hm4 hm hw4 hH M3
      go_loopg [6, 8, 9] (2 * (pts its3).length + k.toNat) (fun gg s6 s8 s9 wr => ∃ (k : Bool) (m : Nat) (b : Pt) (o : List Pt) (its1 : List It) (v1 vo : Value), s6 = vo ∧ s8 = .pointer (some ⟨m, 0, none⟩) ∧ s9 = .bool k ∧ 2 * (pts its1).length + k.toNat ≤ gg ∧ Aside (MO H p wv wr v1 vo its1 o) ∧ Aside (IsP wr m b) ∧ Aside (H ≤ m ∧ vo.ownBlock ≠ some m) ∧ Aside (Mg (pts its2) (if k then o ++ [b] else o) its1) ∧ Aside (k = false → its1 = []))
      case atStart => exact ⟨k, m, b, [], its3, v3, _, rfl, rfl, rfl, Nat.le_refl _, M4.out, G4.out, ⟨hHm, fun e => by cases e⟩, G3.out, fun e => (K0.out e).2.1⟩
      case round =>
        clear M4 G4 G3 K0
        obtain ⟨k1, m1, b1, o, its1, v1, vo, rfl, rfl, rfl, hgg, M, G, HN, MG, KN⟩ := hrel
        obtain ⟨wx, rfl⟩ : ∃ wx, wx = wr := ⟨wr, rfl⟩
        cases k1 with
        | false =>
          have he := KN.out rfl
          obtain ⟨A9, c9, rfl, hc91, hc92, hA9⟩ := M.out.out.form
          go_wp2_with fail
          go_ret
          subst he
          have hv := (MG.out.done)
          have V : Views (pts ls) o := hv.trans (fun q hq => VW.out.mem q (HF.out.2.mem_iff.1 hq)) (fun q hq => by
            obtain ⟨r, hr, h⟩ := VW.out.best q hq
            exact ⟨r, HF.out.2.mem_iff.2 hr, h⟩)
          have hlen := MG.out.len
          have hl2 := HF.out.2.length_eq
          have hl1 := HF.out.1
          refine ⟨A9, c9, o, rfl, ⟨M.out.out, fun g hg => ?_⟩, V, ?_, BW.out.trans ?_⟩
          · have := M.out.own g hg; omega
          · simp only [Bool.false_eq_true, if_false] at hlen; omega
          · have := M.out.bel; exact this.mono hsz
        | true =>
          obtain ⟨c0, c1', c2'⟩ := G.out.cells
          have hlen := MG.out.len
          simp only [if_true, List.length_append, List.length_singleton] at hlen
          have hol : o.length + 1 ≤ 90000 := by have := HF.out.1; have := HF.out.2.length_eq; omega
          have hb2 : Below wx.heap.size wx (wx.alloc (.cells #[.int .i64 b1.1, .int .u64 b1.2.1, .int .u64 b1.2.2] 24)) := (Below.refl _ _).alloc (Nat.le_refl _) _
          have hnews : Ls PE (wx.alloc (.cells #[.int .i64 b1.1, .int .u64 b1.2.1, .int .u64 b1.2.2] 24)) (wx.heap.size + 1) (some ⟨wx.heap.size, 0, none⟩) 1 [b1] := ls_new (E := PE) _ b1
          have hm2 := M.out.quiet hb2
          have hrow2 := hm2.out
          have hg2 : IsP (wx.alloc (.cells #[.int .i64 b1.1, .int .u64 b1.2.1, .int .u64 b1.2.2] 24)) m1 b1 := G.out.chg (Chg.of_below hb2) (fun e => e)
          have M2 := Lib.hid hm2
          have G2 := Lib.hid hg2
          have hm1l : m1 < wx.heap.size := G.out.lt
          clear hb2 hm2 hg2 hlen
          go_wp2_with (at_builtin; refine append_q rfl (.tmp 38) (.tmp 40) rfl _ o.length o (by rfl) hrow2 _ _ 1 1 (fun e => by cases e) [b1] (by rfl) hnews (by omega) ?_; intro v5 w5 hown5 hgrow5 hat5; have hg5 := G2.out.chg ((Chg.refl (fun k => u6.ownBlock = some k) _).grown hgrow5 (fun k hk _ => hk)) HN.out.2; have M5 := Lib.hid (M2.out.app hown5 rfl hgrow5 hat5); obtain ⟨d0, d1, d2⟩ := hg5.cells; have G5 := Lib.hid hg5; clear hown5 hgrow5 hat5 hg5 hnews hrow2 M2 G2 c0 c1' c2')
          have hb6 : Below w5.heap.size w5 (w5.alloc (.cells #[.int .i64 b1.1, .int .u64 b1.2.1, .int .u64 b1.2.2] 24)) := (Below.refl _ _).alloc (Nat.le_refl _) _
          have hg6 : IsP (w5.alloc (.cells #[.int .i64 b1.1, .int .u64 b1.2.1, .int .u64 b1.2.2] 24)) w5.heap.size b1 := alloc_new _ _
          have hm6 := M5.out.quiet hb6
          have hHm6 : H ≤ w5.heap.size := Nat.le_of_lt (Nat.lt_of_le_of_lt M5.out.hd.lo M5.out.hd.lt)
          have hne6 : v5.ownBlock ≠ some w5.heap.size := fun e => by have := M5.out.out.lt e; omega
          obtain ⟨m6, hm6e⟩ : ∃ m6, w5.heap.size = m6 := ⟨_, rfl⟩
          obtain ⟨w6, hw6⟩ : ∃ w6, w5.alloc (.cells #[.int .i64 b1.1, .int .u64 b1.2.1, .int .u64 b1.2.2] 24) = w6 := ⟨_, rfl⟩
          rw [hw6] at hg6 hm6 ⊢
          rw [hm6e] at hg6 hHm6 hne6 ⊢
          have HC := Lib.hid (next_c w6 H p v1 its1 hm6.hd (by have := hm6.few; omega) hm6.ts)
          have M6 := Lib.hid hm6
          have G6 := Lib.hid hg6
          clear hb6 hg6 hm6 hw6 hm6e M5 G5 d0 d1 d2
          refine HC.out.mono ?_
          rintro e w7 ⟨b7, k7, v7, its7, rfl, hd7, ht7, hs7, hk0, hk1, hl7⟩
          have hm7 := M6.out.to hd7 ht7 hs7 hl7
          have hg7 := G6.out.to M6.out.hd ht7
          have M7 := Lib.hid (hm7.setP hg7 hHm6 hne6 b7)
          have G7 := Lib.hid (setP_is hg7 b7)
          have hMG := MG.out
          simp only [if_true] at hMG
          have MG7 := Lib.hid (show Mg (pts its2) (if k7 then (o ++ [b1]) ++ [b7] else o ++ [b1]) its7 from by
            cases k7 with
            | true => exact hMG.step (hk1 rfl)
            | false =>
              obtain ⟨e1, e2, _⟩ := hk0 rfl
              subst e1 e2
              exact hMG)
          have hmeas : 2 * (pts its7).length + k7.toNat < 2 * (pts its1).length + true.toNat := by
            cases k7 with
            | true => have := (hk1 rfl).lt; simp; omega
            | false =>
              obtain ⟨e1, e2, _⟩ := hk0 rfl
              subst e1 e2
              simp
          have K7 := Lib.hid (show k7 = false → its7 = [] from fun e => (hk0 e).2.1)
          obtain ⟨d0, d1, d2⟩ := hg7.cells
          obtain ⟨f0, f1, f2⟩ := hg7.fz
          have HM7 := Lib.hid hmeas
          clear hd7 ht7 hs7 hk0 hk1 hl7 hm7 hg7 hMG HC M6 G6 hmeas
          go_wp2_with fail
          go_roundg (2 * (pts its7).length + k7.toNat)
          case measure => have := HM7.out; omega
          case rel => exact ⟨k7, m6, b7, o ++ [b1], its7, v7, v5, rfl, rfl, rfl, Nat.le_refl _, M7.out, G7.out, ⟨hHm6, hne6⟩, MG7.out, K7.out⟩
end Go.Proofs.Ytemmfcinpkfoiaa.mg
