/-
  The store over the disk, as mathematics: what its calls do to the disk's state and to the text.
-/
import Derived.Test.YtnjdondkggkfoaaGreatDkB
import Derived.Test.YtnjdondkggkfoaaGreatKvX
import Derived.Test.YtnjdondkggkfoaaGreatPmG
import Derived.Test.YtnjdondkggkfoaaGreatPmRm
import Derived.Test.YtnjdondkggkfoaaGreatPmDone
import Derived.Test.YtnjdondkggkfoaaGreatCallM
namespace Go.Proofs.YtnjdondkggkfoaaGreat.ks
open plain words ord mem al dk

def cu : Nm := [112, 108, 97, 99, 101]
def up : Nm := [112, 108, 97, 99, 101, 46, 110, 101, 119]
theorem cu_up : cu ≠ up := by decide
theorem ok_cu : okn cu = true := by decide
theorem ok_up : okn up = true := by decide
/-- clear -/
def clr (st : dk.St) : dk.St × Int := if al.get st.shown up = none then (st, 0) else remSt st up
/-- write: from the clear on -/
def wr5 (a : dk.St × Int) : dk.St × Int := (syncSt a.1, doE a.1)
def wr4 (a : dk.St × Int) : dk.St × Int := if (renSt a.1 up cu).2 = 0 then wr5 (renSt a.1 up cu) else renSt a.1 up cu
def wr3 (a : dk.St × Int) : dk.St × Int := if doE a.1 = 0 then wr4 (syncSt a.1, 0) else (syncSt a.1, doE a.1)
def wr2 (a : dk.St × Int) (t : Nm) : dk.St × Int := if (appSt a.1 up t).2 = 0 then wr3 (appSt a.1 up t) else appSt a.1 up t
def wrS (st : dk.St) (t : Nm) : dk.St × Int := if (clr st).2 = 0 then wr2 (clr st) t else clr st
/-- where there is no room: cleared and synced -/
def full (a : dk.St × Int) : dk.St := if a.2 = 12 then syncSt (clr a.1).1 else a.1
/-- Set -/
noncomputable def setS (st : dk.St) (tx : Nm) (expect : Int) (p : pm.Pl) : dk.St × Nm × Int :=
  if pm.chk p = 0 then
    (if expect = (kv.decP tx).ver ∧ p.ver = expect + 1 then (full (wrS st (kv.encP p)), if (wrS st (kv.encP p)).2 = 0 then kv.encP p else tx, (wrS st (kv.encP p)).2) else (st, tx, 150))
  else (st, tx, 50)

/-- a disk that lives, all of whose changes are synced, which holds at most the placement's file -/
def base (o : Option Nm) : AL Nm := match o with
  | none => []
  | some t => [(cu, t)]
structure Cl (st : dk.St) (o : Option Nm) (R : Int) (n : Int) : Prop where
  last : st.last = base o
  pend : st.pend = []
  due : st.due = none
  dead : st.dead = false
  room : st.room = R
  lo : 0 ≤ st.ops
  hi : st.ops ≤ n
def olen (o : Option Nm) : Nat := (o.getD []).length
theorem base_sum (o : Option Nm) : fsum (base o) = olen o := by cases o <;> simp [base, olen, fsum, al.sum]
theorem base_up (o : Option Nm) : al.get (base o) up = none := by
  cases o with
  | none => rfl
  | some t => simp [base, al.get, cu_up]
theorem base_cu (o : Option Nm) : al.get (base o) cu = o := by
  cases o with
  | none => rfl
  | some t => simp [base, al.get]
theorem base_srt (o : Option Nm) : Srt (base o) := by
  cases o <;> simp [base, Srt]
section
variable {st : dk.St} {o : Option Nm} {R n : Int}
theorem Cl.live (h : Cl st o R n) : Live st := ⟨h.due, h.dead⟩
theorem Cl.shown (h : Cl st o R n) : st.shown = base o := by unfold dk.St.shown; rw [h.last, h.pend]; rfl
theorem Cl.small (h : Cl st o R n) (ho : olen o ≤ 536870912) (hn : n < 4611686018427387904) : Small st := by
  refine ⟨?_, ?_, h.lo, by have := h.hi; omega, fun x hx => by rw [h.due] at hx; cases hx⟩
  · rw [h.last, h.pend, base_sum]; simp [sumc]; exact ho
  · rw [h.last, h.pend]; cases o <;> simp [base]
theorem Cl.clr (h : Cl st o R n) : clr st = (st, 0) := by unfold ks.clr; rw [h.shown, if_pos (base_up o)]
theorem Cl.sync (h : Cl st o R n) : Cl (syncSt st) o R (n + 1) := by
  have e : syncSt st = cnt { st with last := st.shown, pend := [] } := by unfold syncSt; rw [h.live.pw, h.dead]; rfl
  rw [e]
  refine ⟨h.shown, rfl, ?_, h.dead, h.room, ?_, ?_⟩
  · show Option.map _ st.due = none; rw [h.due]; rfl
  · have := h.lo; show 0 ≤ st.ops + 1; omega
  · have := h.hi; show st.ops + 1 ≤ n + 1; omega
/-- the states that a write goes through where there is room -/
structure Way (st : dk.St) (t : Nm) (o : Option Nm) (R n : Int) (b c d e : dk.St) : Prop where
  eb : appSt st up t = (b, 0)
  ec : syncSt b = c
  ed : renSt c up cu = (d, 0)
  ee : syncSt d = e
  db : doE b = 0
  dd : doE d = 0
  sb : Small b
  sc : Small c
  sd : Small d
  cl : Cl e (some t) R (n + 4)
theorem ext_base {l m : AL Nm} (hl : Srt l) (hm : Srt m) (h : ∀ q, al.get l q = al.get m q) : l = m := srt_ext hl hm h
theorem sync_more (st : dk.St) (h : Live st) : syncSt st = cnt { st with last := st.shown, pend := [] } := by unfold syncSt; rw [h.pw, h.dead]; rfl
theorem Cl.way (h : Cl st o R n) (t : Nm) (hR : (olen o : Int) + t.length ≤ R) (ho : olen o + t.length ≤ 268435456) (hn : n < 4611686018427387000) : ∃ b c d e, Way st t o R n b c d e := by
  have hsh := h.shown
  have eb : appSt st up t = (more st (.app up t), 0) := app_do h.live ok_up (by rw [hsh, base_sum, h.room]; omega)
  have hlb : Live (more st (.app up t)) := h.live.more _
  have shb : (more st (.app up t)).shown = al.put (base o) up t := by
    rw [more_shown, hsh]
    show al.put (base o) up ((al.get (base o) up).getD [] ++ t) = _
    rw [base_up]; rfl
  have ec := sync_more _ hlb
  rw [shb] at ec
  obtain ⟨c, hc⟩ : ∃ c, syncSt (more st (.app up t)) = c := ⟨_, rfl⟩
  have hcl : c.last = al.put (base o) up t := by rw [← hc, ec]; rfl
  have hcp : c.pend = [] := by rw [← hc, ec]; rfl
  have hcd : c.due = none := by rw [← hc, ec]; show Option.map _ st.due = none; rw [h.due]; rfl
  have hce : c.dead = false := by rw [← hc, ec]; exact h.dead
  have hcr : c.room = R := by rw [← hc, ec]; exact h.room
  have hco : c.ops = st.ops + 2 := by rw [← hc, ec]; show st.ops + 1 + 1 = _; omega
  have hlc : Live c := ⟨hcd, hce⟩
  have shc : c.shown = al.put (base o) up t := by unfold dk.St.shown; rw [hcl, hcp]; rfl
  have gu : al.get c.shown up = some t := by rw [shc]; exact get_put_same _ _ _
  have ed : renSt c up cu = (more c (.ren up cu), 0) := ren_do hlc ok_up ok_cu (by rw [gu]; simp)
  have hsr : Srt (al.put (base o) up t) := srt_put (base_srt o) _ _
  have shd : (more c (.ren up cu)).shown = base (some t) := by
    rw [more_shown, shc]
    show mv (al.put (base o) up t) up cu = _
    unfold mv
    rw [if_neg (Ne.symm cu_up), get_put_same]
    refine ext_base (srt_put (srt_del hsr _) _ _) (base_srt _) fun q => ?_
    by_cases hq : q = cu
    · rw [hq, get_put_same, base_cu]
    · rw [get_put_other _ hq]
      by_cases hq2 : q = up
      · rw [hq2, get_del_same, base_up]
      · rw [get_del_other hq2, get_put_other _ hq2]
        have : ∀ o, al.get (base o) q = none := fun o => get_none.2 fun p hp => by
          cases o with
          | none => cases hp
          | some t => rcases List.mem_singleton.1 hp with rfl; exact Ne.symm hq
        rw [this, this]
  have hld : Live (more c (.ren up cu)) := hlc.more _
  have ee := sync_more _ hld
  rw [shd] at ee
  obtain ⟨e, he⟩ : ∃ e, syncSt (more c (.ren up cu)) = e := ⟨_, rfl⟩
  have hlo := h.lo
  have hhi := h.hi
  have hps : fsum (al.put (base o) up t) = olen o + t.length := by
    have := sum_put_new (f := List.length) (x := t) (base_up o)
    unfold fsum; rw [this]; have := base_sum o; unfold fsum at this; rw [this]
  have hpl : (al.put (base o) up t).length ≤ 2 := by
    have := len_put (l := base o) (q := up) (x := t)
    have h1 : (base o).length ≤ 1 := by cases o <;> simp [base]
    omega
  refine ⟨_, c, _, e, eb, hc, ed, he, hlb.doE, hld.doE, ⟨?_, ?_, ?_, ?_, ?_⟩, ⟨?_, ?_, ?_, ?_, ?_⟩, ⟨?_, ?_, ?_, ?_, ?_⟩, ⟨?_, ?_, ?_, ?_, ?_, ?_, ?_⟩⟩
  · show fsum st.last + sumc (st.pend ++ [.app up t]) ≤ _
    rw [h.last, h.pend, base_sum]; simp [sumc, chlen]; omega
  · show st.last.length + (st.pend ++ [Chn.app up t]).length ≤ _
    rw [h.last, h.pend]; cases o <;> simp [base]
  · show 0 ≤ st.ops + 1; omega
  · show st.ops + 1 < _; omega
  · intro x hx; have e1 : (more st (.app up t)).due = none := hlb.due; rw [e1] at hx; cases hx
  · rw [hcl, hcp, hps]; simp [sumc]; omega
  · rw [hcl, hcp]; simp; omega
  · rw [hco]; omega
  · rw [hco]; omega
  · intro x hx; rw [hcd] at hx; cases hx
  · show fsum c.last + sumc (c.pend ++ [.ren up cu]) ≤ _
    rw [hcl, hcp, hps]; simp [sumc, chlen]; omega
  · show c.last.length + (c.pend ++ [Chn.ren up cu]).length ≤ _
    rw [hcl, hcp]; simp; omega
  · show 0 ≤ c.ops + 1; omega
  · show c.ops + 1 < _; omega
  · intro x hx; have e1 : (more c (.ren up cu)).due = none := hld.due; rw [e1] at hx; cases hx
  · rw [← he, ee]; rfl
  · rw [← he, ee]; rfl
  · rw [← he, ee]; show Option.map _ c.due = none; rw [hcd]; rfl
  · rw [← he, ee]; exact hce
  · rw [← he, ee]; exact hcr
  · rw [← he, ee]; show 0 ≤ c.ops + 1 + 1; omega
  · rw [← he, ee]; show c.ops + 1 + 1 ≤ n + 4; omega
theorem Cl.full (h : Cl st o R n) (t : Nm) (hR : R < (olen o : Int) + t.length) : wrS st t = (st, 12) := by
  unfold wrS wr2
  rw [h.clr, if_pos rfl, app_full ok_up (by rw [h.shown, base_sum, h.room]; exact hR)]
  rfl
theorem Way.wr {t : Nm} {b c d e : dk.St} (w : Way st t o R n b c d e) (h : Cl st o R n) : wrS st t = (e, 0) := by
  unfold wrS wr2
  rw [h.clr, if_pos rfl, w.eb, if_pos rfl]
  unfold wr3
  rw [if_pos w.db]
  unfold wr4
  rw [show (syncSt (b, (0 : Int)).1, (0 : Int)).1 = c from w.ec, w.ed, if_pos rfl]
  unfold wr5
  rw [show syncSt (d, (0 : Int)).1 = e from w.ee, show doE (d, (0 : Int)).1 = 0 from w.dd]
end
/-- how long a placement's bytes are -/
theorem num_one {z : Int} (h0 : 0 ≤ z) (h1 : z < 128) : (kv.num z).length = 1 := by
  unfold kv.num uvs.uv
  rw [uvs.uvf_small _ _ (by omega)]
  rfl
theorem encO_small {o : pm.O} (h1 : 0 ≤ o.1 ∧ o.1 < 8) (h2 : 0 ≤ o.2.1 ∧ o.2.1 < 100) (h3 : -1 ≤ o.2.2 ∧ o.2.2 < 8) : (kv.encO o).length = 3 := by
  unfold kv.encO
  simp only [List.length_append]
  rw [num_one (by omega) (by omega), num_one (by omega) (by omega), num_one (by omega) (by omega)]
theorem encOs_small : ∀ (l : List pm.O), (∀ o ∈ l, (kv.encO o).length = 3) → (kv.encOs l).length = 3 * l.length
  | [], _ => rfl
  | o :: l, h => by
    have e : kv.encOs (o :: l) = kv.encO o ++ kv.encOs l := by simp [kv.encOs]
    rw [e, List.length_append, h o (by simp), encOs_small l (fun x hx => h x (by simp [hx]))]
    simp only [List.length_cons]; omega
theorem encN_small : ∀ (l : List Int), (∀ z ∈ l, 0 ≤ z ∧ z < 128) → (kv.encN l).length = l.length
  | [], _ => rfl
  | z :: l, h => by
    have e : kv.encN (z :: l) = kv.num z ++ kv.encN l := by simp [kv.encN]
    rw [e, List.length_append, num_one (h z (by simp)).1 (h z (by simp)).2, encN_small l (fun x hx => h x (by simp [hx]))]
    simp only [List.length_cons]; omega
theorem encSs_small : ∀ (l : List (List pm.O)), (∀ q ∈ l, (kv.encS q).length ≤ 25) → (kv.encSs l).length ≤ 25 * l.length
  | [], _ => by simp [kv.encSs]
  | q :: l, h => by
    have e : kv.encSs (q :: l) = kv.encS q ++ kv.encSs l := by simp [kv.encSs]
    have h1 := h q (by simp)
    have h2 := encSs_small l (fun x hx => h x (by simp [hx]))
    rw [e, List.length_append]
    simp only [List.length_cons]; omega
theorem encP_small {p : pm.Pl} (h : pm.PlOk p) : (kv.encP p).length ≤ 256 := by
  have h1 := kv.ok_nl h
  have h2 := h.few
  have h3 := encN_small p.nodes (fun z hz => ⟨(h.nodes.each z hz).1, by have := (h.nodes.each z hz).2; omega⟩)
  have h4 := encSs_small p.ss (fun q hq => by
    have hl := kv.ok_ll (h.each q hq)
    have ho := encOs_small q (fun o ho => by
      obtain ⟨k1, k2, _⟩ := (h.each q hq).each o ho
      have k3 := k1.1
      have k4 := k1.2
      rcases k2 with ⟨a, b⟩ | ⟨a, x, b, _⟩ | ⟨a, b, _⟩
      · exact encO_small ⟨k3, k4⟩ (by omega) (by omega)
      · obtain ⟨hx, e⟩ := (pm.find_iff (h.each q hq).rise _ _).1 b
        have hn := ((h.each q hq).each x hx).1
        rw [e] at hn
        exact encO_small ⟨k3, k4⟩ (by omega) ⟨by have := hn.1; omega, hn.2⟩
      · exact encO_small ⟨k3, k4⟩ (by omega) (by omega))
    unfold kv.encS
    rw [List.length_append, num_one (by omega) (by omega), ho]
    omega)
  unfold kv.encP
  simp only [List.length_append]
  rw [num_one (z := p.nodes.length) (by omega) (by omega), num_one (z := p.ss.length) (by omega) (by omega), h3]
  have n1 := kv.num_len p.ver
  omega
/-- what a store tells -/
theorem dec_enc {p : pm.Pl} (h : pm.chk p = 0) : kv.decE (kv.encP p) = 0 ∧ kv.decP (kv.encP p) = p := by
  have hs := kv.rdP_enc (kv.small_ok (pm.chk_iff.1 h))
  have hg : kv.GoodB (kv.encP p) := ⟨by rw [hs.2], by rw [hs.2], by rw [hs.1]; exact h⟩
  unfold kv.decE kv.decP
  rw [if_pos hg, if_pos hg]
  exact ⟨rfl, hs.1⟩
theorem dec_nil : kv.decE [] ≠ 0 ∧ kv.decP [] = kv.zeroPl := by
  have h3 : (kv.s3 []).2 = false := by
    have e : (kv.rd ([], true)).2.2 = false := by rw [kv.rd_no (by left; rfl)]
    have e2 : (kv.s2 []).2 = false := kv.rd_bad e
    unfold kv.s3
    rw [kv.rdN_bad e2]
    exact e2
  have hg : ¬ kv.GoodB [] := kv.bad3 h3
  unfold kv.decE kv.decP
  rw [if_neg hg, if_neg hg]
  exact ⟨by decide, rfl⟩
/-- a placement behind what is there -/
noncomputable def nextP (p : pm.Pl) (k a b : Int) : pm.Pl :=
  if k = 0 then pm.addPl p a else if k = 1 then pm.removePl p a else if k = 2 then pm.replacePl p a b else pm.donePl p a b
end Go.Proofs.YtnjdondkggkfoaaGreat.ks
/-
  The store over the disk as memory; clear.
-/
namespace Go.Proofs.YtnjdondkggkfoaaGreat.ks
open Go.ChangeShapes Go.WideShapes Go.ChangeAt Go.RowKit Go.Shelf Go.Maps Go.Sort plain words ord mem al dk

/-- the store at block s over the disk at block p, apart from X -/
def KS (X : Nat → Prop) (w0 w : World) (s p : Nat) (st : dk.St) (tx : Nm) : Prop :=
  One (fun k => X k ∨ k = s) w0 w p st ∧ w.heap[s]? = some (.cells #[ptr p, .string (bs tx)] 72 (0, 0)) ∧ w0.heap.size ≤ s ∧ ¬ X s
def RetK (X : Nat → Prop) (w0 w : World) (s p : Nat) (st : dk.St) (tx : Nm) (r : Value) (e : Ending) (w' : World) : Prop :=
  e = .returned r ∧ KS X w0 w' s p st tx ∧ Chg (fun k => ¬ X k) w w'
section
variable {X : Nat → Prop} {w0 w w' : World} {s p : Nat} {st st' : dk.St} {tx : Nm}
theorem KS.quiet (h : KS X w0 w s p st tx) (hb : Below w.heap.size w w') : KS X w0 w' s p st tx :=
  ⟨h.1.quiet hb, blk_below hb h.2.1 (blk_lt h.2.1), h.2.2⟩
theorem KS.below (h : KS X w0 w s p st tx) : Below w0.heap.size w0 w := h.1.below
theorem KS.mark (h : KS X w0 w s p st tx) (hb : Below w.heap.size w w') {Y : Nat → Prop} (hY : ∀ k, Y k → X k ∨ w.heap.size ≤ k) (hYl : ∀ k, Y k → k < w'.heap.size) : KS Y w0 w' s p st tx := by
  have hl := blk_lt h.2.1
  have hs := hb.size
  refine ⟨h.1.mark hb (fun k hk => ?_) (fun k hk => ?_), blk_below hb h.2.1 hl, h.2.2.1, fun e => ?_⟩
  · rcases hk with e | e
    · rcases hY k e with e2 | e2
      · exact .inl (.inl e2)
      · exact .inr e2
    · exact .inl (.inr e)
  · rcases hk with e | e
    · exact hYl k e
    · omega
  · rcases hY s e with e2 | e2
    · exact h.2.2.2 e2
    · omega
theorem KS.on (h : KS X w0 w s p st tx) {f : FuncId} {args : Array Value} {r : Value} (hc : ∀ F, Dk w p F st → Calls Tryz.prog f args w (RetDk w p F st' r)) : Calls Tryz.prog f args w (RetK X w0 w s p st' tx r) := by
  refine (h.1.on hc).mono ?_
  rintro e w1 ⟨rfl, h1, h2⟩
  exact ⟨rfl, ⟨h1, h2.blk h.2.1 (fun e => e (.inr rfl)), h.2.2⟩, h2.mono fun k _ e e2 => e (.inl e2)⟩
theorem KS.cells (h : KS X w0 w s p st tx) : w.cell? ⟨s, 0, none⟩ = some (ptr p) ∧ w.cell? ⟨s, 1, none⟩ = some (.string (bs tx)) ∧ s < w.heap.size := by
  refine ⟨?_, ?_, blk_lt h.2.1⟩ <;> (rw [cell_of_row _ _ _ _ _ _ h.2.1]; rfl)
theorem RetK.trans {w1 w2 : World} {r r2 : Value} {e : Ending} (hc : Chg (fun k => ¬ X k) w w1) (h : RetK X w0 w1 s p st tx r e w2) : RetK X w0 w s p st tx r e w2 := ⟨h.1, h.2.1, hc.trans h.2.2 fun _ _ e => e⟩
end
set_option maxRecDepth 100000 in
theorem clear_k (X : Nat → Prop) (w0 w : World) (s p : Nat) (st : dk.St) (tx : Nm) (h : KS X w0 w s p st tx) (hs : Small st) :
    Calls Tryz.prog 36 #[ptr s] w (RetK X w0 w s p (clr st).1 tx (.int .i64 (clr st).2)) := by
  obtain ⟨c0, c1, hl⟩ := h.cells
  have H := Lib.hid h
  have HR := Lib.hid (h.on (fun F hF => read_d w p F st up hF (by decide)))
  rw [ans_eq] at HR
  obtain ⟨o, ho⟩ : ∃ o, al.get st.shown up = o := ⟨_, rfl⟩
  rw [ho] at HR
  obtain ⟨cl, hcl⟩ : ∃ cl, clr st = cl := ⟨_, rfl⟩
  rw [hcl]
  have HC := Lib.hid (And.intro ho hcl)
  clear h ho hcl
  go_enter Tryz.func36, Tryz.ntmps36
  go_wp2_with (fail)
  refine HR.out.mono ?_
  rintro e w2 ⟨rfl, h2, ch2⟩
  obtain ⟨d0, d1, hl2⟩ := h2.cells
  have H2 := Lib.hid h2
  have CH2 := Lib.hid ch2
  clear c0 c1 hl h2 ch2
  cases o with
  | none =>
    go_wp2_with (fail)
    go_ret
    have e1 : cl = (st, 0) := by rw [← HC.out.2]; unfold clr; rw [if_pos HC.out.1]
    subst e1
    exact ⟨rfl, H2.out, CH2.out⟩
  | some t =>
    have e1 : cl = remSt st up := by rw [← HC.out.2]; unfold clr; rw [HC.out.1]; rfl
    clear HC
    subst e1
    have HM := Lib.hid (H2.out.on (fun F hF => remove_d w2 p F st up hF hs))
    go_wp2_with (fail)
    refine HM.out.mono ?_
    rintro e w3 ⟨rfl, h3, ch3⟩
    have H3 := Lib.hid (And.intro h3 (CH2.out.trans ch3 fun _ _ e => e))
    clear h3 ch3
    go_wp2_with (fail)
    go_ret
    exact ⟨rfl, H3.out.1, H3.out.2⟩
end Go.Proofs.YtnjdondkggkfoaaGreat.ks
/-
  The store's write: its closures, its loop over the steps.
-/
namespace Go.Proofs.YtnjdondkggkfoaaGreat.ks
open Go.ChangeShapes Go.WideShapes Go.ChangeAt Go.RowKit Go.Shelf Go.Maps Go.Sort plain words ord mem al dk

def boxP (w : World) (b s : Nat) : Prop := w.heap[b]? = some (.cells #[ptr s] 31 (0, 0))
set_option maxRecDepth 100000 in
theorem step_app (X : Nat → Prop) (w0 w : World) (s p b1 b2 : Nat) (st : dk.St) (tx t : Nm) (h : KS X w0 w s p st tx) (hs : Small st) (hr0 : 0 ≤ st.room) (hr1 : st.room ≤ 1073741824) (ht : t.length ≤ 1000000000) (g1 : boxP w b1 s) (g2 : boxS w b2 t) :
    Calls Tryz.prog 64 #[ptr b1, ptr b2] w (RetK X w0 w s p (appSt st up t).1 tx (.int .i64 (appSt st up t).2)) := by
  obtain ⟨c0, c1, hl⟩ := h.cells
  have x1 : w.cell? ⟨b1, 0, none⟩ = some (ptr s) := by rw [cell_of_row _ _ _ _ _ _ g1]; rfl
  have x2 : w.cell? ⟨b2, 0, none⟩ = some (.string (bs t)) := by rw [cell_of_row _ _ _ _ _ _ g2]; rfl
  have l1 := blk_lt g1
  have l2 := blk_lt g2
  have HA := Lib.hid ((h.quiet (Below.refl _ w).drew).on (fun F hF => append_d w.drew p F st up t hF hs hr0 hr1 (by omega)))
  clear h g1 g2 hs
  go_enter Tryz.func64, Tryz.ntmps64
  have z0 := Wb.at_ c0
  have z1 := Wb.at_ x1
  have z2 := Wb.at_ x2
  go_wp2_with (fail)
  refine wp_region_plan [([0, 1, 2, 3, 4], some (5, true)), ([6], none)] (by kernel_rfl) (by kernel_rfl) ?_
  refine seg_write _ (by dsimp only [pick, at_]) _ (by dsimp only [pick, at_]) ?_
  repeat (go_big_quiet_step (fail))
  refine wpQuiet_nil ?_
  intro K1 h2
  clear z0 z1 z2
  go_wp2_with (fail)
  refine HA.out.mono ?_
  rintro e w2 ⟨rfl, hk2, ch2⟩
  have H2 := Lib.hid (And.intro hk2 ch2)
  go_wp2_with (fail)
  refine seg_end _ (by dsimp only [pick, at_]) ?_
  repeat (go_big_quiet_step (fail))
  refine wpQuiet_nil (NoPanic.normal ?_)
  clear hk2 ch2
  go_wp2_with (fail)
  go_ret
  exact ⟨rfl, H2.out.1, ((Chg.of_below (Below.refl _ w).drew).mono (fun _ _ e => e.elim)).trans H2.out.2 fun _ _ e => e⟩
set_option maxRecDepth 100000 in
theorem step_ren (X : Nat → Prop) (w0 w : World) (s p b1 : Nat) (st : dk.St) (tx : Nm) (h : KS X w0 w s p st tx) (hs : Small st) (g1 : boxP w b1 s) :
    Calls Tryz.prog 66 #[ptr b1] w (RetK X w0 w s p (renSt st up cu).1 tx (.int .i64 (renSt st up cu).2)) := by
  obtain ⟨c0, c1, hl⟩ := h.cells
  have x1 : w.cell? ⟨b1, 0, none⟩ = some (ptr s) := by rw [cell_of_row _ _ _ _ _ _ g1]; rfl
  have l1 := blk_lt g1
  have HA := Lib.hid (h.on (fun F hF => rename_d w p F st up cu hF hs))
  clear h g1 hs
  go_enter Tryz.func66, Tryz.ntmps66
  go_wp2_with (fail)
  refine HA.out.mono ?_
  rintro e w2 ⟨rfl, h2, ch2⟩
  have H2 := Lib.hid (And.intro h2 ch2)
  clear h2 ch2
  go_wp2_with (fail)
  go_ret
  exact ⟨rfl, H2.out.1, H2.out.2⟩
/-- the disk behind i steps, and what the last one answered -/
def stg (st : dk.St) (t : Nm) : Nat → dk.St × Int
  | 0 => (st, 0)
  | 1 => clr st
  | 2 => appSt (clr st).1 up t
  | 3 => (syncSt (appSt (clr st).1 up t).1, doE (appSt (clr st).1 up t).1)
  | 4 => renSt (syncSt (appSt (clr st).1 up t).1) up cu
  | _ => (syncSt (renSt (syncSt (appSt (clr st).1 up t).1) up cu).1, doE (renSt (syncSt (appSt (clr st).1 up t).1) up cu).1)
theorem stg_all {st : dk.St} {t : Nm} (h : ∀ j, j ≤ 5 → (stg st t j).2 = 0) : wrS st t = ((stg st t 5).1, 0) := by
  have h1 : (clr st).2 = 0 := h 1 (by omega)
  have h2 : (appSt (clr st).1 up t).2 = 0 := h 2 (by omega)
  have h3 : doE (appSt (clr st).1 up t).1 = 0 := h 3 (by omega)
  have h4 : (renSt (syncSt (appSt (clr st).1 up t).1) up cu).2 = 0 := h 4 (by omega)
  have h5 : doE (renSt (syncSt (appSt (clr st).1 up t).1) up cu).1 = 0 := h 5 (by omega)
  unfold wrS wr2 wr3 wr4 wr5
  rw [if_pos h1, if_pos h2, if_pos h3]
  show (if (renSt (syncSt (appSt (clr st).1 up t).1) up cu).2 = 0 then _ else _) = _
  rw [if_pos h4]
  show (_, doE (renSt (syncSt (appSt (clr st).1 up t).1) up cu).1) = _
  rw [h5]
  rfl
theorem stg_bad {st : dk.St} {t : Nm} {i : Nat} (hi : i < 5) (h : ∀ j, j ≤ i → (stg st t j).2 = 0) (hb : (stg st t (i + 1)).2 ≠ 0) : wrS st t = stg st t (i + 1) := by
  rcases (show i = 0 ∨ i = 1 ∨ i = 2 ∨ i = 3 ∨ i = 4 by omega) with rfl | rfl | rfl | rfl | rfl
  · exact if_neg hb
  · have h1 : (clr st).2 = 0 := h 1 (by omega)
    unfold wrS wr2
    rw [if_pos h1]
    exact if_neg hb
  · have h1 : (clr st).2 = 0 := h 1 (by omega)
    have h2 : (appSt (clr st).1 up t).2 = 0 := h 2 (by omega)
    unfold wrS wr2 wr3
    rw [if_pos h1, if_pos h2]
    exact if_neg hb
  · have h1 : (clr st).2 = 0 := h 1 (by omega)
    have h2 : (appSt (clr st).1 up t).2 = 0 := h 2 (by omega)
    have h3 : doE (appSt (clr st).1 up t).1 = 0 := h 3 (by omega)
    unfold wrS wr2 wr3 wr4
    rw [if_pos h1, if_pos h2, if_pos h3]
    exact if_neg hb
  · have h1 : (clr st).2 = 0 := h 1 (by omega)
    have h2 : (appSt (clr st).1 up t).2 = 0 := h 2 (by omega)
    have h3 : doE (appSt (clr st).1 up t).1 = 0 := h 3 (by omega)
    have h4 : (renSt (syncSt (appSt (clr st).1 up t).1) up cu).2 = 0 := h 4 (by omega)
    unfold wrS wr2 wr3 wr4 wr5
    rw [if_pos h1, if_pos h2, if_pos h3]
    show (if (renSt (syncSt (appSt (clr st).1 up t).1) up cu).2 = 0 then _ else _) = _
    rw [if_pos h4]
    rfl
/-- the steps: which function, with what -/
def fvs (s p b : Nat) : Nat → FuncId × Array Value × Array Value
  | 0 => (36, #[ptr s], #[])
  | 1 => (64, #[], #[ptr b, ptr (b + 1)])
  | 2 => (37, #[ptr p], #[])
  | 3 => (66, #[], #[ptr b])
  | _ => (37, #[ptr p], #[])
structure Fit (st : dk.St) (t : Nm) : Prop where
  small : ∀ i, i < 5 → (∀ j, j ≤ i → (stg st t j).2 = 0) → Small (stg st t i).1
  r0 : 0 ≤ (clr st).1.room
  r1 : (clr st).1.room ≤ 1073741824
  len : t.length ≤ 1000000000
theorem step_i (Y : Nat → Prop) (w0 w : World) (s p b i : Nat) (st : dk.St) (tx t : Nm) (h : KS Y w0 w s p (stg st t i).1 tx) (hf : Fit st t) (hi : i < 5) (hz : ∀ j, j ≤ i → (stg st t j).2 = 0) (g1 : boxP w b s) (g2 : boxS w (b + 1) t) :
    Calls Tryz.prog (fvs s p b i).1 ((fvs s p b i).2.1 ++ (fvs s p b i).2.2) w (RetK Y w0 w s p (stg st t (i + 1)).1 tx (.int .i64 (stg st t (i + 1)).2)) := by
  have hs := hf.small i hi hz
  rcases (show i = 0 ∨ i = 1 ∨ i = 2 ∨ i = 3 ∨ i = 4 by omega) with rfl | rfl | rfl | rfl | rfl
  · exact clear_k Y w0 w s p st tx h hs
  · exact step_app Y w0 w s p b (b + 1) (clr st).1 tx t h hs hf.r0 hf.r1 hf.len g1 g2
  · exact h.on (fun F hF => sync_d w p F _ hF hs)
  · exact step_ren Y w0 w s p b _ tx h hs g1
  · exact h.on (fun F hF => sync_d w p F _ hF hs)
set_option maxRecDepth 100000 in
theorem enters_v (s p b i : Nat) : ∀ (args : Array Value) (w : World), (callFunc (fvs s p b i).1 args).run Tryz.prog w = .ok (.enter (fvs s p b i).1 args) w := by
  intro args w
  rcases (show i = 0 ∨ i = 1 ∨ i = 2 ∨ i = 3 ∨ 4 ≤ i by omega) with rfl | rfl | rfl | rfl | h
  · rfl
  · rfl
  · rfl
  · rfl
  · obtain ⟨k, rfl⟩ : ∃ k, i = k + 4 := ⟨i - 4, by omega⟩
    rfl
end Go.Proofs.YtnjdondkggkfoaaGreat.ks
/-
  The store's write: the walk.
-/
namespace Go.Proofs.YtnjdondkggkfoaaGreat.ks
open Go.ChangeShapes Go.WideShapes Go.ChangeAt Go.RowKit Go.Shelf Go.Maps Go.Sort plain words ord mem al dk

set_option maxRecDepth 100000 in
set_option maxHeartbeats 4000000 in
theorem write_k (X : Nat → Prop) (w0 w : World) (s p : Nat) (st : dk.St) (tx t : Nm) (h : KS X w0 w s p st tx) (hf : Fit st t) :
    Calls Tryz.prog 35 #[ptr s, .string (bs t)] w (RetK X w0 w s p (wrS st t).1 tx (.int .i64 (wrS st t).2)) := by
  obtain ⟨w2, hw2⟩ : ∃ w2, (w.alloc (.cells #[ptr s] 31)).alloc (.cells #[.string (bs t)] 9) = w2 := ⟨_, rfl⟩
  obtain ⟨ha1, ha2, hb2, hs2⟩ := alloc2 w (.cells #[ptr s] 31) (.cells #[.string (bs t)] 9)
  rw [hw2] at ha1 ha2 hb2 hs2
  have h2 := h.quiet hb2
  obtain ⟨c0, c1, hl⟩ := h2.cells
  have x1 : w2.cell? ⟨w.heap.size, 0, none⟩ = some (ptr s) := by rw [cell_of_row _ _ _ _ _ _ ha1]; rfl
  have x2 : w2.cell? ⟨w.heap.size + 1, 0, none⟩ = some (.string (bs t)) := by rw [cell_of_row _ _ _ _ _ _ ha2]; rfl
  have l1 := blk_lt ha1
  have l2 := blk_lt ha2
  have hmf : ∀ (fn : Fn) (first cap : Array Value) (w : World), (Instr.makeFunc fn first cap).run Tryz.prog w = .ok (.func fn first cap) w := fun _ _ _ _ => rfl
  have H := Lib.hid h
  have HW2 := Lib.hid hw2
  have HF := Lib.hid hf
  have HA := Lib.hid (And.intro ha1 (And.intro ha2 hb2))
  clear h h2 ha1 ha2 hb2 hw2 hf
  go_enter Tryz.func35, Tryz.ntmps35
  go_wp2_with (fail)
  rw [HW2.out]
  have z0 := Wb.at_ c0
  have z1 := Wb.at_ x1
  refine ordm.wp_region_tree (.reads [0, 3, 4, 5, 6, 9, 10, 11, 12, 16] (.same 1 (.same 2 (.same 7 (.same 8 (.same 13 (.one 14 false (.reads [15] .stop)))))))) (by kernel_rfl) (by kernel_rfl) ?_
  refine ordm.tr_reads _ (by dsimp only [pick, at_]) ?_
  repeat (go_big_quiet_step (fail))
  refine wpQuiet_nil ?_
  refine ordm.tr_make #[ptr s] #[] (by rfl) (by simp only [List.map_toArray, List.map_cons, List.map_nil] <;> rfl) (by simp only [List.map_toArray, List.map_cons, List.map_nil] <;> rfl) ?_
  simp only [Act.put, List.setIfInBounds_toArray, List.set_cons_succ, List.set_cons_zero]
  refine ordm.tr_make #[] #[ptr w.heap.size, ptr (w.heap.size + 1)] (by rfl) (by simp only [List.map_toArray, List.map_cons, List.map_nil] <;> rfl) (by simp only [List.map_toArray, List.map_cons, List.map_nil] <;> rfl) ?_
  simp only [Act.put, List.setIfInBounds_toArray, List.set_cons_succ, List.set_cons_zero]
  refine ordm.tr_make #[ptr p] #[] (by rfl) (by simp only [List.map_toArray, List.map_cons, List.map_nil] <;> rfl) (by simp only [List.map_toArray, List.map_cons, List.map_nil] <;> rfl) ?_
  simp only [Act.put, List.setIfInBounds_toArray, List.set_cons_succ, List.set_cons_zero]
  refine ordm.tr_make #[] #[ptr w.heap.size] (by rfl) (by simp only [List.map_toArray, List.map_cons, List.map_nil] <;> rfl) (by simp only [List.map_toArray, List.map_cons, List.map_nil] <;> rfl) ?_
  simp only [Act.put, List.setIfInBounds_toArray, List.set_cons_succ, List.set_cons_zero]
  refine ordm.tr_make #[ptr p] #[] (by rfl) (by simp only [List.map_toArray, List.map_cons, List.map_nil] <;> rfl) (by simp only [List.map_toArray, List.map_cons, List.map_nil] <;> rfl) ?_
  simp only [Act.put, List.setIfInBounds_toArray, List.set_cons_succ, List.set_cons_zero]
  refine ordm.tr_one _ (by dsimp only [pick, at_]) ?_
  intro KB g1 g2
  clear g1 z0 z1
  go_wp2_with (fail)
  refine g2 _ _ ((Below.refl _ _).drew.alloc (Nat.le_refl _) _) ?_
  refine ordm.tr_reads _ (by dsimp only [pick, at_]) ?_
  repeat (go_big_quiet_step (fail))
  refine wpQuiet_nil ?_
  refine ordm.tr_stop (NoPanic.normal ?_)
  clear hmf x1 x2 c0 c1 g2
  obtain ⟨b, hb⟩ : ∃ b, w.heap.size = b := ⟨_, rfl⟩
  obtain ⟨w3, hw3⟩ : ∃ w3, (w2.alloc (.cells #[.func (.func (fvs s p b 0).1) (fvs s p b 0).2.1 (fvs s p b 0).2.2, .func (.func (fvs s p b 1).1) (fvs s p b 1).2.1 (fvs s p b 1).2.2, .func (.func (fvs s p b 2).1) (fvs s p b 2).2.1 (fvs s p b 2).2.2, .func (.func (fvs s p b 3).1) (fvs s p b 3).2.1 (fvs s p b 3).2.2, .func (.func (fvs s p b 4).1) (fvs s p b 4).2.1 (fvs s p b 4).2.2] 80)).drew = w3 := ⟨_, rfl⟩
  have gR : w3.heap[b + 2]? = some (.cells #[.func (.func (fvs s p b 0).1) (fvs s p b 0).2.1 (fvs s p b 0).2.2, .func (.func (fvs s p b 1).1) (fvs s p b 1).2.1 (fvs s p b 1).2.2, .func (.func (fvs s p b 2).1) (fvs s p b 2).2.1 (fvs s p b 2).2.2, .func (.func (fvs s p b 3).1) (fvs s p b 3).2.1 (fvs s p b 3).2.2, .func (.func (fvs s p b 4).1) (fvs s p b 4).2.1 (fvs s p b 4).2.2] 80 (0, 0)) := by
    rw [← hw3, ← hb, ← hs2]; exact alloc_new _ _
  have hb3 : Below w2.heap.size w2 w3 := by rw [← hw3]; exact ((Below.refl _ _).alloc (Nat.le_refl _) _).drew
  have hw3' := hw3
  simp only [fvs] at hw3'
  rw [hb, hw3']
  clear hw3 hw3'
  have hbw : Below w.heap.size w w3 := HA.out.2.2.trans (hb3.mono HA.out.2.2.size)
  have hs3 := blk_lt gR
  have HK := Lib.hid (H.out.mark (Y := fun k => X k ∨ k = b ∨ k = b + 1 ∨ k = b + 2) hbw (fun k hk => by
    rcases hk with e | e
    · exact .inl e
    · exact .inr (by omega)) (fun k hk => by
    rcases hk with e | e
    · have := H.out.1; obtain ⟨F, k1, k2, k3, k4⟩ := this
      exact Nat.lt_of_lt_of_le (k4 k (.inl e)) hbw.size
    · omega))
  have g1 : boxP w3 b s := by rw [← hb]; exact blk_below hb3 HA.out.1 (blk_lt HA.out.1)
  have g2 : boxS w3 (b + 1) t := by rw [← hb]; exact blk_below hb3 HA.out.2.1 (blk_lt HA.out.2.1)
  have GG := Lib.hid (And.intro gR (And.intro g1 g2))
  have HB := Lib.hid hbw
  have HBB := Lib.hid hb
  clear gR g1 g2 hbw hb hb3 hs2 l1 l2 hl hs3
  go_wp2_with (fail)
  go_loopg [4, 6, 7, 24] 5 (fun gg s4 s6 s7 s24 wr => ∃ (i : Nat), s4 = .int .i64 0 ∧ s24 = .int .i64 i ∧ i ≤ 5 ∧ 5 - i ≤ gg ∧ Aside (KS (fun k => X k ∨ k = b ∨ k = b + 1 ∨ k = b + 2) w0 wr s p (stg st t i).1 tx) ∧ Aside (∀ j, j ≤ i → (stg st t j).2 = 0) ∧ Aside (Chg (fun k => ¬ (X k ∨ k = b ∨ k = b + 1 ∨ k = b + 2)) w3 wr))
  case atStart => exact ⟨0, rfl, rfl, Nat.zero_le _, by omega, HK.out, fun j hj => by rw [Nat.le_zero.1 hj]; rfl, Chg.refl _ _⟩
  case round =>
    obtain ⟨i, rfl, rfl, hi, hg, PK, PZ, PC⟩ := hrel
    obtain ⟨wv, rfl⟩ : ∃ wv, wv = wr := ⟨wr, rfl⟩
    by_cases hlt : i < 5
    · have gR := PC.out.blk GG.out.1 (fun e => e (.inr (.inr (.inr rfl))))
      have g1 := PC.out.blk GG.out.2.1 (fun e => e (.inr (.inl rfl)))
      have g2 := PC.out.blk GG.out.2.2 (fun e => e (.inr (.inr (.inl rfl))))
      have lR := blk_lt gR
      have HC := Lib.hid (step_i _ w0 wv s p b i st tx t PK.out HF.out hlt PZ.out g1 g2)
      have hent := enters_v s p b i
      have x0 : wv.cell? ⟨b + 2, i, none⟩ = some (.func (.func (fvs s p b i).1) (fvs s p b i).2.1 (fvs s p b i).2.2) := by
        rw [cell_of_row _ _ _ _ _ _ gR]
        rcases (show i = 0 ∨ i = 1 ∨ i = 2 ∨ i = 3 ∨ i = 4 by omega) with rfl | rfl | rfl | rfl | rfl <;> rfl
      obtain ⟨fid, hfid⟩ : ∃ fid, (fvs s p b i).1 = fid := ⟨_, rfl⟩
      obtain ⟨fir, hfir⟩ : ∃ fir, (fvs s p b i).2.1 = fir := ⟨_, rfl⟩
      obtain ⟨caps, hcaps⟩ : ∃ caps, (fvs s p b i).2.2 = caps := ⟨_, rfl⟩
      rw [hfid, hfir, hcaps] at x0 HC
      rw [hfid] at hent
      obtain ⟨E, hE⟩ : ∃ E, (stg st t (i + 1)).2 = E := ⟨_, rfl⟩
      rw [hE] at HC
      have HE := Lib.hid hE
      have i1 : (i : Int) < 5 := by omega
      have i0 : (0 : Int) ≤ (i : Int) := by omega
      clear gR g1 g2 hfid hfir hcaps hE
      go_wp2_with (fail)
      refine HC.out.mono ?_
      rintro e w4 ⟨rfl, hk4, ch4⟩
      have H4 := Lib.hid (And.intro hk4 (PC.out.trans ch4 fun _ _ e => e))
      clear hk4 ch4 x0 lR hent HC
      by_cases hE0 : E = 0
      · subst hE0
        go_wp2_with (fail)
        go_roundg (5 - (i + 1))
        case measure => omega
        case rel =>
          refine ⟨i + 1, rfl, by go_num, by omega, by omega, H4.out.1, fun j hj => ?_, H4.out.2⟩
          rcases Nat.lt_or_ge j (i + 1) with h | h
          · exact PZ.out j (by omega)
          · rw [show j = i + 1 by omega]; exact HE.out
      · go_wp2_with (fail)
        go_ret
        have e1 := stg_bad hlt PZ.out (by rw [HE.out]; exact hE0)
        rw [e1, HE.out]
        refine ⟨rfl, ?_, ?_⟩
        · exact H4.out.1.mark (Below.refl _ _) (fun k hk => .inl (.inl hk)) (fun k hk => by obtain ⟨F, k1, k2, k3, k4⟩ := H4.out.1.1; exact k4 k (.inl (.inl hk)))
        · exact ((Chg.of_below HB.out).mono (fun _ _ e => e.elim)).trans (H4.out.2.mono fun k _ e e2 => e (.inl e2)) fun _ _ e => e
    · have hi5 : i = 5 := by omega
      subst hi5
      go_wp2_with (fail)
      go_ret
      have e1 := stg_all PZ.out
      rw [e1]
      refine ⟨rfl, ?_, ?_⟩
      · exact PK.out.mark (Below.refl _ _) (fun k hk => .inl (.inl hk)) (fun k hk => by obtain ⟨F, k1, k2, k3, k4⟩ := PK.out.1; exact k4 k (.inl (.inl hk)))
      · exact ((Chg.of_below HB.out).mono (fun _ _ e => e.elim)).trans (PC.out.mono fun k _ e e2 => e (.inl e2)) fun _ _ e => e
end Go.Proofs.YtnjdondkggkfoaaGreat.ks
/-
  The store's Open, Get.
-/
namespace Go.Proofs.YtnjdondkggkfoaaGreat.ks
open Go.ChangeShapes Go.WideShapes Go.ChangeAt Go.RowKit Go.Shelf Go.Maps Go.Sort plain words ord mem al dk

theorem bs_string (w : World) (s : ByteArray) (C : Nat) (t : TypeId) (fr : Nat × Nat) : Bs ((w.alloc (.cells (bytesRow s C) t fr)).drew) (w.heap.size + 1) (some ⟨w.heap.size, 0, none⟩) s.size s.data.toList :=
  ⟨by rw [u8s_length]; simp, fun j hj => by
    refine ⟨_, _, .int .u8 (s.data[j].toNat : Int), rfl, by omega, ?_, ?_⟩
    · unfold u8s
      rw [List.getElem?_map, Array.getElem?_toList, Array.getElem?_eq_getElem hj]
      rfl
    · show (w.alloc (.cells (bytesRow s C) t fr)).cell? ⟨w.heap.size, 0 + j, none⟩ = _
      rw [World.cell?_alloc_mark, Nat.zero_add, bytesRow_at s C j hj]⟩
theorem od_chg {S : Nat → Prop} {w w' : World} {B : Nat} {v : pm.PV} (h : pm.OD w B v) (hc : Chg S w w') (hS : ∀ k, B ≤ k → ¬ S k) : pm.OD w' B v :=
  ⟨h.n.chg hc (fun g hg => hS g (h.n.lt g hg).1), h.s.chg hc (fun g hg => hS g (h.s.lt g hg).1), fun r hr => (h.each r hr).chg hc (fun g hg => hS g ((h.each r hr).lt g hg).1), h.apart⟩
/-- what a store tells -/
def RetGet (w : World) (tx : Nm) (e : Ending) (w' : World) : Prop := ∃ v : pm.PV, e = .returned (.tuple #[v.val, .bool (decide (kv.decE tx = 0))]) ∧ v.pl = kv.decP tx ∧ pm.OD w' w.heap.size v ∧ Below w.heap.size w w'
set_option maxRecDepth 100000 in
set_option maxHeartbeats 1000000 in
theorem get_k (X : Nat → Prop) (w0 w : World) (s p : Nat) (st : dk.St) (tx : Nm) (h : KS X w0 w s p st tx) (ht : tx.length ≤ 1000000) :
    Calls Tryz.prog 11 #[ptr s] w (RetGet w tx) := by
  obtain ⟨c0, c1, hl⟩ := h.cells
  obtain ⟨w1, hw1⟩ : ∃ w1, w.alloc (.cells #[.int .i64 0, .slice none 0 0, .slice none 0 0] 25) = w1 := ⟨_, rfl⟩
  have hb1 : Below w.heap.size w w1 := by rw [← hw1]; exact (Below.refl _ _).alloc (Nat.le_refl _) _
  have ga : w1.heap[w.heap.size]? = some (.cells #[.int .i64 0, .slice none 0 0, .slice none 0 0] 25 (0, 0)) := by rw [← hw1]; exact alloc_new _ _
  obtain ⟨w2, C, hconv, hbs2, hb2, hs2, hcap, hcap'⟩ : ∃ W2 C, (convert 9 36 (.string (bs tx))).run Tryz.prog w1 = .ok (.slice (some ⟨w1.heap.size, 0, none⟩) tx.length C) W2 ∧ Bs W2 (w1.heap.size + 1) (some ⟨w1.heap.size, 0, none⟩) tx.length tx ∧ Below w1.heap.size w1 W2 ∧ W2.heap.size = w1.heap.size + 1 ∧ tx.length ≤ C ∧ C ≤ maxLen := by
    have h1 := run_bytes_of_string (P := Tryz.prog) w1 9 36 5 (bs tx) Tryz.underlying9 Tryz.underlying36 Tryz.underlying5
    rw [bs_size] at h1
    have h2 := bs_string w1 (bs tx)
    rw [bs_size, bs_list] at h2
    exact ⟨_, _, h1, h2 _ _ _, ((Below.refl _ w1).drew.alloc (Nat.le_refl _) _), World.size_alloc _ _, grownCap_ge _ _ _ _, grownCap_le_maxLen _ _ _ _ (by unfold maxLen; omega)⟩
  have HDEC := Lib.hid (kv.decode_x w2 (w1.heap.size + 1) tx.length C (some ⟨w1.heap.size, 0, none⟩) tx hbs2 (by omega) hcap (by unfold maxLen at hcap'; omega) (by omega))
  have HB := Lib.hid (And.intro (hb1.trans (hb2.mono hb1.size)) hb2)
  have ga2 := blk_below hb2 ga (blk_lt ga)
  have la2 := blk_lt ga2
  have hl12 : w.heap.size < w2.heap.size := la2
  have GA := Lib.hid ga2
  have HW1 := Lib.hid hw1
  obtain ⟨n, hn⟩ : ∃ n, tx.length = n := ⟨_, rfl⟩
  rw [hn] at HDEC hconv
  clear h ht hb1 ga hbs2 hb2 hs2 hcap hcap' ga2 hw1 hn
  obtain ⟨de, hde⟩ : ∃ de, kv.decE tx = de := ⟨_, rfl⟩
  unfold kv.RetDec at HDEC
  rw [hde] at HDEC
  unfold RetGet
  rw [hde]
  go_enter Tryz.func11, Tryz.ntmps11
  go_wp2_with (fail)
  rw [HW1.out, hconv]
  go_wp2_with (fail)
  refine HDEC.out.mono ?_
  rintro e w3 ⟨v, rfl, hpl, hod, hb3⟩
  have gb := blk_below hb3 GA.out la2
  have s3 := hb3.size
  have HV := Lib.hid (And.intro hpl (And.intro hod hb3))
  have GB := Lib.hid gb
  obtain ⟨q0, q1, q2⟩ : w3.cell? ⟨w.heap.size, 0, none⟩ = some (.int .i64 0) ∧ w3.cell? ⟨w.heap.size, 1, none⟩ = some (.slice none 0 0) ∧ w3.cell? ⟨w.heap.size, 2, none⟩ = some (.slice none 0 0) := by
    refine ⟨?_, ?_, ?_⟩ <;> (rw [cell_of_row _ _ _ _ _ _ gb]; rfl)
  have lb := blk_lt gb
  have f0 := frozen_of_row _ _ 0 _ _ gb
  have f1 := frozen_of_row _ _ 1 _ _ gb
  have f2 := frozen_of_row _ _ 2 _ _ gb
  clear hconv hpl hod hb3 gb la2
  go_wp2_with (fail)
  have G3 : pm.IsV3 25 ((((w3.setCell ⟨w.heap.size, 0, none⟩ (.int .i64 v.ver)).setCell ⟨w.heap.size, 1, none⟩ (.slice v.nA v.nodes.length v.nc)).setCell ⟨w.heap.size, 2, none⟩ (.slice v.sA v.rs.length v.sc))) w.heap.size (.int .i64 v.ver) (.slice v.nA v.nodes.length v.nc) (.slice v.sA v.rs.length v.sc) := pm.set3 GB.out
  refine bodyPost_ret (pm.ret_cell rfl _ _ w.heap.size 25 _ _ _ rfl (alloc_old _ G3) Tryz.underlying25 rfl pm.sizeP) rfl ?_
  have hb03 : Below w.heap.size w w3 := HB.out.1.trans (HV.out.2.2.mono HB.out.1.size)
  have hb4 := pm.below_set3 hb03 (g := w.heap.size) (Nat.le_refl _) (.int .i64 v.ver) (.slice v.nA v.nodes.length v.nc) (.slice v.sA v.rs.length v.sc)
  have hch : Chg (fun k => k = w.heap.size) w3 (((w3.setCell ⟨w.heap.size, 0, none⟩ (.int .i64 v.ver)).setCell ⟨w.heap.size, 1, none⟩ (.slice v.nA v.nodes.length v.nc)).setCell ⟨w.heap.size, 2, none⟩ (.slice v.sA v.rs.length v.sc)) :=
    (((Chg.refl (fun k => k = w.heap.size) w3).setCell (p := ⟨w.heap.size, 0, none⟩) (fun _ => rfl) _).setCell (p := ⟨w.heap.size, 1, none⟩) (fun _ => rfl) _).setCell (p := ⟨w.heap.size, 2, none⟩) (fun _ => rfl) _
  have ho := od_chg HV.out.2.1 hch (fun k hk e => by omega)
  have hs4 := hb4.size
  refine ⟨v, rfl, HV.out.1, ?_, hb4.alloc hs4 _⟩
  exact (ho.below ((Below.refl _ _).alloc (Nat.le_refl _) _) (Nat.le_refl _)).base (by omega)
end Go.Proofs.YtnjdondkggkfoaaGreat.ks
/-
  The store's Set.
-/
namespace Go.Proofs.YtnjdondkggkfoaaGreat.ks
open Go.ChangeShapes Go.WideShapes Go.ChangeAt Go.RowKit Go.Shelf Go.Maps Go.Sort plain words ord mem al dk

theorem KS.text {X : Nat → Prop} {w0 w : World} {s p : Nat} {st : dk.St} {tx : Nm} (h : KS X w0 w s p st tx) (t : Nm) : KS X w0 (w.setCell ⟨s, 1, none⟩ (.string (bs t))) s p st t ∧ Chg (fun k => ¬ X k) w (w.setCell ⟨s, 1, none⟩ (.string (bs t))) := by
  obtain ⟨⟨F, h1, h2, h3, h4⟩, hb, h5, h6⟩ := h
  have hc : Chg (fun k => k = s) w (w.setCell ⟨s, 1, none⟩ (.string (bs t))) := (Chg.refl (fun k => k = s) _).setCell (p := ⟨s, 1, none⟩) (fun _ => rfl) _
  refine ⟨⟨⟨F, h1.chg hc (fun k hk e => (h2 k hk).2 (.inr e)), h2, h3.setCell (p := ⟨s, 1, none⟩) h5 _, fun k hk => Nat.lt_of_lt_of_le (h4 k hk) hc.size⟩, ?_, h5, h6⟩, hc.mono fun k _ e e2 => h6 (e ▸ e2)⟩
  have := setp_obj (o := 1) (u := .string (bs t)) hb
  rw [this]
  simp
theorem decP_ver (b : List UInt8) : 0 ≤ (kv.decP b).ver ∧ (kv.decP b).ver ≤ 1099511627776 := by
  unfold kv.decP
  split
  · exact kv.rd_range _
  · exact ⟨Int.le_refl _, by decide⟩
/-- what Set asks for -/
structure Can (st : dk.St) (t : Nm) : Prop where
  fit : Fit st t
  full : (wrS st t).2 = 12 → Small (wrS st t).1 ∧ Small (clr (wrS st t).1).1
set_option maxRecDepth 100000 in
set_option maxHeartbeats 4000000 in
theorem set_k (X : Nat → Prop) (w0 w : World) (s p : Nat) (st : dk.St) (tx : Nm) (ex : Int) (B : Nat) (v : pm.PV) (h : KS X w0 w s p st tx) (ht : tx.length ≤ 1000000) (hv : pm.PVok w B v) (hB : B ≤ w.heap.size)
    (hcan : pm.chk v.pl = 0 → Can st (kv.encP v.pl)) :
    Calls Tryz.prog 8 #[ptr s, .int .i64 ex, v.val] w (RetK X w0 w s p (setS st tx ex v.pl).1 (setS st tx ex v.pl).2.1 (.int .i64 (setS st tx ex v.pl).2.2)) := by
  obtain ⟨w1, hw1⟩ : ∃ w1, w.alloc (pm.boxO v) = w1 := ⟨_, rfl⟩
  have hb1 : Below w.heap.size w w1 := by rw [← hw1]; exact (Below.refl _ _).alloc (Nat.le_refl _) _
  have g1 : pm.Boxed w1 w.heap.size v := by rw [← hw1]; exact alloc_new _ _
  have l1 := blk_lt g1
  obtain ⟨⟨c0, c1, c2⟩, f0, f1, f2⟩ := pm.isv3_cells g1
  have HENC := Lib.hid (kv.encode_x w1 B v (hv.below hb1 hB) (by have := hb1.size; omega))
  have HK := Lib.hid h
  have HB1 := Lib.hid hb1
  have HG1 := Lib.hid g1
  have HW1 := Lib.hid hw1
  have HCAN := Lib.hid hcan
  unfold kv.RetEnc at HENC
  obtain ⟨P, hP⟩ : ∃ P, v.pl = P := ⟨_, rfl⟩
  have hPv : P.ver = v.ver := by rw [← hP]; rfl
  rw [hP] at HENC HCAN ⊢
  clear h hv hb1 g1 hw1 hcan hP
  by_cases hc : pm.chk P = 0
  · have hE : kv.encE P = 0 := by unfold kv.encE; rw [if_pos hc]
    have hEB : kv.encB P = kv.encP P := by unfold kv.encB; rw [if_pos hc]
    rw [hE, hEB] at HENC
    obtain ⟨t, htt⟩ : ∃ t, kv.encP P = t := ⟨_, rfl⟩
    have hsS : setS st tx ex P = (if ex = (kv.decP tx).ver ∧ P.ver = ex + 1 then (full (wrS st t), if (wrS st t).2 = 0 then t else tx, (wrS st t).2) else (st, tx, 150)) := by
      unfold setS; rw [if_pos hc, htt]
    have HCN := Lib.hid (HCAN.out hc)
    rw [htt] at HENC HCN
    obtain ⟨S, hS⟩ : ∃ S, setS st tx ex P = S := ⟨_, rfl⟩
    rw [hS]
    rw [hS] at hsS
    obtain ⟨n, hn⟩ : ∃ n, t.length = n := ⟨_, rfl⟩
    rw [hn] at HENC
    have HN := Lib.hid hn
    obtain ⟨vo, hvo⟩ : ∃ vo, (kv.decP tx).ver = vo := ⟨_, rfl⟩
    have hvr := decP_ver tx
    rw [hvo] at hvr
    have HVO := Lib.hid hvo
    rw [hvo, hPv] at hsS
    have HSS := Lib.hid hsS
    clear hc hE hEB htt hsS hS HCAN hn hvo hPv
    go_enter Tryz.func8, Tryz.ntmps8
    go_wp2_with (fail)
    rw [HW1.out]
    go_wp2_with (fail)
    refine HENC.out.mono ?_
    rintro e w2 ⟨A, c, rfl, hown, hb2, hnil⟩
    have hb02 : Below w.heap.size w w2 := HB1.out.trans (hb2.mono HB1.out.size)
    have HB2 := Lib.hid hb02
    have HK2 := Lib.hid (HK.out.quiet hb02)
    have g2 := blk_below hb2 HG1.out l1
    have HO := Lib.hid (And.intro hown hb2)
    have HGET := Lib.hid (get_k X w0 w2 s p st tx HK2.out ht)
    obtain ⟨⟨d0, d1, d2⟩, e0, e1, e2⟩ := pm.isv3_cells g2
    have l2 := blk_lt g2
    have HG2 := Lib.hid g2
    clear hown hb2 hnil hb02 g2 c0 c1 c2 f0 f1 f2
    go_wp2_with (fail)
    refine HGET.out.mono ?_
    rintro e w3 ⟨vg, rfl, hpl, hod, hb3⟩
    have hver : vg.ver = vo := by have : vg.pl.ver = vg.ver := rfl; rw [← this, hpl, HVO.out]
    clear d0 d1 d2 e0 e1 e2
    have g3 := blk_below hb3 HG2.out l2
    obtain ⟨⟨d0, d1, d2⟩, e0, e1, e2⟩ := pm.isv3_cells g3
    have l3 := blk_lt g3
    have HB3 := Lib.hid (HB2.out.trans (hb3.mono HB2.out.size))
    have HB23 := Lib.hid hb3
    have HG3 := Lib.hid g3
    have HQ := Lib.hid (HK.out.quiet (HB2.out.trans (hb3.mono HB2.out.size)))
    have hz : ∀ o, RetK X w0 w s p st tx o (.returned o) (w3.alloc (.cells #[.int .i64 vg.ver, .slice vg.nA vg.nodes.length vg.nc, .slice vg.sA vg.rs.length vg.sc] 25)) := fun o => by
      have hbz := HB3.out.alloc HB3.out.size (.cells #[.int .i64 vg.ver, .slice vg.nA vg.nodes.length vg.nc, .slice vg.sA vg.rs.length vg.sc] 25)
      exact ⟨rfl, HK.out.quiet hbz, (Chg.of_below hbz).mono (fun _ _ e => e.elim)⟩
    rw [hver] at hz
    have HZ := Lib.hid hz
    clear hpl hod hb3 g3 hz
    by_cases h1 : ex = vo
    · subst h1
      by_cases h2 : v.ver = ex + 1
      · have hSe : S = (full (wrS st t), if (wrS st t).2 = 0 then t else tx, (wrS st t).2) := by rw [HSS.out, if_pos ⟨rfl, h2⟩]
        obtain ⟨w4, hw4⟩ : ∃ w4, w3.alloc (pm.boxO vg) = w4 := ⟨_, rfl⟩
        have hb4 : Below w3.heap.size w3 w4 := by rw [← hw4]; exact (Below.refl _ _).alloc (Nat.le_refl _) _
        have hb04 : Below w.heap.size w w4 := HB3.out.trans (hb4.mono HB3.out.size)
        have hb24 : Below w2.heap.size w2 w4 := HB23.out.trans (hb4.mono HB23.out.size)
        have hK4 := HK.out.mark hb04 (Y := fun k => X k ∨ (w.heap.size ≤ k ∧ k < w4.heap.size)) (fun k hk => by
          rcases hk with e | e
          · exact .inl e
          · exact .inr e.1) (fun k hk => by
          rcases hk with e | e
          · obtain ⟨F, k1, k2, k3, k4⟩ := HK.out.1
            exact Nat.lt_of_lt_of_le (k4 k (.inl e)) hb04.size
          · exact e.2)
        have hWR := write_k _ w0 w4 s p st tx t hK4 HCN.out.fit
        obtain ⟨sa, hsa⟩ : ∃ sa, (wrS st t).1 = sa := ⟨_, rfl⟩
        obtain ⟨ea, hea⟩ : ∃ ea, (wrS st t).2 = ea := ⟨_, rfl⟩
        rw [hsa, hea] at hWR
        have HFU := Lib.hid HCN.out.full
        rw [hsa, hea] at HFU
        have hfu : full (wrS st t) = if ea = 12 then syncSt (clr sa).1 else sa := by unfold full; rw [hsa, hea]
        rw [hfu, hea] at hSe
        have hown4 := own_keep HO.out.1 hb24 (Nat.le_refl _)
        have k1 := conv_string (P := Tryz.prog) (c := c) (own_bs hown4) 36 9 5 Tryz.underlying36 Tryz.underlying9 Tryz.underlying5
        have HWR := Lib.hid hWR
        have HSE := Lib.hid hSe
        have HW4 := Lib.hid (show w3.alloc (.cells #[.int .i64 ex, .slice vg.nA vg.nodes.length vg.nc, .slice vg.sA vg.rs.length vg.sc] 25) = w4 by rw [← hver]; exact hw4)
        have HOW := Lib.hid (And.intro hown4 (And.intro hb04 hb24))
        have hs24 := hb24.size
        have hs04 := hb04.size
        have hs12 := HO.out.2.size
        clear hw4 hb4 hb04 hb24 hK4 hWR hsa hea hfu hSe hown4 HZ
        go_wp2_with (fail)
        rw [HW4.out]
        rw [k1]
        go_wp2_with (fail)
        refine HWR.out.mono ?_
        rintro e w5 ⟨rfl, hk5, ch5⟩
        have H5 := Lib.hid (And.intro hk5 ch5)
        have CH := Lib.hid (show Chg (fun k => ¬ X k) w w5 from ((Chg.of_below HOW.out.2.1).mono (fun _ _ e => e.elim)).trans (ch5.mono fun k _ e e2 => e (.inl e2)) fun _ _ e => e)
        have KX := Lib.hid (hk5.mark (Below.refl _ _) (Y := X) (fun k hk => .inl (.inl hk)) (fun k hk => by
          obtain ⟨F, k1, k2, k3, k4⟩ := hk5.1
          exact k4 k (.inl (.inl hk))))
        clear hk5 ch5 k1 d0 d1 d2 e0 e1 e2 l1 l2 l3
        by_cases e12 : ea = 12
        · subst e12
          have HFV := Lib.hid (HFU.out rfl)
          have hSe := HSE.out
          rw [if_pos rfl, if_neg (by decide)] at hSe
          have HE := Lib.hid hSe
          have HCL := Lib.hid (clear_k X w0 w5 s p sa tx KX.out HFV.out.1)
          clear hSe
          go_wp2_with (fail)
          refine HCL.out.mono ?_
          rintro e w6 ⟨rfl, hk6, ch6⟩
          obtain ⟨c0, c1, hl⟩ := hk6.cells
          have HSY := Lib.hid (hk6.on (fun F hF => sync_d w6 p F _ hF HFV.out.2))
          have CH6 := Lib.hid (CH.out.trans ch6 fun _ _ e => e)
          clear hk6 ch6
          go_wp2_with (fail)
          refine HSY.out.mono ?_
          rintro e w7 ⟨rfl, hk7, ch7⟩
          have H7 := Lib.hid (And.intro hk7 (CH6.out.trans ch7 fun _ _ e => e))
          clear hk7 ch7 c0 c1 hl
          go_wp2_with (fail)
          go_ret
          rw [HE.out]
          exact ⟨rfl, H7.out.1, H7.out.2⟩
        · have hSe := HSE.out
          rw [if_neg e12] at hSe
          by_cases e00 : ea = 0
          · subst e00
            rw [if_pos rfl] at hSe
            have HE := Lib.hid hSe
            have hown5 := own_chg HOW.out.1 H5.out.2 (fun g hg e => e (.inr (by have := HOW.out.1.lt g hg; have := HB1.out.size; omega)))
            have k1 := conv_string (P := Tryz.prog) (c := c) (own_bs hown5) 36 9 5 Tryz.underlying36 Tryz.underlying9 Tryz.underlying5
            obtain ⟨c0, c1, hl⟩ := KX.out.cells
            have fz := frozen_of_row _ _ 1 _ _ KX.out.2.1
            clear hSe hown5
            go_wp2_with (fail)
            go_ret
            rw [HE.out]
            exact ⟨rfl, (KX.out.text t).1, CH.out.trans (KX.out.text t).2 fun _ _ e => e⟩
          · rw [if_neg e00] at hSe
            have HE := Lib.hid hSe
            clear hSe
            go_wp2_with (fail)
            go_ret
            rw [HE.out]
            exact ⟨rfl, KX.out, CH.out⟩
      · have hSe : S = (st, tx, 150) := by rw [HSS.out, if_neg (fun e => h2 e.2)]
        subst hSe
        go_wp2_with (fail)
        go_ret
        exact HZ.out _
    · have hSe : S = (st, tx, 150) := by rw [HSS.out, if_neg (fun e => h1 e.1)]
      subst hSe
      go_wp2_with (fail)
      go_ret
      exact HZ.out _
  · have hE : kv.encE P = 50 := by unfold kv.encE; rw [if_neg hc]
    have hsS : setS st tx ex P = (st, tx, 50) := by unfold setS; rw [if_neg hc]
    rw [hE] at HENC
    rw [hsS]
    obtain ⟨n, hn⟩ : ∃ n, (kv.encB P).length = n := ⟨_, rfl⟩
    rw [hn] at HENC
    clear hc hE hsS HCAN hn hPv
    go_enter Tryz.func8, Tryz.ntmps8
    go_wp2_with (fail)
    rw [HW1.out]
    go_wp2_with (fail)
    refine HENC.out.mono ?_
    rintro e w2 ⟨A, c, rfl, hown, hb2, hnil⟩
    have hb02 : Below w.heap.size w w2 := HB1.out.trans (hb2.mono HB1.out.size)
    have HF := Lib.hid (And.intro (HK.out.quiet hb02) hb02)
    clear hown hb2 hnil hb02
    go_wp2_with (fail)
    go_ret
    exact ⟨rfl, HF.out.1, (Chg.of_below HF.out.2).mono (fun _ _ e => e.elim)⟩
end Go.Proofs.YtnjdondkggkfoaaGreat.ks
/-
  The store over a disk that lives and is synced: Set as one answer, Get, Open.
-/
namespace Go.Proofs.YtnjdondkggkfoaaGreat.ks
open Go.ChangeShapes Go.WideShapes Go.ChangeAt Go.RowKit Go.Shelf Go.Maps Go.Sort plain words ord mem al dk

/-- the store of a disk of R bytes that lives, is synced, and holds o -/
def KC (X : Nat → Prop) (w0 w : World) (s p : Nat) (o : Option Nm) (R n : Int) : Prop := ∃ st, KS X w0 w s p st (o.getD []) ∧ Cl st o R n
noncomputable def setE (o : Option Nm) (R ex : Int) (P : pm.Pl) : Int :=
  if pm.chk P = 0 then (if ex = (kv.decP (o.getD [])).ver ∧ P.ver = ex + 1 then (if (olen o : Int) + (kv.encP P).length ≤ R then 0 else 12) else 150) else 50
noncomputable def setO (o : Option Nm) (R ex : Int) (P : pm.Pl) : Option Nm := if setE o R ex P = 0 then some (kv.encP P) else o
section
variable {X : Nat → Prop} {w0 w w' : World} {s p : Nat} {o : Option Nm} {R n : Int}
theorem Cl.mono {st : dk.St} {m : Int} (h : Cl st o R n) (hm : n ≤ m) : Cl st o R m := ⟨h.last, h.pend, h.due, h.dead, h.room, h.lo, Int.le_trans h.hi hm⟩
theorem KC.quiet (h : KC X w0 w s p o R n) (hb : Below w.heap.size w w') : KC X w0 w' s p o R n := by
  obtain ⟨st, h1, h2⟩ := h
  exact ⟨st, h1.quiet hb, h2⟩
theorem KC.mark (h : KC X w0 w s p o R n) (hb : Below w.heap.size w w') {Y : Nat → Prop} (hY : ∀ k, Y k → X k ∨ w.heap.size ≤ k) (hYl : ∀ k, Y k → k < w'.heap.size) : KC Y w0 w' s p o R n := by
  obtain ⟨st, h1, h2⟩ := h
  exact ⟨st, h1.mark hb hY hYl, h2⟩
theorem KC.below (h : KC X w0 w s p o R n) : Below w0.heap.size w0 w := by
  obtain ⟨st, h1, h2⟩ := h
  exact h1.below
theorem cl_can {st : dk.St} (h : Cl st o R n) (t : Nm) (hR0 : 0 ≤ R) (hR : R ≤ 1048576) (ho : olen o ≤ 1000) (ht : t.length ≤ 1000) (hn : n < 1000000000) : Can st t := by
  have hs := h.small (by omega) (by omega)
  have hc := h.clr
  have hroom : (clr st).1.room = R := by rw [hc]; exact h.room
  by_cases hf : (olen o : Int) + t.length ≤ R
  · obtain ⟨b, c, d, e, w⟩ := h.way t hf (by omega) (by omega)
    have g2 : stg st t 2 = (b, 0) := by show appSt (clr st).1 up t = _; rw [hc]; exact w.eb
    have e2 : appSt (clr st).1 up t = (b, 0) := g2
    have g3 : (stg st t 3).1 = c := by show syncSt (appSt (clr st).1 up t).1 = c; rw [e2]; exact w.ec
    have e3 : syncSt (appSt (clr st).1 up t).1 = c := g3
    have g4 : (stg st t 4).1 = d := by show (renSt (syncSt (appSt (clr st).1 up t).1) up cu).1 = d; rw [e3, w.ed]
    refine ⟨⟨fun i hi _ => ?_, by rw [hroom]; exact hR0, by rw [hroom]; omega, by omega⟩, fun e12 => ?_⟩
    · rcases (show i = 0 ∨ i = 1 ∨ i = 2 ∨ i = 3 ∨ i = 4 by omega) with rfl | rfl | rfl | rfl | rfl
      · exact hs
      · show Small (clr st).1; rw [hc]; exact hs
      · rw [g2]; exact w.sb
      · rw [g3]; exact w.sc
      · rw [g4]; exact w.sd
    · rw [w.wr h] at e12; exact absurd (show (0 : Int) = 12 from e12) (by decide)
  · have hfu := h.full t (by omega)
    have g2 : (stg st t 2).2 = 12 := by
      show (appSt (clr st).1 up t).2 = 12
      rw [hc, app_full ok_up (by rw [h.shown, base_sum, h.room]; omega)]
    refine ⟨⟨fun i hi hz => ?_, by rw [hroom]; exact hR0, by rw [hroom]; omega, by omega⟩, fun _ => ?_⟩
    · rcases Nat.lt_or_ge i 2 with h2 | h2
      · rcases (show i = 0 ∨ i = 1 by omega) with rfl | rfl
        · exact hs
        · show Small (clr st).1; rw [hc]; exact hs
      · have := hz 2 h2; rw [g2] at this; exact absurd this (by decide)
    · rw [hfu]; exact ⟨hs, by show Small (clr st).1; rw [hc]; exact hs⟩
theorem KC.set (h : KC X w0 w s p o R n) (ex : Int) (B : Nat) (v : pm.PV) (hv : pm.PVok w B v) (hB : B ≤ w.heap.size) (hR0 : 0 ≤ R) (hR : R ≤ 1048576) (ho : olen o ≤ 1000) (hn : n < 1000000000) :
    Calls Tryz.prog 8 #[ptr s, .int .i64 ex, v.val] w fun e w' => e = .returned (.int .i64 (setE o R ex v.pl)) ∧ KC X w0 w' s p (setO o R ex v.pl) R (n + 4) ∧ Chg (fun k => ¬ X k) w w' := by
  obtain ⟨st, h1, h2⟩ := h
  have hcan : pm.chk v.pl = 0 → Can st (kv.encP v.pl) := fun hc => cl_can h2 _ hR0 hR ho (by have := encP_small (pm.chk_iff.1 hc); omega) hn
  refine (set_k X w0 w s p st _ ex B v h1 (by unfold olen at ho; omega) hv hB hcan).mono ?_
  rintro e w1 ⟨rfl, hk, hch⟩
  by_cases hc : pm.chk v.pl = 0
  · by_cases hq : ex = (kv.decP (o.getD [])).ver ∧ v.pl.ver = ex + 1
    · have hE := encP_small (pm.chk_iff.1 hc)
      have hS : setS st (o.getD []) ex v.pl = (full (wrS st (kv.encP v.pl)), if (wrS st (kv.encP v.pl)).2 = 0 then kv.encP v.pl else o.getD [], (wrS st (kv.encP v.pl)).2) := by unfold setS; rw [if_pos hc, if_pos hq]
      rw [hS] at hk ⊢
      by_cases hf : (olen o : Int) + (kv.encP v.pl).length ≤ R
      · obtain ⟨b, c, d, e, wy⟩ := h2.way _ hf (by omega) (by omega)
        have hE0 : setE o R ex v.pl = 0 := by unfold setE; rw [if_pos hc, if_pos hq, if_pos hf]
        have hO : setO o R ex v.pl = some (kv.encP v.pl) := if_pos hE0
        rw [wy.wr h2] at hk ⊢
        rw [hE0, hO]
        exact ⟨rfl, ⟨e, hk, wy.cl⟩, hch⟩
      · have hE0 : setE o R ex v.pl = 12 := by unfold setE; rw [if_pos hc, if_pos hq, if_neg hf]
        have hO : setO o R ex v.pl = o := if_neg (by rw [hE0]; decide)
        rw [h2.full _ (by omega)] at hk ⊢
        rw [hE0, hO]
        refine ⟨rfl, ⟨syncSt st, ?_, h2.sync.mono (by omega)⟩, hch⟩
        have : full (st, 12) = syncSt st := by show syncSt (clr st).1 = _; rw [h2.clr]
        rw [this] at hk
        exact hk
    · have hS : setS st (o.getD []) ex v.pl = (st, o.getD [], 150) := by unfold setS; rw [if_pos hc, if_neg hq]
      have hE0 : setE o R ex v.pl = 150 := by unfold setE; rw [if_pos hc, if_neg hq]
      have hO : setO o R ex v.pl = o := if_neg (by rw [hE0]; decide)
      rw [hS] at hk ⊢
      rw [hE0, hO]
      exact ⟨rfl, ⟨st, hk, h2.mono (by omega)⟩, hch⟩
  · have hS : setS st (o.getD []) ex v.pl = (st, o.getD [], 50) := by unfold setS; rw [if_neg hc]
    have hE0 : setE o R ex v.pl = 50 := by unfold setE; rw [if_neg hc]
    have hO : setO o R ex v.pl = o := if_neg (by rw [hE0]; decide)
    rw [hS] at hk ⊢
    rw [hE0, hO]
    exact ⟨rfl, ⟨st, hk, h2.mono (by omega)⟩, hch⟩
theorem KC.get (h : KC X w0 w s p o R n) (ho : olen o ≤ 1000) : Calls Tryz.prog 11 #[ptr s] w (RetGet w (o.getD [])) := by
  obtain ⟨st, h1, h2⟩ := h
  exact get_k X w0 w s p st _ h1 (by unfold olen at ho; omega)
end
end Go.Proofs.YtnjdondkggkfoaaGreat.ks
