/-
  A log over a disk whose power will go: what a Write makes of it, and what is told: mathematics.
-/
import Derived.Test.YtmegkemileailaaGreatDoorLgC
namespace Go.Proofs.YtmegkemileailaaGreatDoor.lg
open al cl uvs dk

/-- the same files, with the power on, and no order -/
def calm (st : St) : St := { st with due := none, dead := false }
theorem LI.tail {st : St} {hs : List (Nat × List Rec)} {N : Nat} {want : List Rec} (h : LI st hs N want) (hN : N < 1000000000) :
    ∃ (gs : List (Nat × By)) (pre rs : List Rec), (al.get st.last (lname N)).getD [] = encs rs ∧ (∀ r ∈ rs, cl.Good r ∧ cl.Num r) ∧ pre ++ rs = want ∧ (gs.flatMap fun p => (cl.dec p.2).1) = pre ∧ ∀ t, Files (al.put st.last (lname N) t) (gs ++ [(N, t)]) := by
  have key : ∀ l : List (Nat × List Rec), (∀ x ∈ l, x ∈ hs) → (l.map fun h => (h.1, encs h.2)).flatMap (fun p => (cl.dec p.2).1) = l.flatMap (·.2) := by
    intro l
    induction l with
    | nil => intro _; rfl
    | cons x l ih =>
      intro hl
      rw [List.map_cons, List.flatMap_cons, List.flatMap_cons, ih (fun y hy => hl y (by simp [hy])), dec_whole (h.good x (hl x (by simp)))]
  have all : (∀ x ∈ hs, x.1 < N) → ∃ (gs : List (Nat × By)) (pre rs : List Rec), (al.get st.last (lname N)).getD [] = encs rs ∧ (∀ r ∈ rs, cl.Good r ∧ cl.Num r) ∧ pre ++ rs = want ∧ (gs.flatMap fun p => (cl.dec p.2).1) = pre ∧ ∀ t, Files (al.put st.last (lname N) t) (gs ++ [(N, t)]) := fun hlt => by
    have hb : ∀ p ∈ hs.map (fun h => (h.1, encs h.2)), p.1 < N := fun p hp => by
      obtain ⟨x, hx, rfl⟩ := List.mem_map.1 hp
      exact hlt x hx
    refine ⟨_, want, [], ?_, fun r hr => by (cases hr), by simp, (key hs fun x hx => hx).trans h.want, fun t => h.files.app h.one hN hb t⟩
    rw [h.files.none (fun p hp => by have := hb p hp; omega)]; rfl
  rcases nil_or_snoc hs with e | ⟨l, y, e⟩
  · exact all (fun x hx => by rw [e] at hx; cases hx)
  · obtain ⟨n, rs⟩ := y
    have hu := h.files.up
    rw [e, List.map_append, List.pairwise_append] at hu
    by_cases hnn : n = N
    · subst hnn
      have hf := h.files
      rw [e, List.map_append] at hf
      refine ⟨_, l.flatMap (·.2), rs, ?_, h.good (n, rs) (by rw [e]; simp), ?_, key l (fun x hx => by rw [e]; simp [hx]), fun t => hf.less t⟩
      · rw [hf.at (n := n) (s := encs rs) (by simp)]; rfl
      · rw [← h.want, e]; simp
    · refine all fun x hx => ?_
      rw [e] at hx
      have hnN := h.low (n, rs) (by rw [e]; simp)
      rcases List.mem_append.1 hx with e | e
      · have := hu.2.2 (x.1, encs x.2) (List.mem_map.2 ⟨x, e, rfl⟩) (n, encs rs) (by simp)
        simp only at this; omega
      · simp at e; subst e; simp only; omega
/-- a part of a record behind the files -/
theorem LI.part {st : St} {hs : List (Nat × List Rec)} {N : Nat} {want : List Rec} (h : LI st hs N want) (hN : N < 1000000000) {r : Rec} (he : err r = 0) (hn : cl.Num r) (j : Nat) :
    ∃ T, lg.told (al.put st.last (lname N) ((al.get st.last (lname N)).getD [] ++ (enc r).take j)) = want ++ T ∧ (T = [] ∨ T = [r]) := by
  obtain ⟨gs, pre, rs, h1, h2, h3, h4, h5⟩ := h.tail hN
  rw [h1, (h5 _).told, List.flatMap_append, h4]
  have hd := dec_encs rs h2 ((enc r).take j)
  simp only [List.flatMap_cons, List.flatMap_nil, List.append_nil]
  rw [hd]
  rcases Nat.lt_or_ge j (enc r).length with hj | hj
  · refine ⟨[], ?_, .inl rfl⟩
    rw [dec_none (dec1_cut (good_of he) hn hj), ← h3]; simp
  · refine ⟨[r], ?_, .inr rfl⟩
    rw [List.take_of_length_le hj]
    have := dec_whole (l := [r]) (fun x hx => by simp at hx; subst hx; exact ⟨good_of he, hn⟩)
    rw [show encs [r] = enc r by simp [encs]] at this
    rw [this, ← h3]; simp
theorem pw_dead {st : St} (h : st.dead = true) : pw st = st := by
  unfold pw
  split
  · rw [if_neg (by rw [h]; simp)]
  · rfl
theorem pw_zero {st : St} {kp pt : Int} (hd : st.dead = false) (h : st.due = some (0, kp, pt)) : pw st = crashSt st kp pt := by
  unfold pw
  rw [h]
  simp only [hd]
  simp
theorem pw_pos {st : St} {k kp pt : Int} (h : st.due = some (k, kp, pt)) (hk : k ≠ 0) : pw st = st := by
  unfold pw
  rw [h]
  simp only
  rw [if_neg (fun e => hk e.2)]
theorem crash_calm {st : St} (kp pt : Int) (hd : st.dead = false) (hp : st.pend = []) : crashSt st kp pt = { st with pend := [], due := none, dead := true } := by
  unfold crashSt
  rw [if_neg (by rw [hd]; simp), hp]
  simp [fold, partOf]
theorem take_len (b : By) (pt : Int) : b.take (min pt (b.length : Int)).toNat = b.take pt.toNat ∨ pt ≤ 0 := by
  by_cases h : pt ≤ 0
  · exact .inr h
  · refine .inl ?_
    rcases Int.le_total pt (b.length : Int) with h1 | h1
    · rw [Int.min_eq_left h1]
    · rw [Int.min_eq_right h1, List.take_of_length_le (by omega), List.take_of_length_le (by omega)]
/-- the power goes in the sync behind an append -/
theorem crash_part {st : St} (kp pt : Int) {a b : Nm} (hd : st.dead = false) (hp : st.pend = [.app a b]) :
    ∃ j, (crashSt st kp pt) = { st with last := al.put st.last a ((al.get st.last a).getD [] ++ b.take j), pend := [], due := none, dead := true } ∨ (crashSt st kp pt) = { st with last := st.last, pend := [], due := none, dead := true } := by
  unfold crashSt
  rw [if_neg (by rw [hd]; simp), hp]
  have hk : keptN kp 1 = 0 ∨ keptN kp 1 = 1 := by unfold keptN; omega
  rcases hk with h0 | h1
  · rw [show keptN kp [Chn.app a b].length = 0 from h0]
    simp only [List.take_zero, List.getElem?_cons_zero, fold, List.foldl_nil, partOf]
    split
    · exact ⟨_, .inl rfl⟩
    · exact ⟨0, .inr rfl⟩
  · rw [show keptN kp [Chn.app a b].length = 1 from h1]
    refine ⟨b.length, .inl ?_⟩
    rw [List.take_of_length_le (Nat.le_refl _)]
    rfl
/-- the life of a log whose power will go -/
structure KM (st : St) (N : Nat) (kp pt : Int) (acked torn : List Rec) (i : Nat) : Prop where
  mode : (st.dead = false ∧ torn = [] ∧ (∃ hs, LI (calm st) hs N acked) ∧ ∃ k, st.due = some (k, kp, pt) ∧ 0 ≤ k ∧ k ≤ 9223372036854775807) ∨
    (st.dead = true ∧ st.due = none ∧ ∃ T, lg.told st.last = acked ++ T ∧ (T = [] ∨ ∃ r, T = [r] ∧ torn.head? = some r))
  pend : st.pend = []
  room : st.room = 1048576
  o0 : 0 ≤ st.ops
  o1 : st.ops ≤ 2 * i
  sum : fsum st.last ≤ 200 * i
  len : st.last.length ≤ i
  num : N ≤ 1 + i
section
variable {st : St} {N i : Nat} {kp pt : Int} {acked torn : List Rec} {r : Rec}
theorem KM.shown (h : KM st N kp pt acked torn i) : st.shown = st.last := by unfold St.shown; rw [h.pend]; rfl
theorem KM.more (h : KM st N kp pt acked torn i) {j : Nat} (hij : i ≤ j) : KM st N kp pt acked torn j :=
  ⟨h.mode, h.pend, h.room, h.o0, by have := h.o1; omega, by have := h.sum; omega, by have := h.len; omega, by have := h.num; omega⟩
theorem KM.due (h : KM st N kp pt acked torn i) : ∀ x, st.due = some x → 0 ≤ x.1 ∧ x.1 ≤ 9223372036854775807 := fun x hx => by
  rcases h.mode with ⟨_, _, _, k, h1, h2, h3⟩ | ⟨_, h1, _⟩
  · rw [h1] at hx; injection hx with hx; subst hx; exact ⟨h2, h3⟩
  · rw [h1] at hx; cases hx
theorem KM.small (h : KM st N kp pt acked torn i) (hi : i ≤ 1000) : Small st :=
  ⟨by rw [h.pend]; have := h.sum; show fsum st.last + 0 ≤ _; omega, by rw [h.pend]; have := h.len; show st.last.length + 0 ≤ _; omega, h.o0, by have := h.o1; omega, h.due⟩
theorem KM.fits (h : KM st N kp pt acked torn i) (hi : i ≤ 1000) (he : err r = 0) : ¬ st.room < (fsum st.shown : Int) + ((enc r).length : Int) := by
  rw [h.shown, h.room]
  have := h.sum
  have := enc_le (good_of he)
  omega
theorem KM.app (h : KM st N kp pt acked torn i) (hi : i ≤ 1000) (he : err r = 0) : appSt st (lname N) (enc r) = (doSt st (.app (lname N) (enc r)), doE st) := by
  unfold appSt
  rw [if_neg (by rw [okn_name (by have := h.num; omega)]; simp), if_neg (h.fits hi he)]
theorem KM.small2 (h : KM st N kp pt acked torn i) (hi : i ≤ 1000) (he : err r = 0) : Small (appSt st (lname N) (enc r)).1 := by
  rw [h.app hi he]
  have hs := h.small hi
  have hl := enc_le (good_of he)
  have hsum := h.sum
  have hlen := h.len
  have ho0 := h.o0
  have ho1 := h.o1
  show Small (doSt st _)
  unfold doSt
  rcases h.mode with ⟨hd, _, _, k, hk, hk0, hk1⟩ | ⟨hd, hdue, _⟩
  · by_cases hz : k = 0
    · subst hz
      rw [pw_zero hd hk, crash_calm kp pt hd h.pend, if_pos rfl]
      exact ⟨by show fsum st.last + 0 ≤ _; omega, by show st.last.length + 0 ≤ _; omega, ho0, by show st.ops < _; omega, fun x hx => by cases hx⟩
    · rw [pw_pos hk hz, if_neg (by rw [hd]; simp)]
      refine ⟨?_, ?_, by show 0 ≤ st.ops + 1; omega, by show st.ops + 1 < _; omega, fun x hx => ?_⟩
      · show fsum st.last + sumc (st.pend ++ [Chn.app (lname N) (enc r)]) ≤ _
        rw [h.pend]
        show fsum st.last + ((enc r).length + 0) ≤ _
        omega
      · show st.last.length + (st.pend ++ [Chn.app (lname N) (enc r)]).length ≤ _
        rw [h.pend]
        show st.last.length + 1 ≤ _
        omega
      · have : (cnt { st with pend := st.pend ++ [Chn.app (lname N) (enc r)] }).due = some (k - 1, kp, pt) := by show st.due.map dk.dec = _; rw [hk]; rfl
        rw [this] at hx
        injection hx with hx
        subst hx
        exact ⟨by show 0 ≤ k - 1; omega, by show k - 1 ≤ _; omega⟩
  · rw [pw_dead hd, if_pos hd]
    exact hs
/-- what a Write answers, and leaves -/
theorem KM.step (h : KM st N kp pt acked torn i) (hi : i ≤ 1000) (hn : cl.Num r) :
    (err r ≠ 0 ∧ wr st N r = (st, N, err r)) ∨
    (err r = 0 ∧ ∃ st', wr st N r = (st', N, 0) ∧ KM st' N kp pt (acked ++ [r]) torn (i + 1)) ∨
    (err r = 0 ∧ ∃ st', wr st N r = (st', N + 1, 13) ∧ st'.dead = true ∧ KM st' (N + 1) kp pt acked (torn ++ [r]) (i + 1)) := by
  by_cases he0 : err r ≠ 0
  · exact .inl ⟨he0, wr_no he0⟩
  have he : err r = 0 := by simpa using he0
  have hN : N < 1000000000 := by have := h.num; omega
  have hl := enc_le (good_of he)
  have hsum := h.sum
  have hlen := h.len
  have ho0 := h.o0
  have ho1 := h.o1
  have hnum := h.num
  have hwr : wr st N r = wr2 (doSt st (.app (lname N) (enc r))) N (doE st) := by unfold wr; rw [if_pos he, h.app hi he]
  rw [hwr]
  rcases h.mode with ⟨hd, ht, ⟨hs, hli⟩, k, hk, hk0, hk1⟩ | ⟨hd, hdue, T, hT, hTT⟩
  · by_cases hz : k = 0
    · -- the power goes ahead of the append
      subst hz
      have hpw := pw_zero hd hk
      rw [crash_calm kp pt hd h.pend] at hpw
      refine .inr (.inr ⟨he, { st with pend := [], due := none, dead := true }, ?_, rfl, ⟨.inr ⟨rfl, rfl, [], ?_, .inl rfl⟩, rfl, h.room, ho0, by show st.ops ≤ _; omega, by show fsum st.last ≤ _; omega, by show st.last.length ≤ _; omega, by omega⟩⟩)
      · unfold doSt doE wr2
        rw [hpw]
        simp
      · have := hli.told
        rw [hli.shown] at this
        show lg.told st.last = acked ++ []
        rw [List.append_nil]
        exact this
    · by_cases hz1 : k = 1
      · -- in the sync
        subst hz1
        have hpw := pw_pos hk hz
        obtain ⟨s1, hs1⟩ : ∃ s1, cnt { st with pend := st.pend ++ [Chn.app (lname N) (enc r)] } = s1 := ⟨_, rfl⟩
        have e1 : s1.pend = [Chn.app (lname N) (enc r)] := by rw [← hs1]; show st.pend ++ _ = _; rw [h.pend]; rfl
        have e2 : s1.due = some (0, kp, pt) := by rw [← hs1]; show st.due.map dk.dec = _; rw [hk]; rfl
        have e3 : s1.dead = false := by rw [← hs1]; exact hd
        have e4 : s1.last = st.last := by rw [← hs1]; rfl
        have e5 : s1.room = st.room := by rw [← hs1]; rfl
        have e6 : s1.ops = st.ops + 1 := by rw [← hs1]; rfl
        have hdo : doSt st (.app (lname N) (enc r)) = s1 := by unfold doSt; rw [hpw, if_neg (by rw [hd]; simp), hs1]
        have hde : doE st = 0 := by unfold doE; rw [hpw, if_neg (by rw [hd]; simp)]
        have hp1 := pw_zero e3 e2
        have hsy : syncSt s1 = crashSt s1 kp pt := by unfold syncSt; rw [hp1, if_pos (crash_dead _ _ _)]
        have hse : doE s1 = 13 := by unfold doE; rw [hp1, if_pos (crash_dead _ _ _)]
        have hw2 : wr2 s1 N 0 = (crashSt s1 kp pt, N + 1, 13) := by unfold wr2; rw [if_pos rfl, hsy, hse]; rfl
        rw [hdo, hde, hw2]
        obtain ⟨j, hj⟩ := crash_part kp pt e3 e1
        refine .inr (.inr ⟨he, _, rfl, crash_dead _ _ _, ?_⟩)
        have hli2 : al.Srt st.last := hli.files.srt
        rcases hj with hj | hj
        · rw [hj, e4]
          obtain ⟨T, hT, hTT⟩ := hli.part hN he hn j
          have hs1 := put_sum hli2 (lname N) ((al.get st.last (lname N)).getD [] ++ (enc r).take j)
          rw [List.length_append, List.length_take] at hs1
          have hl1 : (al.put st.last (lname N) ((al.get st.last (lname N)).getD [] ++ (enc r).take j)).length ≤ st.last.length + 1 := len_put
          refine ⟨.inr ⟨rfl, rfl, T, hT, ?_⟩, rfl, e5.trans h.room, by show 0 ≤ s1.ops; omega, by show s1.ops ≤ _; omega, by show fsum (al.put st.last (lname N) ((al.get st.last (lname N)).getD [] ++ (enc r).take j)) ≤ _; omega, by show (al.put st.last (lname N) ((al.get st.last (lname N)).getD [] ++ (enc r).take j)).length ≤ _; omega, by omega⟩
          rcases hTT with e | e
          · exact .inl e
          · exact .inr ⟨r, e, by rw [ht]; rfl⟩
        · rw [hj, e4]
          refine ⟨.inr ⟨rfl, rfl, [], ?_, .inl rfl⟩, rfl, e5.trans h.room, by show 0 ≤ s1.ops; omega, by show s1.ops ≤ _; omega, by show fsum st.last ≤ _; omega, by show st.last.length ≤ _; omega, by omega⟩
          have := hli.told
          rw [hli.shown] at this
          show lg.told st.last = acked ++ []
          rw [List.append_nil]
          exact this
      · -- synced
        have hpw := pw_pos hk hz
        obtain ⟨s1, hs1⟩ : ∃ s1, cnt { st with pend := st.pend ++ [Chn.app (lname N) (enc r)] } = s1 := ⟨_, rfl⟩
        have e1 : s1.pend = [Chn.app (lname N) (enc r)] := by rw [← hs1]; show st.pend ++ _ = _; rw [h.pend]; rfl
        have e2 : s1.due = some (k - 1, kp, pt) := by rw [← hs1]; show st.due.map dk.dec = _; rw [hk]; rfl
        have e3 : s1.dead = false := by rw [← hs1]; exact hd
        have e4 : s1.last = st.last := by rw [← hs1]; rfl
        have hdo : doSt st (.app (lname N) (enc r)) = s1 := by unfold doSt; rw [hpw, if_neg (by rw [hd]; simp), hs1]
        have hde : doE st = 0 := by unfold doE; rw [hpw, if_neg (by rw [hd]; simp)]
        have hp1 := pw_pos e2 (by omega)
        have hsh : s1.shown = al.put st.last (lname N) ((al.get st.last (lname N)).getD [] ++ enc r) := by unfold St.shown; rw [e1, e4]; rfl
        have hsy : syncSt s1 = { st with last := al.put st.last (lname N) ((al.get st.last (lname N)).getD [] ++ enc r), pend := [], ops := st.ops + 1 + 1, due := some (k - 1 - 1, kp, pt) } := by
          unfold syncSt
          rw [hp1, if_neg (by rw [e3]; simp), hsh, ← hs1]
          unfold cnt
          simp only
          rw [hk]
          rfl
        have hse : doE s1 = 0 := by unfold doE; rw [hp1, if_neg (by rw [e3]; simp)]
        have hw2 : wr2 s1 N 0 = (syncSt s1, N, 0) := by unfold wr2; rw [if_pos rfl, hse]; rfl
        rw [hdo, hde, hw2, hsy]
        obtain ⟨hs', hli', _, _⟩ := hli.write (o := st.ops + 1 + 1) he hn hN
        have hsm := app_sum hli.files.srt (lname N) (enc r)
        have hl1 : (al.put st.last (lname N) ((al.get st.last (lname N)).getD [] ++ enc r)).length ≤ st.last.length + 1 := len_put
        refine .inr (.inl ⟨he, _, rfl, ⟨.inl ⟨hd, ht, ⟨hs', hli'⟩, k - 1 - 1, rfl, by omega, by omega⟩, rfl, h.room, by show 0 ≤ st.ops + 1 + 1; omega, by show st.ops + 1 + 1 ≤ _; omega, ?_, by show (al.put st.last (lname N) ((al.get st.last (lname N)).getD [] ++ enc r)).length ≤ _; omega, by omega⟩⟩)
        show fsum (al.put st.last (lname N) ((al.get st.last (lname N)).getD [] ++ enc r)) ≤ _
        have h9 : dk.done (calm st).last (.app (lname N) (enc r)) = al.put st.last (lname N) ((al.get st.last (lname N)).getD [] ++ enc r) := rfl
        rw [h9] at hsm
        have h10 : fsum (calm st).last = fsum st.last := rfl
        omega
  · have hdo : doSt st (.app (lname N) (enc r)) = st := by unfold doSt; rw [pw_dead hd, if_pos hd]
    have hde : doE st = 13 := by unfold doE; rw [pw_dead hd, if_pos hd]
    rw [hdo, hde]
    refine .inr (.inr ⟨he, st, rfl, hd, ⟨.inr ⟨hd, hdue, T, hT, ?_⟩, h.pend, h.room, ho0, by omega, by omega, by omega, by omega⟩⟩)
    rcases hTT with e | ⟨r', e, e'⟩
    · exact .inl e
    · refine .inr ⟨r', e, ?_⟩
      cases torn with
      | nil => cases e'
      | cons a l => exact e'
/-- what is told when the power is back -/
theorem KM.told (h : KM st N kp pt acked torn i) : ∃ T, lg.told st.last = acked ++ T ∧ (T = [] ∨ ∃ r, T = [r] ∧ torn.head? = some r) := by
  rcases h.mode with ⟨_, _, ⟨hs, hli⟩, _⟩ | ⟨_, _, h3⟩
  · have := hli.told
    rw [hli.shown] at this
    exact ⟨[], by rw [List.append_nil]; exact this, .inl rfl⟩
  · exact h3
theorem KM.back (h : KM st N kp pt acked torn i) : ∃ o, powSt (crashSt st kp pt) = ⟨st.room, st.last, [], none, false, o⟩ := by
  unfold powSt crashSt
  split
  · exact ⟨st.ops, by rw [h.pend]⟩
  · refine ⟨st.ops, ?_⟩
    rw [h.pend]
    simp [fold, partOf]
end
end Go.Proofs.YtmegkemileailaaGreatDoor.lg
