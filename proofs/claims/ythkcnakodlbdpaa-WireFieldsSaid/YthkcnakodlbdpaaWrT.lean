/-
  Messages: what Decode reads, by steps: the program's and the document's answers are one.
-/
import Derived.Test.YthkcnakodlbdpaaWrRD
import Derived.Test.YthkcnakodlbdpaaWrHv
namespace Go.Proofs.Ythkcnakodlbdpaa.wr
open uvs cl

theorem bnd_inv {α β : Type} {r : R α} {d : β} {k : By → α → R β} {s' : By} {x : β} (H : bnd r d k = (0, s', x)) : ∃ s1 a, r = (0, s1, a) ∧ k s1 a = (0, s', x) := by
  by_cases h : r.1 = 0
  · rw [bnd_ok h] at H
    obtain ⟨e, s1, a⟩ := r
    simp only at h
    subst h
    exact ⟨s1, a, rfl, H⟩
  · rw [bnd_no h] at H
    injection H with H
    exact absurd H h
theorem bnd_inv1 {α β : Type} {r : R α} {d : β} {k : By → α → R β} (H : (bnd r d k).1 = 0) : r.1 = 0 := by
  by_cases h : r.1 = 0
  · exact h
  · rw [bnd_no h] at H; exact H
theorem num_up {n : Nat} {a b : Nat} {s s1 : By} (h : cl.num a s = some (n, s1)) (hab : a ≤ b) : cl.num b s = some (n, s1) := by
  unfold cl.num at h ⊢
  split at h
  · cases h
  · rename_i hh
    rw [if_neg (by omega)]
    exact h
/-- a number read: the document's reading, and its bytes -/
theorem num_dc {s s1 : By} {v most a : Int} (h : numD s v most = (0, s1, a)) (hm : 0 ≤ most ∧ most ≤ 2199023255552) : ∃ n c, a = ((n : Nat) : Int) ∧ s = c ++ s1 ∧ nY (s, false) = (n, (s1, false)) ∧ ∀ p, numE p a most = (0, p ++ c, a) := by
  unfold numD at h
  cases hc : cl.num most.toNat s with
  | none => rw [hc] at h; injection h with h; exact absurd h (by decide)
  | some q =>
    obtain ⟨n, s2⟩ := q
    rw [hc] at h
    injection h with _ h
    injection h with h1 h2
    subst h1
    obtain ⟨b1, b2, b3⟩ := cl.num_back hc
    refine ⟨n, uv n, h2.symm, b3, ?_, fun p => ?_⟩
    · unfold nY; rw [num_up hc (by omega)]
    · subst h2
      unfold numE
      rw [if_neg (by omega), Int.toNat_natCast]
theorem txt_dc {s s1 v a : By} (h : txtD s v = (0, s1, a)) : ∃ c, s = c ++ s1 ∧ idY (s, false) = (a, (s1, false)) ∧ ∀ p, txtE p a = (0, p ++ c, a) := by
  unfold txtD at h
  cases hc : cl.num 16 s with
  | none => rw [hc] at h; injection h with h; exact absurd h (by decide)
  | some q =>
    obtain ⟨n, s2⟩ := q
    rw [hc] at h
    simp only at h
    by_cases hl : s2.length < n
    · rw [if_pos hl] at h; injection h with h; exact absurd h (by decide)
    · rw [if_neg hl] at h
      injection h with _ h
      injection h with h1 h2
      obtain ⟨b1, b2, b3⟩ := cl.num_back hc
      have hal : a.length = n := by rw [← h2, List.length_take]; omega
      refine ⟨uv n ++ a, ?_, ?_, fun p => ?_⟩
      · rw [b3, ← h1, ← h2, List.append_assoc, List.take_append_drop]
      · have hn : nY (s, false) = (n, (s2, false)) := by unfold nY; rw [num_up hc (by omega)]
        unfold idY
        rw [hn, if_neg (by simp only; omega)]
        unfold tY
        rw [if_neg hl, h1, h2]
      · unfold txtE
        rw [if_neg (by omega), hal, List.append_assoc]
theorem fix_dc {s s1 : By} {v a : Int} {k : Nat} (h : fixD s v k = (0, s1, a)) : ∃ n c, a = ((n : Nat) : Int) ∧ n < 256 ^ k ∧ s = c ++ s1 ∧ wY k (s, false) = (n, (s1, false)) ∧ ∀ p, fixE p a k = (0, p ++ c, a) := by
  unfold fixD at h
  by_cases hl : s.length < k
  · rw [if_pos hl] at h; injection h with h; exact absurd h (by decide)
  · rw [if_neg hl] at h
    injection h with _ h
    injection h with h1 h2
    have hlen : (s.take k).length = k := by rw [List.length_take]; omega
    refine ⟨cl.fix (s.take k), s.take k, h2.symm, ?_, ?_, ?_, fun p => ?_⟩
    · have := cl.fix_lt (s.take k); rwa [hlen] at this
    · rw [← h1, List.take_append_drop]
    · unfold wY tY
      rw [if_neg hl, h1]
    · subst h2
      unfold fixE
      rw [Int.toNat_natCast]
      have := cl.be_fix (s.take k)
      rw [hlen] at this
      rw [this]
theorem flg_dc {s s1 : By} {v a : Bool} (h : flgD s v = (0, s1, a)) : ∃ c, s = c ++ s1 ∧ nY (s, false) = ((if a then 1 else 0), (s1, false)) ∧ ∀ p, flgE p a = (0, p ++ c, a) := by
  unfold flgD at h
  cases hc : cl.num 1 s with
  | none => rw [hc] at h; injection h with h; exact absurd h (by decide)
  | some q =>
    obtain ⟨n, s2⟩ := q
    rw [hc] at h
    injection h with _ h
    injection h with h1 h2
    subst h1
    obtain ⟨b1, b2, b3⟩ := cl.num_back hc
    have hn : nY (s, false) = (n, (s2, false)) := by unfold nY; rw [num_up hc (by omega)]
    have h01 : n = 0 ∨ n = 1 := by omega
    rcases h01 with rfl | rfl
    · have ha : a = false := by rw [← h2]; rfl
      subst ha
      exact ⟨uv 0, b3, hn, fun p => by unfold flgE; rw [uv_0]; rfl⟩
    · have ha : a = true := by rw [← h2]; rfl
      subst ha
      exact ⟨uv 1, b3, hn, fun p => by unfold flgE; rw [uv_1]; rfl⟩
theorem pt_dc {s s1 : By} {v a : Pt} (h : passPt decC s v = (0, s1, a)) : ∃ c, s = c ++ s1 ∧ ptY (s, false) = (a, (s1, false)) ∧ ∀ p, passPt encC p a = (0, p ++ c, a) := by
  unfold passPt at h
  obtain ⟨t1, a1, h1, h⟩ := bnd_inv h
  obtain ⟨t2, a2, h2, h⟩ := bnd_inv h
  obtain ⟨t3, a3, h3, h⟩ := bnd_inv h
  obtain ⟨n1, c1, e1, b1, y1, p1⟩ := num_dc h1 (by omega)
  obtain ⟨n2, c2, e2, _, b2, y2, p2⟩ := fix_dc h2
  obtain ⟨n3, c3, e3, _, b3, y3, p3⟩ := fix_dc h3
  injection h with _ h
  injection h with h4 h5
  subst h4 h5 b3 b2 b1
  refine ⟨c1 ++ (c2 ++ c3), by simp [List.append_assoc], ?_, fun p => ?_⟩
  · unfold ptY
    rw [y1]
    simp only
    rw [y2]
    simp only
    rw [y3, e1, e2, e3]
  · unfold passPt
    rw [show encC.num p a1 1099511627776 = _ from p1 p, bnd_ok rfl, show encC.fix _ a2 8 = _ from p2 _, bnd_ok rfl, show encC.fix _ a3 8 = _ from p3 _, bnd_ok rfl]
    simp [List.append_assoc]
theorem mt_dc {s s1 : By} {v a : Mt} (h : passMt decC s v = (0, s1, a)) : ∃ c, s = c ++ s1 ∧ mtY (s, false) = (a, (s1, false)) ∧ ∀ p, passMt encC p a = (0, p ++ c, a) := by
  unfold passMt at h
  obtain ⟨t1, a1, h1, h⟩ := bnd_inv h
  obtain ⟨t2, a2, h2, h⟩ := bnd_inv h
  obtain ⟨t3, a3, h3, h⟩ := bnd_inv h
  obtain ⟨t4, a4, h4, h⟩ := bnd_inv h
  obtain ⟨c1, b1, y1, p1⟩ := txt_dc h1
  obtain ⟨n2, c2, e2, b2, y2, p2⟩ := num_dc h2 (by omega)
  obtain ⟨n3, c3, e3, b3, y3, p3⟩ := num_dc h3 (by omega)
  obtain ⟨n4, c4, e4, l4, b4, y4, p4⟩ := fix_dc h4
  rw [show (256 : Nat) ^ 4 = 4294967296 by decide] at l4
  have hm : a4 % 4294967296 = a4 := by omega
  injection h with _ h
  injection h with h5 h6
  rw [hm] at h6
  subst h5 h6 b4 b3 b2 b1
  refine ⟨c1 ++ (c2 ++ (c3 ++ c4)), by simp [List.append_assoc], ?_, fun p => ?_⟩
  · unfold mtY
    rw [y1]
    simp only
    rw [y2]
    simp only
    rw [y3]
    simp only
    rw [y4, e2, e3, e4]
  · unfold passMt
    rw [show encC.txt p a1 = _ from p1 p, bnd_ok rfl, show encC.num _ a2 1099511627776 = _ from p2 _, bnd_ok rfl, show encC.num _ a3 512 = _ from p3 _, bnd_ok rfl, show encC.fix _ a4 4 = _ from p4 _, bnd_ok rfl, hm]
    simp [List.append_assoc]
/-- items, one behind the other -/
theorem ls_dc {α : Type} {it ie : By → α → R α} {iy : St → α × St} {z : α} (hi : ∀ {s s1 : By} {a : α}, it s z = (0, s1, a) → ∃ c, s = c ++ s1 ∧ iy (s, false) = (a, (s1, false)) ∧ ∀ p, ie p a = (0, p ++ c, a)) : ∀ (n : Nat) {s s1 : By} {l : List α}, passL it s (List.replicate n z) = (0, s1, l) → l.length = n ∧ ∃ c, s = c ++ s1 ∧ lpY iy n (s, false) = (l, (s1, false)) ∧ ∀ p, passL ie p l = (0, p ++ c, l)
  | 0, s, s1, l, h => by
    injection h with _ h
    injection h with h1 h2
    subst h1 h2
    exact ⟨rfl, [], rfl, rfl, fun p => by simp [passL]⟩
  | n + 1, s, s1, l, h => by
    rw [List.replicate_succ] at h
    simp only [passL] at h
    obtain ⟨t1, a1, h1, h⟩ := bnd_inv h
    obtain ⟨t2, l2, h2, h⟩ := bnd_inv h
    obtain ⟨c1, b1, y1, p1⟩ := hi h1
    obtain ⟨hl, c2, b2, y2, p2⟩ := ls_dc hi n h2
    injection h with _ h
    injection h with h3 h4
    subst h3 h4 b2 b1
    refine ⟨by simp [hl], c1 ++ c2, by simp [List.append_assoc], ?_, fun p => ?_⟩
    · simp only [lpY, Bool.false_eq_true, if_false]
      rw [y1]
      simp only
      rw [y2]
    · simp only [passL]
      rw [p1, bnd_ok rfl, p2, bnd_ok rfl]
      simp [List.append_assoc]
theorem list_dc {α : Type} {it ie : By → α → R α} {iy : St → α × St} {z : α} {most : Int} (hi : ∀ {s s1 : By} {a : α}, it s z = (0, s1, a) → ∃ c, s = c ++ s1 ∧ iy (s, false) = (a, (s1, false)) ∧ ∀ p, ie p a = (0, p ++ c, a)) (hm : 0 ≤ most ∧ most ≤ 2199023255552) {s s1 : By} {l : List α} (h : passList decC z it most s [] = (0, s1, l)) : ∃ c, s = c ++ s1 ∧ lsY iy (s, false) = (l, (s1, false)) ∧ (l.length : Int) ≤ most ∧ ∀ p, passList encC z ie most p l = (0, p ++ c, l) := by
  unfold passList at h
  obtain ⟨t1, a1, h1, h⟩ := bnd_inv h
  obtain ⟨t2, l2, h2, h⟩ := bnd_inv h
  obtain ⟨n1, c1, e1, b1, y1, p1⟩ := num_dc h1 hm
  rw [e1, show fit z [] ((n1 : Nat) : Int) = List.replicate n1 z by unfold fit; simp] at h2
  obtain ⟨hl, c2, b2, y2, p2⟩ := ls_dc hi n1 h2
  injection h with _ h
  injection h with h3 h4
  subst h3 h4 b2 b1
  have hle : ((n1 : Nat) : Int) ≤ most := by
        have := (numD_rng _ 0 most hm.1 (by rw [show numD (c1 ++ (c2 ++ t2)) 0 most = numD (c1 ++ (c2 ++ t2)) ([] : List α).length most from rfl]; rw [show numD (c1 ++ (c2 ++ t2)) (([] : List α).length : Int) most = _ from h1])).2
        rw [show numD (c1 ++ (c2 ++ t2)) 0 most = _ from h1, e1] at this
        exact this
  refine ⟨c1 ++ c2, by simp [List.append_assoc], ?_, by rw [hl]; exact hle, fun p => ?_⟩
  · unfold lsY
    rw [y1]
    exact y2
  · unfold passList
    have hc : encC.cnt p (l2.length : Int) most = (0, p ++ c1, (l2.length : Int)) := by
      have h5 := p1 p
      rw [e1] at h5
      show cntE p (l2.length : Int) most = _
      unfold cntE
      rw [hl, if_neg (by omega)]
      exact h5
    rw [hc, bnd_ok rfl, fit_all, p2, bnd_ok rfl]
    simp [List.append_assoc]
/-- a number written is read -/
theorem rt_num {p : By} {v most : Int} (hm : most ≤ 2199023255552) (h : (numE p v most).1 = 0) : ∃ c, numE p v most = (0, p ++ c, v) ∧ c.length ≤ 10 ∧ ∀ r v0, numD (c ++ r) v0 most = (0, r, v) := by
  by_cases hb : v < 0 ∨ most < v
  · unfold numE at h; rw [if_pos hb] at h; exact absurd (show (1 : Int) = 0 from h) (by decide)
  · refine ⟨uv v.toNat, by unfold numE; rw [if_neg hb], (uv_len _).2, fun r v0 => ?_⟩
    unfold numD
    rw [cl.num_uv (by omega) (by omega)]
    simp
    omega
theorem rt_txt {p i : By} (h : (txtE p i).1 = 0) : ∃ c, txtE p i = (0, p ++ c, i) ∧ c.length ≤ 30 ∧ ∀ r v0, txtD (c ++ r) v0 = (0, r, i) := by
  by_cases hb : 16 < i.length
  · unfold txtE at h; rw [if_pos hb] at h; exact absurd (show (80 : Int) = 0 from h) (by decide)
  · refine ⟨uv i.length ++ i, by unfold txtE; rw [if_neg hb, List.append_assoc], (by have := (uv_len i.length).2; rw [List.length_append]; omega), fun r v0 => ?_⟩
    unfold txtD
    rw [List.append_assoc, cl.num_uv (by omega) (by omega)]
    simp
theorem rt_fix {p : By} {v : Int} {k : Nat} (h0 : 0 ≤ v) (h1 : v.toNat < 256 ^ k) : ∃ c, fixE p v k = (0, p ++ c, v) ∧ c.length ≤ k ∧ ∀ r v0, fixD (c ++ r) v0 k = (0, r, v) := by
  refine ⟨be k v.toNat, rfl, Nat.le_of_eq (be_len _ _), fun r v0 => ?_⟩
  have hl := be_len k v.toNat
  unfold fixD
  rw [if_neg (by simp; omega), List.drop_left' hl, List.take_left' hl, fix_be k _ h1]
  simp
  omega
theorem rt_flg {p : By} {b : Bool} : ∃ c, flgE p b = (0, p ++ c, b) ∧ c.length ≤ 10 ∧ ∀ r v0, flgD (c ++ r) v0 = (0, r, b) := by
  cases b with
  | false =>
    refine ⟨uv 0, by unfold flgE; rw [uv_0]; rfl, (uv_len _).2, fun r v0 => ?_⟩
    unfold flgD
    rw [cl.num_uv (by omega) (by omega)]
    rfl
  | true =>
    refine ⟨uv 1, by unfold flgE; rw [uv_1]; rfl, (uv_len _).2, fun r v0 => ?_⟩
    unfold flgD
    rw [cl.num_uv (by omega) (by omega)]
    rfl
theorem rt_pt {p : By} {x : Pt} (hx : PtOk x) (h : (passPt encC p x).1 = 0) : ∃ c, passPt encC p x = (0, p ++ c, x) ∧ c.length ≤ 60 ∧ ∀ r v0, passPt decC (c ++ r) v0 = (0, r, x) := by
  have h256 : (256 : Nat) ^ 8 = 18446744073709551616 := by decide
  unfold passPt at h ⊢
  obtain ⟨c1, e1, q1, d1⟩ := rt_num (by omega) (bnd_inv1 h)
  rw [show encC.num p x.1 1099511627776 = _ from e1, bnd_ok rfl]
  obtain ⟨c2, e2, q2, d2⟩ := rt_fix (p := p ++ c1) (v := x.2.1) (k := 8) hx.1.1 (by have := hx.1; omega)
  rw [show encC.fix (p ++ c1) x.2.1 8 = _ from e2, bnd_ok rfl]
  obtain ⟨c3, e3, q3, d3⟩ := rt_fix (p := p ++ c1 ++ c2) (v := x.2.2) (k := 8) hx.2.1 (by have := hx.2; omega)
  rw [show encC.fix (p ++ c1 ++ c2) x.2.2 8 = _ from e3, bnd_ok rfl]
  refine ⟨c1 ++ (c2 ++ c3), by simp [List.append_assoc], by simp only [List.length_append]; omega, fun r v0 => ?_⟩
  have hA : (c1 ++ (c2 ++ c3)) ++ r = c1 ++ (c2 ++ (c3 ++ r)) := by simp [List.append_assoc]
  rw [hA, show decC.num (c1 ++ (c2 ++ (c3 ++ r))) v0.1 1099511627776 = _ from d1 _ _, bnd_ok rfl, show decC.fix (c2 ++ (c3 ++ r)) v0.2.1 8 = _ from d2 _ _, bnd_ok rfl, show decC.fix (c3 ++ r) v0.2.2 8 = _ from d3 _ _, bnd_ok rfl]
theorem rt_mt {p : By} {x : Mt} (hx : MtOk x) (h : (passMt encC p x).1 = 0) : ∃ c, passMt encC p x = (0, p ++ c, x) ∧ c.length ≤ 60 ∧ ∀ r v0, passMt decC (c ++ r) v0 = (0, r, x) := by
  have h256 : (256 : Nat) ^ 4 = 4294967296 := by decide
  have hm : x.2.2.2 % 4294967296 = x.2.2.2 := by have := hx.2; omega
  unfold passMt at h ⊢
  obtain ⟨c1, e1, q1, d1⟩ := rt_txt (bnd_inv1 h)
  rw [show encC.txt p x.1 = _ from e1, bnd_ok rfl] at h ⊢
  obtain ⟨c2, e2, q2, d2⟩ := rt_num (by omega) (bnd_inv1 h)
  rw [show encC.num (p ++ c1) x.2.1 1099511627776 = _ from e2, bnd_ok rfl] at h ⊢
  obtain ⟨c3, e3, q3, d3⟩ := rt_num (by omega) (bnd_inv1 h)
  rw [show encC.num (p ++ c1 ++ c2) x.2.2.1 512 = _ from e3, bnd_ok rfl] at h ⊢
  obtain ⟨c4, e4, q4, d4⟩ := rt_fix (p := p ++ c1 ++ c2 ++ c3) (v := x.2.2.2) (k := 4) hx.2.1 (by have := hx.2; omega)
  rw [show encC.fix (p ++ c1 ++ c2 ++ c3) x.2.2.2 4 = _ from e4, bnd_ok rfl, hm]
  refine ⟨c1 ++ (c2 ++ (c3 ++ c4)), by simp [List.append_assoc], by simp only [List.length_append]; omega, fun r v0 => ?_⟩
  have hA : (c1 ++ (c2 ++ (c3 ++ c4))) ++ r = c1 ++ (c2 ++ (c3 ++ (c4 ++ r))) := by simp [List.append_assoc]
  rw [hA, show decC.txt (c1 ++ (c2 ++ (c3 ++ (c4 ++ r)))) v0.1 = _ from d1 _ _, bnd_ok rfl, show decC.num (c2 ++ (c3 ++ (c4 ++ r))) v0.2.1 1099511627776 = _ from d2 _ _, bnd_ok rfl, show decC.num (c3 ++ (c4 ++ r)) v0.2.2.1 512 = _ from d3 _ _, bnd_ok rfl, show decC.fix (c4 ++ r) v0.2.2.2 4 = _ from d4 _ _, bnd_ok rfl, hm]
theorem rt_ls {α : Type} {it ie : By → α → R α} {z : α} {ok : α → Prop} (hi : ∀ {p : By} {x : α}, ok x → (ie p x).1 = 0 → ∃ c, ie p x = (0, p ++ c, x) ∧ c.length ≤ 60 ∧ ∀ r v0, it (c ++ r) v0 = (0, r, x)) : ∀ (l : List α) {p : By}, (∀ x ∈ l, ok x) → (passL ie p l).1 = 0 → ∃ c, passL ie p l = (0, p ++ c, l) ∧ c.length ≤ 60 * l.length ∧ ∀ r, passL it (c ++ r) (List.replicate l.length z) = (0, r, l)
  | [], p, _, _ => ⟨[], by simp [passL], by simp, fun r => rfl⟩
  | x :: l, p, hok, h => by
    simp only [passL] at h ⊢
    obtain ⟨c1, e1, q1, d1⟩ := hi (hok x List.mem_cons_self) (bnd_inv1 h)
    rw [e1, bnd_ok rfl] at h ⊢
    obtain ⟨c2, e2, q2, d2⟩ := rt_ls hi l (p := p ++ c1) (fun y hy => hok y (List.mem_cons_of_mem _ hy)) (bnd_inv1 h)
    rw [e2, bnd_ok rfl]
    refine ⟨c1 ++ c2, by simp [List.append_assoc], by simp only [List.length_append, List.length_cons]; omega, fun r => ?_⟩
    rw [List.length_cons, List.replicate_succ, List.append_assoc]
    simp only [passL]
    rw [d1, bnd_ok rfl, d2, bnd_ok rfl]
theorem rt_list {α : Type} {it ie : By → α → R α} {z : α} {ok : α → Prop} {most : Int} (hi : ∀ {p : By} {x : α}, ok x → (ie p x).1 = 0 → ∃ c, ie p x = (0, p ++ c, x) ∧ c.length ≤ 60 ∧ ∀ r v0, it (c ++ r) v0 = (0, r, x)) (hm : most ≤ 2199023255552) {l : List α} {p : By} (hok : ∀ x ∈ l, ok x) (h : (passList encC z ie most p l).1 = 0) : ∃ c, passList encC z ie most p l = (0, p ++ c, l) ∧ c.length ≤ 10 + 60 * most.toNat ∧ ∀ r, passList decC z it most (c ++ r) [] = (0, r, l) := by
  unfold passList at h ⊢
  have h1 := bnd_inv1 h
  have hcn : (l.length : Int) ≤ most ∧ ∃ c, encC.cnt p (l.length : Int) most = (0, p ++ c, (l.length : Int)) ∧ c.length ≤ 10 ∧ ∀ r v0, numD (c ++ r) v0 most = (0, r, (l.length : Int)) := by
    by_cases hb : most < (l.length : Int)
    · have : (cntE p (l.length : Int) most).1 = 52 := by unfold cntE; rw [if_pos hb]
      rw [show encC.cnt p (l.length : Int) most = cntE p (l.length : Int) most from rfl, this] at h1
      exact absurd h1 (by decide)
    · have e : encC.cnt p (l.length : Int) most = numE p (l.length : Int) most := if_neg hb
      rw [e] at h1 ⊢
      exact ⟨by omega, rt_num hm h1⟩
  obtain ⟨hle, c1, e1, q1, d1⟩ := hcn
  rw [e1, bnd_ok rfl, fit_all] at h ⊢
  obtain ⟨c2, e2, q2, d2⟩ := rt_ls (z := z) hi l hok (bnd_inv1 h)
  rw [e2, bnd_ok rfl]
  refine ⟨c1 ++ c2, by simp [List.append_assoc], by simp only [List.length_append]; omega, fun r => ?_⟩
  rw [List.append_assoc, show decC.cnt (c1 ++ (c2 ++ r)) (([] : List α).length : Int) most = _ from d1 _ _, bnd_ok rfl, show fit z [] (l.length : Int) = List.replicate l.length z by unfold fit; simp, d2, bnd_ok rfl]
theorem dc_1 {s s' : By} {m0 m x : Msg} (h : m.kind = 1) (hp : m.pts = []) (hm : m.mts = []) (H : rest decC s m0 m = (0, s', x)) : f1Y (s, false) m = (x, (s', false)) ∧ x.kind = m.kind ∧ x.seq = m.seq ∧ x.epoch = m.epoch ∧ (x.pts.length ≤ 512 ∧ x.mts.length ≤ 8) ∧ ∃ c, s = c ++ s' ∧ ∀ p m1, (rest encC p m1 x).1 = 0 ∧ (rest encC p m1 x).2.1 = p ++ c := by
  rw [rest_1 h] at H
  obtain ⟨t1, a1, h1, H⟩ := bnd_inv H
  obtain ⟨t2, a2, h2, H⟩ := bnd_inv H
  obtain ⟨t3, a3, h3, H⟩ := bnd_inv H
  obtain ⟨n1, c1, e1, b1, y1, p1⟩ := num_dc h1 (by omega)
  obtain ⟨c2, b2, y2, p2⟩ := txt_dc h2
  obtain ⟨c3, b3, y3, p3⟩ := pt_dc h3
  injection H with _ H
  injection H with H1 H2
  subst H1 H2
  subst b3 b2 b1
  refine ⟨?_, rfl, rfl, rfl, ⟨by show m.pts.length ≤ 512; rw [hp]; decide, by show m.mts.length ≤ 8; rw [hm]; decide⟩, c1 ++ (c2 ++ (c3)), by simp [List.append_assoc], fun p m1 => ?_⟩
  · unfold f1Y andY
    rw [y1]
    simp only
    rw [y2]
    simp only
    rw [y3]
    simp only [e1]
  · rw [rest_1 (m := _) (by exact h)]
    simp only
    rw [show encC.num _ a1 255 = _ from p1 _, bnd_ok rfl]
    rw [show encC.txt _ a2 = _ from p2 _, bnd_ok rfl]
    rw [show passPt encC _ a3 = _ from p3 _, bnd_ok rfl]
    exact ⟨rfl, by simp [List.append_assoc]⟩
theorem en_1 {p : By} {m0 m : Msg} (h : m.kind = 1) (ok : MsgF m) (H : (rest encC p m0 m).1 = 0) : ∃ c, (rest encC p m0 m).2.1 = p ++ c ∧ c.length ≤ 31000 ∧ ∀ r z z0, z.kind = 1 → z.pts = [] → z.mts = [] → ∃ u, rest decC (c ++ r) z0 z = (0, r, u) ∧ u.kind = z.kind ∧ u.seq = z.seq ∧ u.epoch = z.epoch := by
  rw [rest_1 h] at H ⊢
  obtain ⟨c1, e1, q1, d1⟩ := rt_num (by omega) (bnd_inv1 H)
  rw [show encC.num p m.space 255 = _ from e1, bnd_ok rfl] at H ⊢
  obtain ⟨c2, e2, q2, d2⟩ := rt_txt (bnd_inv1 H)
  rw [show encC.txt (p ++ c1) m.id = _ from e2, bnd_ok rfl] at H ⊢
  obtain ⟨c3, e3, q3, d3⟩ := rt_pt ok.2.1 (bnd_inv1 H)
  rw [show passPt encC (p ++ c1 ++ c2) m.p = _ from e3, bnd_ok rfl] at H ⊢
  refine ⟨c1 ++ (c2 ++ (c3)), by simp [List.append_assoc], by first | omega | (simp only [List.length_append]; omega), fun r z z0 hz hzp hzm => ⟨{ z with space := m.space, id := m.id, p := m.p }, ?_, rfl, rfl, rfl⟩⟩
  have hA : (c1 ++ (c2 ++ (c3))) ++ r = c1 ++ (c2 ++ (c3 ++ r)) := by simp [List.append_assoc]
  rw [hA, rest_1 hz, show decC.num (c1 ++ (c2 ++ (c3 ++ r))) z.space 255 = _ from d1 _ _, bnd_ok rfl, show decC.txt (c2 ++ (c3 ++ r)) z.id = _ from d2 _ _, bnd_ok rfl, show passPt decC (c3 ++ r) z.p = _ from d3 _ _, bnd_ok rfl]
theorem dc_0 {s s' : By} {m0 m x : Msg} (h : m.kind = 2) (hp : m.pts = []) (hm : m.mts = []) (H : rest decC s m0 m = (0, s', x)) : f2Y (s, false) m = (x, (s', false)) ∧ x.kind = m.kind ∧ x.seq = m.seq ∧ x.epoch = m.epoch ∧ (x.pts.length ≤ 512 ∧ x.mts.length ≤ 8) ∧ ∃ c, s = c ++ s' ∧ ∀ p m1, (rest encC p m1 x).1 = 0 ∧ (rest encC p m1 x).2.1 = p ++ c := by
  rw [rest_0 (by rw [h]; decide)] at H
  obtain ⟨t1, a1, h1, H⟩ := bnd_inv H
  obtain ⟨n1, c1, e1, b1, y1, p1⟩ := num_dc h1 (by omega)
  injection H with _ H
  injection H with H1 H2
  subst H1 H2
  subst b1
  refine ⟨?_, rfl, rfl, rfl, ⟨by show m.pts.length ≤ 512; rw [hp]; decide, by show m.mts.length ≤ 8; rw [hm]; decide⟩, c1, by simp [List.append_assoc], fun p m1 => ?_⟩
  · unfold f2Y andY
    rw [y1]
    simp only [e1]
  · rw [rest_0 (m := _) (by rw [show (_ : Msg).kind = 2 from h]; decide)]
    simp only
    rw [show encC.num _ a1 255 = _ from p1 _, bnd_ok rfl]
    exact ⟨rfl, by simp [List.append_assoc]⟩
theorem en_0 {p : By} {m0 m : Msg} (h : m.kind = 2) (ok : MsgF m) (H : (rest encC p m0 m).1 = 0) : ∃ c, (rest encC p m0 m).2.1 = p ++ c ∧ c.length ≤ 31000 ∧ ∀ r z z0, z.kind = 2 → z.pts = [] → z.mts = [] → ∃ u, rest decC (c ++ r) z0 z = (0, r, u) ∧ u.kind = z.kind ∧ u.seq = z.seq ∧ u.epoch = z.epoch := by
  rw [rest_0 (by rw [h]; decide)] at H ⊢
  obtain ⟨c1, e1, q1, d1⟩ := rt_num (by omega) (bnd_inv1 H)
  rw [show encC.num p m.err 255 = _ from e1, bnd_ok rfl] at H ⊢
  refine ⟨c1, by simp [List.append_assoc], by first | omega | (simp only [List.length_append]; omega), fun r z z0 hz hzp hzm => ⟨{ z with err := m.err }, ?_, rfl, rfl, rfl⟩⟩
  have hA : (c1) ++ r = c1 ++ r := by simp [List.append_assoc]
  rw [hA, rest_0 (by rw [hz]; decide), show decC.num (c1 ++ r) z.err 255 = _ from d1 _ _, bnd_ok rfl]
theorem dc_3 {s s' : By} {m0 m x : Msg} (h : m.kind = 3) (hp : m.pts = []) (hm : m.mts = []) (H : rest decC s m0 m = (0, s', x)) : f3Y (s, false) m = (x, (s', false)) ∧ x.kind = m.kind ∧ x.seq = m.seq ∧ x.epoch = m.epoch ∧ (x.pts.length ≤ 512 ∧ x.mts.length ≤ 8) ∧ ∃ c, s = c ++ s' ∧ ∀ p m1, (rest encC p m1 x).1 = 0 ∧ (rest encC p m1 x).2.1 = p ++ c := by
  rw [rg_3 h] at H
  obtain ⟨t1, a1, h1, H⟩ := bnd_inv H
  obtain ⟨t2, a2, h2, H⟩ := bnd_inv H
  obtain ⟨t3, a3, h3, H⟩ := bnd_inv H
  obtain ⟨t4, a4, h4, H⟩ := bnd_inv H
  obtain ⟨n1, c1, e1, b1, y1, p1⟩ := num_dc h1 (by omega)
  obtain ⟨c2, b2, y2, p2⟩ := txt_dc h2
  obtain ⟨n3, c3, e3, b3, y3, p3⟩ := num_dc h3 (by omega)
  obtain ⟨n4, c4, e4, b4, y4, p4⟩ := num_dc h4 (by omega)
  injection H with _ H
  injection H with H1 H2
  subst H1 H2
  subst b4 b3 b2 b1
  refine ⟨?_, rfl, rfl, rfl, ⟨by show m.pts.length ≤ 512; rw [hp]; decide, by show m.mts.length ≤ 8; rw [hm]; decide⟩, c1 ++ (c2 ++ (c3 ++ (c4))), by simp [List.append_assoc], fun p m1 => ?_⟩
  · unfold f3Y andY
    rw [y1]
    simp only
    rw [y2]
    simp only
    rw [y3]
    simp only
    rw [y4]
    simp only [e1, e3, e4]
  · rw [rg_3 (m := _) (by exact h)]
    simp only
    rw [show encC.num _ a1 255 = _ from p1 _, bnd_ok rfl]
    rw [show encC.txt _ a2 = _ from p2 _, bnd_ok rfl]
    rw [show encC.num _ a3 1099511627777 = _ from p3 _, bnd_ok rfl]
    rw [show encC.num _ a4 1099511627777 = _ from p4 _, bnd_ok rfl]
    exact ⟨rfl, by simp [List.append_assoc]⟩
theorem en_3 {p : By} {m0 m : Msg} (h : m.kind = 3) (ok : MsgF m) (H : (rest encC p m0 m).1 = 0) : ∃ c, (rest encC p m0 m).2.1 = p ++ c ∧ c.length ≤ 31000 ∧ ∀ r z z0, z.kind = 3 → z.pts = [] → z.mts = [] → ∃ u, rest decC (c ++ r) z0 z = (0, r, u) ∧ u.kind = z.kind ∧ u.seq = z.seq ∧ u.epoch = z.epoch := by
  rw [rg_3 h] at H ⊢
  obtain ⟨c1, e1, q1, d1⟩ := rt_num (by omega) (bnd_inv1 H)
  rw [show encC.num p m.space 255 = _ from e1, bnd_ok rfl] at H ⊢
  obtain ⟨c2, e2, q2, d2⟩ := rt_txt (bnd_inv1 H)
  rw [show encC.txt (p ++ c1) m.id = _ from e2, bnd_ok rfl] at H ⊢
  obtain ⟨c3, e3, q3, d3⟩ := rt_num (by omega) (bnd_inv1 H)
  rw [show encC.num (p ++ c1 ++ c2) m.rf 1099511627777 = _ from e3, bnd_ok rfl] at H ⊢
  obtain ⟨c4, e4, q4, d4⟩ := rt_num (by omega) (bnd_inv1 H)
  rw [show encC.num (p ++ c1 ++ c2 ++ c3) m.rt 1099511627777 = _ from e4, bnd_ok rfl] at H ⊢
  refine ⟨c1 ++ (c2 ++ (c3 ++ (c4))), by simp [List.append_assoc], by first | omega | (simp only [List.length_append]; omega), fun r z z0 hz hzp hzm => ⟨{ z with space := m.space, id := m.id, rf := m.rf, rt := m.rt }, ?_, rfl, rfl, rfl⟩⟩
  have hA : (c1 ++ (c2 ++ (c3 ++ (c4)))) ++ r = c1 ++ (c2 ++ (c3 ++ (c4 ++ r))) := by simp [List.append_assoc]
  rw [hA, rg_3 hz, show decC.num (c1 ++ (c2 ++ (c3 ++ (c4 ++ r)))) z.space 255 = _ from d1 _ _, bnd_ok rfl, show decC.txt (c2 ++ (c3 ++ (c4 ++ r))) z.id = _ from d2 _ _, bnd_ok rfl, show decC.num (c3 ++ (c4 ++ r)) z.rf 1099511627777 = _ from d3 _ _, bnd_ok rfl, show decC.num (c4 ++ r) z.rt 1099511627777 = _ from d4 _ _, bnd_ok rfl]
theorem dc_5 {s s' : By} {m0 m x : Msg} (h : m.kind = 5) (hp : m.pts = []) (hm : m.mts = []) (H : rest decC s m0 m = (0, s', x)) : f5Y (s, false) m = (x, (s', false)) ∧ x.kind = m.kind ∧ x.seq = m.seq ∧ x.epoch = m.epoch ∧ (x.pts.length ≤ 512 ∧ x.mts.length ≤ 8) ∧ ∃ c, s = c ++ s' ∧ ∀ p m1, (rest encC p m1 x).1 = 0 ∧ (rest encC p m1 x).2.1 = p ++ c := by
  rw [rg_5 h] at H
  obtain ⟨t1, a1, h1, H⟩ := bnd_inv H
  obtain ⟨t2, a2, h2, H⟩ := bnd_inv H
  obtain ⟨t3, a3, h3, H⟩ := bnd_inv H
  obtain ⟨t4, a4, h4, H⟩ := bnd_inv H
  obtain ⟨t5, a5, h5, H⟩ := bnd_inv H
  obtain ⟨t6, a6, h6, H⟩ := bnd_inv H
  obtain ⟨n1, c1, e1, b1, y1, p1⟩ := num_dc h1 (by omega)
  obtain ⟨n2, c2, e2, b2, y2, p2⟩ := num_dc h2 (by omega)
  obtain ⟨n3, c3, e3, b3, y3, p3⟩ := num_dc h3 (by omega)
  obtain ⟨n4, c4, e4, b4, y4, p4⟩ := num_dc h4 (by omega)
  obtain ⟨n5, c5, e5, b5, y5, p5⟩ := num_dc h5 (by omega)
  obtain ⟨c6, b6, y6, p6⟩ := txt_dc h6
  injection H with _ H
  injection H with H1 H2
  subst H1 H2
  subst b6 b5 b4 b3 b2 b1
  refine ⟨?_, rfl, rfl, rfl, ⟨by show m.pts.length ≤ 512; rw [hp]; decide, by show m.mts.length ≤ 8; rw [hm]; decide⟩, c1 ++ (c2 ++ (c3 ++ (c4 ++ (c5 ++ (c6))))), by simp [List.append_assoc], fun p m1 => ?_⟩
  · unfold f5Y andY
    rw [y1]
    simp only
    rw [y2]
    simp only
    rw [y3]
    simp only
    rw [y4]
    simp only
    rw [y5]
    simp only
    rw [y6]
    simp only [e1, e2, e3, e4, e5]
  · rw [rg_5 (m := _) (by exact h)]
    simp only
    rw [show encC.num _ a1 255 = _ from p1 _, bnd_ok rfl]
    rw [show encC.num _ a2 255 = _ from p2 _, bnd_ok rfl]
    rw [show encC.num _ a3 1099511627777 = _ from p3 _, bnd_ok rfl]
    rw [show encC.num _ a4 1099511627777 = _ from p4 _, bnd_ok rfl]
    rw [show encC.num _ a5 1099511627776 = _ from p5 _, bnd_ok rfl]
    rw [show encC.txt _ a6 = _ from p6 _, bnd_ok rfl]
    exact ⟨rfl, by simp [List.append_assoc]⟩
theorem en_5 {p : By} {m0 m : Msg} (h : m.kind = 5) (ok : MsgF m) (H : (rest encC p m0 m).1 = 0) : ∃ c, (rest encC p m0 m).2.1 = p ++ c ∧ c.length ≤ 31000 ∧ ∀ r z z0, z.kind = 5 → z.pts = [] → z.mts = [] → ∃ u, rest decC (c ++ r) z0 z = (0, r, u) ∧ u.kind = z.kind ∧ u.seq = z.seq ∧ u.epoch = z.epoch := by
  rw [rg_5 h] at H ⊢
  obtain ⟨c1, e1, q1, d1⟩ := rt_num (by omega) (bnd_inv1 H)
  rw [show encC.num p m.space 255 = _ from e1, bnd_ok rfl] at H ⊢
  obtain ⟨c2, e2, q2, d2⟩ := rt_num (by omega) (bnd_inv1 H)
  rw [show encC.num (p ++ c1) m.shard 255 = _ from e2, bnd_ok rfl] at H ⊢
  obtain ⟨c3, e3, q3, d3⟩ := rt_num (by omega) (bnd_inv1 H)
  rw [show encC.num (p ++ c1 ++ c2) m.rf 1099511627777 = _ from e3, bnd_ok rfl] at H ⊢
  obtain ⟨c4, e4, q4, d4⟩ := rt_num (by omega) (bnd_inv1 H)
  rw [show encC.num (p ++ c1 ++ c2 ++ c3) m.rt 1099511627777 = _ from e4, bnd_ok rfl] at H ⊢
  obtain ⟨c5, e5, q5, d5⟩ := rt_num (by omega) (bnd_inv1 H)
  rw [show encC.num (p ++ c1 ++ c2 ++ c3 ++ c4) m.block 1099511627776 = _ from e5, bnd_ok rfl] at H ⊢
  obtain ⟨c6, e6, q6, d6⟩ := rt_txt (bnd_inv1 H)
  rw [show encC.txt (p ++ c1 ++ c2 ++ c3 ++ c4 ++ c5) m.id = _ from e6, bnd_ok rfl] at H ⊢
  refine ⟨c1 ++ (c2 ++ (c3 ++ (c4 ++ (c5 ++ (c6))))), by simp [List.append_assoc], by first | omega | (simp only [List.length_append]; omega), fun r z z0 hz hzp hzm => ⟨{ z with space := m.space, shard := m.shard, rf := m.rf, rt := m.rt, block := m.block, id := m.id }, ?_, rfl, rfl, rfl⟩⟩
  have hA : (c1 ++ (c2 ++ (c3 ++ (c4 ++ (c5 ++ (c6)))))) ++ r = c1 ++ (c2 ++ (c3 ++ (c4 ++ (c5 ++ (c6 ++ r))))) := by simp [List.append_assoc]
  rw [hA, rg_5 hz, show decC.num (c1 ++ (c2 ++ (c3 ++ (c4 ++ (c5 ++ (c6 ++ r)))))) z.space 255 = _ from d1 _ _, bnd_ok rfl, show decC.num (c2 ++ (c3 ++ (c4 ++ (c5 ++ (c6 ++ r))))) z.shard 255 = _ from d2 _ _, bnd_ok rfl, show decC.num (c3 ++ (c4 ++ (c5 ++ (c6 ++ r)))) z.rf 1099511627777 = _ from d3 _ _, bnd_ok rfl, show decC.num (c4 ++ (c5 ++ (c6 ++ r))) z.rt 1099511627777 = _ from d4 _ _, bnd_ok rfl, show decC.num (c5 ++ (c6 ++ r)) z.block 1099511627776 = _ from d5 _ _, bnd_ok rfl, show decC.txt (c6 ++ r) z.id = _ from d6 _ _, bnd_ok rfl]
theorem dc_7 {s s' : By} {m0 m x : Msg} (h : m.kind = 7) (hp : m.pts = []) (hm : m.mts = []) (H : rest decC s m0 m = (0, s', x)) : f7Y (s, false) m = (x, (s', false)) ∧ x.kind = m.kind ∧ x.seq = m.seq ∧ x.epoch = m.epoch ∧ (x.pts.length ≤ 512 ∧ x.mts.length ≤ 8) ∧ ∃ c, s = c ++ s' ∧ ∀ p m1, (rest encC p m1 x).1 = 0 ∧ (rest encC p m1 x).2.1 = p ++ c := by
  rw [rest_7 h] at H
  obtain ⟨t1, a1, h1, H⟩ := bnd_inv H
  obtain ⟨t2, a2, h2, H⟩ := bnd_inv H
  obtain ⟨t3, a3, h3, H⟩ := bnd_inv H
  obtain ⟨t4, a4, h4, H⟩ := bnd_inv H
  obtain ⟨n1, c1, e1, b1, y1, p1⟩ := num_dc h1 (by omega)
  obtain ⟨n2, c2, e2, b2, y2, p2⟩ := num_dc h2 (by omega)
  obtain ⟨n3, c3, e3, b3, y3, p3⟩ := num_dc h3 (by omega)
  obtain ⟨c4, b4, y4, p4⟩ := txt_dc h4
  injection H with _ H
  injection H with H1 H2
  subst H1 H2
  subst b4 b3 b2 b1
  refine ⟨?_, rfl, rfl, rfl, ⟨by show m.pts.length ≤ 512; rw [hp]; decide, by show m.mts.length ≤ 8; rw [hm]; decide⟩, c1 ++ (c2 ++ (c3 ++ (c4))), by simp [List.append_assoc], fun p m1 => ?_⟩
  · unfold f7Y andY
    rw [y1]
    simp only
    rw [y2]
    simp only
    rw [y3]
    simp only
    rw [y4]
    simp only [e1, e2, e3]
  · rw [rest_7 (m := _) (by exact h)]
    simp only
    rw [show encC.num _ a1 255 = _ from p1 _, bnd_ok rfl]
    rw [show encC.num _ a2 255 = _ from p2 _, bnd_ok rfl]
    rw [show encC.num _ a3 1099511627776 = _ from p3 _, bnd_ok rfl]
    rw [show encC.txt _ a4 = _ from p4 _, bnd_ok rfl]
    exact ⟨rfl, by simp [List.append_assoc]⟩
theorem en_7 {p : By} {m0 m : Msg} (h : m.kind = 7) (ok : MsgF m) (H : (rest encC p m0 m).1 = 0) : ∃ c, (rest encC p m0 m).2.1 = p ++ c ∧ c.length ≤ 31000 ∧ ∀ r z z0, z.kind = 7 → z.pts = [] → z.mts = [] → ∃ u, rest decC (c ++ r) z0 z = (0, r, u) ∧ u.kind = z.kind ∧ u.seq = z.seq ∧ u.epoch = z.epoch := by
  rw [rest_7 h] at H ⊢
  obtain ⟨c1, e1, q1, d1⟩ := rt_num (by omega) (bnd_inv1 H)
  rw [show encC.num p m.space 255 = _ from e1, bnd_ok rfl] at H ⊢
  obtain ⟨c2, e2, q2, d2⟩ := rt_num (by omega) (bnd_inv1 H)
  rw [show encC.num (p ++ c1) m.shard 255 = _ from e2, bnd_ok rfl] at H ⊢
  obtain ⟨c3, e3, q3, d3⟩ := rt_num (by omega) (bnd_inv1 H)
  rw [show encC.num (p ++ c1 ++ c2) m.block 1099511627776 = _ from e3, bnd_ok rfl] at H ⊢
  obtain ⟨c4, e4, q4, d4⟩ := rt_txt (bnd_inv1 H)
  rw [show encC.txt (p ++ c1 ++ c2 ++ c3) m.id = _ from e4, bnd_ok rfl] at H ⊢
  refine ⟨c1 ++ (c2 ++ (c3 ++ (c4))), by simp [List.append_assoc], by first | omega | (simp only [List.length_append]; omega), fun r z z0 hz hzp hzm => ⟨{ z with space := m.space, shard := m.shard, block := m.block, id := m.id }, ?_, rfl, rfl, rfl⟩⟩
  have hA : (c1 ++ (c2 ++ (c3 ++ (c4)))) ++ r = c1 ++ (c2 ++ (c3 ++ (c4 ++ r))) := by simp [List.append_assoc]
  rw [hA, rest_7 hz, show decC.num (c1 ++ (c2 ++ (c3 ++ (c4 ++ r)))) z.space 255 = _ from d1 _ _, bnd_ok rfl, show decC.num (c2 ++ (c3 ++ (c4 ++ r))) z.shard 255 = _ from d2 _ _, bnd_ok rfl, show decC.num (c3 ++ (c4 ++ r)) z.block 1099511627776 = _ from d3 _ _, bnd_ok rfl, show decC.txt (c4 ++ r) z.id = _ from d4 _ _, bnd_ok rfl]
theorem dc_6 {s s' : By} {m0 m x : Msg} (h : m.kind = 6) (hp : m.pts = []) (hm : m.mts = []) (H : rest decC s m0 m = (0, s', x)) : f6Y (s, false) m = (x, (s', false)) ∧ x.kind = m.kind ∧ x.seq = m.seq ∧ x.epoch = m.epoch ∧ (x.pts.length ≤ 512 ∧ x.mts.length ≤ 8) ∧ ∃ c, s = c ++ s' ∧ ∀ p m1, (rest encC p m1 x).1 = 0 ∧ (rest encC p m1 x).2.1 = p ++ c := by
  rw [rest_6 h] at H
  rw [hm] at H
  obtain ⟨t1, a1, h1, H⟩ := bnd_inv H
  obtain ⟨t2, a2, h2, H⟩ := bnd_inv H
  obtain ⟨t3, a3, h3, H⟩ := bnd_inv H
  obtain ⟨n1, c1, e1, b1, y1, p1⟩ := num_dc h1 (by omega)
  obtain ⟨c2, b2, y2, p2⟩ := flg_dc h2
  obtain ⟨c3, b3, y3, l3, p3⟩ := list_dc (iy := mtY) (ie := passMt encC) mt_dc (by omega) h3
  injection H with _ H
  injection H with H1 H2
  subst H1 H2
  subst b3 b2 b1
  refine ⟨?_, rfl, rfl, rfl, ⟨by show m.pts.length ≤ 512; rw [hp]; decide, by show a3.length ≤ 8; omega⟩, c1 ++ (c2 ++ (c3)), by simp [List.append_assoc], fun p m1 => ?_⟩
  · unfold f6Y andY
    rw [y1]
    simp only
    rw [y2]
    simp only
    rw [y3]
    simp only [e1]
    cases a2 <;> rfl
  · rw [rest_6 (m := _) (by exact h)]
    simp only
    rw [show encC.num _ a1 255 = _ from p1 _, bnd_ok rfl]
    rw [show encC.flg _ a2 = _ from p2 _, bnd_ok rfl]
    rw [show passList encC ([], 0, 0, 0) (passMt encC) 8 _ a3 = _ from p3 _, bnd_ok rfl]
    exact ⟨rfl, by simp [List.append_assoc]⟩
theorem en_6 {p : By} {m0 m : Msg} (h : m.kind = 6) (ok : MsgF m) (H : (rest encC p m0 m).1 = 0) : ∃ c, (rest encC p m0 m).2.1 = p ++ c ∧ c.length ≤ 31000 ∧ ∀ r z z0, z.kind = 6 → z.pts = [] → z.mts = [] → ∃ u, rest decC (c ++ r) z0 z = (0, r, u) ∧ u.kind = z.kind ∧ u.seq = z.seq ∧ u.epoch = z.epoch := by
  rw [rest_6 h] at H ⊢
  obtain ⟨c1, e1, q1, d1⟩ := rt_num (by omega) (bnd_inv1 H)
  rw [show encC.num p m.err 255 = _ from e1, bnd_ok rfl] at H ⊢
  obtain ⟨c2, e2, q2, d2⟩ := rt_flg (p := p ++ c1) (b := m.more)
  rw [show encC.flg (p ++ c1) m.more = _ from e2, bnd_ok rfl] at H ⊢
  obtain ⟨c3, e3, q3, d3⟩ := rt_list (it := passMt decC) rt_mt (by omega) ok.2.2.2 (bnd_inv1 H)
  rw [show passList encC ([], 0, 0, 0) (passMt encC) 8 (p ++ c1 ++ c2) m.mts = _ from e3, bnd_ok rfl] at H ⊢
  refine ⟨c1 ++ (c2 ++ (c3)), by simp [List.append_assoc], by first | omega | (simp only [List.length_append]; omega), fun r z z0 hz hzp hzm => ⟨{ z with err := m.err, more := m.more, mts := m.mts }, ?_, rfl, rfl, rfl⟩⟩
  have hA : (c1 ++ (c2 ++ (c3))) ++ r = c1 ++ (c2 ++ (c3 ++ r)) := by simp [List.append_assoc]
  rw [hA, rest_6 hz, show decC.num (c1 ++ (c2 ++ (c3 ++ r))) z.err 255 = _ from d1 _ _, bnd_ok rfl, show decC.flg (c2 ++ (c3 ++ r)) z.more = _ from d2 _ _, bnd_ok rfl, hzm, show passList decC ([], 0, 0, 0) (passMt decC) 8 (c3 ++ r) [] = _ from d3 _, bnd_ok rfl]
theorem dc_4 {s s' : By} {m0 m x : Msg} (h : m.kind = 4) (hp : m.pts = []) (hm : m.mts = []) (H : rest decC s m0 m = (0, s', x)) : f4Y (s, false) m = (x, (s', false)) ∧ x.kind = m.kind ∧ x.seq = m.seq ∧ x.epoch = m.epoch ∧ (x.pts.length ≤ 512 ∧ x.mts.length ≤ 8) ∧ ∃ c, s = c ++ s' ∧ ∀ p m1, (rest encC p m1 x).1 = 0 ∧ (rest encC p m1 x).2.1 = p ++ c := by
  rw [rest_4 h] at H
  rw [hp] at H
  obtain ⟨t1, a1, h1, H⟩ := bnd_inv H
  obtain ⟨t2, a2, h2, H⟩ := bnd_inv H
  obtain ⟨n1, c1, e1, b1, y1, p1⟩ := num_dc h1 (by omega)
  obtain ⟨c2, b2, y2, l2, p2⟩ := list_dc (iy := ptY) (ie := passPt encC) pt_dc (by omega) h2
  injection H with _ H
  injection H with H1 H2
  subst H1 H2
  subst b2 b1
  refine ⟨?_, rfl, rfl, rfl, ⟨by show a2.length ≤ 512; omega, by show m.mts.length ≤ 8; rw [hm]; decide⟩, c1 ++ (c2), by simp [List.append_assoc], fun p m1 => ?_⟩
  · unfold f4Y andY
    rw [y1]
    simp only
    rw [y2]
    simp only [e1]
  · rw [rest_4 (m := _) (by exact h)]
    simp only
    rw [show encC.num _ a1 255 = _ from p1 _, bnd_ok rfl]
    rw [show passList encC (0, 0, 0) (passPt encC) 512 _ a2 = _ from p2 _, bnd_ok rfl]
    exact ⟨rfl, by simp [List.append_assoc]⟩
theorem en_4 {p : By} {m0 m : Msg} (h : m.kind = 4) (ok : MsgF m) (H : (rest encC p m0 m).1 = 0) : ∃ c, (rest encC p m0 m).2.1 = p ++ c ∧ c.length ≤ 31000 ∧ ∀ r z z0, z.kind = 4 → z.pts = [] → z.mts = [] → ∃ u, rest decC (c ++ r) z0 z = (0, r, u) ∧ u.kind = z.kind ∧ u.seq = z.seq ∧ u.epoch = z.epoch := by
  rw [rest_4 h] at H ⊢
  obtain ⟨c1, e1, q1, d1⟩ := rt_num (by omega) (bnd_inv1 H)
  rw [show encC.num p m.err 255 = _ from e1, bnd_ok rfl] at H ⊢
  obtain ⟨c2, e2, q2, d2⟩ := rt_list (it := passPt decC) rt_pt (by omega) ok.2.2.1 (bnd_inv1 H)
  rw [show passList encC (0, 0, 0) (passPt encC) 512 (p ++ c1) m.pts = _ from e2, bnd_ok rfl] at H ⊢
  refine ⟨c1 ++ (c2), by simp [List.append_assoc], by first | omega | (simp only [List.length_append]; omega), fun r z z0 hz hzp hzm => ⟨{ z with err := m.err, pts := m.pts }, ?_, rfl, rfl, rfl⟩⟩
  have hA : (c1 ++ (c2)) ++ r = c1 ++ (c2 ++ r) := by simp [List.append_assoc]
  rw [hA, rest_4 hz, show decC.num (c1 ++ (c2 ++ r)) z.err 255 = _ from d1 _ _, bnd_ok rfl, hzp, show passList decC (0, 0, 0) (passPt decC) 512 (c2 ++ r) [] = _ from d2 _, bnd_ok rfl]
theorem dc_8 {s s' : By} {m0 m x : Msg} (h : m.kind = 8) (hp : m.pts = []) (hm : m.mts = []) (H : rest decC s m0 m = (0, s', x)) : f4Y (s, false) m = (x, (s', false)) ∧ x.kind = m.kind ∧ x.seq = m.seq ∧ x.epoch = m.epoch ∧ (x.pts.length ≤ 512 ∧ x.mts.length ≤ 8) ∧ ∃ c, s = c ++ s' ∧ ∀ p m1, (rest encC p m1 x).1 = 0 ∧ (rest encC p m1 x).2.1 = p ++ c := by
  rw [rest_8 h] at H
  rw [hp] at H
  obtain ⟨t1, a1, h1, H⟩ := bnd_inv H
  obtain ⟨t2, a2, h2, H⟩ := bnd_inv H
  obtain ⟨n1, c1, e1, b1, y1, p1⟩ := num_dc h1 (by omega)
  obtain ⟨c2, b2, y2, l2, p2⟩ := list_dc (iy := ptY) (ie := passPt encC) pt_dc (by omega) h2
  injection H with _ H
  injection H with H1 H2
  subst H1 H2
  subst b2 b1
  refine ⟨?_, rfl, rfl, rfl, ⟨by show a2.length ≤ 512; omega, by show m.mts.length ≤ 8; rw [hm]; decide⟩, c1 ++ (c2), by simp [List.append_assoc], fun p m1 => ?_⟩
  · unfold f4Y andY
    rw [y1]
    simp only
    rw [y2]
    simp only [e1]
  · rw [rest_8 (m := _) (by exact h)]
    simp only
    rw [show encC.num _ a1 255 = _ from p1 _, bnd_ok rfl]
    rw [show passList encC (0, 0, 0) (passPt encC) 512 _ a2 = _ from p2 _, bnd_ok rfl]
    exact ⟨rfl, by simp [List.append_assoc]⟩
theorem en_8 {p : By} {m0 m : Msg} (h : m.kind = 8) (ok : MsgF m) (H : (rest encC p m0 m).1 = 0) : ∃ c, (rest encC p m0 m).2.1 = p ++ c ∧ c.length ≤ 31000 ∧ ∀ r z z0, z.kind = 8 → z.pts = [] → z.mts = [] → ∃ u, rest decC (c ++ r) z0 z = (0, r, u) ∧ u.kind = z.kind ∧ u.seq = z.seq ∧ u.epoch = z.epoch := by
  rw [rest_8 h] at H ⊢
  obtain ⟨c1, e1, q1, d1⟩ := rt_num (by omega) (bnd_inv1 H)
  rw [show encC.num p m.err 255 = _ from e1, bnd_ok rfl] at H ⊢
  obtain ⟨c2, e2, q2, d2⟩ := rt_list (it := passPt decC) rt_pt (by omega) ok.2.2.1 (bnd_inv1 H)
  rw [show passList encC (0, 0, 0) (passPt encC) 512 (p ++ c1) m.pts = _ from e2, bnd_ok rfl] at H ⊢
  refine ⟨c1 ++ (c2), by simp [List.append_assoc], by first | omega | (simp only [List.length_append]; omega), fun r z z0 hz hzp hzm => ⟨{ z with err := m.err, pts := m.pts }, ?_, rfl, rfl, rfl⟩⟩
  have hA : (c1 ++ (c2)) ++ r = c1 ++ (c2 ++ r) := by simp [List.append_assoc]
  rw [hA, rest_8 hz, show decC.num (c1 ++ (c2 ++ r)) z.err 255 = _ from d1 _ _, bnd_ok rfl, hzp, show passList decC (0, 0, 0) (passPt decC) 512 (c2 ++ r) [] = _ from d2 _, bnd_ok rfl]
theorem pass_rest (C : Cd) (s : By) (m : Msg) : pass C s m = bnd (C.num s m.seq 1099511627776) m fun s a => bnd (C.num s m.epoch 1099511627776) m fun s b => rest C s m ({ m with seq := a, epoch := b } : Msg) := rfl
theorem rest_dc {s s' : By} {m0 m x : Msg} (hk : 1 ≤ m.kind ∧ m.kind ≤ 8) (hp : m.pts = []) (hm : m.mts = []) (H : rest decC s m0 m = (0, s', x)) : fY (s, false) m = (x, (s', false)) ∧ x.kind = m.kind ∧ x.seq = m.seq ∧ x.epoch = m.epoch ∧ (x.pts.length ≤ 512 ∧ x.mts.length ≤ 8) ∧ ∃ c, s = c ++ s' ∧ ∀ p m1, (rest encC p m1 x).1 = 0 ∧ (rest encC p m1 x).2.1 = p ++ c := by
  have hkk : m.kind = 1 ∨ m.kind = 2 ∨ m.kind = 3 ∨ m.kind = 4 ∨ m.kind = 5 ∨ m.kind = 6 ∨ m.kind = 7 ∨ m.kind = 8 := by omega
  unfold fY
  rcases hkk with h | h | h | h | h | h | h | h <;> simp only [h, show (1 : Int) ≠ 2 by decide, true_or, or_true, if_true, if_false, show ((2 : Int) = 1) = False by decide, show ((3 : Int) = 1) = False by decide, show ((3 : Int) = 2) = False by decide, show ((4 : Int) = 1) = False by decide, show ((4 : Int) = 2) = False by decide, show ((4 : Int) = 3) = False by decide, show ((5 : Int) = 1) = False by decide, show ((5 : Int) = 2) = False by decide, show ((5 : Int) = 3) = False by decide, show ((5 : Int) = 4 ∨ (5 : Int) = 8) = False by decide, show ((6 : Int) = 1) = False by decide, show ((6 : Int) = 2) = False by decide, show ((6 : Int) = 3) = False by decide, show ((6 : Int) = 4 ∨ (6 : Int) = 8) = False by decide, show ((6 : Int) = 5) = False by decide, show ((7 : Int) = 1) = False by decide, show ((7 : Int) = 2) = False by decide, show ((7 : Int) = 3) = False by decide, show ((7 : Int) = 4 ∨ (7 : Int) = 8) = False by decide, show ((7 : Int) = 5) = False by decide, show ((7 : Int) = 6) = False by decide, show ((8 : Int) = 1) = False by decide, show ((8 : Int) = 2) = False by decide, show ((8 : Int) = 3) = False by decide]
  · have := dc_1 h hp hm H; rwa [h] at this
  · have := dc_0 h hp hm H; rwa [h] at this
  · have := dc_3 h hp hm H; rwa [h] at this
  · have := dc_4 h hp hm H; rwa [h] at this
  · have := dc_5 h hp hm H; rwa [h] at this
  · have := dc_6 h hp hm H; rwa [h] at this
  · have := dc_7 h hp hm H; rwa [h] at this
  · have := dc_8 h hp hm H; rwa [h] at this
theorem rest_en {p : By} {m0 m : Msg} (hk : 1 ≤ m.kind ∧ m.kind ≤ 8) (ok : MsgF m) (H : (rest encC p m0 m).1 = 0) : ∃ c, (rest encC p m0 m).2.1 = p ++ c ∧ c.length ≤ 31000 ∧ ∀ r z z0, z.kind = m.kind → z.pts = [] → z.mts = [] → ∃ u, rest decC (c ++ r) z0 z = (0, r, u) ∧ u.kind = z.kind ∧ u.seq = z.seq ∧ u.epoch = z.epoch := by
  have hkk : m.kind = 1 ∨ m.kind = 2 ∨ m.kind = 3 ∨ m.kind = 4 ∨ m.kind = 5 ∨ m.kind = 6 ∨ m.kind = 7 ∨ m.kind = 8 := by omega
  rcases hkk with h | h | h | h | h | h | h | h
  · rw [h]; exact en_1 h ok H
  · rw [h]; exact en_0 h ok H
  · rw [h]; exact en_3 h ok H
  · rw [h]; exact en_4 h ok H
  · rw [h]; exact en_5 h ok H
  · rw [h]; exact en_6 h ok H
  · rw [h]; exact en_7 h ok H
  · rw [h]; exact en_8 h ok H
theorem pass_dc {s s' : By} {k : Nat} {x : Msg} (hk : 1 ≤ k ∧ k ≤ 8) (H : pass decC s (kindM k) = (0, s', x)) : readY k s = (x, (s', false)) ∧ x.kind = (k : Int) ∧ (x.pts.length ≤ 512 ∧ x.mts.length ≤ 8) ∧ ∃ c, s = c ++ s' ∧ ∀ p, (pass encC p x).1 = 0 ∧ (pass encC p x).2.1 = p ++ c := by
  rw [pass_rest] at H
  obtain ⟨t1, a1, h1, H⟩ := bnd_inv H
  obtain ⟨t2, a2, h2, H⟩ := bnd_inv H
  obtain ⟨n1, c1, e1, b1, y1, p1⟩ := num_dc h1 (by omega)
  obtain ⟨n2, c2, e2, b2, y2, p2⟩ := num_dc h2 (by omega)
  obtain ⟨hf, hxk, hxs, hxe, hfw, c3, b3, p3⟩ := rest_dc (m := ({ kindM k with seq := a1, epoch := a2 } : Msg)) ⟨by show (1 : Int) ≤ (k : Int); omega, by show (k : Int) ≤ 8; omega⟩ rfl rfl H
  subst b3 b2 b1
  replace hxs : x.seq = a1 := hxs
  replace hxe : x.epoch = a2 := hxe
  refine ⟨?_, hxk, hfw, c1 ++ (c2 ++ c3), by simp [List.append_assoc], fun p => ?_⟩
  · unfold readY andY
    rw [y1]
    simp only
    rw [y2]
    simp only
    rw [← e1, ← e2]
    exact hf
  · have hx : ({ x with seq := a1, epoch := a2 } : Msg) = x := by rw [← hxs, ← hxe]
    rw [pass_rest, hxs, show encC.num p a1 1099511627776 = _ from p1 p, bnd_ok rfl, hxe, show encC.num (p ++ c1) a2 1099511627776 = _ from p2 _, bnd_ok rfl, hx]
    have := p3 (p ++ c1 ++ c2) x
    refine ⟨this.1, ?_⟩
    rw [this.2]
    simp [List.append_assoc]
theorem pass_en {p : By} {m : Msg} (hk : 1 ≤ m.kind ∧ m.kind ≤ 8) (ok : MsgF m) (H : (pass encC p m).1 = 0) : ∃ c, (pass encC p m).2.1 = p ++ c ∧ c.length ≤ 31100 ∧ ∀ r, ∃ u, pass decC (c ++ r) (kindM m.kind.toNat) = (0, r, u) ∧ u.kind = m.kind ∧ u.seq = m.seq ∧ u.epoch = m.epoch := by
  rw [pass_rest] at H ⊢
  obtain ⟨c1, e1, q1, d1⟩ := rt_num (by omega) (bnd_inv1 H)
  rw [show encC.num p m.seq 1099511627776 = _ from e1, bnd_ok rfl] at H ⊢
  obtain ⟨c2, e2, q2, d2⟩ := rt_num (by omega) (bnd_inv1 H)
  rw [show encC.num (p ++ c1) m.epoch 1099511627776 = _ from e2, bnd_ok rfl] at H ⊢
  obtain ⟨c3, e3, q3, d3⟩ := rest_en (m := m) hk ok H
  rw [show ({ m with seq := m.seq, epoch := m.epoch } : Msg) = m from rfl, e3]
  refine ⟨c1 ++ (c2 ++ c3), by simp [List.append_assoc], by simp only [List.length_append]; omega, fun r => ?_⟩
  have hkz : (m.kind.toNat : Int) = m.kind := by omega
  obtain ⟨u, hu, u1, u2, u3⟩ := d3 r ({ kindM m.kind.toNat with seq := m.seq, epoch := m.epoch } : Msg) (kindM m.kind.toNat) hkz rfl rfl
  refine ⟨u, ?_, u1.trans hkz, u2, u3⟩
  have hA : (c1 ++ (c2 ++ c3)) ++ r = c1 ++ (c2 ++ (c3 ++ r)) := by simp [List.append_assoc]
  rw [hA, pass_rest, show decC.num (c1 ++ (c2 ++ (c3 ++ r))) (kindM m.kind.toNat).seq 1099511627776 = _ from d1 _ _, bnd_ok rfl, show decC.num (c2 ++ (c3 ++ r)) (kindM m.kind.toNat).epoch 1099511627776 = _ from d2 _ _, bnd_ok rfl]
  exact hu
theorem kind_byte (k : UInt8) : UInt8.ofNat ((k.toNat : Int)).toNat = k := by rw [Int.toNat_natCast]; simp
theorem decM_cons (k : UInt8) (s : By) : decM (k :: s) = if 32767 < s.length ∨ k.toNat < 1 ∨ 8 < k.toNat then none else if (pass decC s (kindM k.toNat)).1 = 0 ∧ (pass decC s (kindM k.toNat)).2.1 = [] then some (pass decC s (kindM k.toNat)).2.2 else none := rfl
theorem ansY_cons (k : UInt8) (s : By) : ansY (k :: s) = if 32767 < s.length then none else if (readY k.toNat s).2.2 = true ∨ (encM (readY k.toNat s).1).2 ≠ 0 ∨ (encM (readY k.toNat s).1).1 ≠ k :: s then none else some (readY k.toNat s).1 := rfl
theorem readY_ok (k : Nat) (s : By) : MsgF (readY k s).1 := fY_ok _ _ (zero_ok _ _ _)
def MsgS (m : Msg) : Prop := m.id.length ≤ 16 ∧ ∀ x ∈ m.mts, x.1.length ≤ 16
theorem ls_mt_s (st : St) : ∀ x ∈ (lsY mtY st).1, x.1.length ≤ 16 := by unfold lsY; exact mem_lpY (p := fun x : Mt => x.1.length ≤ 16) (fun st => idY_16 st) _ _
theorem fY_s (st : St) (m : Msg) (h : MsgS m) : MsgS (fY st m).1 := by
  obtain ⟨h1, h4⟩ := h
  unfold fY
  split
  · simp only [f1Y, andY, MsgS]; exact ⟨idY_16 _, h4⟩
  split
  · simp only [f2Y, andY, MsgS]; exact ⟨h1, h4⟩
  split
  · simp only [f3Y, andY, MsgS]; exact ⟨idY_16 _, h4⟩
  split
  · simp only [f4Y, andY, MsgS]; exact ⟨h1, h4⟩
  split
  · simp only [f5Y, andY, MsgS]; exact ⟨idY_16 _, h4⟩
  split
  · simp only [f6Y, andY, MsgS]; exact ⟨h1, ls_mt_s _⟩
  split
  · simp only [f7Y, andY, MsgS]; exact ⟨idY_16 _, h4⟩
  · exact ⟨h1, h4⟩
theorem zero_s (k : Nat) (a b : Int) : MsgS { kindM k with seq := a, epoch := b } := ⟨show (0 : Nat) ≤ 16 by decide, fun x hx => absurd (show x ∈ ([] : List Mt) from hx) (by simp)⟩
theorem readY_s (k : Nat) (s : By) : MsgS (readY k s).1 := fY_s _ _ (zero_s _ _ _)
theorem readY_kind (k : Nat) (s : By) : (readY k s).1.kind = (k : Int) := fY_kind _ _
theorem encM_ok {m : Msg} (h : (encM m).2 = 0) : (1 ≤ m.kind ∧ m.kind ≤ 8) ∧ (pass encC [UInt8.ofNat m.kind.toNat] m).1 = 0 ∧ (encM m).1 = (pass encC [UInt8.ofNat m.kind.toNat] m).2.1 := by
  unfold encM at h ⊢
  by_cases hk : m.kind < 1 ∨ 8 < m.kind
  · rw [if_pos hk] at h; exact absurd (show (1 : Int) = 0 from h) (by decide)
  · rw [if_neg hk] at h ⊢
    by_cases hp : (pass encC [UInt8.ofNat m.kind.toNat] m).1 = 0
    · rw [if_pos hp]; exact ⟨by omega, hp, rfl⟩
    · rw [if_neg hp] at h; exact absurd h hp
/-- what is decoded is encoded so -/
theorem dec_back {bs : By} {m : Msg} (h : decM bs = some m) : encM m = (bs, 0) ∧ MsgF m ∧ ansY bs = some m ∧ Few m := by
  cases bs with
  | nil => cases h
  | cons k s =>
    rw [decM_cons] at h
    by_cases hb : 32767 < s.length ∨ k.toNat < 1 ∨ 8 < k.toNat
    · rw [if_pos hb] at h; cases h
    · rw [if_neg hb] at h
      by_cases hc : (pass decC s (kindM k.toNat)).1 = 0 ∧ (pass decC s (kindM k.toNat)).2.1 = []
      · rw [if_pos hc] at h
        injection h with h
        have H : pass decC s (kindM k.toNat) = (0, [], m) := Prod.ext hc.1 (Prod.ext hc.2 h)
        obtain ⟨hr, hkx, hfw, c, b, p⟩ := pass_dc (by omega) H
        rw [List.append_nil] at b
        subst b
        have hm : MsgF m := by have := readY_ok k.toNat s; rwa [hr] at this
        have he : encM m = (k :: s, 0) := by
          have hp := p [k]
          unfold encM
          rw [if_neg (by rw [hkx]; omega), hkx, kind_byte, if_pos hp.1, hp.2]
          rfl
        refine ⟨he, hm, ?_, ?_⟩
        · rw [ansY_cons, if_neg (by omega), hr, if_neg (by simp [he])]
        · have hs : MsgS m := by have := readY_s k.toNat s; rwa [hr] at this
          exact ⟨by have := hs.1; omega, by omega, by omega, fun x hx => by have := hs.2 x hx; omega⟩
      · rw [if_neg hc] at h; cases h
/-- what is encoded is decoded -/
theorem enc_dec {m : Msg} {bs more : By} (hm : MsgF m) (h : encM m = (bs, 0)) : bs.length ≤ 32768 ∧ (∃ u, decM bs = some u ∧ u.kind = m.kind ∧ u.seq = m.seq ∧ u.epoch = m.epoch) ∧ (more ≠ [] → decM (bs ++ more) = none) := by
  obtain ⟨hk, hp, hb⟩ := encM_ok (show (encM m).2 = 0 by rw [h])
  obtain ⟨c, hc, hl, hd⟩ := pass_en hk hm hp
  rw [h, hc] at hb
  replace hb : bs = UInt8.ofNat m.kind.toNat :: c := hb
  subst hb
  have hkn : (UInt8.ofNat m.kind.toNat).toNat = m.kind.toNat := ofNat_lt _ (by omega)
  obtain ⟨u, hu, u1, u2, u3⟩ := hd []
  rw [List.append_nil] at hu
  refine ⟨by simp; omega, ⟨u, ?_, u1, u2, u3⟩, fun hmo => ?_⟩
  · rw [decM_cons, hkn, if_neg (by omega), hu, if_pos ⟨rfl, rfl⟩]
  · obtain ⟨v, hv, _⟩ := hd more
    rw [List.cons_append, decM_cons, hkn]
    by_cases hlong : 32767 < (c ++ more).length ∨ m.kind.toNat < 1 ∨ 8 < m.kind.toNat
    · rw [if_pos hlong]
    · rw [if_neg hlong, hv, if_neg (by rintro ⟨_, e⟩; exact hmo e)]
/-- the document's answer is the program's -/
theorem ans_dec (bs : By) : ansY bs = decM bs := by
  cases hd : decM bs with
  | some m => exact (dec_back hd).2.2.1
  | none =>
    cases ha : ansY bs with
    | none => rfl
    | some m =>
      exfalso
      cases bs with
      | nil => cases ha
      | cons k s =>
        rw [ansY_cons] at ha
        by_cases hl : 32767 < s.length
        · rw [if_pos hl] at ha; cases ha
        · rw [if_neg hl] at ha
          by_cases hx : (readY k.toNat s).2.2 = true ∨ (encM (readY k.toNat s).1).2 ≠ 0 ∨ (encM (readY k.toNat s).1).1 ≠ k :: s
          · rw [if_pos hx] at ha; cases ha
          · rw [if_neg hx] at ha
            have h1 : (encM (readY k.toNat s).1).2 = 0 := Decidable.byContradiction fun e => hx (.inr (.inl e))
            have h2 : (encM (readY k.toNat s).1).1 = k :: s := Decidable.byContradiction fun e => hx (.inr (.inr e))
            obtain ⟨u, hu, _⟩ := (enc_dec (more := []) (readY_ok k.toNat s) (Prod.ext h2 h1)).2.1
            rw [hd] at hu
            cases hu
/-- cut short it is none -/
theorem dec_cut {bs : By} {m : Msg} (h : decM bs = some m) {n : Nat} (hn : n < bs.length) : decM (bs.take n) = none := by
  cases hc : decM (bs.take n) with
  | none => rfl
  | some x =>
    exfalso
    obtain ⟨he, hx, _, _⟩ := dec_back hc
    have := (enc_dec (more := bs.drop n) hx he).2.2 (by intro e; have := congrArg List.length e; simp at this; omega)
    rw [List.take_append_drop, h] at this
    cases this
end Go.Proofs.Ythkcnakodlbdpaa.wr
