/-
  Net: the law's heavy; how many packets of each number are under way.
-/
import Derived.Test.YtcebmlcdhapnkaaNetSteps
namespace Go.Proofs.Ytcebmlcdhapnkaa.net
open Go.ChangeShapes Go.WideShapes Go.ChangeAt Go.RowKit plain words ord mem Go.Maps

def RetHeavy (n : Nat) (w : World) (e : Ending) (w' : World) : Prop := ∃ b : Bool, e = .returned (.bool b) ∧ (b = false → n ≤ 2048) ∧ w = w'
set_option maxHeartbeats 1000000 in
theorem heavy_x (w : World) (B n c : Nat) (A : Option Addr) (st : List St) (h : Scr w B A n st) (hn : n ≤ 9223372036854775807) :
    Calls Try.prog 21 #[.slice A n c] w (RetHeavy n w) := by
  have HH := Lib.hid h
  clear h
  go_enter Try.func21, Try.ntmps21
  go_wp2_with (fail)
  go_loopg [3, 4] n (fun gg s3 s4 wr => ∃ (k : Nat) (z : Int), k ≤ n ∧ n - k ≤ gg ∧ s4 = .int .i64 k ∧ s3 = .int .i64 z ∧ 0 ≤ z ∧ z ≤ 9223372036854775807 ∧ wr = w)
  case atStart => exact ⟨0, n, Nat.zero_le _, by omega, rfl, rfl, by omega, by omega, rfl⟩
  case round =>
    obtain ⟨k, z, hk, hg, rfl, rfl, hz0, hz1, rfl⟩ := hrel
    by_cases hgo : k < n ∧ z ≤ 262144
    · obtain ⟨hkn, hz2⟩ := hgo
      have i1 : (k : Int) < (n : Int) := by omega
      have i2 : (0 : Int) ≤ (k : Int) := by omega
      obtain ⟨b, off, A', L, C, k', x, y, bs, rfl, hb, hst, c0, c1, c2, c3, hbs, hA, hLC, hC, _⟩ := HH.out.at_ k hkn
      clear c0 c1 c2 hbs hA hst
      have hb1 : 0 ≤ min (L : Int) 1048576 ∧ min (L : Int) 1048576 ≤ 1048576 := by omega
      go_wp2_with (fail)
      all_goals
        go_roundg (n - (k + 1))
        case measure => omega
        case rel => exact ⟨k + 1, _, by omega, by omega, by go_num, rfl, by first | omega | (rw [IntWalk.i64_in _ (by omega)]; omega), by first | omega | (rw [IntWalk.i64_in _ (by omega)]; omega), rfl⟩
    · by_cases hkn : k < n
      · have i1 : (k : Int) < (n : Int) := by omega
        have i3 : ¬ z ≤ 262144 := by omega
        have i4 : (262144 : Int) < z := by omega
        go_wp2_with (fail)
        go_ret
        exact ⟨true, rfl, (fun e => by cases e), rfl⟩
      · have i1 : ¬ (k : Int) < (n : Int) := by omega
        by_cases i4 : (262144 : Int) < z
        · go_wp2_with (fail)
          go_ret
          exact ⟨true, rfl, (fun e => by cases e), rfl⟩
        · go_wp2_with (fail)
          go_ret
          exact ⟨decide ((2048 : Int) < (n : Int)), ret_bool (by simp), fun e => by simp at e; omega, rfl⟩

/-- a script so far: the packets under way are its own, and counted -/
structure Cnt (i : Nat) (st : List St) (P : List Msg) (D : Dt) : Prop where
  from_ : ∀ m ∈ P, ∃ k : Nat, k < i ∧ m.1 = (k : Int) ∧ m.2.1 = 7 ∧ ∃ a b c, st[k]? = some (a, b, c, m.2.2)
  cnt : ∀ x : Int, D.atKey (.int .i64 x) (.lit (.int .i64 0)) = .lit (.int .i64 ((P.countP fun m => m.1 == x : Nat) : Int))
  full : P.length ≤ 256
  short : ∀ m ∈ P, m.2.2.length ≤ 32768
theorem Cnt.init (st : List St) : Cnt 0 st [] (.map []) := ⟨fun m hm => by simp at hm, fun x => rfl, by simp, fun m hm => by simp at hm⟩
theorem Cnt.next {i : Nat} {st : List St} {P : List Msg} {D : Dt} (h : Cnt i st P D) : Cnt (i + 1) st P D :=
  ⟨fun m hm => by obtain ⟨k, h1, h2⟩ := h.from_ m hm; exact ⟨k, by omega, h2⟩, h.cnt, h.full, h.short⟩
theorem Cnt.count {i : Nat} {st : List St} {P : List Msg} {D : Dt} (h : Cnt i st P D) {x c : Int} (hat : D.atKey (.int .i64 x) (.lit (.int .i64 0)) = .lit (.int .i64 c)) : c = ((P.countP fun m => m.1 == x : Nat) : Int) := by
  rw [h.cnt x] at hat
  injection hat with hat
  injection hat with _ hat
  exact hat.symm
theorem Cnt.count_le {i : Nat} {st : List St} {P : List Msg} {D : Dt} (h : Cnt i st P D) (x : Int) : (P.countP fun m => m.1 == x) ≤ 256 := Nat.le_trans List.countP_le_length h.full
/-- one more -/
theorem Cnt.more {i : Nat} {st : List St} {P : List Msg} {D : Dt} (h : Cnt i st P D) (hm : IsMap D) {m : Msg} (hf : ∃ k : Nat, k < i + 1 ∧ m.1 = (k : Int) ∧ m.2.1 = 7 ∧ ∃ a b c, st[k]? = some (a, b, c, m.2.2)) (hl : P.length < 256) (hs : m.2.2.length ≤ 32768) :
    Cnt (i + 1) st (P ++ [m]) (D.put (.int .i64 m.1) (.lit (.int .i64 (((P.countP fun q => q.1 == m.1) + 1 : Nat) : Int)))) := by
  refine ⟨fun q hq => ?_, fun x => ?_, by simp; omega, fun q hq => ?_⟩
  · rcases List.mem_append.1 hq with hq | hq
    · exact h.next.from_ q hq
    · obtain rfl : q = m := by simpa using hq
      exact hf
  · by_cases e : x = m.1
    · subst e
      rw [atKey_put_same hm (show WideAt.IsKeyLit (.int .i64 m.1) from trivial), List.countP_append]
      simp
    · rw [atKey_put_other (fun e' => e (by injection e')), h.cnt x, List.countP_append]
      have : (m.1 == x) = false := by simpa using fun e' => e e'.symm
      simp [this]
  · rcases List.mem_append.1 hq with hq | hq
    · exact h.short q hq
    · obtain rfl : q = m := by simpa using hq
      exact hs
/-- one less -/
theorem Cnt.less {i : Nat} {st : List St} {P : List Msg} {D : Dt} (h : Cnt i st P D) (hm : IsMap D) {q : Nat} {m : Msg} (hq : P[q]? = some m) :
    1 ≤ (P.countP fun a => a.1 == m.1) ∧ Cnt (i + 1) st (P.eraseIdx q) (D.put (.int .i64 m.1) (.lit (.int .i64 (((P.countP fun a => a.1 == m.1) - 1 : Nat) : Int)))) := by
  have hql : q < P.length := by
    rcases Nat.lt_or_ge q P.length with h | h
    · exact h
    · rw [List.getElem?_eq_none h] at hq; cases hq
  have hd : P.drop q = m :: P.drop (q + 1) := by
    rw [List.drop_eq_getElem_cons hql]
    rw [List.getElem?_eq_getElem hql] at hq
    injection hq with hq
    rw [hq]
  have hc : ∀ x : Int, (P.countP fun a => a.1 == x) = ((P.eraseIdx q).countP fun a => a.1 == x) + (if m.1 == x then 1 else 0) := fun x => by
    conv => lhs; rw [← List.take_append_drop q P, hd]
    rw [List.eraseIdx_eq_take_drop_succ, List.countP_append, List.countP_append, List.countP_cons]
    omega
  have h1 := hc m.1
  simp only [beq_self_eq_true, if_true] at h1
  refine ⟨by omega, fun a ha => h.next.from_ a (List.eraseIdx_subset ha), fun x => ?_, by rw [List.length_eraseIdx, if_pos hql]; have := h.full; omega, fun a ha => h.short a (List.eraseIdx_subset ha)⟩
  by_cases e : x = m.1
  · subst e
    rw [atKey_put_same hm (show WideAt.IsKeyLit (.int .i64 m.1) from trivial), h1]
    simp
  · rw [atKey_put_other (fun e' => e (by injection e')), h.cnt x, hc x]
    have : (m.1 == x) = false := by simpa using fun e' => e e'.symm
    simp [this]
end Go.Proofs.Ytcebmlcdhapnkaa.net
