/-
  Net: the law's heavy: what a script that is not heavy holds is short.
-/
import Derived.Test.YtcebmlcdhapnkaaNetHeavy
namespace Go.Proofs.Ytcebmlcdhapnkaa.net
open Go.ChangeShapes Go.WideShapes Go.ChangeAt Go.RowKit plain words ord mem Go.Maps

def Light (st : List St) (k : Nat) (z : Int) : Prop := ∀ i, i < k → ∀ a b c d, st[i]? = some (a, b, c, d) → min (d.length : Int) 1048576 ≤ z
theorem Light.next {st : List St} {k : Nat} {z z' : Int} {L : Nat} {a b c : Int} {d : List UInt8} (h : Light st k z) (hz : z ≤ z') (hst : st[k]? = some (a, b, c, d)) (hd : d.length = L) (hL : min (L : Int) 1048576 ≤ z') : Light st (k + 1) z' := by
  intro i hi a' b' c' d' he
  rcases Nat.lt_or_ge i k with h1 | h1
  · have := h i h1 _ _ _ _ he
    omega
  · obtain rfl : i = k := by omega
    rw [hst] at he
    injection he with he
    simp only [Prod.mk.injEq] at he
    obtain ⟨_, _, _, rfl⟩ := he
    rw [hd]; exact hL
def RetHeavyL (st : List St) (n : Nat) (w : World) (e : Ending) (w' : World) : Prop := ∃ b : Bool, e = .returned (.bool b) ∧ (b = false → n ≤ 2048 ∧ ∀ i, i < n → ∀ a b c d, st[i]? = some (a, b, c, d) → d.length ≤ 262144) ∧ w = w'
set_option maxHeartbeats 1000000 in
theorem heavy_l (w : World) (B n c : Nat) (A : Option Addr) (st : List St) (h : Scr w B A n st) (hn : n ≤ 9223372036854775807) :
    Calls Try.prog 21 #[.slice A n c] w (RetHeavyL st n w) := by
  have HH := Lib.hid h
  clear h
  go_enter Try.func21, Try.ntmps21
  go_wp2_with (fail)
  go_loopg [3, 4] n (fun gg s3 s4 wr => ∃ (k : Nat) (z : Int), k ≤ n ∧ n - k ≤ gg ∧ s4 = .int .i64 k ∧ s3 = .int .i64 z ∧ 0 ≤ z ∧ z ≤ 9223372036854775807 ∧ Aside (Light st k z) ∧ wr = w)
  case atStart => exact ⟨0, n, Nat.zero_le _, by omega, rfl, rfl, by omega, by omega, (fun i hi => by omega), rfl⟩
  case round =>
    obtain ⟨k, z, hk, hg, rfl, rfl, hz0, hz1, HI, rfl⟩ := hrel
    by_cases hgo : k < n ∧ z ≤ 262144
    · obtain ⟨hkn, hz2⟩ := hgo
      have i1 : (k : Int) < (n : Int) := by omega
      have i2 : (0 : Int) ≤ (k : Int) := by omega
      obtain ⟨b, off, A', L, C, k', x, y, bs, rfl, hb, hst, c0, c1, c2, c3, hbs, hA, hLC, hC, _⟩ := HH.out.at_ k hkn
      have HST := Lib.hid (And.intro hst hbs.len_)
      clear c0 c1 c2 hbs hA hst
      have hb1 : 0 ≤ min (L : Int) 1048576 ∧ min (L : Int) 1048576 ≤ 1048576 := by omega
      go_wp2_with (fail)
      all_goals
        go_roundg (n - (k + 1))
        case measure => omega
        case rel => exact ⟨k + 1, _, by omega, by omega, by go_num, rfl, by first | omega | (rw [IntWalk.i64_in _ (by omega)]; omega), by first | omega | (rw [IntWalk.i64_in _ (by omega)]; omega), HI.out.next (by first | omega | (rw [IntWalk.i64_in _ (by omega)]; omega)) HST.out.1 HST.out.2 (by first | omega | (rw [IntWalk.i64_in _ (by omega)]; omega)), rfl⟩
    · by_cases hkn : k < n
      · have i1 : (k : Int) < (n : Int) := by omega
        have i3 : ¬ z ≤ 262144 := by omega
        have i4 : (262144 : Int) < z := by omega
        go_wp2_with (fail)
        go_ret
        exact ⟨true, rfl, (fun e => by cases e), rfl⟩
      · have i1 : ¬ (k : Int) < (n : Int) := by omega
        by_cases i4 : (262144 : Int) < z
        · go_wp2_with (fail)
          go_ret
          exact ⟨true, rfl, (fun e => by cases e), rfl⟩
        · go_wp2_with (fail)
          go_ret
          exact ⟨decide ((2048 : Int) < (n : Int)), ret_bool (by simp), fun e => by
            simp at e
            refine ⟨by omega, fun i hi a b c d he => ?_⟩
            have := HI.out i (by omega) a b c d he
            omega, rfl⟩
end Go.Proofs.Ytcebmlcdhapnkaa.net
