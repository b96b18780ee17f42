/-
  container/heap: up, Init, Pop, Push.
-/
import Derived.Test.YtemmfcinpkfoiaaMgDown
namespace Go.Proofs.Ytemmfcinpkfoiaa.mg
open Go.ChangeShapes Go.WideShapes Go.ChangeAt Go.RowKit Go.Shelf plain words ord mem rg

def RetUp (w : World) (H p : Nat) (v : Value) (its : List It) (n : Nat) (e : Ending) (w' : World) : Prop :=
  ∃ v' its', e = .returned (.tuple #[]) ∧ Sift w H p v its n w' v' its' ∧ Hf its' 0 n
set_option maxRecDepth 100000 in
set_option maxHeartbeats 4000000 in
theorem up_x (w : World) (H p : Nat) (v : Value) (its : List It) (h : Hd w H p v its) (n : Nat) (hn : its.length = n + 1) (hsz : n ≤ 100000) (hf : Hf its 0 n) :
    Calls Try.prog 72 #[hi p, .int .i64 n] w (RetUp w H p v its (n + 1)) := by
  have HS := Lib.hid (Sift.refl h (n + 1))
  have HF := Lib.hid (Up.start hf)
  have HN := Lib.hid hn
  clear h hf hn
  go_enter Try.func72, Try.ntmps72
  go_wp2_with fail
  go_loopg [1] (n + 1) (fun gg s1 wr => ∃ (i : Nat) (v1 : Value) (its1 : List It), s1 = .int .i64 i ∧ i ≤ n ∧ i + 1 ≤ gg ∧ Aside (Sift w H p v its (n + 1) wr v1 its1) ∧ Aside (Up its1 (n + 1) i))
  case atStart => exact ⟨n, v, its, rfl, Nat.le_refl _, Nat.le_refl _, HS.out, HF.out⟩
  case round =>
    clear HS HF
    obtain ⟨i, v1, its1, rfl, hi1, hg, SF, UP⟩ := hrel
    have hl1 : its1.length = n + 1 := SF.out.perm.length_eq.trans HN.out
    have c0 := SF.out.hd.cell
    have HL := Lib.hid hl1
    obtain ⟨y, hy⟩ : ∃ y, its1[i]? = some y := ⟨_, List.getElem?_eq_getElem (show i < its1.length by omega)⟩
    obtain ⟨x, hx⟩ : ∃ x, its1[(i - 1) / 2]? = some x := ⟨_, List.getElem?_eq_getElem (show (i - 1) / 2 < its1.length by omega)⟩
    have HX := Lib.hid hx
    have HY := Lib.hid hy
    clear hl1 hx hy
    rcases Nat.eq_zero_or_pos i with hz | hz
    · subst hz
      go_wp2_with fail
      go_returns
      exact ⟨v1, its1, rfl, SF.out, UP.out.done (by omega)⟩
    · obtain ⟨q, hq⟩ : ∃ q, (i - 1) / 2 = q := ⟨_, rfl⟩
      have hqi : q < i := by omega
      have a0 : IntKind.i64.wrap ((i : Int) - 1) = (i : Int) - 1 := by go_arith
      have a1 : Int.tdiv ((i : Int) - 1) 2 = (q : Int) := by
        rw [Int.tdiv_eq_ediv_of_nonneg (by omega)]; omega
      have a2 : ¬ (q : Int) = (i : Int) := by omega
      have HQ := Lib.hid hq
      have hx' := HX.out
      rw [hq] at hx'
      have HX2 := Lib.hid hx'
      clear hx' HX
      clear hq
      go_wp2_with fail
      rw [inv_less _ _ v1 c0]
      go_wp2_with fail
      refine (less_i wr H p v1 its1 SF.out.hd i q y x HY.out HX2.out _ _ rfl rfl).mono ?_
      rintro e w2 ⟨rfl, hq⟩
      have SF2 := Lib.hid (SF.out.quiet hq)
      clear hq c0 SF
      by_cases hl : y.key < x.key
      · have hd0 : decide (y.key < x.key) = true := by simpa using hl
        have cw := SF2.out.hd.cell
        go_wp2_with fail
        rw [inv_swap _ _ v1 cw]
        go_wp2_with fail
        refine (swap_i w2 H p v1 its1 SF2.out.hd q i x y HX2.out HY.out _ _ rfl rfl).mono ?_
        rintro e w4 ⟨v4, rfl, hd4, ht4⟩
        have SF4 := Lib.hid (SF2.out.swap hd4 ht4 HX2.out HY.out (by omega) (by omega))
        have UP4 := Lib.hid (UP.out.step HQ.out.symm hz (by omega) HX2.out HY.out (by rw [kk_at HX2.out, kk_at HY.out]; exact hl))
        clear hd4 ht4 cw
        go_wp2_with fail
        go_roundg (q + 1)
        case measure => omega
        case rel => exact ⟨q, v4, _, rfl, by omega, by omega, SF4.out, UP4.out⟩
      · have hd0 : decide (y.key < x.key) = false := by simpa using hl
        go_wp2_with fail
        go_returns
        refine ⟨v1, its1, rfl, SF2.out, UP.out.done fun _ => ?_⟩
        rw [HQ.out, kk_at HX2.out, kk_at HY.out]
        omega
set_option maxRecDepth 100000 in
set_option maxHeartbeats 4000000 in
theorem init_x (w : World) (H p : Nat) (v : Value) (its : List It) (h : Hd w H p v its) (n : Nat) (hn : its.length = n) (hsz : n ≤ 100000) :
    Calls Try.prog 61 #[hi p] w (RetUp w H p v its n) := by
  have HS := Lib.hid (Sift.refl h n)
  have HN := Lib.hid hn
  have c0 := h.cell
  have HH := Lib.hid h
  have HLN := Lib.hid (len_m w H p v its h)
  rw [hn] at HLN
  have a0 : Int.tdiv (n : Int) 2 = ((n / 2 : Nat) : Int) := by rw [Int.tdiv_eq_ediv_of_nonneg (by omega)]; omega
  have a1 : IntKind.i64.wrap ((n / 2 : Nat) : Int) = ((n / 2 : Nat) : Int) := by go_arith
  have a2 : IntKind.i64.wrap (((n / 2 : Nat) : Int) - 1) = ((n / 2 : Nat) : Int) - 1 := by go_arith
  clear h hn
  go_enter Try.func61, Try.ntmps61
  go_wp2_with fail
  rw [inv_len _ _ v c0]
  go_wp2_with fail
  refine HLN.out.mono ?_
  rintro e w1 ⟨rfl, rfl⟩
  go_wp2_with fail
  go_loopg [3] (n / 2 + 1) (fun gg s3 wr => ∃ (k : Nat) (v1 : Value) (its1 : List It), s3 = .int .i64 ((k : Int) - 1) ∧ k ≤ n / 2 ∧ k + 1 ≤ gg ∧ Aside (Sift w H p v its n wr v1 its1) ∧ Aside (Hf its1 k n))
  case atStart => exact ⟨n / 2, v, its, by go_num, Nat.le_refl _, Nat.le_refl _, HS.out, Hf.top _ _⟩
  case round =>
    clear HS a0 a1 a2 HLN
    obtain ⟨k, v1, its1, rfl, hk, hg, SF, HF⟩ := hrel
    rcases Nat.eq_zero_or_pos k with hz | hz
    · subst hz
      go_wp2_with fail
      go_returns
      exact ⟨v1, its1, rfl, SF.out, HF.out⟩
    · obtain ⟨m, rfl⟩ : ∃ m, k = m + 1 := ⟨k - 1, by omega⟩
      have e0 : ((m + 1 : Nat) : Int) - 1 = (m : Int) := by omega
      have e1 : (0 : Int) ≤ (m : Int) := by omega
      have hl1 := SF.out.perm.length_eq.trans HN.out
      have HD := Lib.hid (down_x wr H p v1 its1 SF.out.hd m n (by omega) (by omega) (by omega) HF.out)
      have HL1 := Lib.hid hl1
      clear hl1
      go_wp2_with fail
      refine HD.out.mono ?_
      rintro e w2 ⟨b, v2, its2, rfl, hs2, hf2⟩
      have S2 := Lib.hid (show Sift w H p v its n w2 v2 its2 from ⟨hs2.hd, SF.out.fr.trans hs2.fr, hs2.perm.trans SF.out.perm, fun q hq => (hs2.rest q hq).trans (SF.out.rest q hq)⟩)
      have F2 := Lib.hid hf2
      clear hs2 hf2 HD
      go_wp2_with fail
      go_roundg (m + 1)
      case measure => omega
      case rel => exact ⟨m, v2, its2, by go_num, by omega, by omega, S2.out, F2.out⟩
end Go.Proofs.Ytemmfcinpkfoiaa.mg
