/-
  container/heap: down, up.
-/
import Derived.Test.YtemmfcinpkfoiaaMgHp
namespace Go.Proofs.Ytemmfcinpkfoiaa.mg
open Go.ChangeShapes Go.WideShapes Go.ChangeAt Go.RowKit Go.Shelf plain words ord mem rg

/-- the heads as an interface value -/
abbrev hi (p : Nat) : Value := .iface 67 (.pointer (some ⟨p, 0, none⟩))
/-- what sifting leaves -/
structure Sift (w : World) (H p : Nat) (v : Value) (its : List It) (n : Nat) (w' : World) (v' : Value) (its' : List It) : Prop where
  hd : Hd w' H p v' its'
  fr : HdTo p w v w' v'
  perm : its'.Perm its
  rest : ∀ m, n ≤ m → its'[m]? = its[m]?
theorem Sift.refl {w : World} {H p : Nat} {v : Value} {its : List It} (h : Hd w H p v its) (n : Nat) : Sift w H p v its n w v its :=
  ⟨h, .quiet v (Chg.refl _ _), .refl _, fun _ _ => rfl⟩
theorem Sift.quiet {w w1 w' : World} {H p n : Nat} {v v1 : Value} {its its1 : List It} (h : Sift w H p v its n w1 v1 its1) (k : Chg (fun _ => False) w1 w') : Sift w H p v its n w' v1 its1 :=
  ⟨h.hd.quiet k, h.fr.trans (.quiet v1 k), h.perm, h.rest⟩
theorem Sift.swap {w w1 w' : World} {H p n i j : Nat} {v v1 v' : Value} {its its1 : List It} {x y : It} (h : Sift w H p v its n w1 v1 its1) (hd : Hd w' H p v' (sw its1 i j x y)) (ht : HdTo p w1 v1 w' v')
    (hi : its1[i]? = some x) (hj : its1[j]? = some y) (hin : i < n) (hjn : j < n) : Sift w H p v its n w' v' (sw its1 i j x y) :=
  ⟨hd, h.fr.trans ht, (sw_perm hi hj).trans h.perm, fun m hm => (sw_other (by omega) (by omega)).trans (h.rest m hm)⟩
theorem less_i (w : World) (H p : Nat) (v : Value) (its : List It) (h : Hd w H p v its) (i j : Nat) (x y : It) (hi : its[i]? = some x) (hj : its[j]? = some y) (a b : Int) (ha : a = (i : Int)) (hb : b = (j : Int)) :
    Calls Try.prog 119 #[v, .int .i64 a, .int .i64 b] w fun e w' => e = .returned (.bool (decide (x.key < y.key))) ∧ Chg (fun _ => False) w w' := by
  subst ha hb; exact less_m w H p v its h i j x y hi hj
theorem swap_i (w : World) (H p : Nat) (v : Value) (its : List It) (h : Hd w H p v its) (i j : Nat) (x y : It) (hi : its[i]? = some x) (hj : its[j]? = some y) (a b : Int) (ha : a = (i : Int)) (hb : b = (j : Int)) :
    Calls Try.prog 120 #[v, .int .i64 a, .int .i64 b] w (RetHd w H p v (sw its i j x y) (.tuple #[])) := by
  subst ha hb; exact swap_m w H p v its h i j x y hi hj
def RetDown (w : World) (H p : Nat) (v : Value) (its : List It) (lo n : Nat) (e : Ending) (w' : World) : Prop :=
  ∃ b v' its', e = .returned (.bool b) ∧ Sift w H p v its n w' v' its' ∧ Hf its' lo n
set_option maxRecDepth 100000 in
set_option maxHeartbeats 4000000 in
theorem down_x (w : World) (H p : Nat) (v : Value) (its : List It) (h : Hd w H p v its) (lo n : Nat) (hlo : lo ≤ 100000) (hn : n ≤ its.length) (hsz : its.length ≤ 100000) (hf : Hf its (lo + 1) n) :
    Calls Try.prog 71 #[hi p, .int .i64 lo, .int .i64 n] w (RetDown w H p v its lo n) := by
  have HS := Lib.hid (Sift.refl h n)
  have HF := Lib.hid (Dn.start hf)
  clear h hf
  go_enter Try.func71, Try.ntmps71
  go_wp2_with fail
  go_loopg [7] (n + 1) (fun gg s7 wr => ∃ (i : Nat) (v1 : Value) (its1 : List It), s7 = .int .i64 i ∧ i ≤ 100000 ∧ n + 1 - i ≤ gg ∧ Aside (Sift w H p v its n wr v1 its1) ∧ Aside (Dn its1 lo n i))
  case atStart => exact ⟨lo, v, its, rfl, hlo, by omega, HS.out, HF.out⟩
  case round =>
    clear HS HF
    obtain ⟨i, v1, its1, rfl, hi1, hg, SF, DN⟩ := hrel
    have hl1 : its1.length = its.length := SF.out.perm.length_eq
    have c0 := SF.out.hd.cell
    have HL := Lib.hid hl1
    clear hl1
    have a1 : IntKind.i64.wrap (2 * (i : Int)) = 2 * (i : Int) := by go_arith
    have a2 : IntKind.i64.wrap (2 * (i : Int) + 1) = 2 * (i : Int) + 1 := by go_arith
    have b0 : ¬ 2 * (i : Int) + 1 < 0 := by omega
    have b0' : decide (2 * (i : Int) + 1 < 0) = false := by simpa using b0
    by_cases h1 : 2 * i + 1 < n
    · have b1 : ¬ (n : Int) ≤ 2 * (i : Int) + 1 := by omega
      have b1' : decide ((n : Int) ≤ 2 * (i : Int) + 1) = false := by simpa using b1
      have hlen : its1.length = its.length := HL.out
      obtain ⟨x, hx⟩ : ∃ x, its1[i]? = some x := ⟨_, List.getElem?_eq_getElem (show i < its1.length by omega)⟩
      obtain ⟨y1, hy1⟩ : ∃ y, its1[2 * i + 1]? = some y := ⟨_, List.getElem?_eq_getElem (show 2 * i + 1 < its1.length by omega)⟩
      have HX := Lib.hid hx
      have HY1 := Lib.hid hy1
      clear hx hy1
      by_cases h2 : 2 * i + 2 < n
      · have d2 : 2 * (i : Int) + 1 + 1 < (n : Int) := by omega
        have d2' : decide (2 * (i : Int) + 1 + 1 < (n : Int)) = true := by simpa using d2
        obtain ⟨y2, hy2⟩ : ∃ y, its1[2 * i + 2]? = some y := ⟨_, List.getElem?_eq_getElem (show 2 * i + 2 < its1.length by omega)⟩
        have HY2 := Lib.hid hy2
        clear hy2 hlen
        go_wp2_with fail
        rw [inv_less _ _ v1 c0]
        go_wp2_with fail
        refine (less_i wr H p v1 its1 SF.out.hd (2 * i + 2) (2 * i + 1) y2 y1 HY2.out HY1.out _ _ (by omega) (by omega)).mono ?_
        rintro e w2 ⟨rfl, hq⟩
        have SF2 := Lib.hid (SF.out.quiet hq)
        clear hq c0
        by_cases hl : y2.key < y1.key
        · have hd0 : decide (y2.key < y1.key) = true := by simpa using hl
          have HM := Lib.hid (show ∀ m, m < n → (m = 2 * i + 1 ∨ m = 2 * i + 2) → kk its1 (2 * i + 2) ≤ kk its1 m from fun m _ hm => by
            rcases hm with rfl | rfl
            · rw [kk_at HY1.out, kk_at HY2.out]; omega
            · exact Int.le_refl _)
          go_wp2_with fail
          have cw := SF2.out.hd.cell
          have hyj := HY2.out
          rw [inv_less _ _ v1 cw]
          go_wp2_with fail
          refine (less_i w2 H p v1 its1 SF2.out.hd (2 * i + 2) i y2 x hyj HX.out _ _ (by omega) (by omega)).mono ?_
          rintro e w3 ⟨rfl, hq⟩
          have SF3 := Lib.hid (SF2.out.quiet hq)
          have HQ := Lib.hid hyj
          clear hq cw hyj
          by_cases hlt : y2.key < x.key
          · have hd : decide (y2.key < x.key) = true := by simpa using hlt
            have cw := SF3.out.hd.cell
            go_wp2_with fail
            rw [inv_swap _ _ v1 cw]
            go_wp2_with fail
            refine (swap_i w3 H p v1 its1 SF3.out.hd i (2 * i + 2) x y2 HX.out HQ.out _ _ (by omega) (by omega)).mono ?_
            rintro e w4 ⟨v4, rfl, hd4, ht4⟩
            have SF4 := Lib.hid (SF3.out.swap hd4 ht4 HX.out HQ.out (by omega) (by omega))
            have DN4 := Lib.hid (DN.out.step HX.out HQ.out (by omega) (by omega) (by rw [kk_at HX.out, kk_at HQ.out]; exact hlt) HM.out)
            clear hd4 ht4 cw
            go_wp2_with fail
            go_roundg (n + 1 - (2 * i + 2))
            case measure => omega
            case rel => exact ⟨2 * i + 2, v4, _, by first | rfl | (congr 1; omega), by omega, by omega, SF4.out, DN4.out⟩
          · have hd : decide (y2.key < x.key) = false := by simpa using hlt
            go_wp2_with fail
            go_ret
            refine ⟨_, v1, its1, rfl, SF3.out, DN.out.done (fun h => ?_) (fun h => ?_)⟩
            · have := HM.out _ h (.inl rfl)
              have e1 := kk_at HQ.out
              have e2 := kk_at HX.out
              omega
            · have := HM.out _ h (.inr rfl)
              have e1 := kk_at HQ.out
              have e2 := kk_at HX.out
              omega
        · have hd0 : decide (y2.key < y1.key) = false := by simpa using hl
          have HM := Lib.hid (show ∀ m, m < n → (m = 2 * i + 1 ∨ m = 2 * i + 2) → kk its1 (2 * i + 1) ≤ kk its1 m from fun m _ hm => by
            rcases hm with rfl | rfl
            · exact Int.le_refl _
            · rw [kk_at HY1.out, kk_at HY2.out]; omega)
          go_wp2_with fail
          have cw := SF2.out.hd.cell
          have hyj := HY1.out
          rw [inv_less _ _ v1 cw]
          go_wp2_with fail
          refine (less_i w2 H p v1 its1 SF2.out.hd (2 * i + 1) i y1 x hyj HX.out _ _ (by omega) (by omega)).mono ?_
          rintro e w3 ⟨rfl, hq⟩
          have SF3 := Lib.hid (SF2.out.quiet hq)
          have HQ := Lib.hid hyj
          clear hq cw hyj
          by_cases hlt : y1.key < x.key
          · have hd : decide (y1.key < x.key) = true := by simpa using hlt
            have cw := SF3.out.hd.cell
            go_wp2_with fail
            rw [inv_swap _ _ v1 cw]
            go_wp2_with fail
            refine (swap_i w3 H p v1 its1 SF3.out.hd i (2 * i + 1) x y1 HX.out HQ.out _ _ (by omega) (by omega)).mono ?_
            rintro e w4 ⟨v4, rfl, hd4, ht4⟩
            have SF4 := Lib.hid (SF3.out.swap hd4 ht4 HX.out HQ.out (by omega) (by omega))
            have DN4 := Lib.hid (DN.out.step HX.out HQ.out (by omega) (by omega) (by rw [kk_at HX.out, kk_at HQ.out]; exact hlt) HM.out)
            clear hd4 ht4 cw
            go_wp2_with fail
            go_roundg (n + 1 - (2 * i + 1))
            case measure => omega
            case rel => exact ⟨2 * i + 1, v4, _, by first | rfl | (congr 1; omega), by omega, by omega, SF4.out, DN4.out⟩
          · have hd : decide (y1.key < x.key) = false := by simpa using hlt
            go_wp2_with fail
            go_ret
            refine ⟨_, v1, its1, rfl, SF3.out, DN.out.done (fun h => ?_) (fun h => ?_)⟩
            · have := HM.out _ h (.inl rfl)
              have e1 := kk_at HQ.out
              have e2 := kk_at HX.out
              omega
            · have := HM.out _ h (.inr rfl)
              have e1 := kk_at HQ.out
              have e2 := kk_at HX.out
              omega
      · have d2 : ¬ 2 * (i : Int) + 1 + 1 < (n : Int) := by omega
        have d2' : decide (2 * (i : Int) + 1 + 1 < (n : Int)) = false := by simpa using d2
        have HM := Lib.hid (show ∀ m, m < n → (m = 2 * i + 1 ∨ m = 2 * i + 2) → kk its1 (2 * i + 1) ≤ kk its1 m from fun m hm1 hm => by
          rcases hm with rfl | rfl
          · exact Int.le_refl _
          · omega)
        clear hlen
        go_wp2_with fail
        have cw := SF.out.hd.cell
        have hyj := HY1.out
        rw [inv_less _ _ v1 cw]
        go_wp2_with fail
        refine (less_i wr H p v1 its1 SF.out.hd (2 * i + 1) i y1 x hyj HX.out _ _ (by omega) (by omega)).mono ?_
        rintro e w3 ⟨rfl, hq⟩
        have SF3 := Lib.hid (SF.out.quiet hq)
        have HQ := Lib.hid hyj
        clear hq cw hyj
        by_cases hlt : y1.key < x.key
        · have hd : decide (y1.key < x.key) = true := by simpa using hlt
          have cw := SF3.out.hd.cell
          go_wp2_with fail
          rw [inv_swap _ _ v1 cw]
          go_wp2_with fail
          refine (swap_i w3 H p v1 its1 SF3.out.hd i (2 * i + 1) x y1 HX.out HQ.out _ _ (by omega) (by omega)).mono ?_
          rintro e w4 ⟨v4, rfl, hd4, ht4⟩
          have SF4 := Lib.hid (SF3.out.swap hd4 ht4 HX.out HQ.out (by omega) (by omega))
          have DN4 := Lib.hid (DN.out.step HX.out HQ.out (by omega) (by omega) (by rw [kk_at HX.out, kk_at HQ.out]; exact hlt) HM.out)
          clear hd4 ht4 cw
          go_wp2_with fail
          go_roundg (n + 1 - (2 * i + 1))
          case measure => omega
          case rel => exact ⟨2 * i + 1, v4, _, by first | rfl | (congr 1; omega), by omega, by omega, SF4.out, DN4.out⟩
        · have hd : decide (y1.key < x.key) = false := by simpa using hlt
          go_wp2_with fail
          go_ret
          refine ⟨_, v1, its1, rfl, SF3.out, DN.out.done (fun h => ?_) (fun h => ?_)⟩
          · have := HM.out _ h (.inl rfl)
            have e1 := kk_at HQ.out
            have e2 := kk_at HX.out
            omega
          · have := HM.out _ h (.inr rfl)
            have e1 := kk_at HQ.out
            have e2 := kk_at HX.out
            omega
    · have b1 : (n : Int) ≤ 2 * (i : Int) + 1 := by omega
      have b1' : decide ((n : Int) ≤ 2 * (i : Int) + 1) = true := by simpa using b1
      go_wp2_with fail
      go_ret
      exact ⟨_, v1, its1, rfl, SF.out, DN.out.done (by omega) (by omega)⟩
end Go.Proofs.Ytemmfcinpkfoiaa.mg
