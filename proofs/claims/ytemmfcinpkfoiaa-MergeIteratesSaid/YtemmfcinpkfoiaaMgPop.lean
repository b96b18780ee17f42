/-
  container/heap: Pop, Push.
-/
import Derived.Test.YtemmfcinpkfoiaaMgUp
namespace Go.Proofs.Ytemmfcinpkfoiaa.mg
open Go.ChangeShapes Go.WideShapes Go.ChangeAt Go.RowKit Go.Shelf plain words ord mem rg

theorem Hf.sub {l m : List It} {lo n : Nat} (h : Hf l lo n) (he : ∀ j, lo ≤ j → j < n → m[j]? = l[j]?) : Hf m lo n := fun j h0 h1 h2 => by
  have := h j h0 h1 h2
  simpa only [kk, he j (by omega) h1, he ((j - 1) / 2) h2 (by omega)] using this
/-- the heads without the first -/
def RetPop (w : World) (H p : Nat) (v : Value) (its : List It) (e : Ending) (w' : World) : Prop :=
  ∃ x v' its', e = .returned (.iface 27 x.val) ∧ its[0]? = some x ∧ Hd w' H p v' its' ∧ HdTo p w v w' v' ∧ (x :: its').Perm its ∧ Hf its' 0 its'.length ∧ ItOk w' H x
set_option maxRecDepth 100000 in
set_option maxHeartbeats 4000000 in
theorem pop_x (w : World) (H p : Nat) (v : Value) (its : List It) (h : Hd w H p v its) (n : Nat) (hn : its.length = n + 1) (hsz : n ≤ 99999) (hf : Hf its 0 (n + 1)) :
    Calls Try.prog 62 #[hi p] w (RetPop w H p v its) := by
  have HN := Lib.hid hn
  have c0 := h.cell
  have HH := Lib.hid h
  have HLN := Lib.hid (len_m w H p v its h)
  rw [hn] at HLN
  have HF := Lib.hid hf
  obtain ⟨x, hx⟩ : ∃ x, its[0]? = some x := ⟨_, List.getElem?_eq_getElem (show 0 < its.length by omega)⟩
  obtain ⟨y, hy⟩ : ∃ y, its[n]? = some y := ⟨_, List.getElem?_eq_getElem (show n < its.length by omega)⟩
  have HX := Lib.hid hx
  have HY := Lib.hid hy
  have n0 : ((n + 1 : Nat) : Int) - 1 = (n : Int) := by omega
  clear h hn hf hx hy
  go_enter Try.func62, Try.ntmps62
  go_wp2_with fail
  rw [inv_len _ _ v c0]
  go_wp2_with fail
  refine HLN.out.mono ?_
  rintro e w1 ⟨rfl, rfl⟩
  go_wp2_with fail
  rw [inv_swap _ _ v c0]
  go_wp2_with fail
  refine (swap_i w H p v its HH.out 0 n x y HX.out HY.out _ _ rfl rfl).mono ?_
  rintro e w2 ⟨v2, rfl, hd2, ht2⟩
  have L2 := Lib.hid (show (sw its 0 n x y).length = n + 1 by rw [sw_len]; exact HN.out)
  have F2 := Lib.hid (show Hf (sw its 0 n x y) (0 + 1) n from (HF.out.more (lo' := 0 + 1) (n' := n) (by omega) (by omega)).sub fun j h1 h2 => sw_other (by omega) (by omega))
  have D2 := Lib.hid hd2
  have T2 := Lib.hid ht2
  clear hd2 ht2 HLN c0
  go_wp2_with fail
  refine (down_x w2 H p v2 (sw its 0 n x y) D2.out 0 n (Nat.zero_le _) (by rw [L2.out]; omega) (by rw [L2.out]; omega) F2.out).mono ?_
  rintro e w3 ⟨b, v3, its3, rfl, hs3, hf3⟩
  have hl3 : its3.length = n + 1 := hs3.perm.length_eq.trans L2.out
  have hx3 : its3[n]? = some x := (hs3.rest n (Nat.le_refl _)).trans (sw_j HY.out)
  obtain ⟨its4, hi4, hl4⟩ : ∃ its4, its3 = its4 ++ [x] ∧ its4.length = n := by
    refine ⟨its3.take n, ?_, by rw [List.length_take]; omega⟩
    have h1 := List.take_append_drop n its3
    have h2 : its3.drop n = [x] := by
      have hlt : n < its3.length := by omega
      rw [List.drop_eq_getElem_cons hlt, List.drop_eq_nil_of_le (by omega)]
      rw [List.getElem?_eq_getElem hlt] at hx3
      injection hx3 with hx3
      rw [hx3]
    rw [h2] at h1
    exact h1.symm
  subst hi4
  have P4 := Lib.hid (show (x :: its4).Perm its from ((List.perm_append_singleton x its4).symm.trans hs3.perm).trans (sw_perm HX.out HY.out))
  have F4 := Lib.hid (show Hf its4 0 its4.length from by
    rw [hl4]
    exact hf3.sub fun j _ hj => by rw [List.getElem?_append_left (by omega)])
  have T4 := Lib.hid (T2.out.trans hs3.fr)
  have D4 := Lib.hid hs3.hd
  have X4 := Lib.hid (hs3.hd.ok x (by simp))
  clear hs3 hf3 hl3 hx3 hl4
  go_wp2_with fail
  refine (pop_m w3 H p v3 its4 x D4.out).mono ?_
  rintro e w5 ⟨v5, rfl, hd5, ht5⟩
  have D5 := Lib.hid hd5
  have T5 := Lib.hid ht5
  clear hd5 ht5
  go_wp2_with fail
  go_ret
  exact ⟨x, v5, its4, rfl, HX.out, D5.out, T4.out.trans T5.out, P4.out, F4.out, X4.out.below (T5.out.below D4.out) (Nat.le_refl _)⟩
set_option maxRecDepth 100000 in
set_option maxHeartbeats 4000000 in
theorem push_x (w : World) (H p : Nat) (v : Value) (its : List It) (x : It) (h : Hd w H p v its) (hx : ItOk w H x) (n : Nat) (hn : its.length = n) (hsz : n ≤ 99999) (hf : Hf its 0 n) :
    Calls Try.prog 63 #[hi p, .iface 27 x.val] w fun e w' => ∃ v' its', e = .returned (.tuple #[]) ∧ Hd w' H p v' its' ∧ HdTo p w v w' v' ∧ its'.Perm (x :: its) ∧ Hf its' 0 its'.length := by
  have HM := Lib.hid (push_m w H p v its x h hx (by omega))
  have HN := Lib.hid hn
  have HF := Lib.hid hf
  clear h hx hn hf
  obtain ⟨xv, hxv⟩ : ∃ xv, x.val = xv := ⟨_, rfl⟩
  rw [hxv] at HM ⊢
  have HXV := Lib.hid hxv
  clear hxv
  go_enter Try.func63, Try.ntmps63
  go_wp2_with fail
  refine HM.out.mono ?_
  rintro e w1 ⟨v1, rfl, hd1, ht1⟩
  have hl1 : (its ++ [x]).length = n + 1 := by rw [List.length_append, HN.out]; rfl
  have c1 := hd1.cell
  have HLN := Lib.hid (len_m w1 H p v1 _ hd1)
  rw [hl1] at HLN
  have D1 := Lib.hid hd1
  have T1 := Lib.hid ht1
  have L1 := Lib.hid hl1
  have F1 := Lib.hid (show Hf (its ++ [x]) 0 n from HF.out.sub fun j _ hj => by rw [List.getElem?_append_left (by have := HN.out; omega)])
  have n0 : ((n + 1 : Nat) : Int) - 1 = (n : Int) := by omega
  clear hd1 ht1 hl1 HM
  go_wp2_with fail
  rw [inv_len _ _ v1 c1]
  go_wp2_with fail
  refine HLN.out.mono ?_
  rintro e w2 ⟨rfl, rfl⟩
  clear HLN
  go_wp2_with fail
  refine (up_x w1 H p v1 _ D1.out n L1.out (by omega) F1.out).mono ?_
  rintro e w2 ⟨v2, its2, rfl, hs2, hf2⟩
  have S2 := Lib.hid hs2
  have F2 := Lib.hid hf2
  clear hs2 hf2
  go_wp2_with fail
  go_returns
  refine ⟨v2, its2, rfl, S2.out.hd, T1.out.trans S2.out.fr, S2.out.perm.trans (List.perm_append_singleton x its), ?_⟩
  rw [S2.out.perm.length_eq, L1.out]
  exact F2.out
end Go.Proofs.Ytemmfcinpkfoiaa.mg
