/-
  Index: the document's number and name.
-/
import Derived.Test.YtcebmlcdhapnkaaIdxRead
namespace Go.Proofs.Ytcebmlcdhapnkaa.idx
open Go.ChangeShapes Go.WideShapes Go.ChangeAt Go.RowKit plain words ord mem uvs uvc Go.Lib

set_option maxRecDepth 100000 in
theorem number_y (w : World) (B n c : Nat) (A : Option Addr) (bs : List UInt8) (h : Bs w B A n bs) (hB : B ≤ w.heap.size) (hnc : n ≤ c) (hcm : c ≤ 9223372036854775807) (hn : n ≤ 1099511627776) :
    Calls Try.prog 58 #[.slice A n c] w fun e w' => e = .returned (.tuple #[.int .i64 ((rn bs).1 : Int), .int .i64 ((rn bs).2 : Int)]) ∧ Below w.heap.size w w' := by
  have hru := readuv_y w B n c A bs h hB hnc hcm hn
  obtain ⟨V, N, hVN⟩ : ∃ V N, ru bs 0 0 = (V, N) := ⟨_, _, rfl⟩
  have hrn : rn bs = if 2147483647 < V then (0, 0) else (V, N) := by unfold rn; rw [hVN]
  rw [hVN] at hru
  have HRU := Lib.hid hru
  clear hru h hVN
  go_enter Try.func58, Try.ntmps58
  go_wp2_with (fail)
  refine HRU.out.mono ?_
  rintro e w1 ⟨rfl, hb⟩
  have HB := Lib.hid hb
  clear hb HRU
  by_cases hbig : 2147483647 < V
  · have hi : (2147483647 : Int) < (V : Int) := by omega
    have E1 := Lib.hid (hrn.trans (if_pos hbig))
    clear hrn
    go_wp2_with (fail)
    go_ret2
    rw [E1.out]
    exact ⟨rfl, HB.out⟩
  · have hi : ¬ (2147483647 : Int) < (V : Int) := by omega
    have hvm : IntKind.i64.wrap (V : Int) = (V : Int) := IntWalk.i64_in _ (by omega)
    have E1 := Lib.hid (hrn.trans (if_neg hbig))
    clear hrn
    go_wp2_with (fail)
    go_ret2
    rw [E1.out]
    exact ⟨rfl, HB.out⟩

theorem bs_less {w : World} {B n m : Nat} {A : Option Addr} {bs : List UInt8} (h : Bs w B A n bs) (hm : m ≤ n) : Bs w B A m (bs.take m) := by
  have := Rd.less h hm
  rwa [show (u8s bs).take m = u8s (bs.take m) from by simp [u8s, List.map_take]] at this
theorem rt_no {l : List UInt8} (h : (rn l).2 = 0 ∨ (rn l).1 < 1 ∨ 16 < (rn l).1 ∨ l.length - (rn l).2 < (rn l).1) : rt l = (⟨#[]⟩, 0) := if_pos h
theorem rt_yes {l : List UInt8} (h : ¬ ((rn l).2 = 0 ∨ (rn l).1 < 1 ∨ 16 < (rn l).1 ∨ l.length - (rn l).2 < (rn l).1)) : rt l = (⟨((l.drop (rn l).2).take (rn l).1).toArray⟩, (rn l).2 + (rn l).1) := if_neg h
set_option maxRecDepth 100000 in
theorem name_y (w : World) (B n c : Nat) (A : Option Addr) (bs : List UInt8) (h : Bs w B A n bs) (hB : B ≤ w.heap.size) (hnc : n ≤ c) (hcm : c ≤ 9223372036854775807) (hn : n ≤ 1099511627776) :
    Calls Try.prog 57 #[.slice A n c] w fun e w' => e = .returned (.tuple #[.string (rt bs).1, .int .i64 ((rt bs).2 : Int)]) ∧ Below w.heap.size w w' := by
  have HNU := Lib.hid (number_y w B n c A bs h hB hnc hcm hn)
  have hl := h.len_
  obtain ⟨hV, hN, hz0⟩ := rn_facts bs
  have HNO := Lib.hid (rt_no (l := bs))
  have HYES := Lib.hid (rt_yes (l := bs))
  obtain ⟨V, N, hVN⟩ : ∃ V N, rn bs = (V, N) := ⟨_, _, rfl⟩
  rw [hVN] at HNU HNO HYES hV hN
  rw [hl] at HNO HYES hN
  simp only at hV hN
  have HH := Lib.hid h
  clear h hl hz0 hVN
  have hws : IntKind.i64.wrap ((n : Int) - (N : Int)) = (n : Int) - (N : Int) := IntWalk.i64_in _ (by omega)
  have hwa : IntKind.i64.wrap ((N : Int) + (V : Int)) = (N : Int) + (V : Int) := IntWalk.i64_in _ (by omega)
  go_enter Try.func57, Try.ntmps57
  go_wp2_with (fail)
  refine HNU.out.mono ?_
  rintro e w1 ⟨rfl, hb⟩
  have HB := Lib.hid hb
  have hsz := hb.size
  have HH1 := Lib.hid (HH.out.below hb hB)
  clear hb HNU HH
  by_cases hz : N = 0
  · have hnz : ((N : Int) == 0) = true := by simp; omega
    have E1 := Lib.hid (HNO.out (.inl hz))
    clear HNO HYES
    go_wp2_with (fail)
    go_ret2
    rw [E1.out]
    exact ⟨rfl, HB.out⟩
  · have hnz : ((N : Int) == 0) = false := by simp; omega
    by_cases h1 : V < 1
    · have hi1 : (V : Int) < 1 := by omega
      have E1 := Lib.hid (HNO.out (.inr (.inl h1)))
      clear HNO HYES
      go_wp2_with (fail)
      go_ret2
      rw [E1.out]
      exact ⟨rfl, HB.out⟩
    · have hi1 : ¬ (V : Int) < 1 := by omega
      by_cases h2 : 16 < V
      · have hi2 : (16 : Int) < (V : Int) := by omega
        have E1 := Lib.hid (HNO.out (.inr (.inr (.inl h2))))
        clear HNO HYES
        go_wp2_with (fail)
        go_ret2
        rw [E1.out]
        exact ⟨rfl, HB.out⟩
      · have hi2 : ¬ (16 : Int) < (V : Int) := by omega
        by_cases h3 : n - N < V
        · have hi3 : (n : Int) - (N : Int) < (V : Int) := by omega
          have E1 := Lib.hid (HNO.out (.inr (.inr (.inr h3))))
          clear HNO HYES
          go_wp2_with (fail)
          go_ret2
          rw [E1.out]
          exact ⟨rfl, HB.out⟩
        · have hi3 : ¬ (n : Int) - (N : Int) < (V : Int) := by omega
          have E1 := Lib.hid (HYES.out (by omega))
          obtain ⟨b, off, rfl, hbB⟩ := Rd.some_of HH1.out (show 0 < n by omega)
          obtain ⟨M, hM⟩ : ∃ M : Nat, N + V = M := ⟨_, rfl⟩
          have hMi : (N : Int) + (V : Int) = (M : Int) := by omega
          rw [hMi] at hwa
          have i1 : (0 : Int) ≤ (N : Int) := by omega
          have i2 : (N : Int) ≤ (M : Int) := by omega
          have i3 : (M : Int) ≤ (c : Int) := by omega
          have hcN : ¬ c = N := by omega
          have hMN : M - N = V := by omega
          have k0 := conv_string (P := Try.prog) (c := c - N) (bs_less (bs_dropped HH1.out hN) (show V ≤ n - N by omega)) 28 9 5 Try.underlying28 Try.underlying9 Try.underlying5
          clear HNO HYES
          go_wp2_with (fail)
          go_ret2
          rw [E1.out, hM]
          exact ⟨rfl, HB.out⟩
end Go.Proofs.Ytcebmlcdhapnkaa.idx
