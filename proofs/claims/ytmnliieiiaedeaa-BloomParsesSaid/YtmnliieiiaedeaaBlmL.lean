/-
  Bloom: the law's heavy; Bytes, Parse.
-/
import Derived.Test.YtmnliieiiaedeaaBlmXB
import Derived.Test.YtmnliieiiaedeaaClone
namespace Go.Proofs.Ytmnliieiiaedeaa.blm
open Go.ChangeShapes Go.WideShapes Go.ChangeAt Go.RowKit plain words ord mem murmur

section
variable {T : TypeId} {w w' : World} {p g : Nat} {bs : List UInt8}
theorem IsF.below (h : IsF T w p g bs) (hb : Below w.heap.size w w') : IsF T w' p g bs := by
  obtain ⟨c, n, h1, h2, h3⟩ := h
  exact ⟨c, n, h1, blk_below hb h2 (blk_lt h2), own_keep h3 hb (Nat.le_refl _)⟩
theorem IsF.lt (h : IsF T w p g bs) : p < w.heap.size := by
  obtain ⟨c, n, h1, h2, h3⟩ := h
  exact blk_lt h2
theorem IsF.glt (h : IsF T w p g bs) : g < w.heap.size := by
  obtain ⟨c, n, h1, h2, h3⟩ := h
  obtain ⟨cu, hcu⟩ := own_type h3 (g := g) rfl
  exact blk_lt hcu
end
/-- what heavy tells -/
def LightS (ss : List ByteArray) (k : Nat) (z : Int) : Prop := ∀ i, i < k → ∀ s, ss[i]? = some s → min (s.size : Int) 1048576 ≤ z
theorem LightS.next {ss : List ByteArray} {k : Nat} {z z' : Int} {s : ByteArray} (h : LightS ss k z) (hz : z ≤ z') (hs : ss[k]? = some s) (hL : min (s.size : Int) 1048576 ≤ z') : LightS ss (k + 1) z' := by
  intro i hi t ht
  rcases Nat.lt_or_ge i k with h1 | h1
  · have := h i h1 _ ht
    omega
  · obtain rfl : i = k := by omega
    rw [hs] at ht
    cases ht
    exact hL
def RetHvS (ss : List ByteArray) (n : Nat) (w : World) (e : Ending) (w' : World) : Prop := ∃ b : Bool, e = .returned (.bool b) ∧ (b = false → n ≤ 16384 ∧ ∀ s ∈ ss, s.size ≤ 16384) ∧ w = w'
set_option maxHeartbeats 2000000 in
theorem heavy_x (w : World) (B n c : Nat) (A : Option Addr) (ss : List ByteArray) (h : Strs w B A n ss) (hn : n ≤ 9223372036854775807) (hm : ∀ s ∈ ss, s.size ≤ maxLen) :
    Calls Try.prog 33 #[.slice A n c] w (RetHvS ss n w) := by
  have HH := Lib.hid h
  have HM := Lib.hid hm
  have HL := Lib.hid h.len_
  clear h hm
  go_enter Try.func33, Try.ntmps33
  go_wp2_with (fail)
  go_loopg [3, 4] n (fun gg s3 s4 wr => ∃ (k : Nat) (z : Int), k ≤ n ∧ n - k ≤ gg ∧ s4 = .int .i64 k ∧ s3 = .int .i64 z ∧ (n : Int) ≤ z ∧ z ≤ 9223372036854775807 ∧ Aside (LightS ss k z) ∧ wr = w)
  case atStart => exact ⟨0, n, Nat.zero_le _, by omega, rfl, rfl, by omega, by omega, (fun i hi => by omega), rfl⟩
  case round =>
    obtain ⟨k, z, hk, hg, rfl, rfl, hz0, hz1, HI, rfl⟩ := hrel
    by_cases hgo : k < n ∧ z ≤ 16384
    · obtain ⟨hkn, hz2⟩ := hgo
      have i1 : (k : Int) < (n : Int) := by omega
      have i2 : (0 : Int) ≤ (k : Int) := by omega
      obtain ⟨b, off, s, rfl, hb, hst, c0⟩ := HH.out.get hkn
      have HST := Lib.hid hst
      obtain ⟨L, hL⟩ : ∃ L, s.size = L := ⟨_, rfl⟩
      obtain ⟨m, hmm⟩ : ∃ m : Int, min (L : Int) 1048576 = m := ⟨_, rfl⟩
      have hif : (if (1048576 : Int) < (L : Int) then (1048576 : Int) else (L : Int)) = m := by split <;> omega
      have hb1 : 0 ≤ m ∧ m ≤ 1048576 := by omega
      have HLM := Lib.hid (And.intro hL hmm)
      have l0 := World.block_lt_of_cell? _ _ c0
      have c1 := c0
      clear hst hmm
      go_wp2_with (fail)
      go_roundg (n - (k + 1))
      case measure => omega
      case rel => exact ⟨k + 1, z + m, by omega, by omega, by go_num, by first | rfl | go_num, by omega, by omega, HI.out.next (by omega) HST.out (by rw [HLM.out.1, HLM.out.2]; omega), rfl⟩
    · have fin : (¬ (k < n)) ∨ 16384 < z := by omega
      have HFN := Lib.hid hgo
      clear hgo
      have post : ∀ b : Bool, b = decide ((16384 : Int) < z) → RetHvS ss n wr (.returned (.bool b)) wr := fun b hb => ⟨b, rfl, fun e => by
        subst hb
        have hz : ¬ (16384 : Int) < z := by simpa using e
        have hkn : k = n := by omega
        refine ⟨by omega, fun s hs => ?_⟩
        obtain ⟨i, hi, rfl⟩ := List.getElem_of_mem hs
        have := HI.out i (by rw [hkn, ← HL.out]; exact hi) _ (List.getElem?_eq_getElem hi)
        omega, rfl⟩
      have POST := Lib.hid post
      clear post
      by_cases hkn : k < n
      · have i1 : (k : Int) < (n : Int) := by omega
        have i3 : ¬ z ≤ 16384 := by omega
        have i4 : (16384 : Int) < z := by omega
        go_wp2_with (fail)
        go_ret
        exact POST.out true (by simp [i4])
      · have i1 : ¬ (k : Int) < (n : Int) := by omega
        by_cases i4 : (16384 : Int) < z
        · go_wp2_with (fail)
          go_ret
          exact POST.out true (by simp [i4])
        · go_wp2_with (fail)
          go_ret
          exact POST.out false (by simp [i4])
theorem bytes_x (w : World) (p g : Nat) (bs : List UInt8) (h : IsF 95 w p g bs) (hn' : bs.length ≤ 65536) :
    Calls Try.prog 35 #[.pointer (some ⟨p, 0, none⟩)] w (RetOwn w bs bs.length) := by
  obtain ⟨c, n, hnl, hp, hown⟩ := h
  have c0 : w.cell? ⟨p, 0, none⟩ = some (.slice (some ⟨g, 0, none⟩) n c) := by rw [cell_of_row _ _ _ _ _ _ hp]; rfl
  have l0 := blk_lt hp
  have HC := Lib.hid (clone_x w w.heap.size n c _ bs (own_bs hown) (fun e => by cases e) (Nat.le_refl _) (by omega))
  rw [← hnl]
  clear hnl hp hown
  go_enter Try.func35, Try.ntmps35
  go_wp2_with (fail)
  refine HC.out.mono ?_
  rintro e w1 ⟨A', cap, rfl, h1, h2⟩
  go_wp2_with (fail)
  go_ret
  exact ⟨A', cap, rfl, h1, h2⟩
def goodLen (n : Nat) : Bool := decide (8 ≤ n) && decide (n ≤ 4096) && decide (n % 2 = 0)
theorem parse_x_no (w : World) (n c : Nat) (A : Option Addr) (hn : n ≤ 9223372036854775807) (hg : goodLen n = false) :
    Calls Try.prog 39 #[.slice A n c] w fun e w' => e = .returned (.tuple #[.pointer none, .int .i64 50]) ∧ w = w' := by
  unfold goodLen at hg
  simp only [Bool.and_eq_false_iff, decide_eq_false_iff_not] at hg
  by_cases h1 : n < 8
  · have i1 : (n : Int) < 8 := by omega
    go_enter Try.func39, Try.ntmps39
    go_wp2_with (fail)
    go_ret2
    exact ⟨rfl, rfl⟩
  · have i1 : ¬ (n : Int) < 8 := by omega
    by_cases h2 : 4096 < n
    · have i2 : (4096 : Int) < (n : Int) := by omega
      go_enter Try.func39, Try.ntmps39
      go_wp2_with (fail)
      go_ret2
      exact ⟨rfl, rfl⟩
    · have i2 : ¬ (4096 : Int) < (n : Int) := by omega
      have i3 : (n : Int) % 2 = 1 := by omega
      go_enter Try.func39, Try.ntmps39
      go_wp2_with (fail)
      go_ret2
      exact ⟨rfl, rfl⟩
theorem parse_y_no (w : World) (n c : Nat) (A : Option Addr) (hn : n ≤ 9223372036854775807) (hg : goodLen n = false) :
    Calls Try.prog 40 #[.slice A n c] w fun e w' => e = .returned (.tuple #[.pointer none, .int .i64 50]) ∧ w = w' := by
  unfold goodLen at hg
  simp only [Bool.and_eq_false_iff, decide_eq_false_iff_not] at hg
  by_cases h1 : n < 8
  · have i1 : (n : Int) < 8 := by omega
    go_enter Try.func40, Try.ntmps40
    go_wp2_with (fail)
    go_ret2
    exact ⟨rfl, rfl⟩
  · have i1 : ¬ (n : Int) < 8 := by omega
    by_cases h2 : 4096 < n
    · have i2 : (4096 : Int) < (n : Int) := by omega
      go_enter Try.func40, Try.ntmps40
      go_wp2_with (fail)
      go_ret2
      exact ⟨rfl, rfl⟩
    · have i2 : ¬ (4096 : Int) < (n : Int) := by omega
      have i3 : (n : Int) % 2 = 1 := by omega
      go_enter Try.func40, Try.ntmps40
      go_wp2_with (fail)
      go_ret2
      exact ⟨rfl, rfl⟩
theorem good_parts {n : Nat} (h : goodLen n = true) : 8 ≤ n ∧ n ≤ 4096 ∧ n % 2 = 0 := by
  unfold goodLen at h
  simp only [Bool.and_eq_true, decide_eq_true_eq] at h
  omega
theorem parse_x (w : World) (B n c : Nat) (A : Option Addr) (bs : List UInt8) (h : Bs w B A n bs) (hA : A = none → c = 0) (hB : B ≤ w.heap.size) (hg : goodLen n = true) :
    Calls Try.prog 39 #[.slice A n c] w (RetF 95 w bs) := by
  obtain ⟨h1, h2, h3⟩ := good_parts hg
  have i1 : ¬ (n : Int) < 8 := by omega
  have i2 : ¬ (4096 : Int) < (n : Int) := by omega
  have i3 : (n : Int) % 2 = 0 := by omega
  have HC := Lib.hid (clone_x w B n c A bs h hA hB (by omega))
  have HL := Lib.hid h.len_
  clear h
  go_enter Try.func39, Try.ntmps39
  go_wp2_with (fail)
  refine HC.out.mono ?_
  rintro e w1 ⟨A', cap, rfl, ho, hb⟩
  obtain ⟨g, cp, e5, hg1, hg2, hg3, hg4⟩ : ∃ g cp, Value.slice A' n cap = .slice (some ⟨g, 0, none⟩) n cp ∧ w.heap.size ≤ g ∧ g < w1.heap.size ∧ n ≤ cp ∧ cp ≤ maxLen := by
    rcases own_form ho with ⟨_, e⟩ | e
    · omega
    · exact e
  obtain ⟨rfl, rfl⟩ : A' = some ⟨g, 0, none⟩ ∧ cap = cp := by injection e5 with a b c; exact ⟨a, c⟩
  have HO := Lib.hid ho
  have HB := Lib.hid hb
  clear ho hb e5
  go_wp2_with (fail)
  go_ret2
  have hs1 := HB.out.size
  exact ⟨w1.heap.size, g, rfl, ⟨cap, n, HL.out.symm, alloc_new _ _, own_base (own_keep HO.out (w' := w1.alloc _) ((Below.refl _ _).alloc (Nat.le_refl _) _) (Nat.le_refl _)) (Nat.zero_le _)⟩, hs1, hg1, HB.out.alloc hs1 _⟩
set_option maxHeartbeats 1000000 in
set_option maxRecDepth 100000 in
theorem parse_y (w : World) (B n c : Nat) (A : Option Addr) (bs : List UInt8) (h : Bs w B A n bs) (hA : A = none → c = 0) (hB : B ≤ w.heap.size) (hg : goodLen n = true) :
    Calls Try.prog 40 #[.slice A n c] w (RetF 65 w bs) := by
  obtain ⟨i0, hi, hz0, hz1, hz2⟩ := info_parts infoB
  obtain ⟨h1, h2, h3⟩ := good_parts hg
  have i1 : ¬ (n : Int) < 8 := by omega
  have i2 : ¬ (4096 : Int) < (n : Int) := by omega
  have i3 : (n : Int) % 2 = 0 := by omega
  obtain ⟨S0, hS0⟩ : ∃ S0, w.heap.size = S0 := ⟨_, rfl⟩
  obtain ⟨w1, hw1⟩ : ∃ w1, w.alloc (.cells #[.slice none 0 0] 65) = w1 := ⟨_, rfl⟩
  have hb1 : Below w.heap.size w w1 := by rw [← hw1]; exact (Below.refl _ _).alloc (Nat.le_refl _) _
  have f1 : w1.heap[S0]? = some (.cells #[.slice none 0 0] 65 (0, 0)) := by rw [← hw1, ← hS0]; exact alloc_new _ _
  have hs1 : w1.heap.size = S0 + 1 := by rw [← hw1, World.size_alloc, hS0]
  have c0 : w1.cell? ⟨S0, 0, none⟩ = some (.slice none 0 0) := by rw [cell_of_row _ _ _ _ _ _ f1]; rfl
  have l0 := blk_lt f1
  have hrd : Rd w1 B A (n * 1) (u8s bs) := by rw [Nat.mul_one]; exact h.below hb1 hB
  have hnil : w1.ownsRow (S0 + 1) 5 1 (.slice none 0 0) 0 [] := ⟨rfl, .inl ⟨rfl, rfl⟩⟩
  have HL := Lib.hid h.len_
  have HB1 := Lib.hid hb1
  have HF1 := Lib.hid f1
  have HS := Lib.hid hS0
  have HW := Lib.hid hw1
  clear h hb1 f1 hS0 hw1
  go_enter Try.func40, Try.ntmps40
  go_wp2_with (first | (rw [HS.out, HW.out]) | (rw [HW.out]) | (at_builtin; refine wpList_append_rd rfl (.tmp 25) (.tmp 26) 57 rfl (S0 + 1) 5 i0 (.int .u8 0) 1 1 Try.underlying57 hi hz0 hz1 hz2 rfl (by decide) _ 0 [] rfl hnil B A n c hA (u8s bs) rfl hrd (u8s_one bs) (by unfold maxLen; omega) (by omega) (by omega) ?_; intro v4 w4 hown4 hg4 hnn4; simp only [Nat.zero_add, List.nil_append] at hown4; obtain ⟨g, cp, rfl, hg1, hg2, hg3, hg5⟩ := (own_form hown4).resolve_left (fun e => by have := e.2; omega); have hb4 : Below w1.heap.size w1 w4 := (Below.refl _ w1).grown hg4 (Nat.le_refl _) (fun k e => by cases e); have f4 := blk_below hb4 HF1.out l0; have l4 := blk_lt f4; have fr4 := frozen_of_row _ _ 0 _ _ f4; have c4 : w4.cell? ⟨S0, 0, none⟩ = some (.slice none 0 0) := (by rw [cell_of_row _ _ _ _ _ _ f4]; rfl); have HO4 := Lib.hid hown4; have HB4 := Lib.hid hb4; have HF4 := Lib.hid f4; clear hown4 hg4 hnn4 hb4 f4 hnil hrd c0))
  go_ret2
  refine ⟨S0, g, rfl, ⟨cp, n, HL.out.symm, heap_setCell_same _ _ _ _ _ _ HF4.out, own_base (own_chg HO4.out ((Chg.refl (fun b => b = S0) w4).setCell (p := ⟨S0, 0, none⟩) (fun _ => rfl) _) (fun g' hg' e => by cases hg'; have e2 : g = S0 := e; omega)) (Nat.zero_le _)⟩, by have := HS.out; omega, by have := HS.out; omega, ?_⟩
  exact (HB1.out.trans (HB4.out.mono HB1.out.size)).setCell (p := ⟨S0, 0, none⟩) (by have := HS.out; show w.heap.size ≤ S0; omega) _
theorem build_no_x (w : World) (n c : Nat) (A : Option Addr) (hn : 2048 < n) :
    Calls Try.prog 34 #[.slice A n c] w fun e w' => e = .returned (.tuple #[.pointer none, .int .i64 52]) ∧ w = w' := by
  have i1 : (2048 : Int) < (n : Int) := by omega
  go_enter Try.func34, Try.ntmps34
  go_wp2_with (fail)
  go_ret2
  exact ⟨rfl, rfl⟩
theorem build_no_y (w : World) (n c : Nat) (A : Option Addr) (hn : 2048 < n) :
    Calls Try.prog 37 #[.slice A n c] w fun e w' => e = .returned (.tuple #[.pointer none, .int .i64 52]) ∧ w = w' := by
  have i1 : (2048 : Int) < (n : Int) := by omega
  go_enter Try.func37, Try.ntmps37
  go_wp2_with (fail)
  go_ret2
  exact ⟨rfl, rfl⟩
theorem ids_of {H : Type} {enc : TypeId × Value → H} {W : World} {a : Option Addr} {len cap : Nat} {d : DataW H} {p : List MemPlace}
    (h0 : DataW.Trod enc Try.prog W 0 (fun _ => true) true 22 (.slice a len cap) d p) : IsStrs W a len cap :=
  strs_of Try.underlying22 Try.underlying9 (by kernel_rfl) h0
/-- the bytes of a filter as a string, in every world that keeps what lay -/
theorem IsF.conv {T : TypeId} {w : World} {p g : Nat} {bs : List UInt8} (h : IsF T w p g bs) : ∃ n c, n = bs.length ∧ w.cell? ⟨p, 0, none⟩ = some (.slice (some ⟨g, 0, none⟩) n c) ∧ ∀ u : Wb w, (convert 57 9 (.slice (some ⟨g, 0, none⟩) n c)).run Try.prog u.w = .ok (.string ⟨bs.toArray⟩) u.w := by
  obtain ⟨c, n, h1, h2, h3⟩ := h
  exact ⟨n, c, h1, by rw [cell_of_row _ _ _ _ _ _ h2]; rfl, fun u => conv_string (own_bs (own_keep h3 u.h (Nat.le_refl _))) 57 9 5 Try.underlying57 Try.underlying9 Try.underlying5⟩
theorem own_conv {w : World} {B n c : Nat} {A : Option Addr} {bs : List UInt8} (h : w.ownsRow B 5 1 (.slice A n c) n (u8s bs)) : ∀ u : Wb w, (convert 57 9 (.slice A n c)).run Try.prog u.w = .ok (.string ⟨bs.toArray⟩) u.w := fun u =>
  conv_string (own_bs (own_keep h u.h (Nat.le_refl _))) 57 9 5 Try.underlying57 Try.underlying9 Try.underlying5
end Go.Proofs.Ytmnliieiiaedeaa.blm
