/-
  Uvarint and ReadUvarint: the program's and the document's.
-/
import Derived.Test.YtnjdondkggkfoaaGreatRows
import Derived.Test.YtnjdondkggkfoaaGreatSlices
import Derived.Test.YtnjdondkggkfoaaGreatUv
import Derived.ProofKit
import Derived.Outline
import Derived.Handy
import Derived.Laws.CopyOwn
import Derived.Laws.MakeOwn
import Derived.BigQuiet
import Derived.Deep.RegionHeld3
import Derived.Deep.QuietTactic
namespace Go.Proofs.YtnjdondkggkfoaaGreat.uvc
open Go.ChangeShapes Go.WideShapes Go.ChangeAt Go.RowKit plain words uvs

theorem infoB : (Tryz.prog.info? 5).map (fun i => (i.zero, i.size, i.bytes)) = some (some (.int .u8 0), 1, 1) := by kernel_rfl
theorem infoB1 : (Tryz.prog.info? 5).map (·.size) = some 1 := by kernel_rfl

/-- the call returns bytes in a row of its own, or nil for none *-/
def RetBytes (w : World) (bs : List UInt8) (e : Ending) (w' : World) : Prop :=
  ∃ A cap, e = .returned (.slice A bs.length cap) ∧ w'.ownsRow w.heap.size 5 1 (.slice A bs.length cap) bs.length (u8s bs) ∧ Below w.heap.size w w'

theorem or128 (v : Nat) (h : v < 18446744073709551616) : bits BinOp.or IntKind.u8 ((v : Int) % 256) 128 = ((UInt8.ofNat (v % 128 + 128)).toNat : Int) := by
  rw [ofNat_lt _ (by omega)]
  have h1 := or_add_u8 7 128 (v % 128) 128 (by simp) (by omega) (by omega) (by omega)
  have e : (v : Int) % 256 = ((v % 256 : Nat) : Int) := by omega
  rw [e]
  have h2 : bits .or .u8 ((v % 256 : Nat) : Int) ((128 : Nat) : Int) = ((v % 256 ||| 128 : Nat) : Int) := u8_or_nat _ _ (by omega) (by omega)
  have h3 : bits .or .u8 ((v % 128 : Nat) : Int) ((128 : Nat) : Int) = ((v % 128 ||| 128 : Nat) : Int) := u8_or_nat _ _ (by omega) (by omega)
  have h4 : v % 256 ||| 128 = v % 128 ||| 128 := by
    by_cases hb : v % 256 < 128
    · rw [show v % 256 = v % 128 from by omega]
    · have : v % 256 = v % 128 + 128 := by omega
      rw [this, ← or_add 7 (v % 128) 128 (by omega) (by omega), Nat.or_assoc, Nat.or_self]
  rw [show (128 : Int) = ((128 : Nat) : Int) from rfl, h2, h4, ← h3, h1]

theorem splice_zero (n : Nat) (bs : List UInt8) (h : bs.length = n) : (splice (List.replicate (n + 10) (Value.int .u8 0)) 0 (u8s bs)).take n = u8s bs := by
  unfold splice
  rw [List.take_zero, List.nil_append, List.take_append_of_le_length (by rw [u8s_length]; omega), List.take_of_length_le (by rw [u8s_length]; omega)]

set_option maxHeartbeats 1000000 in
set_option maxRecDepth 100000 in
theorem uvarint_x (w : World) (B n c : Nat) (A : Option Addr) (bs : List UInt8) (v : Nat) (h : Bs w B A n bs) (hB : B ≤ w.heap.size) (hn : n ≤ 1099511627776) (hv : v < 18446744073709551616) :
    Calls Tryz.prog 63 #[.slice A n c, .int .u64 v] w (RetBytes w (bs ++ uv v)) := by
  obtain ⟨i0, hi, hz0, hz1, hz2⟩ := info_parts infoB
  have hlen := h.len_
  have hmk : (Instr.makeSlice 36 (.int .i64 (n : Int)) (.int .i64 ((n : Int) + 10))).run Tryz.prog w = .ok (.slice (some ⟨w.heap.size, 0, none⟩) n (n + 10)) (w.alloc (.cells (List.replicate (n + 10) (Value.int .u8 0)).toArray 5)) := by
    have h := run_make (P := Tryz.prog) w 36 5 i0 (.int .u8 0) Tryz.underlying36 hi hz0 .i64 .i64 (n : Int) ((n : Int) + 10) (by omega) (by omega) (by rw [hz2]; omega) (by omega)
    rw [show ((n : Int) + 10).toNat = n + 10 from by omega, show ((n : Int)).toNat = n from by omega, hz1, Nat.mul_one] at h
    have e : madeCells (Value.int .u8 0).cells (n + 10) = (List.replicate (n + 10) (Value.int .u8 0)).toArray := by
      apply Array.ext'
      rw [show (Value.int .u8 0).cells = #[Value.int .u8 0] from rfl, toList_madeCells_one]
    rw [h, e]
  have hn1 : (u8s bs).length = Nat.min n n := by rw [u8s_length, hlen]; show n = min n n; omega
  have hb1 : Below w.heap.size w (w.alloc (.cells (List.replicate (n + 10) (Value.int .u8 0)).toArray 5)) := (Below.refl _ _).alloc (Nat.le_refl _) _
  have hra := h.alloc hB (.cells (List.replicate (n + 10) (Value.int .u8 0)).toArray 5)
  have hpos : 0 < (u8s bs).length → (some ⟨w.heap.size, 0, none⟩ : Option Addr) = some ⟨w.heap.size, 0, none⟩ ∧ ∃ ad, A = some ad ∧ ∀ j v, (u8s bs)[j]? = some v → (w.alloc (.cells (List.replicate (n + 10) (Value.int .u8 0)).toArray 5)).cell? (ad.add j) = some v := by
    intro hp
    rw [u8s_length] at hp
    obtain ⟨b, off, _, rfl, _, _, _⟩ := Bs.get h (show 0 < n from by omega)
    exact ⟨rfl, _, rfl, rd_cells hra⟩
  have hfit : 0 + (u8s bs).length ≤ (List.replicate (n + 10) (Value.int .u8 0)).length := by rw [u8s_length, List.length_replicate]; omega
  have HPOS := Lib.hid hpos
  have HN1 := Lib.hid hn1
  have HFIT := Lib.hid hfit
  have HLEN := Lib.hid hlen
  clear hpos hn1 hfit hlen
  obtain ⟨cur, hcur⟩ : ∃ cur, cur = List.replicate (n + 10) (Value.int .u8 0) := ⟨_, rfl⟩
  rw [← hcur] at hmk hb1 hra HPOS HFIT
  have HCUR := Lib.hid hcur
  clear hcur
  go_enter Tryz.func63, Tryz.ntmps63
  go_wp2_with ((with_reducible refine wpList_copy_splice rfl (.tmp 12) (.tmp 13) 36 36 rfl 5 Tryz.underlying36 infoB1 (some ⟨w.heap.size, 0, none⟩) A n (n + 10) n c rfl rfl w.heap.size 0 cur 5 (heap_alloc_new _ _) (u8s bs) HN1.out HPOS.out HFIT.out (u8s_one bs) w.heap.size w hb1 (Nat.le_refl _) ?_); intro w2 HG2 hB2)
  have hown0 : w2.ownsRow w.heap.size 5 1 (.slice (some ⟨w.heap.size, 0, none⟩) n (n + 10)) n (u8s bs) := by
    have hl := HLEN.out
    refine ⟨by rw [u8s_length]; omega, .inr ⟨w.heap.size, n + 10, _, rfl, Nat.le_refl _, HG2.out, by omega, by unfold maxLen; omega, ?_, ?_⟩⟩
    · rw [List.size_toArray, length_splice _ _ _ HFIT.out, HCUR.out, List.length_replicate]; omega
    · rw [Nat.mul_one, List.toList_toArray, HCUR.out, splice_zero n bs hl]
  clear HG2 hmk hb1 hra HPOS HFIT HN1
  go_loopw [5, 1] (fun o x wr => ∃ (f : Nat) (pre : List UInt8) (v' g cap : Nat), o = .slice (some ⟨g, 0, none⟩) (n + pre.length) cap ∧ x = .int .u64 (v' : Int) ∧ v' < 18446744073709551616 ∧ pre ++ uvf f v' = uv v ∧ pre.length + f = 9 ∧ v' < 128 ^ (f + 1) ∧ w.heap.size ≤ wr.heap.size ∧ wr.ownsRow w.heap.size 5 1 (.slice (some ⟨g, 0, none⟩) (n + pre.length) cap) (n + pre.length) (u8s bs ++ u8s pre) ∧ Below w.heap.size w wr) (fun _ x _ => (intOf x).toNat)
  case atStart => exact ⟨9, [], v, w.heap.size, n + 10, rfl, rfl, hv, rfl, rfl, Nat.lt_of_lt_of_le hv big10, hB2.size, by simpa [u8s] using hown0, hB2⟩
  case round =>
    obtain ⟨f, pre, v', g, cap, rfl, rfl, hv', hpre, hf, hvf, hsz, hown, hbel⟩ := hrel
    have HPRE := Lib.hid hpre
    have HF := Lib.hid hf
    have HVF := Lib.hid hvf
    have HV := Lib.hid hv'
    clear hpre hf hown0 hB2 hvf
    by_cases hlt : 128 ≤ v'
    · have hlt' : (128 : Int) ≤ (v' : Int) := by omega
      have hor := or128 v' hv'
      have hvi : (v' : Int) < 18446744073709551616 := by omega
      clear hv'
      generalize hch : UInt8.ofNat (v' % 128 + 128) = ch at *
      have HCH := Lib.hid hch
      clear hch
      have hone : ∀ u ∈ [Value.int .u8 (ch.toNat : Int)], u.oneCell' = true := by simp [Value.oneCell']
      have hpl : pre.length ≤ 9 := by have := HF.out; omega
      go_wp2_with ((at_builtin; refine wpList_append_own _ rfl (.tmp 17) (.tmp 21) 36 rfl w.heap.size 5 i0 (.int .u8 0) 1 1 Tryz.underlying36 hi hz0 hz1 hz2 rfl (by decide) (.slice (some ⟨g, 0, none⟩) (n + pre.length) cap) (n + pre.length) (u8s bs ++ u8s pre) rfl (hown.alloc _) ⟨wr.heap.size, 0, none⟩ 1 1 [.int .u8 (ch.toNat : Int)] rfl rfl (cells_new rfl _) hone (by unfold maxLen; omega) (by omega) (by simp; omega) ?_; intro v2 w2 hown2 hg2 hnn2; have hbel2 := own_below (hbel.alloc hsz _) (hown.alloc _) (by simp; omega) hg2; obtain ⟨g2, cap2, rfl, hbg2, hgl2, hnc2, hcm2⟩ := own_some hown2 rfl hnn2; clear hg2 hnn2))
      have hf1 : ∃ f', f = f' + 1 := by
        cases f with
        | zero => exact absurd HVF.out (by simp; omega)
        | succ f' => exact ⟨f', rfl⟩
      obtain ⟨f', rfl⟩ := hf1
      have hcell : u8s bs ++ u8s pre ++ [Value.int .u8 (ch.toNat : Int)] = u8s bs ++ u8s (pre ++ [ch]) := by simp [u8s, U8]
      have hl3 : n + pre.length + 1 = n + (pre ++ [ch]).length := by simp; omega
      have hn2 : pre ++ [ch] ++ uvf f' (v' / 128) = uv v := by
        rw [← HPRE.out, uvf_big f' v' hlt, HCH.out]; simp
      rw [hcell, hl3] at hown2
      have hq1 : (pre ++ [ch]).length + f' = 9 := by have := HF.out; simp; omega
      have hq2 := div_pow HVF.out
      have hq3 : v' / 128 < 18446744073709551616 := by have := HV.out; omega
      have hq4 := hbel2.size
      go_roundw
      case rel => exact ⟨f', pre ++ [ch], v' / 128, g2, cap2, by rw [hl3], by go_num, hq3, hn2, hq1, hq2, hq4, hown2, hbel2⟩
      case measure => simp [intOf]; omega
    · have hlt' : (v' : Int) < 128 := by omega
      clear hv'
      obtain ⟨ch, hch⟩ : ∃ ch, UInt8.ofNat v' = ch := ⟨_, rfl⟩
      have hcn : (v' : Int) = ch.toNat := by rw [← hch, ofNat_lt v' (by omega)]
      have HCH := Lib.hid hch
      have HCN := Lib.hid hcn
      clear hch hcn
      have hone : ∀ u ∈ [Value.int .u8 (v' : Int)], u.oneCell' = true := by simp [Value.oneCell']
      have hpl : pre.length ≤ 9 := by have := HF.out; omega
      go_wp2_with ((at_builtin; refine wpList_append_own _ rfl (.tmp 25) (.tmp 28) 36 rfl w.heap.size 5 i0 (.int .u8 0) 1 1 Tryz.underlying36 hi hz0 hz1 hz2 rfl (by decide) (.slice (some ⟨g, 0, none⟩) (n + pre.length) cap) (n + pre.length) (u8s bs ++ u8s pre) rfl (hown.alloc _) ⟨wr.heap.size, 0, none⟩ 1 1 [.int .u8 (v' : Int)] rfl rfl (cells_new rfl _) hone (by unfold maxLen; omega) (by omega) (by simp; omega) ?_; intro v2 w2 hown2 hg2 hnn2; have hbel2 := own_below (hbel.alloc hsz _) (hown.alloc _) (by simp; omega) hg2; obtain ⟨g2, cap2, rfl, hbg2, hgl2, hnc2, hcm2⟩ := own_some hown2 rfl hnn2; clear hg2 hnn2))
      go_ret
      have hf0 : uvf f v' = [ch] := by rw [uvf_small f v' (by omega), HCH.out]
      have hall : (bs ++ uv v).length = n + pre.length + 1 := by
        have := HLEN.out
        rw [← HPRE.out, hf0]; simp; omega
      have hcell : u8s bs ++ u8s pre ++ [Value.int .u8 (v' : Int)] = u8s (bs ++ uv v) := by
        rw [← HPRE.out, hf0, HCN.out]; simp [u8s, U8]
      rw [hcell] at hown2
      unfold RetBytes
      rw [hall]
      exact ⟨_, cap2, rfl, hown2, hbel2⟩

set_option maxHeartbeats 1000000 in
set_option maxRecDepth 100000 in
theorem uvarint_y (w : World) (B n c : Nat) (A : Option Addr) (bs : List UInt8) (v : Nat) (h : Bs w B A n bs) (hA : A = none → c = 0) (hB : B ≤ w.heap.size) (hn : n ≤ 1099511627776) (hv : v < 18446744073709551616) :
    Calls Tryz.prog 39 #[.slice A n c, .int .u64 v] w (RetBytes w (bs ++ uv v)) := by
  obtain ⟨i0, hi, hz0, hz1, hz2⟩ := info_parts infoB
  have hlen := h.len_
  have HLEN := Lib.hid hlen
  clear hlen
  have hrd := h.alloc hB (.cells #[] 5)
  have hown := World.ownsRow_lit (w := w) (base := w.heap.size) (e := 5) (size := 1) #[] 0 (Nat.le_refl _) (by simp) rfl
  have hb0 : Below w.heap.size w (w.alloc (.cells #[] 5)) := (Below.refl _ _).alloc (Nat.le_refl _) _
  go_enter Tryz.func39, Tryz.ntmps39
  go_wp2_with (at_builtin; refine wpList_append_rd rfl (.tmp 7) (.tmp 8) 36 rfl w.heap.size 5 i0 (.int .u8 0) 1 1 Tryz.underlying36 hi hz0 hz1 hz2 rfl (by decide) _ 0 [] rfl hown B A n c hA (u8s bs) rfl (by rw [Nat.mul_one]; exact hrd) (u8s_one bs) (by unfold maxLen; omega) (by omega) (by simp) ?_; intro v1 w1 hown1 hg1 hnn1; have hbel1 := own_below hb0 hown (by simp) hg1; simp only [Nat.zero_add, List.nil_append] at hown1; have hlt1 := hbel1.size; obtain ⟨g1, cap1, rfl, hbg1, hgl1, hnc1, hcm1⟩ := own_some hown1 rfl hnn1; clear hg1 hnn1)
  clear hown hb0 hrd
  go_loopw [5, 1] (fun o x wr => ∃ (f : Nat) (pre : List UInt8) (v' g cap : Nat), o = .slice (some ⟨g, 0, none⟩) (n + pre.length) cap ∧ x = .int .u64 (v' : Int) ∧ v' < 18446744073709551616 ∧ pre ++ uvf f v' = uv v ∧ pre.length + f = 9 ∧ v' < 128 ^ (f + 1) ∧ w.heap.size ≤ wr.heap.size ∧ wr.ownsRow w.heap.size 5 1 (.slice (some ⟨g, 0, none⟩) (n + pre.length) cap) (n + pre.length) (u8s bs ++ u8s pre) ∧ Below w.heap.size w wr) (fun _ x _ => (intOf x).toNat)
  case atStart => exact ⟨9, [], v, g1, cap1, rfl, rfl, hv, rfl, rfl, Nat.lt_of_lt_of_le hv big10, hlt1, by simpa [u8s] using hown1, hbel1⟩
  case round =>
    obtain ⟨f, pre, v', g, cap, rfl, rfl, hv', hpre, hf, hvf, hsz, hown, hbel⟩ := hrel
    have HPRE := Lib.hid hpre
    have HF := Lib.hid hf
    have HVF := Lib.hid hvf
    have HV := Lib.hid hv'
    clear hpre hf hown1 hbel1 hvf
    by_cases hlt : 128 ≤ v'
    · have hlt' : (128 : Int) ≤ (v' : Int) := by omega
      have hvi : (v' : Int) < 18446744073709551616 := by omega
      clear hv'
      obtain ⟨ch, hch⟩ : ∃ ch, UInt8.ofNat (v' % 128 + 128) = ch := ⟨_, rfl⟩
      have hcn : (v' : Int) % 128 + 128 = ch.toNat := by rw [← hch, ofNat_lt _ (by omega)]; omega
      have HCH := Lib.hid hch
      have HCN := Lib.hid hcn
      clear hch hcn
      have hone : ∀ u ∈ [Value.int .u8 ((v' : Int) % 128 + 128)], u.oneCell' = true := by simp [Value.oneCell']
      have hpl : pre.length ≤ 9 := by have := HF.out; omega
      go_wp2_with ((at_builtin; refine wpList_append_own _ rfl (.tmp 12) (.tmp 17) 36 rfl w.heap.size 5 i0 (.int .u8 0) 1 1 Tryz.underlying36 hi hz0 hz1 hz2 rfl (by decide) (.slice (some ⟨g, 0, none⟩) (n + pre.length) cap) (n + pre.length) (u8s bs ++ u8s pre) rfl (hown.alloc _) ⟨wr.heap.size, 0, none⟩ 1 1 [.int .u8 ((v' : Int) % 128 + 128)] rfl rfl (cells_new rfl _) hone (by unfold maxLen; omega) (by omega) (by simp; omega) ?_; intro v2 w2 hown2 hg2 hnn2; have hbel2 := own_below (hbel.alloc hsz _) (hown.alloc _) (by simp; omega) hg2; obtain ⟨g2, cap2, rfl, hbg2, hgl2, hnc2, hcm2⟩ := own_some hown2 rfl hnn2; clear hg2 hnn2))
      have hf1 : ∃ f', f = f' + 1 := by
        cases f with
        | zero => exact absurd HVF.out (by simp; omega)
        | succ f' => exact ⟨f', rfl⟩
      obtain ⟨f', rfl⟩ := hf1
      have hcell : u8s bs ++ u8s pre ++ [Value.int .u8 ((v' : Int) % 128 + 128)] = u8s bs ++ u8s (pre ++ [ch]) := by rw [HCN.out]; simp [u8s, U8]
      have hl3 : n + pre.length + 1 = n + (pre ++ [ch]).length := by simp; omega
      have hn2 : pre ++ [ch] ++ uvf f' (v' / 128) = uv v := by
        rw [← HPRE.out, uvf_big f' v' hlt, HCH.out]; simp
      rw [hcell, hl3] at hown2
      have hq1 : (pre ++ [ch]).length + f' = 9 := by have := HF.out; simp; omega
      have hq2 := div_pow HVF.out
      have hq3 : v' / 128 < 18446744073709551616 := by have := HV.out; omega
      have hq4 := hbel2.size
      go_roundw
      case rel => exact ⟨f', pre ++ [ch], v' / 128, g2, cap2, by rw [hl3], by go_num, hq3, hn2, hq1, hq2, hq4, hown2, hbel2⟩
      case measure => simp [intOf]; omega
    · have hlt' : (v' : Int) < 128 := by omega
      clear hv'
      obtain ⟨ch, hch⟩ : ∃ ch, UInt8.ofNat v' = ch := ⟨_, rfl⟩
      have hcn : (v' : Int) = ch.toNat := by rw [← hch, ofNat_lt v' (by omega)]
      have HCH := Lib.hid hch
      have HCN := Lib.hid hcn
      clear hch hcn
      have hone : ∀ u ∈ [Value.int .u8 (v' : Int)], u.oneCell' = true := by simp [Value.oneCell']
      have hpl : pre.length ≤ 9 := by have := HF.out; omega
      go_wp2_with ((at_builtin; refine wpList_append_own _ rfl (.tmp 21) (.tmp 24) 36 rfl w.heap.size 5 i0 (.int .u8 0) 1 1 Tryz.underlying36 hi hz0 hz1 hz2 rfl (by decide) (.slice (some ⟨g, 0, none⟩) (n + pre.length) cap) (n + pre.length) (u8s bs ++ u8s pre) rfl (hown.alloc _) ⟨wr.heap.size, 0, none⟩ 1 1 [.int .u8 (v' : Int)] rfl rfl (cells_new rfl _) hone (by unfold maxLen; omega) (by omega) (by simp; omega) ?_; intro v2 w2 hown2 hg2 hnn2; have hbel2 := own_below (hbel.alloc hsz _) (hown.alloc _) (by simp; omega) hg2; obtain ⟨g2, cap2, rfl, hbg2, hgl2, hnc2, hcm2⟩ := own_some hown2 rfl hnn2; clear hg2 hnn2))
      go_ret
      have hf0 : uvf f v' = [ch] := by rw [uvf_small f v' (by omega), HCH.out]
      have hall : (bs ++ uv v).length = n + pre.length + 1 := by
        have := HLEN.out
        rw [← HPRE.out, hf0]; simp; omega
      have hcell : u8s bs ++ u8s pre ++ [Value.int .u8 (v' : Int)] = u8s (bs ++ uv v) := by
        rw [← HPRE.out, hf0, HCN.out]; simp [u8s, U8]
      rw [hcell] at hown2
      unfold RetBytes
      rw [hall]
      exact ⟨_, cap2, rfl, hown2, hbel2⟩

theorem ret_two {k1 k2 : IntKind} {a a' b b' : Int} (ha : a = a') (hb : b = b') : Ending.returned (.tuple #[.int k1 a, .int k2 b]) = .returned (.tuple #[.int k1 a', .int k2 b']) := by rw [ha, hb]
/-- (number, length) returned *-/
def RetNum (r : Nat × Nat) (e : Ending) : Prop := e = .returned (.tuple #[.int .u64 (r.1 : Int), .int .i64 (r.2 : Int)])

theorem and127 (c : UInt8) : bits BinOp.and IntKind.u8 (c.toNat : Int) 127 = ((c.toNat % 128 : Nat) : Int) := by
  have hc := c.toNat_lt
  have h := u8_and_nat c.toNat 127 (by omega) (by omega)
  rw [nat_mask7] at h
  exact h
theorem pow128 (k : Nat) : 128 ^ k = 2 ^ (7 * k) := by rw [Nat.pow_mul]
theorem step_lt (k c : Nat) (hk : k ≤ 9) (hc : c < 128) (h9 : k = 9 → c ≤ 1) : c * 128 ^ k ≤ 9223372036854775808 := by
  by_cases e : k = 9
  · subst e
    have : c * 128 ^ 9 ≤ 1 * 128 ^ 9 := Nat.mul_le_mul_right _ (h9 rfl)
    omega
  · have h1 : 128 ^ k ≤ 128 ^ 8 := Nat.pow_le_pow_right (by omega) (by omega)
    have h2 : c * 128 ^ k ≤ 127 * 128 ^ 8 := Nat.mul_le_mul (by omega) h1
    omega
theorem step_or (k acc c : Nat) (hk : k ≤ 9) (ha : acc < 128 ^ k) (hc : c < 128) (h9 : k = 9 → c ≤ 1) : bits .or .u64 (acc : Int) (IntKind.u64.wrap ((c : Int) * 2 ^ (7 * k))) = ((acc + c * 128 ^ k : Nat) : Int) := by
  have hl := step_lt k c hk hc h9
  have h1 : 128 ^ k ≤ 128 ^ 9 := Nat.pow_le_pow_right (by omega) hk
  have e : (c : Int) * 2 ^ (7 * k) = ((c * 128 ^ k : Nat) : Int) := by rw [pow128]; simp
  rw [e, IntKind.wrap_u64, show ((c * 128 ^ k : Nat) : Int) % 18446744073709551616 = ((c * 128 ^ k : Nat) : Int) from by omega]
  exact or_add_u64 (7 * k) (128 ^ k) acc (c * 128 ^ k) (pow128 k).symm ha (Nat.mul_mod_left _ _) (by omega)
set_option maxHeartbeats 1000000 in
set_option maxRecDepth 100000 in
theorem readuv_x (w : World) (B n c : Nat) (A : Option Addr) (bs : List UInt8) (h : Bs w B A n bs) (hn : n ≤ 1099511627776) :
    Calls Tryz.prog 80 #[.slice A n c] w fun e w' => RetNum (ru bs 0 0) e ∧ w = w' := by
  have hlen := h.len_
  have HLEN := Lib.hid hlen
  clear hlen
  go_enter Tryz.func80, Tryz.ntmps80
  go_wp2
  go_loop [4, 9] (fun x i => ∃ k acc : Nat, k ≤ n ∧ i = .int .i64 k ∧ x = .int .u64 (acc : Int) ∧ acc < 128 ^ k ∧ k ≤ 9 ∧ ru bs 0 0 = ru (bs.drop k) k acc) (fun _ i => n - (intOf i).toNat)
  case atStart => exact ⟨0, 0, Nat.zero_le _, rfl, rfl, by simp, by omega, rfl⟩
  case round =>
    obtain ⟨k, acc, hk, rfl, rfl, hacc, hk9, hru⟩ := hrel
    have HRU := Lib.hid hru
    have HACC := Lib.hid hacc
    clear hru hacc
    by_cases hlt : k < n
    · obtain ⟨b, off, ch, rfl, _, hg, hc⟩ := Bs.get h hlt
      have hdrop : bs.drop k = ch :: bs.drop (k + 1) := by
        obtain ⟨hk', rfl⟩ := List.getElem?_eq_some_iff.1 hg
        exact List.drop_eq_getElem_cons hk'
      have HD := Lib.hid hdrop
      clear hdrop hg h
      have hch := ch.toNat_lt
      by_cases h9 : k = 9 ∧ 1 < ch.toNat
      · obtain ⟨rfl, h1⟩ := h9
        have hi1 : (1 : Int) < (ch.toNat : Int) := by omega
        go_wp2_with fail
        go_ret2
        exact ⟨by unfold RetNum; rw [HRU.out, HD.out]; simp [ru, h1], rfl⟩
      · have hand := and127 ch
        have h7 : (7 : Int) * (k : Int) < 64 := by omega
        by_cases h128 : 128 ≤ ch.toNat
        · have hne : ((k : Int) == 9) = false := by simp; omega
          have hk8 : k ≤ 8 := by omega
          have hi1 : (128 : Int) ≤ (ch.toNat : Int) := by omega
          have hso := step_or k acc (ch.toNat % 128) (by omega) HACC.out (by omega) (by omega)
          have hnext : ru bs 0 0 = ru (bs.drop (k + 1)) (k + 1) (acc + ch.toNat % 128 * 128 ^ k) := by
            rw [HRU.out, HD.out]
            simp only [ru]
            rw [if_neg h9, if_pos h128]
          have hq1 : acc + ch.toNat % 128 * 128 ^ k < 128 ^ (k + 1) := by
            have := pow_succ' k
            have h2 : ch.toNat % 128 * 128 ^ k ≤ 127 * 128 ^ k := Nat.mul_le_mul_right _ (by omega)
            have := HACC.out
            omega
          have HSO := Lib.hid hso
          have HNEXT := Lib.hid hnext
          have HQ1 := Lib.hid hq1
          clear hso hnext hq1
          go_wp2_with fail
          go_round
          case rel => exact ⟨k + 1, _, by omega, by go_num, congrArg (Value.int .u64) HSO.out, HQ1.out, by omega, HNEXT.out⟩
          case measure => simp [intOf]; omega
        · have hso := step_or k acc (ch.toNat % 128) (by omega) HACC.out (by omega) (by omega)
          have hso' : bits .or .u64 (acc : Int) (IntKind.u64.wrap ((ch.toNat : Int) % 128 * 2 ^ (7 * k))) = ((acc + ch.toNat * 128 ^ k : Nat) : Int) := by
            rw [show ((ch.toNat : Int) % 128) = ((ch.toNat % 128 : Nat) : Int) from by omega, hso, show ch.toNat % 128 = ch.toNat from by omega]
          have HSO := Lib.hid hso'
          clear hso hso'
          have hi1 : (ch.toNat : Int) < 128 := by omega
          by_cases h0 : ch.toNat = 0 ∧ 0 < k
          · have hi2 : ((ch.toNat : Int) == 0) = true := by simp; omega
            have hi3 : (0 : Int) < (k : Int) := by omega
            have hend : ru bs 0 0 = (0, 0) := by
              rw [HRU.out, HD.out]
              simp only [ru]
              rw [if_neg h9, if_neg h128, if_pos h0]
            have HEND := Lib.hid hend
            clear hend
            have hne : ((k : Int) == 9) = true ∨ ((k : Int) == 9) = false := by cases ((k : Int) == 9) <;> simp
            have hi4 : ¬ (1 : Int) < (ch.toNat : Int) := by omega
            rcases hne with hne | hne
            all_goals
              go_wp2_with fail
              go_ret2
              exact ⟨by unfold RetNum; rw [HEND.out]; rfl, rfl⟩
          · have hend : ru bs 0 0 = (acc + ch.toNat * 128 ^ k, k + 1) := by
              rw [HRU.out, HD.out]
              simp only [ru]
              rw [if_neg h9, if_neg h128, if_neg h0]
            have HEND := Lib.hid hend
            clear hend
            have hne : (((k : Int) == 9) = true ∧ ¬ (1 : Int) < (ch.toNat : Int)) ∨ ((k : Int) == 9) = false := by
              by_cases e : k = 9
              · exact .inl ⟨by simp; omega, by omega⟩
              · exact .inr (by simp; omega)
            have hz : (((ch.toNat : Int) == 0) = true ∧ ¬ (0 : Int) < (k : Int)) ∨ ((ch.toNat : Int) == 0) = false := by
              by_cases e : ch.toNat = 0
              · exact .inl ⟨by simp; omega, by omega⟩
              · exact .inr (by simp; omega)
            rcases hne with ⟨hne, hne2⟩ | hne
            all_goals rcases hz with ⟨hz, hz2⟩ | hz
            all_goals
              go_wp2_with fail
              go_ret2
              refine ⟨?_, rfl⟩
              unfold RetNum
              rw [HEND.out]
              exact ret_two HSO.out (by omega)
    · have hend : ru bs 0 0 = (0, 0) := by
        rw [HRU.out, List.drop_of_length_le (by have := HLEN.out; omega)]; rfl
      have HEND := Lib.hid hend
      clear hend
      go_wp2_with fail
      go_ret2
      exact ⟨by unfold RetNum; rw [HEND.out]; rfl, rfl⟩

end Go.Proofs.YtnjdondkggkfoaaGreat.uvc
/-
  The document's ReadUvarint.
-/
namespace Go.Proofs.YtnjdondkggkfoaaGreat.uvc
open Go.ChangeShapes Go.WideShapes Go.ChangeAt Go.RowKit plain words uvs

theorem bits_u64_bd (op : BinOp) (a b : Int) : 0 ≤ bits op .u64 a b ∧ bits op .u64 a b < 18446744073709551616 := by
  have h : ∀ z : Int, 0 ≤ IntKind.u64.wrap z ∧ IntKind.u64.wrap z < 18446744073709551616 := fun z => by rw [IntKind.wrap_u64]; omega
  unfold bits
  exact h _
theorem uvarint_y0 (w : World) (V : Nat) (h : lt64 V) : Calls Tryz.prog 39 #[.slice none 0 0, .int .u64 V] w (RetBytes w (uv V)) :=
  uvarint_y w 0 0 0 none [] V (Rd.nil _ _ _) (fun _ => rfl) (Nat.zero_le _) (by omega) h
set_option maxHeartbeats 1000000 in
set_option maxRecDepth 100000 in
theorem readuv_y (w : World) (B n c : Nat) (A : Option Addr) (bs : List UInt8) (h : Bs w B A n bs) (hB : B ≤ w.heap.size) (hnc : n ≤ c) (hcm : c ≤ 9223372036854775807) (hn : n ≤ 1099511627776) :
    Calls Tryz.prog 107 #[.slice A n c] w fun e w' => RetNum (ru bs 0 0) e ∧ Below w.heap.size w w' := by
  have hlen := h.len_
  have HLEN := Lib.hid hlen
  clear hlen
  go_enter Tryz.func107, Tryz.ntmps107
  go_wp2
  go_loop [4, 5] (fun x i => ∃ (k : Nat) (V : Int), k ≤ n ∧ i = .int .i64 k ∧ x = .int .u64 V ∧ (k ≤ 9 ∧ (∃ acc : Nat, V = acc ∧ acc < 128 ^ k ∧ ru bs 0 0 = ru (bs.drop k) k acc) ∨ k = 10 ∧ ru bs 0 0 = (0, 0))) (fun _ i => n - (intOf i).toNat)
  case atStart => exact ⟨0, 0, Nat.zero_le _, rfl, rfl, .inl ⟨by omega, 0, rfl, by simp, rfl⟩⟩
  case round =>
    obtain ⟨k, V, hk, rfl, rfl, hkc⟩ := hrel
    by_cases hin : k < n ∧ k < 10
    · obtain ⟨hlt, hk10⟩ := hin
      rcases hkc with ⟨hk9, acc, rfl, hacc, hru⟩ | ⟨hk9, _⟩
      · have HRU := Lib.hid hru
        have HACC := Lib.hid hacc
        clear hru hacc
        obtain ⟨b, off, ch, rfl, _, hg, hc⟩ := Bs.get h hlt
        have hdrop : bs.drop k = ch :: bs.drop (k + 1) := by
          obtain ⟨hk', rfl⟩ := List.getElem?_eq_some_iff.1 hg
          exact List.drop_eq_getElem_cons hk'
        have HD := Lib.hid hdrop
        clear hdrop hg
        have hch := ch.toNat_lt
        have h7 : (7 : Int) * (k : Int) < 64 := by omega
        by_cases h128 : 128 ≤ ch.toNat
        · have hi1 : (128 : Int) ≤ (ch.toNat : Int) := by omega
          have hnext : (k + 1 ≤ 9 ∧ (∃ acc' : Nat, bits .or .u64 (acc : Int) (IntKind.u64.wrap ((ch.toNat : Int) % 128 * 2 ^ (7 * k))) = acc' ∧ acc' < 128 ^ (k + 1) ∧ ru bs 0 0 = ru (bs.drop (k + 1)) (k + 1) acc') ∨ k + 1 = 10 ∧ ru bs 0 0 = (0, 0)) := by
            by_cases e9 : k = 9
            · refine .inr ⟨by omega, ?_⟩
              rw [HRU.out, HD.out]
              simp only [ru]
              rw [if_pos ⟨e9, by omega⟩]
            · refine .inl ⟨by omega, acc + ch.toNat % 128 * 128 ^ k, ?_, ?_, ?_⟩
              · rw [show ((ch.toNat : Int) % 128) = ((ch.toNat % 128 : Nat) : Int) from by omega]
                exact step_or k acc (ch.toNat % 128) hk9 HACC.out (by omega) (by omega)
              · have := pow_succ' k
                have h2 : ch.toNat % 128 * 128 ^ k ≤ 127 * 128 ^ k := Nat.mul_le_mul_right _ (by omega)
                have := HACC.out
                omega
              · rw [HRU.out, HD.out]
                simp only [ru]
                rw [if_neg (by omega), if_pos h128]
          have HNEXT := Lib.hid hnext
          clear hnext h
          go_wp2_with fail
          go_round
          case rel => exact ⟨k + 1, _, by omega, by go_num, rfl, HNEXT.out⟩
          case measure => simp [intOf]; omega
        · have hi1 : (ch.toNat : Int) < 128 := by omega
          have hvb := bits_u64_bd .or (acc : Int) (IntKind.u64.wrap ((ch.toNat : Int) % 128 * 2 ^ (7 * k)))
          obtain ⟨V, hV⟩ : ∃ V : Nat, bits .or .u64 (acc : Int) (IntKind.u64.wrap ((ch.toNat : Int) % 128 * 2 ^ (7 * k))) = (V : Int) := ⟨_, (Int.toNat_of_nonneg hvb.1).symm⟩
          rw [hV] at hvb
          have hVl : V < 18446744073709551616 := by omega
          have htake : (bs.take (k + 1)).length = k + 1 := by rw [List.length_take, HLEN.out]; omega
          have hbk := h.less (m := k + 1) (by omega)
          rw [show (u8s bs).take (k + 1) = u8s (bs.take (k + 1)) from by simp [u8s, List.map_take]] at hbk
          have hres : (ru bs 0 0 = (V, k + 1) ∧ uv V = bs.take (k + 1)) ∨ (ru bs 0 0 = (0, 0) ∧ uv V ≠ bs.take (k + 1)) := by
            have hz : ru bs 0 0 = (0, 0) → uv V ≠ bs.take (k + 1) := fun h0 he => by
              have h1 := ru_uv V (bs.drop (k + 1)) hVl
              rw [he, List.take_append_drop, h0, htake] at h1
              simp at h1
            by_cases h9 : k = 9 ∧ 1 < ch.toNat
            · have h0 : ru bs 0 0 = (0, 0) := by
                rw [HRU.out, HD.out]
                simp only [ru]
                rw [if_pos h9]
              exact .inr ⟨h0, hz h0⟩
            · by_cases h0' : ch.toNat = 0 ∧ 0 < k
              · have h0 : ru bs 0 0 = (0, 0) := by
                  rw [HRU.out, HD.out]
                  simp only [ru]
                  rw [if_neg h9, if_neg h128, if_pos h0']
                exact .inr ⟨h0, hz h0⟩
              · have hend : ru bs 0 0 = (acc + ch.toNat * 128 ^ k, k + 1) := by
                  rw [HRU.out, HD.out]
                  simp only [ru]
                  rw [if_neg h9, if_neg h128, if_neg h0']
                have hso := step_or k acc (ch.toNat % 128) (by omega) HACC.out (by omega) (by omega)
                rw [show ((ch.toNat : Int) % 128) = ((ch.toNat % 128 : Nat) : Int) from by omega] at hV
                rw [hV, show ch.toNat % 128 = ch.toNat from by omega] at hso
                have hVn : V = acc + ch.toNat * 128 ^ k := by omega
                rw [← hVn] at hend
                exact .inl ⟨hend, (ru_back0 bs V (k + 1) hend (by omega)).2.2.symm⟩
          have HRES := Lib.hid hres
          have hkc : ((k : Int) + 1) ≤ (c : Int) := by omega
          clear hres hvb htake
          have hVl' : lt64 V := hVl
          clear hVl
          have hkeep : ∀ w', Below w.heap.size w w' → (Below w.heap.size w w' ∧ (convert 36 9 (.slice (some ⟨b, off, none⟩) (k + 1) c)).run Tryz.prog w' = .ok (.string ⟨(bs.take (k + 1)).toArray⟩) w') := fun w' hb =>
            ⟨hb, conv_string (hbk.below hb hB) _ _ 5 Tryz.underlying36 Tryz.underlying9 Tryz.underlying5⟩
          have HK := Lib.hid hkeep
          have h0 := hkeep w (Below.refl _ _)
          have hVL' : lt64 V := hVl'
          have hk1 : ((k : Int) + 1).toNat = k + 1 := by omega
          have hk2 : IntKind.i64.wrap ((k : Int) + 1) = (k : Int) + 1 := IntWalk.i64_in _ (by omega)
          have hk3 : (0 : Int) ≤ (k : Int) + 1 := by omega
          clear hkeep hbk h
          go_wp2_with fail
          have h00 := (HK.out _ (Below.refl _ _).drew).2
          go_region_with (go_at_call 39; refine (uvarint_y0 _ V hVL').mono ?_; rintro e w' ⟨A', cap', rfl, hown', hb'⟩; have hbx := below_step ((Below.refl _ _).drew) hb'; have hcs := conv_string (P := Tryz.prog) (c := cap') (own_bs hown') 36 9 5 Tryz.underlying36 Tryz.underlying9 Tryz.underlying5; have hck := (HK.out _ hbx).2)
          all_goals
            go_wp2_with fail
            · have hh : (!uv V == List.take (k + 1) bs) = true := by assumption
              go_ret2
              refine ⟨?_, by assumption⟩
              rcases HRES.out with ⟨hr, he⟩ | ⟨hr, he⟩
              · rw [he] at hh; simp at hh
              · unfold RetNum; rw [hr]; rfl
            · have hh : (!uv V == List.take (k + 1) bs) = false := by assumption
              go_ret2
              refine ⟨?_, by assumption⟩
              rcases HRES.out with ⟨hr, he⟩ | ⟨hr, he⟩
              · unfold RetNum; rw [hr]; rfl
              · exact absurd (by simpa using hh) he
      · omega
    · have hend : ru bs 0 0 = (0, 0) := by
        rcases hkc with ⟨h9, acc, rfl, hacc, hru⟩ | ⟨_, h0⟩
        · rw [hru, List.drop_of_length_le (by have := HLEN.out; omega)]; rfl
        · exact h0
      have HEND := Lib.hid hend
      clear hend hkc h
      by_cases hkn : k < n
      · have hi1 : ¬ (k : Int) < 10 := by omega
        have hi2 : (k : Int) < (n : Int) := by omega
        go_wp2_with fail
        go_ret2
        exact ⟨by unfold RetNum; rw [HEND.out]; rfl, Below.refl _ _⟩
      · have hi2 : ¬ (k : Int) < (n : Int) := by omega
        go_wp2_with fail
        go_ret2
        exact ⟨by unfold RetNum; rw [HEND.out]; rfl, Below.refl _ _⟩
end Go.Proofs.YtnjdondkggkfoaaGreat.uvc
