/-
  Bloom: the document's Build, Parse.
-/
import Derived.Test.YtmnliieiiaedeaaBlm
import Derived.Test.YtmnliieiiaedeaaMinMax
namespace Go.Proofs.Ytmnliieiiaedeaa.blm
open Go.ChangeShapes Go.WideShapes Go.ChangeAt Go.RowKit plain words ord mem murmur

/-- one bit set -/
def or1 (c : UInt8) (j : Nat) : UInt8 := UInt8.ofNat (c.toNat ||| 2 ^ j)
def set1 (bs : List UInt8) (p : Nat) : List UInt8 := bs.set (p / 8) (or1 (bs.getD (p / 8) 0) (p % 8))
def addK (n : Nat) (s : ByteArray) (bs : List UInt8) (k : Nat) : List UInt8 := (List.range k).foldl (fun b j => set1 b (pl n s j)) bs
def addAll (n : Nat) (ss : List ByteArray) (bs : List UInt8) : List UInt8 := ss.foldl (fun b s => addK n s b 4) bs
def bytesOf (n : Nat) : Nat := max 8 (2 * n)
def built (ss : List ByteArray) : List UInt8 := addAll (bytesOf ss.length) ss (List.replicate (bytesOf ss.length) 0)
theorem set1_len (bs : List UInt8) (p : Nat) : (set1 bs p).length = bs.length := by simp [set1]
theorem addK_zero (n : Nat) (s : ByteArray) (bs : List UInt8) : addK n s bs 0 = bs := rfl
theorem addK_succ (n : Nat) (s : ByteArray) (bs : List UInt8) (k : Nat) : addK n s bs (k + 1) = set1 (addK n s bs k) (pl n s k) := by simp [addK, List.range_succ]
theorem addK_len (n : Nat) (s : ByteArray) (bs : List UInt8) (k : Nat) : (addK n s bs k).length = bs.length := by
  induction k with
  | zero => rfl
  | succ k ih => rw [addK_succ, set1_len, ih]
theorem addAll_len (n : Nat) (ss : List ByteArray) (bs : List UInt8) : (addAll n ss bs).length = bs.length := by
  induction ss generalizing bs with
  | nil => rfl
  | cons s ss ih =>
    show (addAll n ss (addK n s bs 4)).length = _
    rw [ih, addK_len]
theorem addAll_take (n : Nat) (ss : List ByteArray) (bs : List UInt8) (k : Nat) (s : ByteArray) (h : ss[k]? = some s) : addAll n (ss.take (k + 1)) bs = addK n s (addAll n (ss.take k) bs) 4 := by
  rw [take_succ_of h]
  simp [addAll]
theorem built_len (ss : List ByteArray) : (built ss).length = bytesOf ss.length := by unfold built; rw [addAll_len, List.length_replicate]
theorem or1_nat (c : UInt8) (j : Nat) (hj : j < 8) : ((or1 c j).toNat : Int) = ((c.toNat ||| 2 ^ j : Nat) : Int) := by
  unfold or1
  have hc := c.toNat_lt
  have h2 : 2 ^ j < 2 ^ 8 := Nat.pow_lt_pow_right (by omega) hj
  have h := Nat.or_lt_two_pow (n := 8) (x := c.toNat) (y := 2 ^ j) (by omega) h2
  rw [UInt8.toNat_ofNat']
  rw [Nat.mod_eq_of_lt (by simpa using h)]
theorem or_code (c : UInt8) (j : Nat) (hj : j < 8) (z : Int) (hz : z = ((2 ^ j : Nat) : Int)) : bits .or .u8 (c.toNat : Int) z = ((or1 c j).toNat : Int) := by
  have hc := c.toNat_lt
  have h2 : 2 ^ j < 2 ^ 8 := Nat.pow_lt_pow_right (by omega) hj
  subst hz
  rw [u8_or_nat _ _ (by omega) (by omega), or1_nat c j hj]
theorem or_code8 (c : UInt8) (j : Nat) (hj : j < 8) : bits .or .u8 (c.toNat : Int) (2 ^ j % 256) = ((or1 c j).toNat : Int) :=
  or_code c j hj _ (by
    have h2 : 2 ^ j < 2 ^ 8 := Nat.pow_lt_pow_right (by omega) hj
    have e : (2 : Int) ^ j = ((2 ^ j : Nat) : Int) := by simp
    rw [e]
    generalize 2 ^ j = x at h2 ⊢
    omega)
theorem set1_at {bs : List UInt8} {p : Nat} {c c2 : UInt8} (h : bs[p / 8]? = some c) (h2 : or1 c (p % 8) = c2) : bs.set (p / 8) c2 = set1 bs p := by
  unfold set1
  rw [List.getD_eq_getElem?_getD, h, ← h2]
  rfl
def RetF (T : TypeId) (w : World) (bs : List UInt8) (e : Ending) (w' : World) : Prop :=
  ∃ p g, e = .returned (.tuple #[.pointer (some ⟨p, 0, none⟩), .int .i64 0]) ∧ IsF T w' p g bs ∧ w.heap.size ≤ p ∧ w.heap.size ≤ g ∧ Below w.heap.size w w'
theorem zeros (n : Nat) : List.replicate n (Value.int .u8 0) = u8s (List.replicate n 0) := by
  unfold u8s U8
  simp
set_option maxHeartbeats 2000000 in
set_option maxRecDepth 100000 in
theorem build_y (w : World) (B n c : Nat) (A : Option Addr) (ss : List ByteArray) (h : Strs w B A n ss) (hB : B ≤ w.heap.size) (hn : n ≤ 2048) (hs : ∀ s ∈ ss, s.size ≤ 65536) :
    Calls Try.prog 37 #[.slice A n c] w (RetF 65 w (built ss)) := by
  obtain ⟨i0, hi, hz0, hz1, hz2⟩ := info_parts infoB
  have hlen := h.len_
  obtain ⟨N, hN⟩ : ∃ N, N = bytesOf n := ⟨_, rfl⟩
  have hN8 : 8 ≤ N := by unfold bytesOf at hN; omega
  have hNm : N ≤ 4096 := by unfold bytesOf at hN; omega
  have hmax : max (8 : Int) (2 * (n : Int)) = (N : Int) := by unfold bytesOf at hN; omega
  have hif : (if (8 : Int) < 2 * (n : Int) then 2 * (n : Int) else 8) = (N : Int) := by split <;> (unfold bytesOf at hN; omega)
  have hmk : (Instr.makeSlice 57 (.int .i64 (N : Int)) (.int .i64 (N : Int))).run Try.prog w = .ok (.slice (some ⟨w.heap.size, 0, none⟩) N N) (w.alloc (.cells (List.replicate N (Value.int .u8 0)).toArray 5)) := by
    have h := run_make (P := Try.prog) w 57 5 i0 (.int .u8 0) Try.underlying57 hi hz0 .i64 .i64 (N : Int) (N : Int) (by omega) (by omega) (by rw [hz2]; omega) (by omega)
    rw [show ((N : Int)).toNat = N from by omega, hz1, Nat.mul_one] at h
    have e : madeCells (Value.int .u8 0).cells N = (List.replicate N (Value.int .u8 0)).toArray := by
      apply Array.ext'
      rw [show (Value.int .u8 0).cells = #[Value.int .u8 0] from rfl, toList_madeCells_one]
    rw [h, e]
  obtain ⟨g, hg⟩ : ∃ g, w.heap.size = g := ⟨_, rfl⟩
  obtain ⟨w1, hw1⟩ : ∃ w1, w.alloc (.cells (List.replicate N (Value.int .u8 0)).toArray 5) = w1 := ⟨_, rfl⟩
  have hs1 : w1.heap.size = g + 1 := by rw [← hw1, World.size_alloc, hg]
  have hown1 : w1.ownsRow w.heap.size 5 1 (.slice (some ⟨g, 0, none⟩) N N) N (u8s (List.replicate N 0)) := by
    have := World.ownsRow_lit (w := w) (base := w.heap.size) (e := 5) (size := 1) (List.replicate N (Value.int .u8 0)).toArray N (Nat.le_refl _) (by unfold maxLen; omega) (by simp)
    rw [hw1, hg] at this
    rw [← zeros, hg]
    simpa using this
  have hb1 : Below w.heap.size w w1 := by rw [← hw1]; exact (Below.refl _ _).alloc (Nat.le_refl _) _
  obtain ⟨w2, hw2⟩ : ∃ w2, w1.alloc (.cells #[.slice (some ⟨g, 0, none⟩) N N] 65) = w2 := ⟨_, rfl⟩
  have hb2 : Below w1.heap.size w1 w2 := by rw [← hw2]; exact (Below.refl _ _).alloc (Nat.le_refl _) _
  have g2 : w2.heap[g + 1]? = some (.cells #[.slice (some ⟨g, 0, none⟩) N N] 65 (0, 0)) := by rw [← hw2, ← hs1]; exact alloc_new _ _
  have O2 := Lib.hid (own_keep hown1 hb2 (Nat.le_refl _))
  have B2 := Lib.hid (hb1.trans (hb2.mono (by omega)))
  have G2 := Lib.hid g2
  have hs2 : w2.heap.size = g + 2 := by rw [← hw2, World.size_alloc, hs1]
  have HST := Lib.hid h
  have HSS := Lib.hid hs
  have HLEN := Lib.hid hlen
  rw [hw1, hg] at hmk
  have HW := Lib.hid (And.intro hs1 hw2)
  have HG := Lib.hid hg
  have HN := Lib.hid hN
  obtain ⟨M, hM⟩ : ∃ M, M = 8 * N := ⟨_, rfl⟩
  have hM8 : (8 : Int) * (N : Int) = (M : Int) := by omega
  have HM := Lib.hid hM
  have hn2 : ¬ (2048 : Int) < (n : Int) := by omega
  clear hown1 hb1 hb2 hw1 hw2 g2 h hs hlen hs1 hg hN hM
  go_enter Try.func37, Try.ntmps37
  go_wp2_with (first | (at_builtin; refine wpList_max rfl (.const (.int .i64 8)) (.tmp 13) _ rfl rfl rfl hmax ?_) | (rw [HW.out.1, HW.out.2]))
  clear hmk hmax hif
  go_loopw [5] (fun i wr => ∃ (k : Nat), k ≤ n ∧ i = .int .i64 k ∧ wr.ownsRow w.heap.size 5 1 (.slice (some ⟨g, 0, none⟩) N N) N (u8s (addAll N (ss.take k) (List.replicate N 0))) ∧ Chg (fun b => b = g) w2 wr) (fun i _ => n - (intOf i).toNat)
  case atStart => exact ⟨0, Nat.zero_le _, rfl, O2.out, Chg.refl _ _⟩
  case round =>
    obtain ⟨k, hk, rfl, hown, hch⟩ := hrel
    obtain ⟨wv, rfl⟩ : ∃ wv, wv = wr := ⟨wr, rfl⟩
    have OV := Lib.hid hown
    have CV := Lib.hid hch
    clear hown hch
    by_cases hlt : k < n
    · have i1 : (k : Int) < (n : Int) := by omega
      have i2 : (0 : Int) ≤ (k : Int) := by omega
      obtain ⟨b, off, s, rfl, hbB, hsk, hcs⟩ := HST.out.get hlt
      have hsz : s.size ≤ 65536 := HSS.out s (List.mem_of_getElem? hsk)
      have HSK := Lib.hid hsk
      have HCS := Lib.hid hcs
      clear hsk hcs
      go_wp2_with (fail)
      go_loopw [6] (fun i wr => ∃ (j : Nat), j ≤ 4 ∧ i = .int .i64 j ∧ wr.ownsRow w.heap.size 5 1 (.slice (some ⟨g, 0, none⟩) N N) N (u8s (addK N s (addAll N (ss.take k) (List.replicate N 0)) j)) ∧ Chg (fun b => b = g) w2 wr) (fun i _ => 4 - (intOf i).toNat)
      case atStart => exact ⟨0, by omega, rfl, OV.out, CV.out⟩
      case round =>
        obtain ⟨j, hj, rfl, hown, hch⟩ := hrel
        have gp := hch.blk G2.out (by omega)
        have c0 : wr.cell? ⟨g + 1, 0, none⟩ = some (.slice (some ⟨g, 0, none⟩) N N) := by rw [cell_of_row _ _ _ _ _ _ gp]; rfl
        have cs : wr.cell? ⟨b, off + k, none⟩ = some (.string s) := by
          have hlt : b < w.heap.size := by omega
          have e1 := (B2.out.cell (p := ⟨b, off + k, none⟩) hlt).trans HCS.out
          have : wr.heap[b]? = w2.heap[b]? := hch.block b (by have := HG.out; omega) (fun e => by have := HG.out; omega)
          rw [← e1]
          simp only [World.cell?, this]
        have hpr : g + 1 < wr.heap.size := blk_lt gp
        have hbr : b < wr.heap.size := by have := HG.out; omega
        have OR := Lib.hid hown
        have CR := Lib.hid hch
        have GP := Lib.hid gp
        clear hown hch gp
        by_cases hlt4 : j < 4
        · have i3 : (j : Int) < 4 := by omega
          have hpl := fun W => place_y W s j N hsz hlt4 (by omega) (by omega) M HM.out
          obtain ⟨P, hP⟩ : ∃ P, pl N s j = P := ⟨_, rfl⟩
          have hpp : P < 8 * N := by rw [← hP]; exact pl_lt N s j (by omega)
          simp only [hP] at hpl
          have HPL := Lib.hid hpl
          have HP := Lib.hid hP
          clear hpl hP
          go_wp2_with (fail)
          have q0 := Wb.at_ c0
          have q1 := Wb.at_ cs
          refine wp_region_plan [([0, 1, 2, 3, 4, 5, 6, 7, 8, 9, 10], some (11, false)), ([12], none)] (by kernel_rfl) (by kernel_rfl) ?_
          refine seg_act _ (by dsimp only [pick, at_]) _ (by dsimp only [pick, at_]) ?_
          repeat (go_big_quiet_step (fail))
          refine wpQuiet_nil ?_
          intro K1 h1 h2
          clear q0 q1 h1
          go_wp2_with (fail)
          refine (HPL.out wr.drew).mono ?_
          rintro e w3 ⟨rfl, hb3⟩
          have hs3 := hb3.size
          have hb3w : Below wr.heap.size wr w3 := (Below.refl _ _).drew.trans hb3
          have O3 := Lib.hid (own_keep OR.out hb3w (Nat.le_refl _))
          have C3 := Lib.hid (CR.out.then_below ((Below.refl _ _).drew.trans hb3))
          have gp3 := blk_below hb3w GP.out hpr
          have c03 : w3.cell? ⟨g + 1, 0, none⟩ = some (.slice (some ⟨g, 0, none⟩) N N) := by rw [cell_of_row _ _ _ _ _ _ gp3]; rfl
          have hpr3 : g + 1 < w3.heap.size := blk_lt gp3
          go_wp2_with (fail)
          refine h2 _ _ ((Below.refl _ _).drew.trans hb3) ?_
          clear h2
          refine seg_end _ (by dsimp only [pick, at_]) ?_
          repeat (go_big_quiet_step (fail))
          refine wpQuiet_nil ?_
          refine NoPanic.normal ?_
          clear hb3 hb3w gp3 cs c0 HPL GP OR CR
          go_wp2_with (fail)
          have hbl : (addK N s (addAll N (ss.take k) (List.replicate N 0)) j).length = N := by rw [addK_len, addAll_len, List.length_replicate]
          obtain ⟨bs, hbs⟩ : ∃ bs, addK N s (addAll N (ss.take k) (List.replicate N 0)) j = bs := ⟨_, rfl⟩
          rw [hbs] at O3 hbl
          have HBS := Lib.hid hbs
          have hc2 := O3.out.cellAt (P / 8) (by omega)
          have hfr := O3.out.frozenAt (P / 8)
          obtain ⟨ch, hch⟩ : ∃ ch, bs[P / 8]? = some ch := ⟨_, List.getElem?_eq_getElem (by omega)⟩
          rw [show (u8s bs)[P / 8]? = some (.int .u8 (ch.toNat : Int)) from by simp only [u8s, List.getElem?_map, hch]; rfl] at hc2
          have hcl := ch.toNat_lt
          have j0 : (0 : Int) ≤ (P : Int) / 8 := by omega
          have j1 : (P : Int) / 8 < (N : Int) := by omega
          have j2 : ((P : Int) / 8).toNat = P / 8 := by omega
          have j3 : 0 ≤ (P : Int) % 8 := by omega
          have j4 : (P : Int) % 8 < 8 := by omega
          have q0 := Wb.at_ c03
          have q1 := Wb.at_ hc2
          have hbr3 : g < w3.heap.size := by omega
          obtain ⟨c2, hc2e⟩ : ∃ c2, or1 ch (P % 8) = c2 := ⟨_, rfl⟩
          have hor := or_code8 ch (P % 8) (Nat.mod_lt _ (by omega))
          rw [hc2e] at hor
          have hst := (O3.out.stored (P / 8) (.int .u8 (c2.toNat : Int))).1
          rw [u8s_set, set1_at hch hc2e, ← HBS.out, ← HP.out, ← addK_succ, HP.out] at hst
          have HST2 := Lib.hid hst
          have HC4 := Lib.hid (C3.out.setCell (p := ⟨g, P / 8, none⟩) (fun _ => rfl) (.int .u8 (c2.toNat : Int)))
          have hc2l := c2.toNat_lt
          clear hch hbs hc2e hst
          refine wp_region_plan [([0, 1, 2, 3, 4, 5, 6, 7, 8, 9, 10, 11, 12, 13, 14, 15, 16, 17, 18], some (19, true)), ([], none)] (by kernel_rfl) (by kernel_rfl) ?_
          refine seg_write _ (by dsimp only [pick, at_]) _ (by dsimp only [pick, at_]) ?_
          repeat (go_big_quiet_step (fail))
          refine wpQuiet_nil ?_
          intro K4 h4
          go_wp2_with (fail)
          refine seg_end _ (by dsimp only [pick, at_]) ?_
          refine wpQuiet_nil (NoPanic.normal ?_)
          clear q0 q1
          go_wp2_with (fail)
          go_roundw
          case rel => exact ⟨j + 1, by omega, by go_num, HST2.out, HC4.out.drew⟩
          case measure => simp [intOf]; omega
        · obtain rfl : j = 4 := by omega
          have i3 : ¬ ((4 : Nat) : Int) < 4 := by omega
          go_wp2_with (fail)
          go_roundw
          case rel => exact ⟨k + 1, by omega, by go_num, by rw [addAll_take _ _ _ _ _ HSK.out]; exact OR.out, CR.out⟩
          case measure => simp [intOf]; omega
    · have hkn : k = n := by omega
      have i1 : ¬ (k : Int) < (n : Int) := by omega
      have gp := CV.out.blk G2.out (by omega)
      have hfin : wv.ownsRow w.heap.size 5 1 (.slice (some ⟨g, 0, none⟩) N N) N (u8s (built ss)) := by
        have := OV.out
        rw [hkn, take_all (by rw [HLEN.out]; exact Nat.le_refl _), HN.out] at this
        unfold built
        rw [HLEN.out, HN.out]
        exact this
      have HF := Lib.hid hfin
      have GP := Lib.hid gp
      clear hfin gp
      go_wp2_with (fail)
      go_ret2
      refine ⟨g + 1, g, rfl, ⟨N, N, ?_, GP.out, own_base HF.out (Nat.zero_le _)⟩, by have := HG.out; omega, by have := HG.out; omega, B2.out.trans (CV.out.below (B := w.heap.size) (by have := HG.out; omega) (fun b e => by have := HG.out; omega))⟩
      rw [built_len, HLEN.out, HN.out]
end Go.Proofs.Ytmnliieiiaedeaa.blm
