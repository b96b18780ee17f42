/-
  The document's Bytes: bits packed into bytes (the package thermographref03).
-/
import Derived.Test.YtknjejejkgihbaaDoorTsRefBits
namespace Go.Proofs.YtknjejejkgihbaaDoor.bitc
open Go.ChangeShapes Go.WideShapes Go.ChangeAt Go.RowKit plain words bitm

/-- the row behind i rounds: the first i bits packed, noughts behind them -/
def packed (X : List Bool) (M i : Nat) : List UInt8 := pack (X.take i) ++ List.replicate (M - (i + 7) / 8) 0
theorem packed_len (X : List Bool) (M i : Nat) (hi : i ≤ X.length) (hM : (X.length + 7) / 8 = M) : (packed X M i).length = M := by
  unfold packed
  rw [List.length_append, pack_len, List.length_take, List.length_replicate]
  omega
theorem packed_zero (X : List Bool) (M : Nat) : packed X M 0 = List.replicate M 0 := by
  unfold packed
  rw [List.take_zero]
  rfl
theorem packed_all (X : List Bool) (M : Nat) (hM : (X.length + 7) / 8 = M) : packed X M X.length = pack X := by
  unfold packed
  rw [List.take_length, hM, Nat.sub_self, List.replicate_zero, List.append_nil]
theorem val_one (b : Bool) : val [b] = b.toNat := by cases b <;> rfl
/-- one round -/
theorem packed_step (X : List Bool) (M i q d : Nat) (b : Bool) (hM : (X.length + 7) / 8 = M) (hb : X[i]? = some b) (hq : i / 8 = q) (hd : 7 - i % 8 = d) :
    ∃ ob nb : UInt8, (packed X M i)[q]? = some ob ∧ (packed X M i).set q nb = packed X M (i + 1) ∧ bits BinOp.or IntKind.u8 (ob.toNat : Int) (IntKind.u8.wrap ((b.toNat : Int) * 2 ^ d)) = (nb.toNat : Int) := by
  have hi : i < X.length := by
    rcases Nat.lt_or_ge i X.length with h | h
    · exact h
    · rw [List.getElem?_eq_none h] at hb; cases hb
  have hcl : (X.take i).length = i := by rw [List.length_take]; omega
  have hT : X.take (i + 1) = X.take i ++ [b] := take_succ_of hb
  have hqM : q < M := by omega
  have hbl : b.toNat < 2 ^ 1 := by cases b <;> decide
  have hdd : (8 - i % 8) - 1 = d := by omega
  by_cases h8 : i % 8 = 0
  · have hlp : (pack (X.take i)).length = q := by rw [pack_len, hcl]; omega
    obtain ⟨nb, hnb, hor⟩ := new_byte 0 (8 - i % 8) 1 b.toNat (by simp) (by omega) (by omega) hbl
    rw [hdd] at hnb hor
    have hP : packed X M i = pack (X.take i) ++ 0 :: List.replicate (M - (q + 1)) 0 := by
      unfold packed
      rw [show M - (i + 7) / 8 = (M - (q + 1)) + 1 from by omega, List.replicate_succ]
    refine ⟨0, nb, ?_, ?_, hor⟩
    · rw [hP, List.getElem?_append_right (by omega), hlp]; simp
    · rw [hP, List.set_append_right _ _ (by omega), hlp]
      unfold packed
      rw [hT, pack_new _ [b] (by rw [hcl]; exact h8) (by simp) (by simp), val_one, show M - (i + 1 + 7) / 8 = M - (q + 1) from by omega, List.append_assoc]
      have hd7 : d = 8 - [b].length := by simp; omega
      rw [hnb, hd7, show UInt8.toNat 0 = 0 from rfl, Nat.zero_add, Nat.sub_self]
      rfl
  · have hlp : (pack (X.take i)).length = q + 1 := by rw [pack_len, hcl]; omega
    have hat := pack_at (X.take i) q (by rw [hcl]; omega)
    have hbn : (UInt8.ofNat (byteAt (X.take i) q)).toNat = byteAt (X.take i) q := byte_toNat _ _
    obtain ⟨nb, hnb, hor⟩ := new_byte (UInt8.ofNat (byteAt (X.take i) q)) (8 - i % 8) 1 b.toNat (by
      rw [hbn]
      unfold byteAt
      rw [chunk_len, hcl, show min 8 (i - 8 * q) = i % 8 from by omega]
      exact Nat.mul_mod_left _ _) (by omega) (by omega) hbl
    rw [hdd] at hnb hor
    refine ⟨_, nb, ?_, ?_, hor⟩
    · unfold packed
      rw [List.getElem?_append_left (by omega)]
      exact hat
    · unfold packed
      rw [List.set_append_left _ _ (by omega), hT, pack_in _ [b] (by rw [hcl]; exact h8) (by rw [hcl]; simp; omega), hcl, hq, val_one, hnb, hbn]
      have hd8 : d = 8 - i % 8 - [b].length := by simp; omega
      rw [show M - (i + 1 + 7) / 8 = M - (i + 7) / 8 from by omega, hd8]

set_option maxHeartbeats 2000000 in
set_option maxRecDepth 100000 in
theorem refbytes_x (w : World) (A : Option Addr) (L c : Nat) (X : List Bool) (h : Bs w w.heap.size A L (bys X)) (hX : X.length = L) (hl : L ≤ 1099511627776) :
    Calls Tryd.prog 32 #[.slice A L c] w (RetOwn w (pack X) ((L + 7) / 8)) := by
  obtain ⟨i0, hi, hz0, hz1, hz2⟩ := info_parts infoBits
  obtain ⟨M, hM⟩ : ∃ M, (L + 7) / 8 = M := ⟨_, rfl⟩
  have hMi : ((L : Int) + 7).tdiv 8 = (M : Int) := by rw [Int.tdiv_eq_ediv_of_nonneg (by omega)]; omega
  have hMi2 : ((L : Int) + 7) / 8 = (M : Int) := by omega
  have hM40 : M ≤ 1099511627776 := by omega
  rw [hM]
  have HM := Lib.hid hM
  have HX := Lib.hid hX
  clear hM hX
  go_enter Tryd.func32, Tryd.ntmps32
  go_wp2_with ((at_make; refine wpList_make_full _ rfl (.tmp 8) (.tmp 8) 23 rfl w.heap.size 5 i0 (.int .u8 0) 1 Tryd.underlying23 hi hz0 hz1 .i64 .i64 (M : Int) (M : Int) M rfl rfl rfl rfl (by rw [hz2]; omega) (by unfold maxLen; omega) (Nat.le_refl _) ?_; intro w1 hown1 hg1))
  have hz : (madeCells (Value.int .u8 0).cells (M * 1)).toList = u8s (packed X M 0) := by
    rw [packed_zero, Nat.mul_one]
    show (madeCells #[Value.int .u8 0] M).toList = _
    rw [toList_madeCells_one]
    simp [u8s, U8]
  rw [hz] at hown1
  have hb1 : Below w.heap.size w w1 := (Below.refl _ _).grown hg1 (Nat.le_refl _) (fun k hk => by cases hk)
  obtain ⟨g, hg⟩ : ∃ g, w.heap.size = g := ⟨_, rfl⟩
  rw [hg] at hown1 hb1 h ⊢
  have HG := Lib.hid hg
  clear hz hg1 hg
  go_loopw [4] (fun i wr => ∃ k : Nat, k ≤ L ∧ i = .int .i64 k ∧ wr.ownsRow g 5 1 (.slice (some ⟨g, 0, none⟩) M M) M (u8s (packed X M k)) ∧ Below g w wr) (fun i _ => L - (intOf i).toNat)
  case atStart => exact ⟨0, Nat.zero_le _, rfl, hown1, hb1⟩
  case round =>
    clear hown1 hb1
    obtain ⟨k, hk, rfl, hown, hbel⟩ := hrel
    by_cases hlt : k < L
    · obtain ⟨b, off, c8, rfl, hbB, hcb, hc⟩ := Bs.get (h.below hbel (Nat.le_refl _)) hlt
      obtain ⟨bt, hbt⟩ : ∃ bt, X[k]? = some bt := ⟨X[k]'(by rw [HX.out]; exact hlt), List.getElem?_eq_getElem _⟩
      rw [bys_at hbt] at hcb
      have hcv : (c8.toNat : Int) = (bt.toNat : Int) := by
        injection hcb with hcb
        rw [← hcb]
        cases bt <;> rfl
      rw [hcv] at hc
      obtain ⟨q, hq⟩ : ∃ q, k / 8 = q := ⟨_, rfl⟩
      obtain ⟨d, hd⟩ : ∃ d, 7 - k % 8 = d := ⟨_, rfl⟩
      obtain ⟨ob, nb, hob, hset, hor⟩ := packed_step X M k q d bt (by rw [HX.out]; exact HM.out) hbt hq hd
      have hqM : q < M := by have := HM.out; omega
      have hold := hown.cellAt q (by omega)
      rw [show (u8s (packed X M k))[q]? = some (.int .u8 (ob.toNat : Int)) from by simp only [u8s, List.getElem?_map, hob]; rfl] at hold
      have hfr := hown.frozenAt q
      have hst := (hown.stored q (.int .u8 (nb.toNat : Int))).1
      rw [u8s_set, hset] at hst
      have hbs := hbel.setCell (p := ⟨g, q, none⟩) (Nat.le_refl _) (.int .u8 (nb.toNat : Int))
      have hobl := ob.toNat_lt
      have hbtl : bt.toNat ≤ 1 := by cases bt <;> decide
      have hqi : (k : Int) / 8 = (q : Int) := by omega
      have hqi2 : (k : Int).tdiv 8 = (q : Int) := by rw [Int.tdiv_eq_ediv_of_nonneg (by omega)]; exact hqi
      have hdi : (7 : Int) - (k : Int) % 8 = (d : Int) := by omega
      have i0' : (0 : Int) ≤ (q : Int) := by omega
      have i1 : (q : Int) < (M : Int) := by omega
      have i2 : (0 : Int) ≤ (k : Int) := by omega
      have i3 : (k : Int) < (L : Int) := by omega
      have i4 : (0 : Int) ≤ (d : Int) := by omega
      have i5 : d ≤ 7 := by omega
      have i6 : IntKind.i64.wrap (q : Int) = (q : Int) := IntWalk.i64_in _ (by omega)
      have i7 : IntKind.i64.wrap (7 - (k : Int) % 8) = (d : Int) := by rw [hdi]; exact IntWalk.i64_in _ (by omega)
      have i8 : IntKind.i64.wrap ((k : Int) % 8) = (k : Int) % 8 := IntWalk.i64_in _ (by omega)
      have i9 : (k : Int).tmod 8 = (k : Int) % 8 := Int.tmod_eq_emod_of_nonneg (by omega)
      have i10 : IntKind.i64.wrap (d : Int) = (d : Int) := IntWalk.i64_in _ (by omega)
      have HST := Lib.hid hst
      have HBS := Lib.hid hbs
      clear hown hset hob hst hbs hcb hcv hbt hq hd
      go_wp2_with fail
      go_still_tail 18, (by kernel_rfl)
      change wpList _ _ _ _ _ wr.drew
      clear hor
      go_wp2_with fail
      go_roundw
      case rel => exact ⟨k + 1, by omega, by go_num, HST.out, HBS.out.drew⟩
      case measure => simp [intOf]; omega
    · have hkL : k = L := by omega
      subst hkL
      have hrow := hown
      rw [show packed X M k = pack X from by rw [← HX.out]; exact packed_all X M (by rw [HX.out]; exact HM.out)] at hrow
      have HO := Lib.hid hrow
      clear hown hrow
      go_wp2_with fail
      go_ret
      exact ⟨_, M, rfl, by rw [HG.out]; exact HO.out, by rw [HG.out]; exact hbel⟩
end Go.Proofs.YtknjejejkgihbaaDoor.bitc
