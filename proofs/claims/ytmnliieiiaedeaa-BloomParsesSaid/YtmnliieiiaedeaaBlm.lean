/-
  Bloom: the document's place.
-/
import Derived.Test.YtmnliieiiaedeaaMurmurX
import Derived.Test.YtmnliieiiaedeaaStrs
import Derived.Test.YtmnliieiiaedeaaRow
import Derived.Laws.IdiomStrings
namespace Go.Proofs.Ytmnliieiiaedeaa.blm
open Go.ChangeShapes Go.WideShapes Go.ChangeAt Go.RowKit plain words ord mem murmur

/-- the bytes of a string, in a new block -/
theorem bs_string (w : World) (s : ByteArray) (C : Nat) (t : TypeId) (fr : Nat × Nat) : Bs ((w.alloc (.cells (bytesRow s C) t fr)).drew) (w.heap.size + 1) (some ⟨w.heap.size, 0, none⟩) s.size s.data.toList :=
  ⟨by rw [u8s_length]; simp, fun j hj => by
    refine ⟨_, _, .int .u8 (s.data[j].toNat : Int), rfl, by omega, ?_, ?_⟩
    · unfold u8s
      rw [List.getElem?_map, Array.getElem?_toList, Array.getElem?_eq_getElem hj]
      rfl
    · show (w.alloc (.cells (bytesRow s C) t fr)).cell? ⟨w.heap.size, 0 + j, none⟩ = _
      rw [World.cell?_alloc_mark, Nat.zero_add, bytesRow_at s C j hj]⟩
/-- the place of a name among n bytes -/
def pl (n : Nat) (s : ByteArray) (k : Nat) : Nat := (mur (k : Int) s.data.toList).toNat % (8 * n)
theorem pl_int (n : Nat) (s : ByteArray) (k : Nat) (M : Nat) (hM : M = 8 * n) : mur (k : Int) s.data.toList % (M : Int) = (pl n s k : Int) := by
  have hb := mur_bd (k : Int) s.data.toList
  subst hM
  unfold pl
  generalize mur (k : Int) s.data.toList = x at hb ⊢
  obtain ⟨m, rfl⟩ : ∃ m : Nat, x = (m : Int) := ⟨x.toNat, by omega⟩
  simp
theorem pl_lt (n : Nat) (s : ByteArray) (k : Nat) (hn : 0 < n) : pl n s k < 8 * n := Nat.mod_lt _ (by omega)
theorem place_y (w : World) (s : ByteArray) (k n : Nat) (hs : s.size ≤ 65536) (hk : k < 4) (hn : 0 < n) (hn' : n ≤ 65536) (M : Nat) (hM : M = 8 * n) :
    Calls Try.prog 67 #[.string s, .int .i64 k, .int .i64 M] w fun e w' => e = .returned (.int .i64 (pl n s k)) ∧ Below w.heap.size w w' := by
  have hconv := run_bytes_of_string (P := Try.prog) w 9 57 5 s Try.underlying9 Try.underlying57 Try.underlying5
  have hb := mur_bd (k : Int) s.data.toList
  have hM0 : (1 : Int) ≤ (M : Int) := by omega
  have hM1 : (M : Int) ≤ 524288 := by omega
  have hp := pl_int n s k M hM
  have HM := Lib.hid hM
  clear hM
  have HP := Lib.hid hp
  clear hp
  go_enter Try.func67, Try.ntmps67
  go_wp2_with fail
  refine (murmur_y _ (w.heap.size + 1) _ _ _ s.data.toList (k : Int) (by omega) (bs_string w s _ _ _) (by simp) (by omega)).mono ?_
  rintro e w1 ⟨rfl, hb1⟩
  go_wp2_with fail
  go_ret
  refine ⟨by rw [HP.out]; rfl, ?_⟩
  refine Below.trans (b := (w.alloc (.cells (bytesRow s (grownCap w s.size 0 5)) 5 ((bytesRow s (grownCap w s.size 0 5)).size, (bytesRow s (grownCap w s.size 0 5)).size + 1))).drew) (((Below.refl _ _).alloc (Nat.le_refl _) _).drew) (hb1.mono (by simp))
/-- a filter at block p, its bytes in block g -/
def IsF (T : TypeId) (w : World) (p g : Nat) (bs : List UInt8) : Prop :=
  ∃ c n, n = bs.length ∧ w.heap[p]? = some (.cells #[.slice (some ⟨g, 0, none⟩) n c] T (0, 0)) ∧ w.ownsRow 0 5 1 (.slice (some ⟨g, 0, none⟩) n c) n (u8s bs)
def bit (bs : List UInt8) (p : Nat) : Bool := (bs.getD (p / 8) 0).toNat.testBit (p % 8)
def hasB (bs : List UInt8) (s : ByteArray) : Bool := (List.range 4).all fun k => bit bs (pl bs.length s k)
theorem bit_code (c : UInt8) (k : Nat) : (bits .and .u8 ((c.toNat : Int) / 2 ^ k) 1 == 0) = !c.toNat.testBit k := by
  have hc := c.toNat_lt
  have e1 : ((c.toNat : Int) / 2 ^ k) = ((c.toNat / 2 ^ k : Nat) : Int) := by simp
  have hle : c.toNat / 2 ^ k ≤ c.toNat := Nat.div_le_self _ _
  rw [e1, show (1 : Int) = ((1 : Nat) : Int) from rfl, u8_and_nat _ _ (by omega) (by omega), Nat.and_one_is_mod, Nat.testBit_eq_decide_div_mod_eq]
  rcases Nat.mod_two_eq_zero_or_one (c.toNat / 2 ^ k) with h | h <;> rw [h] <;> rfl
set_option maxHeartbeats 1000000 in
set_option maxRecDepth 100000 in
theorem has_y (w : World) (p g : Nat) (bs : List UInt8) (h : IsF 65 w p g bs) (hn : 0 < bs.length) (hn' : bs.length ≤ 65536) (s : ByteArray) (hs : s.size ≤ 65536) :
    Calls Try.prog 38 #[.pointer (some ⟨p, 0, none⟩), .string s] w fun e w' => e = .returned (.bool (hasB bs s)) ∧ Below w.heap.size w w' := by
  obtain ⟨c, n, hnl, hp, hown⟩ := h
  have hpl := blk_lt hp
  have HP := Lib.hid hp
  have HO := Lib.hid hown
  have hn1 : 0 < n := by omega
  have hn2 : n ≤ 65536 := by omega
  have HL := Lib.hid hnl
  obtain ⟨M, hM⟩ : ∃ M, M = 8 * n := ⟨_, rfl⟩
  have hM8 : (8 : Int) * (n : Int) = (M : Int) := by omega
  have HM := Lib.hid hM
  clear hp hown hnl hn hn' hM
  go_enter Try.func38, Try.ntmps38
  go_wp2_with fail
  go_loopw [5] (fun i wr => ∃ (k : Nat), k ≤ 4 ∧ i = .int .i64 k ∧ Aside (∀ j, j < k → bit bs (pl n s j) = true) ∧ Below w.heap.size w wr) (fun i _ => 4 - (intOf i).toNat)
  case atStart => exact ⟨0, by omega, rfl, (fun j hj => by omega), Below.refl _ _⟩
  case round =>
    obtain ⟨k, hk, rfl, HJ, hb⟩ := hrel
    have hp := blk_below hb HP.out hpl
    have c0 : wr.cell? ⟨p, 0, none⟩ = some (.slice (some ⟨g, 0, none⟩) n c) := by rw [cell_of_row _ _ _ _ _ _ hp]; rfl
    have hpr : p < wr.heap.size := blk_lt hp
    have BB := Lib.hid hb
    clear hp hb
    by_cases hlt : k < 4
    · have i1 : (k : Int) < 4 := by omega
      go_wp2_with fail
      refine (place_y _ s k n hs hlt hn1 hn2 M HM.out).mono ?_
      rintro e w1 ⟨rfl, hb1⟩
      have hpp := pl_lt n s k hn1
      obtain ⟨P, hP⟩ : ∃ P, pl n s k = P := ⟨_, rfl⟩
      rw [hP] at hpp ⊢
      have B1 := Lib.hid (BB.out.trans (hb1.mono BB.out.size))
      have c1 : w1.cell? ⟨p, 0, none⟩ = some (.slice (some ⟨g, 0, none⟩) n c) := (B1.out.cell (p := ⟨p, 0, none⟩) hpl).trans (by rw [cell_of_row _ _ _ _ _ _ HP.out]; rfl)
      have own1 := own_keep HO.out B1.out (Nat.le_refl _)
      have hc2 := own1.cellAt (P / 8) (by omega)
      obtain ⟨ch, hch⟩ : ∃ ch, bs[P / 8]? = some ch := ⟨_, List.getElem?_eq_getElem (by have := HL.out; omega)⟩
      rw [show (u8s bs)[P / 8]? = some (.int .u8 (ch.toNat : Int)) from by simp only [u8s, List.getElem?_map, hch]; rfl] at hc2
      have hcl := ch.toNat_lt
      have j0 : (0 : Int) ≤ (P : Int) / 8 := by omega
      have j1 : (P : Int) / 8 < (n : Int) := by omega
      have j2 : ((P : Int) / 8).toNat = P / 8 := by omega
      have j3 : 0 ≤ (P : Int) % 8 := by omega
      have j4 : (P : Int) % 8 < 8 := by omega
      have HCH := Lib.hid (And.intro hch hP)
      clear own1 hch hP
      have hbit := bit_code ch (P % 8)
      obtain ⟨t, ht⟩ : ∃ t, ch.toNat.testBit (P % 8) = t := ⟨_, rfl⟩
      rw [ht] at hbit
      have HT := Lib.hid ht
      clear ht
      have hval : bit bs (pl n s k) = t := by
        unfold bit
        rw [HCH.out.2, List.getD_eq_getElem?_getD, HCH.out.1]
        exact HT.out
      have HV := Lib.hid hval
      clear hval
      cases t with
      | false =>
        go_wp2_with (fail)
        go_ret
        refine ⟨ret_bool ?_, B1.out⟩
        symm
        unfold hasB
        rw [List.all_eq_false]
        exact ⟨k, by simpa using hlt, by rw [← HL.out, HV.out]; simp⟩
      | true =>
        go_wp2_with (fail)
        go_roundw
        case rel =>
          refine ⟨k + 1, by omega, by go_num, fun j hj => ?_, B1.out⟩
          rcases Nat.lt_or_ge j k with h | h
          · exact HJ.out j h
          · obtain rfl : j = k := by omega
            exact HV.out
        case measure => simp [intOf]; omega
    · have hk4 : k = 4 := by omega
      subst hk4
      go_wp2_with fail
      go_ret
      refine ⟨ret_bool ?_, BB.out⟩
      symm
      unfold hasB
      rw [List.all_eq_true, ← HL.out]
      intro j hj
      exact HJ.out j (by simpa using hj)
end Go.Proofs.Ytmnliieiiaedeaa.blm
