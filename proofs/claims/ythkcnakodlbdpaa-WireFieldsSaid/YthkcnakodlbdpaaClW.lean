/-
  The document's Wide.
-/
import Derived.Test.YthkcnakodlbdpaaClE
namespace Go.Proofs.Ythkcnakodlbdpaa.cl
open Go.ChangeShapes Go.WideShapes Go.ChangeAt Go.RowKit plain words ord mem uvs uvc

/-- bytes in a row from base on *-/
def RetApp (w : World) (base : Nat) (l : By) (e : Ending) (w' : World) : Prop :=
  ∃ A c, e = .returned (.slice A l.length c) ∧ w'.ownsRow base 5 1 (.slice A l.length c) l.length (u8s l) ∧ Below base w w' ∧ (A = none → c = 0)
set_option maxHeartbeats 1000000 in
set_option maxRecDepth 100000 in
theorem wideW_y (w : World) (base n c : Nat) (A : Option Addr) (bs : By) (v : Nat) (h : w.ownsRow base 5 1 (.slice A n c) n (u8s bs)) (hl : bs.length = n) (hb : base ≤ w.heap.size) (hn : n ≤ 1000000000) (hv : v < 18446744073709551616) :
    Calls Try.prog 39 #[.slice A n c, .int .u64 v] w (RetApp w base (bs ++ be 8 v)) := by
  obtain ⟨i0, hi, hz0, hz1, hz2⟩ := info_parts mem.infoB
  have HO := Lib.hid h
  have HL := Lib.hid hl
  have HV := Lib.hid hv
  clear h hv hl
  go_enter Try.func39, Try.ntmps39
  go_wp2_with (fail)
  go_loopg [0, 5] 8 (fun gg s0 s5 wr => ∃ (j : Nat) (A' : Option Addr) (c' m : Nat), s5 = .int .i64 ((7 : Int) - j) ∧ s0 = .slice A' m c' ∧ m = n + j ∧ j ≤ 8 ∧ 8 - j ≤ gg ∧ Aside (wr.ownsRow base 5 1 (.slice A' m c') m (u8s (bs ++ be j (v / 256 ^ (8 - j))))) ∧ Aside (Below base w wr))
  case atStart => exact ⟨0, A, c, n, by simp, rfl, rfl, Nat.zero_le _, by omega, (show w.ownsRow base 5 1 (.slice A n c) n (u8s (bs ++ [])) by rw [List.append_nil]; exact HO.out), Below.refl _ _⟩
  case round =>
    obtain ⟨j, A', c', m', rfl, rfl, hm', hj, hg, OV, BW⟩ := hrel
    obtain ⟨wv, rfl⟩ : ∃ wv, wv = wr := ⟨wr, rfl⟩
    have HM' := Lib.hid hm'
    have hm9 : m' ≤ 1000000008 := by omega
    clear hm'
    by_cases hlt : j < 8
    · obtain ⟨m, hm⟩ : ∃ m : Nat, 8 - (j + 1) = m := ⟨_, rfl⟩
      have hmi : (7 : Int) - (j : Int) = (m : Int) := by omega
      rw [hmi]
      have HMORE := Lib.hid (be_more 8 j v hlt)
      rw [hm] at HMORE
      have m0 : (0 : Int) ≤ (m : Int) := by omega
      have m8 : m < 8 := by omega
      obtain ⟨D, hD⟩ : ∃ D : Nat, v / 256 ^ m = D := ⟨_, rfl⟩
      obtain ⟨ch, hch⟩ : ∃ ch, UInt8.ofNat (D % 256) = ch := ⟨_, rfl⟩
      have hval : (v : Int) / 2 ^ (8 * m) % 256 = (ch.toNat : Int) := by
        rw [← hch, ofNat_lt _ (by omega), ← hD]
        have e2 : ((2 : Int) ^ (8 * m)) = ((256 ^ m : Nat) : Int) := by rw [Int.pow_mul]; simp
        rw [e2]
        simp
      have w8 : IntKind.i64.wrap (8 * (m : Int)) = 8 * (m : Int) := by rw [IntWalk.i64_in _ (by omega)]
      rw [hD, hch] at HMORE
      have HD := Lib.hid hD
      have hnew : Rd (wv.alloc (.cells #[.int .u8 (ch.toNat : Int)] 5)) (wv.heap.size + 1) (some ⟨wv.heap.size, 0, none⟩) 1 (u8s [ch]) := rd_lit 5 (u8s [ch]) rfl
      have hb1 : Below wv.heap.size wv (wv.alloc (.cells #[.int .u8 (ch.toNat : Int)] 5)) := (Below.refl _ _).alloc (Nat.le_refl _) _
      have ho1 := own_keep OV.out hb1 (Nat.le_refl _)
      have hsz := BW.out.size
      have hbel := BW.out.trans (hb1.mono (show base ≤ wv.heap.size by omega))
      have HO1 := Lib.hid ho1
      have HBEL := Lib.hid hbel
      have w9 : IntKind.i64.wrap ((m : Int) - 1) = (m : Int) - 1 := by rw [IntWalk.i64_in _ (by omega)]
      clear hmi HO hD hch ho1 hbel hb1 OV
      go_wp2_with (at_builtin; refine wpList_append_rd rfl (.tmp 10) (.tmp 16) 33 rfl base 5 i0 (.int .u8 0) 1 1 Try.underlying33 hi hz0 hz1 hz2 rfl (by decide) (.slice A' m' c') m' _ rfl HO1.out (wv.heap.size + 1) _ 1 1 (fun e => by cases e) (u8s [ch]) rfl hnew (u8s_one _) (by unfold maxLen; omega) (by omega) (by simp; omega) ?_; intro v2 w2 hown2 hg2 hnn2)
      have hbel2 := own_below HBEL.out HO1.out (by simp; omega) hg2
      rw [← u8s_append, List.append_assoc, ← HMORE.out] at hown2
      obtain ⟨A2, c2, rfl, _⟩ := own_fit (by rw [List.length_append, be_len, HL.out, HM'.out]; omega) hown2
      have HO2 := Lib.hid hown2
      have HB2 := Lib.hid hbel2
      clear hg2 hnn2 hown2 hbel2 hnew
      go_wp2_with (fail)
      go_roundg (8 - (j + 1))
      case measure => omega
      case rel =>
        refine ⟨j + 1, A2, c2, m' + 1, ?_, rfl, by rw [HM'.out]; omega, by omega, by omega, ?_, HB2.out⟩
        · congr 1; omega
        · show World.ownsRow _ base _ 1 _ _ (u8s (bs ++ be (j + 1) (v / 256 ^ (8 - (j + 1)))))
          rw [show 8 - (j + 1) = m from hm, HD.out]
          exact HO2.out
    · have hjk : j = 8 := by omega
      subst hjk
      have hlen : (bs ++ be 8 (v / 256 ^ (8 - 8))).length = m' := by rw [List.length_append, be_len, HL.out, HM'.out]
      have hown := OV.out
      obtain ⟨A2, c2, e2, hnil, _⟩ := own_fit hlen hown
      injection e2 with e3 e4 e5
      subst e3 e5
      have HLEN := Lib.hid hlen
      have HOWN := Lib.hid hown
      have HNIL := Lib.hid hnil
      clear hlen hown hnil OV e4
      go_wp2_with (fail)
      go_ret
      have h1 := HOWN.out
      have h2 := HLEN.out
      rw [Nat.sub_self, Nat.pow_zero, Nat.div_one] at h1 h2
      refine ⟨A', c', ?_, ?_, BW.out, HNIL.out⟩
      · rw [h2]; rfl
      · rw [h2]; exact h1
end Go.Proofs.Ythkcnakodlbdpaa.cl
