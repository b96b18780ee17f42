/-
  The walk of the law DiskMoves.
-/
import Derived.Test.YtmnliieiiaedeaaDkOne
namespace Go.Proofs.Ytmnliieiiaedeaa.lawDiskMoves
open Go.ChangeShapes Go.WideShapes Go.ChangeAt Go.RowKit Go.Maps Go.Sort Go.Shelf plain words ord mem al dk

theorem one_mv (a b s : Nm) : mv [(a, s)] a b = [(b, s)] := by
  unfold mv
  split
  · rename_i h; rw [h]
  · rename_i h; simp [al.get, al.del, al.put]
def s1 (a s : Nm) : St := ⟨65536, [], [.app a s], none, false, 1⟩
def s2 (a b s : Nm) : St := ⟨65536, [], [.app a s, .ren a b], none, false, 2⟩
def s3 (a b s : Nm) : St := ⟨65536, [], [.app a s, .ren a b, .ren b a], none, false, 3⟩
theorem sh1 (a s : Nm) : (s1 a s).shown = [(a, s)] := by
  show al.put [] a ([] ++ s) = _
  rw [List.nil_append]; rfl
theorem sh2 (a b s : Nm) : (s2 a b s).shown = [(b, s)] := by
  show mv (s1 a s).shown a b = _
  rw [sh1, one_mv]
theorem sh3 (a b s : Nm) : (s3 a b s).shown = [(a, s)] := by
  show mv (s2 a b s).shown b a = _
  rw [sh2, one_mv]
theorem fsum_one (a s : Nm) : fsum [(a, s)] = s.length := by simp [fsum, al.sum]
section
variable {a b s : Nm} (h : s.length ≤ 4096)
include h
theorem sm1 : Small (s1 a s) := ⟨by show 0 + (s.length + 0) ≤ _; omega, by show 0 + 1 ≤ _; omega, by show (0 : Int) ≤ 1; omega, by show (1 : Int) < _; omega, fun x hx => by cases hx⟩
theorem sm2 : Small (s2 a b s) := ⟨by show 0 + (s.length + (0 + 0)) ≤ _; omega, by show 0 + 2 ≤ _; omega, by show (0 : Int) ≤ 2; omega, by show (2 : Int) < _; omega, fun x hx => by cases hx⟩
end
theorem str_dec (a b : Nm) : ((bs a).toList == (bs b).toList) = decide (a = b) := by
  rw [ByteArray.toList_eq, ByteArray.toList_eq, bs_list, bs_list]
  by_cases h : a = b
  · subst h; simp
  · simp [h]
set_option maxHeartbeats 4000000 in
set_option maxRecDepth 100000 in
theorem walk_ok (x y z : ByteArray) (w : World) (hx : x.size ≤ maxLen) (hy : y.size ≤ maxLen) (hz : z.size ≤ maxLen) :
    Calls Try.prog 7 #[.string x, .string y, .string z] w fun e w' => e = .returned (.bool true) ∧ Below w.heap.size w w' := by
  obtain ⟨a, rfl⟩ := ba_bs x
  obtain ⟨b, rfl⟩ := ba_bs y
  obtain ⟨s, rfl⟩ := ba_bs z
  have ka := bs_size a
  have kb := bs_size b
  have ks := bs_size s
  obtain ⟨la, hla⟩ : ∃ n, a.length = n := ⟨_, rfl⟩
  obtain ⟨lb, hlb⟩ : ∃ n, b.length = n := ⟨_, rfl⟩
  obtain ⟨ls, hls⟩ : ∃ n, s.length = n := ⟨_, rfl⟩
  rw [hla] at ka
  rw [hlb] at kb
  rw [hls] at ks
  rw [ka] at hx
  rw [kb] at hy
  rw [ks] at hz
  have KA := Lib.hid hla
  have KB := Lib.hid hlb
  have KS := Lib.hid hls
  clear hla hlb hls
  by_cases g1 : 4096 < ls
  · have m1 : (4096 : Int) < (ls : Int) := by omega
    go_enter Try.func7, Try.ntmps7
    go_wp2_with fail
    go_ret
    exact ⟨rfl, Below.refl _ _⟩
  have m1 : ¬ (4096 : Int) < (ls : Int) := by omega
  by_cases g2 : 4096 < la
  · have m2 : (4096 : Int) < (la : Int) := by omega
    go_enter Try.func7, Try.ntmps7
    go_wp2_with fail
    go_ret
    exact ⟨rfl, Below.refl _ _⟩
  have m2 : ¬ (4096 : Int) < (la : Int) := by omega
  by_cases g3 : 4096 < lb
  · have m3 : (4096 : Int) < (lb : Int) := by omega
    go_enter Try.func7, Try.ntmps7
    go_wp2_with fail
    go_ret
    exact ⟨rfl, Below.refl _ _⟩
  have m3 : ¬ (4096 : Int) < (lb : Int) := by omega
  have HN := Lib.hid (new_d w 65536)
  have hns : Small (newSt 65536) := ⟨by decide, by decide, by decide, by decide, fun x hx => by cases hx⟩
  have lns : Live (newSt 65536) := ⟨rfl, rfl⟩
  have NS := Lib.hid hns
  have NL := Lib.hid lns
  have okA : okn a = (decide (1 ≤ la) && decide (la ≤ 40)) := by unfold okn; rw [KA.out]
  have okB : okn b = (decide (1 ≤ lb) && decide (lb ≤ 40)) := by unfold okn; rw [KB.out]
  have hap1 : okn a = true → appSt (newSt 65536) a s = (s1 a s, 0) := fun h => app_do NL.out h (by
    show ¬ (65536 : Int) < ((0 : Nat) : Int) + _
    rw [KS.out]; omega)
  have HAP := Lib.hid hap1
  clear hns lns hx hy hz hap1
  by_cases ga : okn a = true
  · have HGA := Lib.hid ga
    rw [ga] at okA
    have a1 : ¬ (la : Int) < 1 := by simp at okA; omega
    have a2 : ¬ (40 : Int) < (la : Int) := by simp at okA; omega
    by_cases gb : okn b = true
    · have HGB := Lib.hid gb
      rw [gb] at okB
      have b1 : ¬ (lb : Int) < 1 := by simp at okB; omega
      have b2 : ¬ (40 : Int) < (lb : Int) := by simp at okB; omega
      clear okA okB ga gb
      go_enter Try.func7, Try.ntmps7
      go_wp2_with fail
      refine HN.out.mono ?_
      rintro e w1 ⟨p, rfl, hp, hd, hb⟩
      have D1 := Lib.hid (show Dn w w1 p (newSt 65536) from ⟨hd, hb⟩)
      have HA := Lib.hid (append_d w1 p _ (newSt 65536) a s hd NS.out (by decide) (by decide) (by rw [KS.out]; omega))
      rw [HAP.out HGA.out] at HA
      clear hd hb HN
      go_wp2_with fail
      refine HA.out.mono ?_
      rintro e w2 hr
      obtain ⟨rfl, hd2⟩ := D1.out.next hr
      have D2 := Lib.hid hd2
      have HR := Lib.hid (rename_d w2 p _ (s1 a s) a b hd2.1 (sm1 (by rw [KS.out]; omega)))
      rw [ren_do ⟨rfl, rfl⟩ HGA.out HGB.out (by rw [sh1]; simp [al.get])] at HR
      clear hr hd2 HA D1
      go_wp2_with fail
      refine HR.out.mono ?_
      rintro e w3 hr
      obtain ⟨rfl, hd3⟩ := D2.out.next hr
      have hd3 : Dn w w3 p (s2 a b s) := hd3
      have D3 := Lib.hid hd3
      have HB := Lib.hid (read_d w3 p _ (s2 a b s) b hd3.1 (by rw [KB.out]; unfold maxLen; omega))
      rw [sh2, show al.get [(b, s)] b = some s by simp [al.get], ans_some] at HB
      clear hr hd3 HR D2
      go_wp2_with fail
      refine HB.out.mono ?_
      rintro e w4 hr
      obtain ⟨rfl, hd4⟩ := D3.out.next hr
      have D4 := Lib.hid hd4
      have HB2 := Lib.hid (read_d w4 p _ (s2 a b s) a hd4.1 (by rw [KA.out]; unfold maxLen; omega))
      rw [sh2, ans_eq] at HB2
      obtain ⟨S, hS⟩ : ∃ S, bs ((al.get [(b, s)] a).getD []) = S := ⟨_, rfl⟩
      obtain ⟨Q, hQ⟩ : ∃ Q, ((bs a).toList == (bs b).toList) = Q := ⟨_, rfl⟩
      have hQ2 : (al.get [(b, s)] a).isSome = Q := by
        rw [← hQ, str_dec]
        simp only [al.get]
        by_cases hab : a = b
        · subst hab; simp
        · rw [if_neg (fun e => hab e.symm)]; simp [hab]
      rw [hS, hQ2] at HB2
      clear hr hd4 HB D3 hS hQ2
      go_wp2_with fail
      refine HB2.out.mono ?_
      rintro e w5 hr
      obtain ⟨rfl, hd5⟩ := D4.out.next hr
      have D5 := Lib.hid hd5
      have HM := Lib.hid (names_d w5 p _ (s2 a b s) hd5.1 (by rw [sh2]; simp))
      rw [sh2] at HM
      clear hr hd5 HB2 D4
      go_wp2_with fail
      refine HM.out.mono ?_
      rintro e w6 ⟨v, rfl, ho, hb6⟩
      obtain ⟨A, c, rfl⟩ := own_sl ho
      have hd6 := D5.out.quiet hb6
      have D6 := Lib.hid hd6
      have HR2 := Lib.hid (rename_d w6 p _ (s2 a b s) b a hd6.1 (sm2 (by rw [KS.out]; omega)))
      rw [ren_do ⟨rfl, rfl⟩ HGB.out HGA.out (by rw [sh2]; simp [al.get])] at HR2
      clear ho hb6 hd6 HM D5
      rw [show [(b, s)].length = 1 from rfl]
      go_wp2_with fail
      refine HR2.out.mono ?_
      rintro e w7 hr
      obtain ⟨rfl, hd7⟩ := D6.out.next hr
      have hd7 : Dn w w7 p (s3 a b s) := hd7
      have D7 := Lib.hid hd7
      have HB := Lib.hid (read_d w7 p _ (s3 a b s) a hd7.1 (by rw [KA.out]; unfold maxLen; omega))
      rw [sh3, show al.get [(a, s)] a = some s by simp [al.get], ans_some] at HB
      clear hr hd7 HR2 D6
      go_wp2_with fail
      refine HB.out.mono ?_
      rintro e w8 hr
      obtain ⟨rfl, hd8⟩ := D7.out.next hr
      have D8 := Lib.hid hd8
      have HU := Lib.hid (used_d w8 p _ (s3 a b s) hd8.1)
      rw [sh3, fsum_one, KS.out] at HU
      have HP := Lib.hid (show Calls Try.prog 18 #[ptr p] w8 fun e w' => e = .returned (.int .i64 3) ∧ w8 = w' from pending_d w8 p _ (s3 a b s) hd8.1)
      clear hr hd8 HB D7
      go_wp2_with fail
      refine HU.out.mono ?_
      rintro e w9 ⟨rfl, rfl⟩
      clear HU
      go_wp2_with fail
      refine HP.out.mono ?_
      rintro e w9 ⟨rfl, rfl⟩
      clear HP
      go_wp2_with fail
      go_ret
      exact ⟨rfl, D8.out.2⟩
    · have gb : okn b = false := by simpa using gb
      have HGB := Lib.hid gb
      rw [gb] at okB
      have hb9 : lb < 1 ∨ (1 ≤ lb ∧ 40 < lb) := by simp at okB; omega
      clear okA okB ga gb
      rcases hb9 with b1 | ⟨b1, b2⟩
      · have b1 : (lb : Int) < 1 := by omega
        go_enter Try.func7, Try.ntmps7
        go_wp2_with fail
        refine HN.out.mono ?_
        rintro e w1 ⟨p, rfl, hp, hd, hb⟩
        have D1 := Lib.hid (show Dn w w1 p (newSt 65536) from ⟨hd, hb⟩)
        have HA := Lib.hid (append_d w1 p _ (newSt 65536) a s hd NS.out (by decide) (by decide) (by rw [KS.out]; omega))
        rw [HAP.out HGA.out] at HA
        clear hd hb HN
        go_wp2_with fail
        refine HA.out.mono ?_
        rintro e w2 hr
        obtain ⟨rfl, hd2⟩ := D1.out.next hr
        have D2 := Lib.hid hd2
        have HA2 := Lib.hid (append_d w2 p _ (s1 a s) b s hd2.1 (sm1 (by rw [KS.out]; omega)) (by show (0 : Int) ≤ 65536; omega) (by show (65536 : Int) ≤ _; omega) (by rw [KS.out]; omega))
        rw [app_name HGB.out] at HA2
        clear hr hd2 HA D1
        go_wp2_with fail
        refine HA2.out.mono ?_
        rintro e w3 hr
        obtain ⟨rfl, hd3⟩ := D2.out.next hr
        have D3 := Lib.hid hd3
        clear hr hd3 HA2 D2
        go_wp2_with fail
        go_ret
        exact ⟨rfl, D3.out.2⟩
      · have b1 : ¬ (lb : Int) < 1 := by omega
        have b2 : (40 : Int) < (lb : Int) := by omega
        go_enter Try.func7, Try.ntmps7
        go_wp2_with fail
        refine HN.out.mono ?_
        rintro e w1 ⟨p, rfl, hp, hd, hb⟩
        have D1 := Lib.hid (show Dn w w1 p (newSt 65536) from ⟨hd, hb⟩)
        have HA := Lib.hid (append_d w1 p _ (newSt 65536) a s hd NS.out (by decide) (by decide) (by rw [KS.out]; omega))
        rw [HAP.out HGA.out] at HA
        clear hd hb HN
        go_wp2_with fail
        refine HA.out.mono ?_
        rintro e w2 hr
        obtain ⟨rfl, hd2⟩ := D1.out.next hr
        have D2 := Lib.hid hd2
        have HA2 := Lib.hid (append_d w2 p _ (s1 a s) b s hd2.1 (sm1 (by rw [KS.out]; omega)) (by show (0 : Int) ≤ 65536; omega) (by show (65536 : Int) ≤ _; omega) (by rw [KS.out]; omega))
        rw [app_name HGB.out] at HA2
        clear hr hd2 HA D1
        go_wp2_with fail
        refine HA2.out.mono ?_
        rintro e w3 hr
        obtain ⟨rfl, hd3⟩ := D2.out.next hr
        have D3 := Lib.hid hd3
        clear hr hd3 HA2 D2
        go_wp2_with fail
        go_ret
        exact ⟨rfl, D3.out.2⟩
  · have ga : okn a = false := by simpa using ga
    have HGA := Lib.hid ga
    rw [ga] at okA
    have ha9 : la < 1 ∨ (1 ≤ la ∧ 40 < la) := by simp at okA; omega
    clear okA okB ga
    rcases ha9 with a1 | ⟨a1, a2⟩
    · have a1 : (la : Int) < 1 := by omega
      go_enter Try.func7, Try.ntmps7
      go_wp2_with fail
      refine HN.out.mono ?_
      rintro e w1 ⟨p, rfl, hp, hd, hb⟩
      have D1 := Lib.hid (show Dn w w1 p (newSt 65536) from ⟨hd, hb⟩)
      have HA := Lib.hid (append_d w1 p _ (newSt 65536) a s hd NS.out (by decide) (by decide) (by rw [KS.out]; omega))
      rw [app_name HGA.out] at HA
      clear hd hb HN
      go_wp2_with fail
      refine HA.out.mono ?_
      rintro e w2 hr
      obtain ⟨rfl, hd2⟩ := D1.out.next hr
      have D2 := Lib.hid hd2
      clear hr hd2 HA D1
      go_wp2_with fail
      go_ret
      exact ⟨rfl, D2.out.2⟩
    · have a1 : ¬ (la : Int) < 1 := by omega
      have a2 : (40 : Int) < (la : Int) := by omega
      go_enter Try.func7, Try.ntmps7
      go_wp2_with fail
      refine HN.out.mono ?_
      rintro e w1 ⟨p, rfl, hp, hd, hb⟩
      have D1 := Lib.hid (show Dn w w1 p (newSt 65536) from ⟨hd, hb⟩)
      have HA := Lib.hid (append_d w1 p _ (newSt 65536) a s hd NS.out (by decide) (by decide) (by rw [KS.out]; omega))
      rw [app_name HGA.out] at HA
      clear hd hb HN
      go_wp2_with fail
      refine HA.out.mono ?_
      rintro e w2 hr
      obtain ⟨rfl, hd2⟩ := D1.out.next hr
      have D2 := Lib.hid hd2
      clear hr hd2 HA D1
      go_wp2_with fail
      go_ret
      exact ⟨rfl, D2.out.2⟩
end Go.Proofs.Ytmnliieiiaedeaa.lawDiskMoves
