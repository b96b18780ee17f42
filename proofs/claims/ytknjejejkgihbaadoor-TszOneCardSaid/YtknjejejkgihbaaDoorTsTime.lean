/-
  Tsz: the document's lists of bits, put one behind the other; how a time is laid down.
-/
import Derived.Test.YtknjejejkgihbaaDoorTsRefGet
import Derived.Test.YtknjejejkgihbaaDoorTsMath
namespace Go.Proofs.YtknjejejkgihbaaDoor.ts
open Go.ChangeShapes Go.WideShapes Go.ChangeAt Go.RowKit plain words ord mem bitm

/-- a list of bits of the call's own -/
def IsL (w : World) (base : Nat) (v : Value) (X : List Bool) : Prop := ∃ A c, v = .slice A X.length c ∧ w.ownsRow base 5 1 (.slice A X.length c) X.length (u8s (bitc.bys X))
def RetL (base : Nat) (w : World) (v : Value) (Y : List Bool) (e : Ending) (w' : World) : Prop := ∃ v', e = .returned v' ∧ IsL w' base v' Y ∧ bitc.Chg (fun k => some k = v.ownBlock) w w' ∧ (v'.ownBlock = v.ownBlock ∨ ∃ g, v'.ownBlock = some g ∧ w.heap.size ≤ g)
theorem IsL.form {w : World} {base : Nat} {v : Value} {X : List Bool} (h : IsL w base v X) : ∃ A c, v = .slice A X.length c := by
  obtain ⟨A, c, e, _⟩ := h
  exact ⟨A, c, e⟩
theorem put_l (w : World) (base : Nat) (v : Value) (X : List Bool) (h : IsL w base v X) (hb : base ≤ w.heap.size) (hX : X.length ≤ 1000000000) (V : Nat) (hV : lt64 V) (n : Nat) (hn : n ≤ 64) :
    Calls Tryd.prog 29 #[v, .int .u64 (V : Int), .int .i64 (n : Int)] w (RetL base w v (X ++ bitsOf V n)) := by
  obtain ⟨A, c, rfl, ho⟩ := h
  have hcl : bitc.cl (n : Int) = n := by unfold bitc.cl; omega
  refine (bitc.refput_l w base A X.length c X V (n : Int) (by omega) ho rfl hb (by omega) hV (X ++ bitsOf V n) (by rw [hcl]) _ rfl _ rfl).mono ?_
  rintro e w' ⟨A', c', R', rfl, ho', hc, hR, hr⟩
  exact ⟨_, rfl, ⟨A', c', rfl, ho'⟩, hc, by rw [hR]; exact hr⟩
theorem RetL.then {base : Nat} {w w1 : World} {v v1 : Value} {Z : List Bool} {e : Ending} {w2 : World} (hc : bitc.Chg (fun k => some k = v.ownBlock) w w1) (hl : v1.ownBlock = v.ownBlock ∨ ∃ g, v1.ownBlock = some g ∧ w.heap.size ≤ g) (h : RetL base w1 v1 Z e w2) : RetL base w v Z e w2 := by
  obtain ⟨v2, rfl, hi, hc2, hl2⟩ := h
  have hs := hc.size
  refine ⟨v2, rfl, hi, hc.trans hc2 (fun i hi e => ?_), ?_⟩
  · rcases hl with e2 | ⟨g, e2, hg⟩
    · rw [e, e2]
    · rw [e2] at e
      injection e with e
      omega
  · rcases hl2 with e2 | ⟨g, e2, hg⟩
    · rw [e2]; exact hl
    · exact .inr ⟨g, e2, by omega⟩

set_option maxHeartbeats 1000000 in
set_option maxRecDepth 100000 in
theorem time_y (w : World) (base : Nat) (v : Value) (X : List Bool) (h : IsL w base v X) (hb : base ≤ w.heap.size) (hX : X.length ≤ 100000000) (x : Int) (hx : -9223372036854775808 ≤ x ∧ x ≤ 9223372036854775807) :
    Calls Tryd.prog 30 #[v, .int .i64 x] w (RetL base w v (X ++ timeB x)) := by
  have HH := Lib.hid h
  clear h
  by_cases h0 : x = 0
  · subst h0
    have HP := Lib.hid (put_l w base v X HH.out hb (by omega) 0 (by unfold lt64; omega) 1 (by omega))
    have E1 := Lib.hid (show timeB 0 = bitsOf 0 1 from rfl)
    obtain ⟨A, c, rfl⟩ := HH.out.form
    go_enter Tryd.func30, Tryd.ntmps30
    go_wp2_with (fail)
    refine HP.out.mono ?_
    rintro e w1 ⟨v1, rfl, hr⟩
    go_wp2_with (fail)
    go_ret
    rw [E1.out]
    exact ⟨v1, rfl, hr⟩
  have hz : (x == 0) = false := by simpa using h0
  by_cases hc : -63 ≤ x ∧ x ≤ 64
  · have h1 := hc
    obtain ⟨p1, p2⟩ := hc
    obtain ⟨V, hV⟩ : ∃ V : Nat, x + 63 = V := ⟨(x + 63).toNat, by omega⟩
    have HV64 := Lib.hid (show lt64 V by unfold lt64; omega)
    have E1 := Lib.hid (show timeB x = bitsOf 2 2 ++ bitsOf V 7 by unfold timeB; rw [if_neg h0, if_pos (And.intro p1 p2)]; rw [show (x + 63).toNat = V from by omega])
    have hw : IntKind.i64.wrap (x + 63) = (V : Int) := by rw [IntWalk.i64_in _ (by omega)]; exact hV
    have hm : (V : Int) % 18446744073709551616 = (V : Int) := by omega
    clear hV
    have HP := Lib.hid (put_l w base v X HH.out hb (by omega) 2 (by unfold lt64; omega) 2 (by omega))
    obtain ⟨A, c, rfl⟩ := HH.out.form
    go_enter Tryd.func30, Tryd.ntmps30
    go_wp2_with (fail)
    refine HP.out.mono ?_
    rintro e w1 ⟨v1, rfl, hi1, hc1, hl1⟩
    have hs1 := hc1.size
    have HQ := Lib.hid (put_l w1 base v1 (X ++ bitsOf 2 2) hi1 (by omega) (by rw [List.length_append, bitsOf_len]; omega) V HV64.out 7 (by omega))
    have HC1 := Lib.hid hc1
    have HL1 := Lib.hid hl1
    clear hi1 hc1 hl1 HP
    go_wp2_with (fail)
    refine HQ.out.mono ?_
    rintro e w2 h2
    have h3 := RetL.then HC1.out HL1.out h2
    rw [List.append_assoc, ← E1.out] at h3
    obtain ⟨v3, rfl, hr⟩ := h3
    go_wp2_with (fail)
    go_ret
    exact ⟨v3, rfl, hr⟩
  have n1 := hc
  clear hc
  by_cases hc : -255 ≤ x ∧ x ≤ 256
  · rcases (show x < -63 ∨ 64 < x by omega) with q1 | q1
    all_goals
      obtain ⟨p1, p2⟩ := hc
      obtain ⟨V, hV⟩ : ∃ V : Nat, x + 255 = V := ⟨(x + 255).toNat, by omega⟩
      have HV64 := Lib.hid (show lt64 V by unfold lt64; omega)
      have E1 := Lib.hid (show timeB x = bitsOf 6 3 ++ bitsOf V 9 by unfold timeB; rw [if_neg h0, if_neg n1, if_pos (And.intro p1 p2)]; rw [show (x + 255).toNat = V from by omega])
      have hw : IntKind.i64.wrap (x + 255) = (V : Int) := by rw [IntWalk.i64_in _ (by omega)]; exact hV
      have hm : (V : Int) % 18446744073709551616 = (V : Int) := by omega
      clear hV
      have HP := Lib.hid (put_l w base v X HH.out hb (by omega) 6 (by unfold lt64; omega) 3 (by omega))
      obtain ⟨A, c, rfl⟩ := HH.out.form
      go_enter Tryd.func30, Tryd.ntmps30
      go_wp2_with (fail)
      refine HP.out.mono ?_
      rintro e w1 ⟨v1, rfl, hi1, hc1, hl1⟩
      have hs1 := hc1.size
      have HQ := Lib.hid (put_l w1 base v1 (X ++ bitsOf 6 3) hi1 (by omega) (by rw [List.length_append, bitsOf_len]; omega) V HV64.out 9 (by omega))
      have HC1 := Lib.hid hc1
      have HL1 := Lib.hid hl1
      clear hi1 hc1 hl1 HP
      go_wp2_with (fail)
      refine HQ.out.mono ?_
      rintro e w2 h2
      have h3 := RetL.then HC1.out HL1.out h2
      rw [List.append_assoc, ← E1.out] at h3
      obtain ⟨v3, rfl, hr⟩ := h3
      go_wp2_with (fail)
      go_ret
      exact ⟨v3, rfl, hr⟩
  have n2 := hc
  clear hc
  by_cases hc : -2047 ≤ x ∧ x ≤ 2048
  · rcases (show (x < -63 ∧ x < -255) ∨ (64 < x ∧ 256 < x) by omega) with ⟨q1, q2⟩ | ⟨q1, q2⟩
    all_goals
      obtain ⟨p1, p2⟩ := hc
      obtain ⟨V, hV⟩ : ∃ V : Nat, x + 2047 = V := ⟨(x + 2047).toNat, by omega⟩
      have HV64 := Lib.hid (show lt64 V by unfold lt64; omega)
      have E1 := Lib.hid (show timeB x = bitsOf 14 4 ++ bitsOf V 12 by unfold timeB; rw [if_neg h0, if_neg n1, if_neg n2, if_pos (And.intro p1 p2)]; rw [show (x + 2047).toNat = V from by omega])
      have hw : IntKind.i64.wrap (x + 2047) = (V : Int) := by rw [IntWalk.i64_in _ (by omega)]; exact hV
      have hm : (V : Int) % 18446744073709551616 = (V : Int) := by omega
      clear hV
      have HP := Lib.hid (put_l w base v X HH.out hb (by omega) 14 (by unfold lt64; omega) 4 (by omega))
      obtain ⟨A, c, rfl⟩ := HH.out.form
      go_enter Tryd.func30, Tryd.ntmps30
      go_wp2_with (fail)
      refine HP.out.mono ?_
      rintro e w1 ⟨v1, rfl, hi1, hc1, hl1⟩
      have hs1 := hc1.size
      have HQ := Lib.hid (put_l w1 base v1 (X ++ bitsOf 14 4) hi1 (by omega) (by rw [List.length_append, bitsOf_len]; omega) V HV64.out 12 (by omega))
      have HC1 := Lib.hid hc1
      have HL1 := Lib.hid hl1
      clear hi1 hc1 hl1 HP
      go_wp2_with (fail)
      refine HQ.out.mono ?_
      rintro e w2 h2
      have h3 := RetL.then HC1.out HL1.out h2
      rw [List.append_assoc, ← E1.out] at h3
      obtain ⟨v3, rfl, hr⟩ := h3
      go_wp2_with (fail)
      go_ret
      exact ⟨v3, rfl, hr⟩
  have n3 := hc
  clear hc
  rcases (show (x < -63 ∧ x < -255 ∧ x < -2047) ∨ (64 < x ∧ 256 < x ∧ 2048 < x) by omega) with ⟨q1, q2, q3⟩ | ⟨q1, q2, q3⟩
  all_goals
    obtain ⟨V, hV⟩ : ∃ V : Nat, x % 18446744073709551616 = V := ⟨(x % 18446744073709551616).toNat, by omega⟩
    have HV64 := Lib.hid (show lt64 V by unfold lt64; omega)
    have E1 := Lib.hid (show timeB x = bitsOf 15 4 ++ bitsOf V 64 by unfold timeB; rw [if_neg h0, if_neg n1, if_neg n2, if_neg n3]; rw [show (x % 18446744073709551616).toNat = V from by omega])
    have HV := Lib.hid hV
    clear hV
    have HP := Lib.hid (put_l w base v X HH.out hb (by omega) 15 (by unfold lt64; omega) 4 (by omega))
    obtain ⟨A, c, rfl⟩ := HH.out.form
    go_enter Tryd.func30, Tryd.ntmps30
    go_wp2_with (fail)
    refine HP.out.mono ?_
    rintro e w1 ⟨v1, rfl, hi1, hc1, hl1⟩
    have hs1 := hc1.size
    have HQ := Lib.hid (put_l w1 base v1 (X ++ bitsOf 15 4) hi1 (by omega) (by rw [List.length_append, bitsOf_len]; omega) V HV64.out 64 (by omega))
    have HC1 := Lib.hid hc1
    have HL1 := Lib.hid hl1
    clear hi1 hc1 hl1 HP
    go_wp2_with (fail)
    (first | rw [IntKind.wrap_u64, HV.out] | rw [show (V : Int) = x from by have := HV.out; omega] at HQ)
    refine HQ.out.mono ?_
    rintro e w2 h2
    have h3 := RetL.then HC1.out HL1.out h2
    rw [List.append_assoc, ← E1.out] at h3
    obtain ⟨v3, rfl, hr⟩ := h3
    go_wp2_with (fail)
    go_ret
    exact ⟨v3, rfl, hr⟩
end Go.Proofs.YtknjejejkgihbaaDoor.ts
