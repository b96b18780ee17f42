/-
  Tsz: Sum, the program's and the document's.
-/
import Derived.Test.YtknjejejkgihbaaDoorTsEncX
import Derived.Test.YtknjejejkgihbaaDoorAdler
namespace Go.Proofs.YtknjejejkgihbaaDoor.ts
open Go.ChangeShapes Go.WideShapes Go.ChangeAt Go.RowKit plain words ord mem bitm uvs

def sumP (l : List Pt) : Int × Int := if checkP l = 0 then (adler.sum (encP l), 0) else (0, checkP l)
def RetSum (w : World) (l : List Pt) (e : Ending) (w' : World) : Prop := e = .returned (.tuple #[.int .u32 (sumP l).1, .int .i64 (sumP l).2]) ∧ Below w.heap.size w w'
theorem encP_len (l : List Pt) (hf : ∀ x ∈ l, FitP x) : (encP l).length ≤ 12 + 222 * l.length := by
  have h1 := uv_len l.length
  have h2 := bitsP_len l hf
  unfold encP
  rw [List.length_append, pack_len]
  omega
set_option maxHeartbeats 1000000 in
set_option maxRecDepth 100000 in
theorem sum_x (w : World) (hl2 : 2 ≤ w.heap.size) (hlay : Lay w) (B n c : Nat) (A : Option Addr) (l : List Pt) (h : Pts w B A n l) (hf : ∀ x ∈ l, FitP x) (hB : B ≤ w.heap.size) (hn : n ≤ 100000) :
    Calls Tryd.prog 17 #[.slice A n c] w (RetSum w l) := by
  have HEN := Lib.hid (encode_x w hl2 hlay B n c A l h hf hB hn)
  by_cases hc : checkP l = 0
  · have hl := encP_len l hf
    rw [h.1] at hl
    have E1 := Lib.hid (show sumP l = (adler.sum (encP l), 0) by unfold sumP; rw [if_pos hc])
    have E2 := Lib.hid (show ∀ e w', RetEnc w l e w' = _ from fun e w' => by unfold RetEnc; rw [if_pos hc])
    clear h hf hc
    go_enter Tryd.func17, Tryd.ntmps17
    go_wp2_with (fail)
    refine HEN.out.mono ?_
    intro e w1 hr
    rw [E2.out] at hr
    obtain ⟨A1, c1, rfl, ho1, hb1⟩ := hr
    have HAD := Lib.hid (adler.adler_x w1 w1.heap.size _ c1 A1 _ (own_bs ho1) (by omega))
    obtain ⟨M, hM⟩ : ∃ M, (encP l).length = M := ⟨_, rfl⟩
    rw [hM] at HAD ⊢
    have HB1 := Lib.hid hb1
    clear ho1 hb1 HEN hM hl
    go_wp2_with (fail)
    refine HAD.out.mono ?_
    rintro e w2 ⟨rfl, rfl⟩
    go_wp2_with (fail)
    go_ret2
    unfold RetSum
    rw [E1.out]
    exact ⟨rfl, HB1.out⟩
  · have E1 := Lib.hid (show sumP l = (0, checkP l) by unfold sumP; rw [if_neg hc])
    have E2 := Lib.hid (show ∀ e w', RetEnc w l e w' = _ from fun e w' => by unfold RetEnc; rw [if_neg hc])
    obtain ⟨z, hz⟩ : ∃ z, checkP l = z := ⟨_, rfl⟩
    rw [hz] at E1 E2 hc
    have z1 : (z == 0) = false := by simpa using hc
    have z2 : (z != 0) = true := by simpa using hc
    clear h hf hz
    go_enter Tryd.func17, Tryd.ntmps17
    go_wp2_with (fail)
    refine HEN.out.mono ?_
    intro e w1 hr
    rw [E2.out] at hr
    obtain ⟨rfl, hb1⟩ := hr
    have HB1 := Lib.hid hb1
    clear hb1 HEN
    go_wp2_with (fail)
    go_ret2
    unfold RetSum
    rw [E1.out]
    exact ⟨rfl, HB1.out⟩
set_option maxHeartbeats 1000000 in
set_option maxRecDepth 100000 in
theorem sum_y (w : World) (B n c : Nat) (A : Option Addr) (l : List Pt) (h : Pts w B A n l) (hf : ∀ x ∈ l, FitP x) (hB : B ≤ w.heap.size) (hn : n ≤ 100000) :
    Calls Tryd.prog 18 #[.slice A n c] w (RetSum w l) := by
  have HEN := Lib.hid (encode_y w B n c A l h hf hB hn)
  by_cases hc : checkP l = 0
  · have hl := encP_len l hf
    rw [h.1] at hl
    have E1 := Lib.hid (show sumP l = (adler.sum (encP l), 0) by unfold sumP; rw [if_pos hc])
    have E2 := Lib.hid (show ∀ e w', RetEnc w l e w' = _ from fun e w' => by unfold RetEnc; rw [if_pos hc])
    clear h hf hc
    go_enter Tryd.func18, Tryd.ntmps18
    go_wp2_with (fail)
    refine HEN.out.mono ?_
    intro e w1 hr
    rw [E2.out] at hr
    obtain ⟨A1, c1, rfl, ho1, hb1⟩ := hr
    have HAD := Lib.hid (adler.adler_y w1 w1.heap.size _ c1 A1 _ (own_bs ho1) (by omega))
    obtain ⟨M, hM⟩ : ∃ M, (encP l).length = M := ⟨_, rfl⟩
    rw [hM] at HAD ⊢
    have HB1 := Lib.hid hb1
    clear ho1 hb1 HEN hM hl
    go_wp2_with (fail)
    refine HAD.out.mono ?_
    rintro e w2 ⟨rfl, rfl⟩
    go_wp2_with (fail)
    go_ret2
    unfold RetSum
    rw [E1.out]
    exact ⟨rfl, HB1.out⟩
  · have E1 := Lib.hid (show sumP l = (0, checkP l) by unfold sumP; rw [if_neg hc])
    have E2 := Lib.hid (show ∀ e w', RetEnc w l e w' = _ from fun e w' => by unfold RetEnc; rw [if_neg hc])
    obtain ⟨z, hz⟩ : ∃ z, checkP l = z := ⟨_, rfl⟩
    rw [hz] at E1 E2 hc
    have z1 : (z == 0) = false := by simpa using hc
    have z2 : (z != 0) = true := by simpa using hc
    clear h hf hz
    go_enter Tryd.func18, Tryd.ntmps18
    go_wp2_with (fail)
    refine HEN.out.mono ?_
    intro e w1 hr
    rw [E2.out] at hr
    obtain ⟨rfl, hb1⟩ := hr
    have HB1 := Lib.hid hb1
    clear hb1 HEN
    go_wp2_with (fail)
    go_ret2
    unfold RetSum
    rw [E1.out]
    exact ⟨rfl, HB1.out⟩
end Go.Proofs.YtknjejejkgihbaaDoor.ts
