/-
  Index: Encode, the document's.
-/
import Derived.Test.YtcebmlcdhapnkaaIdxEnc
namespace Go.Proofs.Ytcebmlcdhapnkaa.idx
open Go.ChangeShapes Go.WideShapes Go.ChangeAt Go.RowKit plain words ord mem uvs uvc Go.Lib

theorem own_A {w : World} {base n c : Nat} {A : Option Addr} {e : TypeId} {xs : List Value} (h : w.ownsRow base e 1 (.slice A n c) n xs) : A = none → c = 0 := fun e => by
  rcases own_form h with ⟨e', _⟩ | ⟨_, _, e', _⟩
  · injection e'
  · rw [e] at e'; injection e' with e'; cases e'
/-- bytes in a row from H on -/
abbrev OB (w : World) (H : Nat) (A : Option Addr) (c : Nat) (bs : List UInt8) : Prop := w.ownsRow H 5 1 (.slice A bs.length c) bs.length (u8s bs)
theorem OB.below {w w' : World} {H c : Nat} {A : Option Addr} {bs : List UInt8} (h : OB w H A c bs) (hb : Below w.heap.size w w') : OB w' H A c bs := own_keep h hb (Nat.le_refl _)

set_option maxHeartbeats 4000000 in
set_option maxRecDepth 100000 in
theorem encode_y (w : World) (B n c : Nat) (A : Option Addr) (l : List En) (h : Ens w B A n l) (hF : ∀ x ∈ l, FitE x) (hB : B ≤ w.heap.size) (hn : n ≤ 1000000) :
    Calls Try.prog 31 #[.slice A n c] w (RetEnc w l) := by
  have HC := Lib.hid (check_y w B n c A l h hB (by omega))
  have HH := Lib.hid h
  have HL := Lib.hid h.1
  clear h
  by_cases hok : checkE l = 0
  · have hal := checkF_ok l none hok
    have hC := HC.out
    rw [hok] at hC
    have HC := Lib.hid hC
    have HAL := Lib.hid hal
    have HFL := Lib.hid hF
    have HOK := Lib.hid hok
    clear hC hal hF hok
    go_enter Try.func31, Try.ntmps31
    go_wp2_with (fail)
    refine HC.out.mono ?_
    rintro e w1 ⟨rfl, hb1⟩
    have hs1 := hb1.size
    obtain ⟨wa, hwa⟩ : ∃ wa, w1.alloc (.cells #[] 5) = wa := ⟨_, rfl⟩
    obtain ⟨wz, hwz⟩ : ∃ wz, wa.alloc (.cells #[] 5) = wz := ⟨_, rfl⟩
    have hba : Below w1.heap.size w1 wa := by rw [← hwa]; exact below_al _ _
    have hbz : Below wa.heap.size wa wz := by rw [← hwz]; exact below_al _ _
    have hoa : OB wa w.heap.size (some ⟨w1.heap.size, 0, none⟩) 0 [] := by
      rw [← hwa]
      exact own_base (World.ownsRow_lit (w := w1) (base := w1.heap.size) (e := 5) (size := 1) #[] 0 (Nat.le_refl _) (by simp) rfl) hs1
    have hoz : OB wz w.heap.size (some ⟨wa.heap.size, 0, none⟩) 0 [] := by
      rw [← hwz]
      exact own_base (World.ownsRow_lit (w := wa) (base := wa.heap.size) (e := 5) (size := 1) #[] 0 (Nat.le_refl _) (by simp) rfl) (by have := hba.size; omega)
    have HOA := Lib.hid (hoa.below hbz)
    have HOZ := Lib.hid hoz
    have HBZ := Lib.hid ((hb1.trans (hba.mono hs1)).trans (hbz.mono (by have := hba.size; omega)))
    clear hb1 hba hbz hoa hoz
    go_wp2_with (fail)
    go_loopg [6, 7, 8] n (fun gg s6 s7 s8 wr => ∃ (k c6 c7 : Nat) (A6 A7 : Option Addr), k ≤ n ∧ n - k ≤ gg ∧ s8 = .int .i64 k ∧ s6 = .slice A6 (idxB (l.take k)).length c6 ∧ s7 = .slice A7 (sumT l k).length c7 ∧ Aside (OB wr w.heap.size A6 c6 (idxB (l.take k))) ∧ Aside (OB wr w.heap.size A7 c7 (sumT l k)) ∧ Aside (Below w.heap.size w wr))
    case atStart => exact ⟨0, _, _, _, _, Nat.zero_le _, by omega, rfl, rfl, rfl, HOA.out, HOZ.out, HBZ.out⟩
    case round =>
      clear HOA HOZ HBZ hwa hwz
      obtain ⟨k, c6, c7, A6, A7, hk, hg, rfl, rfl, rfl, OA, OS, BW⟩ := hrel
      have hsw := BW.out.size
      by_cases hlt : k < n
      · have hkl : k < l.length := by rw [HL.out]; exact hlt
        obtain ⟨x, hx⟩ : ∃ x, l[k]? = some x := ⟨_, List.getElem?_eq_getElem hkl⟩
        have hmem := List.mem_of_getElem? hx
        obtain ⟨⟨ha1, ha2⟩, ha3, ha4⟩ := HAL.out x hmem
        obtain ⟨_, _, _, hf4⟩ := HFL.out x hmem
        have hil : (idxB (l.take k)).length ≤ 50000000 := by
          have := idxB_len (l.take k) (fun y hy => (HAL.out y (List.mem_of_mem_take hy)).1.2)
          have h2 : (l.take k).length ≤ k := List.length_take_le _ _
          omega
        have hsl : (sumT l k).length ≤ 40000000 := by
          have := sumT_len l (fun y hy => (HAL.out y hy).1.2) k
          omega
        have HTK := Lib.hid (idxB_take hx)
        have HX := Lib.hid hx
        obtain ⟨I, hI⟩ : ∃ I, idxB (l.take k) = I := ⟨_, rfl⟩
        obtain ⟨Sm, hSm⟩ : ∃ Sm, sumT l k = Sm := ⟨_, rfl⟩
        rw [hI] at OA HTK hil ⊢
        rw [hSm] at OS hsl ⊢
        have HSM := Lib.hid hSm
        have HI := Lib.hid hI
        obtain ⟨xs, xo, xz, xm⟩ := x
        simp only at ha1 ha2 ha3 ha4 hf4
        have HONE := Lib.hid (fun (u : World) (hu : Below wr.heap.size wr u) => one_y u wr.heap.size I.length c6 A6 I ((own_bs OA.out).below hu (Nat.le_refl _)) (own_A OA.out) hu.size (by omega) (xs, xo, xz, xm) ha2 ha3 ha4 hf4)
        have HRD := Lib.hid (fun (u : World) (hu : Below wr.heap.size wr u) => ((HH.out.below BW.out hB).below hu (by omega)).at_ hlt HX.out)
        obtain ⟨b, off, rfl, hb, c0, c1, c2, c3⟩ := HRD.out wr (Below.refl _ _)
        try simp only at c0 c1 c2 c3
        have i1 : (0 : Int) ≤ (k : Int) := by omega
        have i2 : (k : Int) < (n : Int) := by omega
        have hbw : b < wr.heap.size := by omega
        have hIz : (I.length : Int) % 18446744073709551616 = (I.length : Int) := by omega
        clear hx hSm hI hmem
        by_cases h4 : k % 4 = 0
        case' pos =>
          have hS := sumT_zero HX.out h4
          rw [HSM.out, HI.out] at hS
          have HS := Lib.hid hS
          have hk4 : (k : Int) % 4 = 0 := by omega
          have htl := txt_len xs ha2
          have htx := text_y wr wr.heap.size Sm.length c7 A7 Sm (own_bs OS.out) (own_A OS.out) (Nat.le_refl _) (by omega) xs (by omega)
          obtain ⟨Y, hY⟩ : ∃ Y, Sm ++ txt xs = Y := ⟨_, rfl⟩
          have hYL : Y.length ≤ 40000026 := by rw [← hY, List.length_append]; omega
          rw [hY] at htx
          have HY := Lib.hid hY
          have HTX := Lib.hid htx
          clear hS htx hY
          go_wp2_with (fail)
          refine HTX.out.mono ?_
          rintro e w3 ⟨A8, c8, rfl, hr3, hb3⟩
          have hs3 := hb3.size
          have hun := uvarint_y w3 w3.heap.size Y.length c8 A8 Y I.length (own_bs hr3) (own_A hr3) (Nat.le_refl _) (by omega) (by omega)
          obtain ⟨Z, hZ⟩ : ∃ Z, Y ++ uv I.length = Z := ⟨_, rfl⟩
          rw [hZ] at hun
          have hSZ : sumT l (k + 1) = Z := by rw [HS.out, ← hZ, ← HY.out, List.append_assoc]
          have HSZ := Lib.hid hSZ
          have HUN := Lib.hid hun
          have HB3 := Lib.hid hb3
          clear hun hZ hr3 hb3 HTX c0 c1 c2 c3 HS hSZ
          go_wp2_with (fail)
          refine HUN.out.mono ?_
          rintro e wq ⟨Aq, cq, rfl, hr4, hb4⟩
          have hs4 := hb4.size
          have HBq := Lib.hid (HB3.out.trans (hb4.mono hs3))
          have HOq := Lib.hid (show OB wq w.heap.size Aq cq Z from own_base hr4 (by omega))
          obtain ⟨b', off', hAe, _, c0, c1, c2, c3⟩ := HRD.out wq HBq.out
          cases hAe
          try simp only at c0 c1 c2 c3
          have hbq : b < wq.heap.size := by omega
          clear hr4 hb4 HUN HB3
          go_wp2_with (fail)
        case' neg =>
          have hS := sumT_not (l := l) h4
          rw [HSM.out] at hS
          have hk4b : ((k : Int) % 4 == 0) = false := by simp; omega
          have HSZ := Lib.hid hS
          have HBq := Lib.hid (Below.refl wr.heap.size wr)
          have HOq := Lib.hid OS.out
          clear hS
          go_wp2_with (fail)
          obtain ⟨wq, rfl⟩ : ∃ wq, wq = wr := ⟨_, rfl⟩
          obtain ⟨Z, rfl⟩ : ∃ Z, Z = Sm := ⟨_, rfl⟩
          obtain ⟨Aq, rfl⟩ : ∃ Aq, Aq = A7 := ⟨_, rfl⟩
          obtain ⟨cq, rfl⟩ : ∃ cq, cq = c7 := ⟨_, rfl⟩
        all_goals
          refine (HONE.out wq HBq.out).mono ?_
          rintro e w5 ⟨A5, c5, rfl, hr5, hb5⟩
          have hs5 := hb5.size
          have hsq := HBq.out.size
          have HO5 := Lib.hid (show OB w5 w.heap.size A5 c5 (I ++ oneE (xs, xo, xz, xm)) from own_base hr5 (by omega))
          have HS5 := Lib.hid (HOq.out.below hb5)
          have HB5 := Lib.hid (BW.out.trans ((HBq.out.trans (hb5.mono hsq)).mono hsw))
          have hTK := HTK.out
          obtain ⟨J, hJ⟩ : ∃ J, I ++ oneE (xs, xo, xz, xm) = J := ⟨_, rfl⟩
          rw [hJ] at HO5 hTK ⊢
          have HTJ := Lib.hid hTK
          clear hr5 hb5 hTK hJ
          go_wp2_with (fail)
          go_roundg (n - (k + 1))
          case measure => omega
          case rel => exact ⟨k + 1, c5, cq, A5, Aq, by omega, by omega, by go_num, by rw [HTJ.out], by rw [HSZ.out], by rw [HTJ.out]; exact HO5.out, by rw [HSZ.out]; exact HS5.out, HB5.out⟩
      · have hkn : k = n := by omega
        subst hkn
        have htl : l.take k = l := List.take_of_length_le (by rw [HL.out]; exact Nat.le_refl _)
        rw [htl] at OA ⊢
        have hi2 : ¬ (k : Int) < (k : Int) := by omega
        go_wp2_with (fail)
        go_ret3
        refine ⟨fun _ => ⟨_, _, rfl, Row.of_own OA.out, ?_⟩, fun e => absurd HOK.out e, BW.out⟩
        unfold sumB
        rw [HL.out]
        exact Row.of_own OS.out
  · have hnz : (checkE l == 0) = false := by simpa using hok
    have HOK := Lib.hid hok
    clear hok
    go_enter Try.func31, Try.ntmps31
    go_wp2_with (fail)
    refine HC.out.mono ?_
    rintro e w1 ⟨rfl, hb1⟩
    go_wp2_with (fail)
    go_ret3
    exact ⟨fun e => absurd e HOK.out, fun _ => rfl, hb1⟩
end Go.Proofs.Ytcebmlcdhapnkaa.idx
