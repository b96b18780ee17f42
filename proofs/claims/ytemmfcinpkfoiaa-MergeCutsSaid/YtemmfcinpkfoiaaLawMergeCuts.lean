/-
  The walk of the law MergeCuts.
-/
import Derived.Test.YtemmfcinpkfoiaaMgSame
import Derived.Test.YtemmfcinpkfoiaaMgCut
import Derived.Test.YtemmfcinpkfoiaaMgOpen
namespace Go.Proofs.Ytemmfcinpkfoiaa.lawMergeCuts
open Go.ChangeShapes Go.WideShapes Go.ChangeAt Go.RowKit Go.Shelf plain words ord mem rg mg

/-- the points of the last time -/
def mx (l : List Pt) : List Pt := l.filter fun p => p.1 == (9223372036854775807 : Int)
theorem cut_all (z : Int) (l : List Pt) (h : ∀ p ∈ l, inI p.1) : l.length ≤ (cut (-9223372036854775808) z l).length + (cut z 9223372036854775807 l).length + (mx l).length := by
  induction l with
  | nil => simp
  | cons p l ih =>
    have h1 := ih fun q hq => h q (List.mem_cons_of_mem _ hq)
    have hp := h p List.mem_cons_self
    simp only [cut, mx, List.filter_cons] at h1 ⊢
    have h2 : inR (-9223372036854775808) z p = true ∨ inR z 9223372036854775807 p = true ∨ (p.1 == (9223372036854775807 : Int)) = true := by
      simp only [inR, Bool.and_eq_true, decide_eq_true_eq, beq_iff_eq]
      unfold inI at hp
      omega
    rcases h2 with h2 | h2 | h2
    · rw [if_pos h2]; split <;> split <;> simp only [List.length_cons] <;> omega
    · rw [if_pos h2]; split <;> split <;> simp only [List.length_cons] <;> omega
    · rw [if_pos h2]; split <;> split <;> simp only [List.length_cons] <;> omega
theorem cut_eq (z : Int) (l : List Pt) (h : ∀ p ∈ l, inI p.1) (hm : mx l = []) : (cut (-9223372036854775808) z l).length + (cut z 9223372036854775807 l).length = l.length ∧ ∀ p, p ∈ cut (-9223372036854775808) z l ++ cut z 9223372036854775807 l ↔ p ∈ l := by
  have hne : ∀ p ∈ l, p.1 ≠ 9223372036854775807 := fun p hp e => by
    have : p ∈ mx l := List.mem_filter.2 ⟨hp, by simp [e]⟩
    rw [hm] at this
    simp at this
  refine ⟨?_, fun p => ⟨fun hp => ?_, fun hp => ?_⟩⟩
  · clear hm
    induction l with
    | nil => simp [cut]
    | cons p l ih =>
      have h1 := ih (fun q hq => h q (List.mem_cons_of_mem _ hq)) (fun q hq => hne q (List.mem_cons_of_mem _ hq))
      have hp := h p List.mem_cons_self
      have hn := hne p List.mem_cons_self
      simp only [cut, List.filter_cons] at h1 ⊢
      unfold inI at hp
      rcases Int.lt_or_le p.1 z with h2 | h2
      · have e1 : inR (-9223372036854775808) z p = true := by simp only [inR, Bool.and_eq_true, decide_eq_true_eq]; omega
        have e2 : ¬ inR z 9223372036854775807 p = true := by simp only [inR, Bool.and_eq_true, decide_eq_true_eq]; omega
        rw [if_pos e1, if_neg e2, List.length_cons, List.length_cons]; omega
      · have e1 : ¬ inR (-9223372036854775808) z p = true := by simp only [inR, Bool.and_eq_true, decide_eq_true_eq]; omega
        have e2 : inR z 9223372036854775807 p = true := by simp only [inR, Bool.and_eq_true, decide_eq_true_eq]; omega
        rw [if_neg e1, if_pos e2, List.length_cons, List.length_cons]; omega
  · rcases List.mem_append.1 hp with hp | hp
    · exact (List.mem_filter.1 hp).1
    · exact (List.mem_filter.1 hp).1
  · have h1 := h p hp
    have h2 := hne p hp
    unfold inI at h1
    rcases Int.lt_or_le p.1 z with h3 | h3
    · exact List.mem_append.2 (.inl (List.mem_filter.2 ⟨hp, by simp only [inR, Bool.and_eq_true, decide_eq_true_eq]; omega⟩))
    · exact List.mem_append.2 (.inr (List.mem_filter.2 ⟨hp, by simp only [inR, Bool.and_eq_true, decide_eq_true_eq]; omega⟩))
theorem mx_snoc (l : List Pt) (x : Pt) : (mx (l ++ [x])).length = (mx l).length + (if x.1 = 9223372036854775807 then 1 else 0) := by
  simp only [mx, List.filter_append, List.length_append, List.filter_cons, List.filter_nil]
  by_cases h : x.1 = 9223372036854775807
  · simp [h]
  · have : (x.1 == 9223372036854775807) = false := by simpa using h
    rw [this, if_neg h]; simp
theorem ls_lit {α : Type} (E : El α) {w : World} (t : TypeId) (l : List α) : Ls E (w.alloc (.cells (cs E.enc l).toArray t)) (w.heap.size + 1) (some ⟨w.heap.size, 0, none⟩) l.length l :=
  ⟨rfl, rd_lit t _ (cs_len E.len l)⟩
theorem pts_one (A : Option Addr) (c : Nat) (l : List Pt) : pts [⟨A, c, l⟩] = l := by simp [pts]
theorem pts_two (A A' : Option Addr) (c c' : Nat) (l l' : List Pt) : pts [⟨A, c, l⟩, ⟨A', c', l'⟩] = l ++ l' := by simp [pts]
set_option maxHeartbeats 4000000 in
set_option maxRecDepth 100000 in
theorem walk_ok (A : Option Addr) (n c : Nat) (z : Int) (w : World) (h0 : IsPts' w A n c) (hz : (Lit.int .i64 z).wf = true) :
    Calls Try.prog 9 #[.slice A n c, .int .i64 z] w fun e w' => e = .returned (.bool true) ∧ Below w.heap.size w w' := by
  obtain ⟨l, h⟩ := h0
  by_cases hbig : 4096 < n
  · have hbz : (4096 : Int) < (n : Int) := by omega
    clear h hz
    go_enter Try.func9, Try.ntmps9
    go_wp2_with fail
    go_ret
    exact ⟨rfl, Below.refl _ _⟩
  · have hbz : ¬ (4096 : Int) < (n : Int) := by omega
    have hn : l.length = n := h.ls.1
    have HC := Lib.hid (cut_x w w.heap.size n c A l (-9223372036854775808) z h.ls (Nat.le_refl _) (by omega))
    have H := Lib.hid h
    have HN := Lib.hid hn
    have HE1 := Lib.hid (cut_all z l h.time)
    have HE2 := Lib.hid (cut_eq z l h.time)
    clear h hz hn
    go_enter Try.func9, Try.ntmps9
    go_wp2_with fail
    refine HC.out.mono ?_
    rintro e w1 ⟨A1, c1, rfl, ho1, hb1⟩
    obtain ⟨a, ha⟩ : ∃ a, cut (-9223372036854775808) z l = a := ⟨_, rfl⟩
    rw [ha] at ho1 ⊢
    have HA := Lib.hid ha
    have O1 := Lib.hid ho1
    have B1 := Lib.hid hb1
    have HC2 := Lib.hid (cut_x w1 w.heap.size n c A l z 9223372036854775807 (H.out.ls.below hb1 (Nat.le_refl _)) hb1.size (by omega))
    clear HC ho1 hb1 ha
    go_wp2_with fail
    refine HC2.out.mono ?_
    rintro e w2 ⟨A2, c2, rfl, ho2, hb2⟩
    obtain ⟨b, hb⟩ : ∃ b, cut z 9223372036854775807 l = b := ⟨_, rfl⟩
    rw [hb] at ho2 ⊢
    have HBB := Lib.hid hb
    have O2 := Lib.hid ho2
    have B2 := Lib.hid hb2
    clear HC2 ho2 hb2 hb
    go_wp2_with fail
    obtain ⟨w3, hw3⟩ : ∃ w3, w2.alloc (.cells #[.slice A1 a.length c1, .slice A2 b.length c2] 27) = w3 := ⟨_, rfl⟩
    have hb23 : Below w2.heap.size w2 w3 := by rw [← hw3]; exact (Below.refl _ _).alloc (Nat.le_refl _) _
    have hs3 : w3.heap.size = w2.heap.size + 1 := by rw [← hw3]; simp
    have hs12 := B2.out.size
    have hs01 := B1.out.size
    have hb13 : Below w1.heap.size w1 w3 := B2.out.trans (hb23.mono hs12)
    have hbw : Below w.heap.size w w3 := B1.out.trans (hb13.mono hs01)
    have hl3 : Ls PE w3 w3.heap.size A n l := (H.out.ls.below hbw (Nat.le_refl _)).more (by omega)
    have ha3 : Ls PE w3 w3.heap.size A1 a.length a := (O1.out.row.ls.below hb13 (Nat.le_refl _)).more (by omega)
    have hb3 : Ls PE w3 w3.heap.size A2 b.length b := (O2.out.row.ls.below hb23 (Nat.le_refl _)).more (by omega)
    obtain ⟨_, _, e1, ca1, ca2, ca3⟩ := O1.out.row.form
    cases e1
    obtain ⟨_, _, e1, cb1, cb2, cb3⟩ := O2.out.row.form
    cases e1
    have htwo : Lists w3 w3.heap.size 2 (some ⟨w2.heap.size, 0, none⟩) [⟨A1, c1, a⟩, ⟨A2, c2, b⟩] := ⟨by
      have := ls_lit HE (w := w2) 27 [(⟨A1, c1, a⟩ : It), ⟨A2, c2, b⟩]
      have e : (cs HE.enc [(⟨A1, c1, a⟩ : It), ⟨A2, c2, b⟩]).toArray = #[.slice A1 a.length c1, .slice A2 b.length c2] := by
        simp only [cs, HE, itE, It.val, List.flatMap_cons, List.flatMap_nil, List.cons_append, List.nil_append]
      rw [e, hw3] at this
      exact this.more (by omega), fun x hx => by
      simp only [List.mem_cons, List.not_mem_nil, or_false] at hx
      rcases hx with rfl | rfl
      · exact ⟨ha3, ca1, ca2, ca3⟩
      · exact ⟨hb3, cb1, cb2, cb3⟩⟩
    have hal : a.length ≤ n := by rw [← HA.out, ← HN.out]; exact List.length_filter_le _ _
    have hbl : b.length ≤ n := by rw [← HBB.out, ← HN.out]; exact List.length_filter_le _ _
    have hE1 : n ≤ a.length + b.length + (mx l).length := by have := HE1.out; rwa [HA.out, HBB.out, HN.out] at this
    have hmn : (mx l).length ≤ n := by rw [← HN.out]; exact List.length_filter_le _ _
    have TW := Lib.hid htwo
    have BW := Lib.hid hbw
    have L3 := Lib.hid hl3
    have HSZ := Lib.hid hs3
    rw [hw3]
    clear hw3 hb23 hs12 hs01 hb13 hbw hl3 ha3 hb3 htwo B1 B2 O1 O2 HE1 hs3 ca1 ca2 ca3 cb1 cb2 cb3
    go_loopg [8, 9] n (fun gg s8 s9 wr => ∃ (i : Nat), s9 = .int .i64 i ∧ s8 = .int .i64 ((mx (l.take i)).length : Nat) ∧ i ≤ n ∧ n - i ≤ gg ∧ wr = w3)
    case atStart => exact ⟨0, rfl, rfl, Nat.zero_le _, by omega, rfl⟩
    case round =>
      obtain ⟨i, rfl, rfl, hi, hg, rfl⟩ := hrel
      by_cases hlt : i < n
      · obtain ⟨x, hx⟩ := L3.out.get hlt
        obtain ⟨ba, oa, eA, _, xa0, _, _⟩ := Ls.pt L3.out hx
        subst eA
        have i1 : (i : Int) < (n : Int) := by omega
        have i0 : (0 : Int) ≤ (i : Int) := by omega
        have hml : (mx (l.take i)).length ≤ i := Nat.le_trans (List.length_filter_le _ _) (by rw [List.length_take]; omega)
        have hmx := mx_snoc (l.take i) x
        rw [← take_succ_at hx] at hmx
        have HMX := Lib.hid hmx
        clear hx hmx
        by_cases hm : x.1 = 9223372036854775807
        · have hm' : (x.1 == 9223372036854775807) = true := by simpa using hm
          go_wp2_with fail
          go_roundg (n - (i + 1))
          case measure => omega
          case rel =>
            refine ⟨i + 1, by go_num, ?_, by omega, by omega, rfl⟩
            rw [HMX.out, if_pos hm]
            go_num
        · have hm' : (x.1 == 9223372036854775807) = false := by simpa using hm
          go_wp2_with fail
          go_roundg (n - (i + 1))
          case measure => omega
          case rel =>
            refine ⟨i + 1, by go_num, ?_, by omega, by omega, rfl⟩
            rw [HMX.out, if_neg hm, Nat.add_zero]
      · have i1 : ¬ (i : Int) < (n : Int) := by omega
        have hti : l.take i = l := List.take_of_length_le (by rw [HN.out]; omega)
        rw [hti]
        clear hti
        obtain ⟨M, hM⟩ : ∃ M, (mx l).length = M := ⟨_, rfl⟩
        rw [hM] at hE1 hmn ⊢
        have HM := Lib.hid hM
        clear hM
        by_cases hz0 : 0 < M
        · have z1 : (0 : Int) < (M : Int) := by omega
          have z2 : IntKind.i64.wrap ((a.length : Int) + (b.length : Int)) = (a.length : Int) + (b.length : Int) := by go_arith
          have z3 : IntKind.i64.wrap ((a.length : Int) + (b.length : Int) + (M : Int)) = (a.length : Int) + (b.length : Int) + (M : Int) := by go_arith
          have z4 : decide ((n : Int) ≤ (a.length : Int) + (b.length : Int) + (M : Int)) = true := by simp; omega
          have z5 : (n : Int) ≤ (a.length : Int) + (b.length : Int) + (M : Int) := by omega
          go_wp2_with fail
          go_ret
          exact ⟨ret_bool (by simp [z5]), BW.out⟩
        · have hmn0 : mx l = [] := List.eq_nil_of_length_eq_zero (by have := HM.out; omega)
          obtain ⟨hlen, hmem⟩ := HE2.out hmn0
          rw [HA.out, HBB.out] at hmem
          rw [HA.out, HBB.out, HN.out] at hlen
          have MEM := Lib.hid hmem
          have z1 : ¬ (0 : Int) < (M : Int) := by omega
          have z2 : IntKind.i64.wrap ((a.length : Int) + (b.length : Int)) = (n : Int) := by rw [IntWalk.i64_in _ (by omega)]; omega
          have z3 : ((n : Int) == (n : Int)) = true := by simp
          clear hmem hmn0 hlen
          obtain ⟨w4, hw4⟩ : ∃ w4, wr.alloc (.cells #[.slice A n c] 27) = w4 := ⟨_, rfl⟩
          have hb4 : Below wr.heap.size wr w4 := by rw [← hw4]; exact (Below.refl _ _).alloc (Nat.le_refl _) _
          have hs4 : w4.heap.size = wr.heap.size + 1 := by rw [← hw4]; simp
          have hn := HN.out
          have hone : Lists w4 w4.heap.size 1 (some ⟨wr.heap.size, 0, none⟩) [⟨A, c, l⟩] := ⟨by
            have := ls_lit HE (w := wr) 27 [(⟨A, c, l⟩ : It)]
            have e : (cs HE.enc [(⟨A, c, l⟩ : It)]).toArray = #[.slice A n c] := by
              simp only [cs, HE, itE, It.val, List.flatMap_cons, List.flatMap_nil, List.cons_append, List.nil_append, hn]
            rw [e, hw4] at this
            exact this.more (by omega), fun x hx => by
            simp at hx; subst hx
            exact ⟨by show Ls PE w4 _ A l.length l; rw [hn]; exact (L3.out.below hb4 (Nat.le_refl _)).more (by omega), by show l.length ≤ c; rw [hn]; exact H.out.cap_, H.out.most, H.out.nil⟩⟩
          have ONE := Lib.hid hone
          have TW4 := Lib.hid (TW.out.below hb4 (Nat.le_refl _))
          have W4 := Lib.hid hw4
          have BW4 := Lib.hid (BW.out.trans (hb4.mono BW.out.size))
          have hpt : (pts [(⟨A1, c1, a⟩ : It), ⟨A2, c2, b⟩]).length ≤ 90000 := by rw [pts_two, List.length_append]; omega
          have HMG := Lib.hid (merge_x w4 wr.heap.size 2 2 _ _ TW4.out (by omega) (by omega) hpt)
          clear hw4 hb4 hone hn hpt TW L3
          go_wp2_with fail
          rw [W4.out]
          refine HMG.out.mono ?_
          rintro e w5 ⟨A5, c5, o5, rfl, ho5, hv5, hl5, hb5⟩
          have hs5 := hb5.size
          have O5 := Lib.hid ho5
          have V5 := Lib.hid hv5
          have B5 := Lib.hid hb5
          have hpo : (pts [(⟨A, c, l⟩ : It)]).length ≤ 90000 := by rw [pts_one, HN.out]; omega
          have HMY := Lib.hid (merge_y w5 w4.heap.size 1 1 _ _ (ONE.out.below hb5 (Nat.le_refl _)) hs5 (by omega) hpo)
          clear ho5 hv5 hl5 hb5 hpo HMG
          go_wp2_with fail
          refine HMY.out.mono ?_
          rintro e w6 ⟨A6, c6, o6, rfl, ho6, hv6, hl6, hb6⟩
          have hs6 := hb6.size
          have he : o6 = o5 := hv6.unique V5.out fun p => by rw [pts_one, pts_two]; exact (MEM.out p).symm
          subst he
          have hol : o6.length ≤ 90000 := by rw [pts_one, HN.out] at hl6; omega
          have HSM := Lib.hid (same_y w6 w6.heap.size o6.length c5 c6 A5 A6 o6 ((O5.out.row.ls.below hb6 (Nat.le_refl _)).more hs6) ho6.row.ls (Nat.le_refl _) (by omega))
          have B6 := Lib.hid (B5.out.trans (hb6.mono hs5))
          clear ho6 hv6 hl6 hb6 HMY
          go_wp2_with fail
          refine HSM.out.mono ?_
          rintro e w7 ⟨rfl, hb7⟩
          have B7 := Lib.hid (B6.out.trans (hb7.mono (Nat.le_trans hs5 hs6)))
          clear hb7 HSM
          go_wp2_with fail
          go_ret
          exact ⟨rfl, BW4.out.trans (B7.out.mono BW4.out.size)⟩
end Go.Proofs.Ytemmfcinpkfoiaa.lawMergeCuts
