/-
  The walk of the law MergeAgain.
-/
import Derived.Test.YtemmfcinpkfoiaaMgSame
import Derived.Test.YtemmfcinpkfoiaaMgOpen
namespace Go.Proofs.Ytemmfcinpkfoiaa.lawMergeAgain
open Go.ChangeShapes Go.WideShapes Go.ChangeAt Go.RowKit Go.Shelf plain words ord mem rg mg

theorem ls_lit {α : Type} (E : El α) {w : World} (t : TypeId) (l : List α) : Ls E (w.alloc (.cells (cs E.enc l).toArray t)) (w.heap.size + 1) (some ⟨w.heap.size, 0, none⟩) l.length l :=
  ⟨rfl, rd_lit t _ (cs_len E.len l)⟩
/-- what holds the view already has that view -/
theorem views_has {l o X : List Pt} (h : Views l o) (h1 : ∀ p ∈ X, p ∈ l ∨ p ∈ o) (h2 : ∀ p ∈ o, p ∈ X) : Views X o :=
  ⟨h.rise, h2, fun p hp => by
    rcases h1 p hp with h3 | h3
    · exact h.best p h3
    · exact ⟨p, h3, rfl, wins_irrefl p⟩⟩
theorem same_views {l o o' : List Pt} (h : Views l o) (h' : Views l o') : o' = o := h'.unique h fun _ => Iff.rfl
theorem pts_one (A : Option Addr) (c : Nat) (l : List Pt) : pts [⟨A, c, l⟩] = l := by simp [pts]
set_option maxHeartbeats 4000000 in
set_option maxRecDepth 100000 in
theorem walk_ok (A : Option Addr) (n c : Nat) (z : Int) (w : World) (h0 : IsPts' w A n c) (hz : (Lit.int .i64 z).wf = true) :
    Calls Try.prog 4 #[.slice A n c, .int .i64 z] w fun e w' => e = .returned (.bool true) ∧ Below w.heap.size w w' := by
  obtain ⟨l, h⟩ := h0
  have hzz := wf_i64 hz
  by_cases hbig : 4096 < n
  · have hbz : (4096 : Int) < (n : Int) := by omega
    clear h hz
    go_enter Try.func4, Try.ntmps4
    go_wp2_with fail
    go_ret
    exact ⟨rfl, Below.refl _ _⟩
  · have hbz : ¬ (4096 : Int) < (n : Int) := by omega
    obtain ⟨w1, hw1⟩ : ∃ w1, w.alloc (.cells #[.slice A n c] 27) = w1 := ⟨_, rfl⟩
    have hb1 : Below w.heap.size w w1 := by rw [← hw1]; exact (Below.refl _ _).alloc (Nat.le_refl _) _
    have hn : l.length = n := h.ls.1
    have hs1 : w1.heap.size = w.heap.size + 1 := by rw [← hw1]; simp
    have hi1 : ItI w1 (w.heap.size + 1) ⟨A, c, l⟩ := ⟨by show Ls PE w1 _ A l.length l; rw [hn]; exact (h.ls.below hb1 (Nat.le_refl _)).more (Nat.le_succ _), by show l.length ≤ c; rw [hn]; exact h.cap_, h.most, h.nil⟩
    have hL1 : Lists w1 (w.heap.size + 1) 1 (some ⟨w.heap.size, 0, none⟩) [⟨A, c, l⟩] := ⟨by
      have := ls_lit HE (w := w) 27 [(⟨A, c, l⟩ : It)]
      have e : (cs HE.enc [(⟨A, c, l⟩ : It)]).toArray = #[.slice A n c] := by simp [cs, HE, itE, It.val, hn]
      rw [e, hw1] at this
      exact this, fun x hx => by simp at hx; subst hx; exact hi1⟩
    have hp1 : (pts [(⟨A, c, l⟩ : It)]).length ≤ 90000 := by rw [pts_one, hn]; omega
    have HM := Lib.hid (merge_x w1 (w.heap.size + 1) 1 1 (some ⟨w.heap.size, 0, none⟩) [⟨A, c, l⟩] hL1 (by omega) (by omega) hp1)
    have H := Lib.hid h
    have W1 := Lib.hid hw1
    have B1 := Lib.hid hb1
    have HN := Lib.hid hn
    have HS1 := Lib.hid hs1
    have I1 := Lib.hid hi1
    clear h hw1 hb1 hn hi1 hL1 hp1 hz hs1
    obtain ⟨r1, hr1⟩ : ∃ r1, Int.tmod z ((n : Int) + 1) = r1 := ⟨_, rfl⟩
    have hr1b : -(n : Int) ≤ r1 ∧ r1 ≤ (n : Int) := by
      rw [← hr1]
      have h1 := Int.tmod_lt_of_pos z (show (0 : Int) < (n : Int) + 1 by omega)
      have h2 := Int.lt_tmod_of_pos z (show (0 : Int) < (n : Int) + 1 by omega)
      omega
    obtain ⟨r, hr⟩ : ∃ r : Nat, Int.tmod (r1 + (n : Int) + 1) ((n : Int) + 1) = (r : Int) := by
      refine ⟨(Int.tmod (r1 + (n : Int) + 1) ((n : Int) + 1)).toNat, ?_⟩
      have := Int.tmod_nonneg ((n : Int) + 1) (show (0 : Int) ≤ r1 + (n : Int) + 1 by omega)
      omega
    have hrb : r ≤ n := by
      have h1 := Int.tmod_lt_of_pos (r1 + (n : Int) + 1) (show (0 : Int) < (n : Int) + 1 by omega)
      omega
    have hrc : r ≤ c := Nat.le_trans hrb H.out.cap_
    have y0 : ((n : Int) + 1 == 0) = false := by simp; omega
    have y0' : ¬ (n : Int) + 1 = 0 := by omega
    have y1 : IntKind.i64.wrap r1 = r1 := by go_arith
    have y2 : IntKind.i64.wrap (r : Int) = (r : Int) := by go_arith
    have y3 : IntKind.i64.wrap (r1 + (n : Int)) = r1 + (n : Int) := by go_arith
    have y4 : IntKind.i64.wrap (r1 + (n : Int) + 1) = r1 + (n : Int) + 1 := by go_arith
    go_enter Try.func4, Try.ntmps4
    go_wp2_with fail
    rw [W1.out]
    refine HM.out.mono ?_
    rintro e w2 ⟨A2, c2, o, rfl, ho, hv, hl, hb2⟩
    have V := Lib.hid hv
    have O := Lib.hid ho
    have HLEN := Lib.hid hl
    have B2 := Lib.hid hb2
    clear HM hv ho hl hb2
    go_wp2_with fail
    have hV : Views l o := by have := V.out; rwa [pts_one] at this
    have hol : o.length ≤ n := by have := HLEN.out; rwa [pts_one, HN.out] at this
    obtain ⟨A2', c2', e2, hc21, hc22, hA2⟩ := O.out.row.form
    cases e2
    have hr3 : (l.take r).length = r := by rw [List.length_take, HN.out]; omega
    obtain ⟨w3, hw3⟩ : ∃ w3, (w2.alloc (.cells #[.slice A r c, .slice A2 o.length c2, .slice A2 o.length c2] 27)).alloc (.cells #[.slice A2 o.length c2] 27) = w3 := ⟨_, rfl⟩
    have hba : Below w2.heap.size w2 (w2.alloc (.cells #[.slice A r c, .slice A2 o.length c2, .slice A2 o.length c2] 27)) := (Below.refl _ _).alloc (Nat.le_refl _) _
    have hb23 : Below w2.heap.size w2 w3 := by rw [← hw3]; exact hba.alloc (by simp) _
    have hbw3 : Below (w2.heap.size + 1) (w2.alloc (.cells #[.slice A r c, .slice A2 o.length c2, .slice A2 o.length c2] 27)) w3 := by
      rw [← hw3]
      have e : w2.heap.size + 1 = (w2.alloc (.cells #[.slice A r c, .slice A2 o.length c2, .slice A2 o.length c2] 27)).heap.size := by simp
      rw [e]
      exact (Below.refl _ _).alloc (Nat.le_refl _) _
    have hs3 : w3.heap.size = w2.heap.size + 1 + 1 := by rw [← hw3]; simp
    have hs12 : w.heap.size ≤ w2.heap.size := Nat.le_trans B1.out.size B2.out.size
    have hbw2 : Below w.heap.size w w2 := B1.out.trans (B2.out.mono B1.out.size)
    have hbw : Below w.heap.size w w3 := hbw2.trans (hb23.mono hs12)
    have hl3 : Ls PE w3 w3.heap.size A n l := (H.out.ls.below hbw (Nat.le_refl _)).more (by omega)
    have ho3 : Ls PE w3 w3.heap.size A2 o.length o := (O.out.row.ls.below hb23 (Nat.le_refl _)).more (by omega)
    have io : ItI w3 w3.heap.size ⟨A2, c2, o⟩ := ⟨ho3, hc21, hc22, hA2⟩
    have hthree : Lists w3 w3.heap.size 3 (some ⟨w2.heap.size, 0, none⟩) [⟨A, c, l.take r⟩, ⟨A2, c2, o⟩, ⟨A2, c2, o⟩] := ⟨by
      have := ls_lit HE (w := w2) 27 [(⟨A, c, l.take r⟩ : It), ⟨A2, c2, o⟩, ⟨A2, c2, o⟩]
      have e : (cs HE.enc [(⟨A, c, l.take r⟩ : It), ⟨A2, c2, o⟩, ⟨A2, c2, o⟩]).toArray = #[.slice A r c, .slice A2 o.length c2, .slice A2 o.length c2] := by
        simp only [cs, HE, itE, It.val, List.flatMap_cons, List.flatMap_nil, List.cons_append, List.nil_append, hr3]
      rw [e] at this
      exact (this.below hbw3 (Nat.le_refl _)).more (by omega), fun x hx => by
      simp only [List.mem_cons, List.not_mem_nil, or_false] at hx
      rcases hx with rfl | rfl | rfl
      · exact ⟨by show Ls PE w3 _ A (l.take r).length _; rw [hr3]; exact hl3.take hrb, by show (l.take r).length ≤ c; rw [hr3]; exact hrc, H.out.most, H.out.nil⟩
      · exact io
      · exact io⟩
    have hback : Lists w3 w3.heap.size 1 (some ⟨w2.heap.size + 1, 0, none⟩) [⟨A2, c2, o⟩] := ⟨by
      have := ls_lit HE (w := w2.alloc (.cells #[.slice A r c, .slice A2 o.length c2, .slice A2 o.length c2] 27)) 27 [(⟨A2, c2, o⟩ : It)]
      have e : (cs HE.enc [(⟨A2, c2, o⟩ : It)]).toArray = #[.slice A2 o.length c2] := by
        simp only [cs, HE, itE, It.val, List.flatMap_cons, List.flatMap_nil, List.cons_append, List.nil_append]
      have e2 : (w2.alloc (.cells #[.slice A r c, .slice A2 o.length c2, .slice A2 o.length c2] 27)).heap.size = w2.heap.size + 1 := by simp
      rw [e, hw3, e2] at this
      exact this.more (by omega), fun x hx => by simp at hx; subst hx; exact io⟩
    have hv3 : Views (pts [(⟨A, c, l.take r⟩ : It), ⟨A2, c2, o⟩, ⟨A2, c2, o⟩]) o := views_has hV (fun p hp => by
      simp [pts] at hp
      rcases hp with h | h
      · exact .inl (List.mem_of_mem_take h)
      · exact .inr h) (fun p hp => by simp [pts, hp])
    have hvb : Views (pts [(⟨A2, c2, o⟩ : It)]) o := views_has hV (fun p hp => by rw [pts_one] at hp; exact .inr hp) (fun p hp => by rw [pts_one]; exact hp)
    have hn3 : (pts [(⟨A, c, l.take r⟩ : It), ⟨A2, c2, o⟩, ⟨A2, c2, o⟩]).length ≤ 90000 := by simp [pts, hr3]; omega
    have hnb : (pts [(⟨A2, c2, o⟩ : It)]).length ≤ 90000 := by rw [pts_one]; omega
    have W3 := Lib.hid hw3
    have BW := Lib.hid hbw
    have HV := Lib.hid hV
    have O3 := Lib.hid ho3
    have T3 := Lib.hid hthree
    have BK := Lib.hid hback
    have V3 := Lib.hid hv3
    have VB := Lib.hid hvb
    have N3 := Lib.hid hn3
    have NB := Lib.hid hnb
    have HVW := Lib.hid (view_y w3 w3.heap.size n c A l hl3 H.out.nil (Nat.le_refl _) H.out.cap_ H.out.most (by omega))
    clear hw3 hba hb23 hbw3 hs3 hs12 hbw2 hbw hl3 ho3 io hthree hback hv3 hvb hn3 hnb hV hr3 V O HLEN B1 B2 W1 I1
    go_wp2_with fail
    rw [W3.out]
    refine HVW.out.mono ?_
    rintro e w4 ⟨A3, c3, o3, rfl, ho, hv, hl, hb4⟩
    obtain rfl := same_views HV.out hv
    have hs4 := hb4.size
    have Q4 := Lib.hid (O3.out.below hb4 (Nat.le_refl _))
    have HS4 := Lib.hid (same_y w4 w4.heap.size o3.length c2 c3 A2 A3 o3 (Q4.out.more hs4) ho.row.ls (Nat.le_refl _) (by omega))
    have B4 := Lib.hid hb4
    clear ho hv hl hb4 HVW
    go_wp2_with fail
    refine HS4.out.mono ?_
    rintro e w5 ⟨rfl, hb5⟩
    have B5 := Lib.hid (B4.out.trans (hb5.mono hs4))
    have hs5 := B5.out.size
    have HM5 := Lib.hid (merge_x w5 w3.heap.size 3 3 _ _ (T3.out.below B5.out (Nat.le_refl _)) hs5 (by omega) N3.out)
    clear hb5 HS4 B4 Q4
    go_wp2_with fail
    refine HM5.out.mono ?_
    rintro e w6 ⟨A6, c6, o6, rfl, ho, hv, hl, hb6⟩
    obtain rfl := same_views V3.out hv
    have hs6 := hb6.size
    have B6 := Lib.hid (B5.out.trans (hb6.mono hs5))
    have HS6 := Lib.hid (same_y w6 w6.heap.size o6.length c6 c2 A6 A2 o6 ho.row.ls ((O3.out.below B6.out (Nat.le_refl _)).more (by omega)) (Nat.le_refl _) (by omega))
    clear ho hv hl hb6 HM5 B5
    go_wp2_with fail
    refine HS6.out.mono ?_
    rintro e w7 ⟨rfl, hb7⟩
    have B7 := Lib.hid (B6.out.trans (hb7.mono (Nat.le_trans hs5 hs6)))
    have hs7 := B7.out.size
    have HM7 := Lib.hid (merge_x w7 w3.heap.size 1 1 _ _ (BK.out.below B7.out (Nat.le_refl _)) hs7 (by omega) NB.out)
    clear hb7 HS6 B6
    go_wp2_with fail
    refine HM7.out.mono ?_
    rintro e w8 ⟨A8, c8, o8, rfl, ho, hv, hl, hb8⟩
    obtain rfl := same_views VB.out hv
    have hs8 := hb8.size
    have B8 := Lib.hid (B7.out.trans (hb8.mono hs7))
    have HS8 := Lib.hid (same_y w8 w8.heap.size o8.length c8 c2 A8 A2 o8 ho.row.ls ((O3.out.below B8.out (Nat.le_refl _)).more (by omega)) (Nat.le_refl _) (by omega))
    clear ho hv hl hb8 HM7 B7
    go_wp2_with fail
    refine HS8.out.mono ?_
    rintro e w9 ⟨rfl, hb9⟩
    have B9 := Lib.hid (B8.out.trans (hb9.mono (Nat.le_trans hs7 hs8)))
    clear hb9 HS8 B8
    go_wp2_with fail
    go_ret
    exact ⟨rfl, BW.out.trans (B9.out.mono BW.out.size)⟩
end Go.Proofs.Ytemmfcinpkfoiaa.lawMergeAgain
