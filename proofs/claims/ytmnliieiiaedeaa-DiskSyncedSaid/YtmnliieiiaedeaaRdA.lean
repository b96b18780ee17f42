/-
  The document's disk: Rename, Remove, Sync, New, Clone.
-/
import Derived.Test.YtmnliieiiaedeaaRd9
namespace Go.Proofs.Ytmnliieiiaedeaa.dk
open Go.ChangeShapes Go.WideShapes Go.ChangeAt Go.RowKit Go.Maps Go.Sort Go.Shelf plain words ord mem al

theorem RM.read {w u : World} {r : Nat} {X : Nat → Prop} {st : St} (h : RM w r X st) (hs : Sm st) (hu : Below w.heap.size w u) (a : Nm) :
    Calls Try.prog 75 #[ptr r, .string (bs a)] u fun e w' => e = .returned (ans (al.get st.shown a)) ∧ Below u.heap.size u w' := by
  obtain ⟨A, c, A2, c2, k1, _⟩ := h.below hu
  exact readr_y u r st.room A c st.last A2 c2 st.pend st.ops a k1 (by have := hs.sum; omega) (by have := hs.len; omega)
set_option maxHeartbeats 2000000 in
set_option maxRecDepth 100000 in
theorem remove_r (w : World) (r : Nat) (X : Nat → Prop) (st : St) (a : Nm) (h : RM w r X st) (hl : Live st) (hs : Sm st) (hX : ∀ k, X k → k < w.heap.size) :
    Calls Try.prog 54 #[ptr r, .string (bs a)] w (RetRM w r X (remSt st a).1 (remSt st a).2) := by
  have HM := Lib.hid (may_y w a)
  have H := Lib.hid h
  have HS := Lib.hid hs
  have HX := Lib.hid hX
  cases hok : okn a with
  | false =>
    rw [rem_name hok]
    rw [hok] at HM
    clear hok h hs hX hl
    go_enter Try.func54, Try.ntmps54
    go_wp2_with fail
    refine HM.out.mono ?_
    rintro e w1 ⟨rfl, hb1⟩
    have B1 := Lib.hid hb1
    clear hb1 HM
    go_wp2_with fail
    go_ret
    exact RetRM.same H.out B1.out _
  | true =>
    rw [hok] at HM
    have HRD := Lib.hid (fun u hu => H.out.read HS.out (u := u) hu a)
    cases hg : al.get st.shown a with
    | none =>
      rw [rem_none hok hg]
      rw [hg, ans_none] at HRD
      clear hok h hs hX hl hg
      go_enter Try.func54, Try.ntmps54
      go_wp2_with fail
      refine HM.out.mono ?_
      rintro e w1 ⟨rfl, hb1⟩
      have B1 := Lib.hid hb1
      have HR1 := Lib.hid (HRD.out w1 hb1)
      clear hb1 HM
      go_wp2_with fail
      refine HR1.out.mono ?_
      rintro e w2 ⟨rfl, hb2⟩
      have B2 := Lib.hid (B1.out.trans (hb2.mono B1.out.size))
      clear hb2 HR1
      go_wp2_with fail
      go_ret
      exact RetRM.same H.out B2.out _
    | some y =>
      rw [rem_do hl hok (by rw [hg]; simp)]
      rw [hg, ans_some] at HRD
      have HCH := Lib.hid (fun u (hu : Below w.heap.size w u) => (change_r u r X st (.rem a) (H.out.below hu) HS.out (fun k hk => Nat.lt_of_lt_of_le (HX.out k hk) hu.size)))
      simp only [chK, chA, chB] at HCH
      rw [show bs [] = ⟨#[]⟩ from rfl] at HCH
      clear hok h hs hX hl hg
      go_enter Try.func54, Try.ntmps54
      go_wp2_with fail
      refine HM.out.mono ?_
      rintro e w1 ⟨rfl, hb1⟩
      have B1 := Lib.hid hb1
      have HR1 := Lib.hid (HRD.out w1 hb1)
      clear hb1 HM
      go_wp2_with fail
      refine HR1.out.mono ?_
      rintro e w2 ⟨rfl, hb2⟩
      have B2 := Lib.hid (B1.out.trans (hb2.mono B1.out.size))
      have HC2 := Lib.hid (HCH.out w2 B2.out)
      clear hb2 HR1
      go_wp2_with fail
      refine HC2.out.mono ?_
      rintro e w3 hr3
      have R3 := Lib.hid (hr3.after B2.out)
      obtain ⟨rfl, _⟩ := hr3
      clear HC2
      go_wp2_with fail
      go_ret
      exact R3.out
set_option maxHeartbeats 2000000 in
set_option maxRecDepth 100000 in
theorem rename_r (w : World) (r : Nat) (X : Nat → Prop) (st : St) (a b : Nm) (h : RM w r X st) (hl : Live st) (hs : Sm st) (hX : ∀ k, X k → k < w.heap.size) :
    Calls Try.prog 53 #[ptr r, .string (bs a), .string (bs b)] w (RetRM w r X (renSt st a b).1 (renSt st a b).2) := by
  have HM := Lib.hid (may_y w a)
  have HMb := Lib.hid (fun u => may_y u b)
  have H := Lib.hid h
  have HS := Lib.hid hs
  have HX := Lib.hid hX
  cases hok : okn a with
  | false =>
    rw [ren_name (.inl hok)]
    rw [hok] at HM
    clear hok h hs hX hl HMb
    go_enter Try.func53, Try.ntmps53
    go_wp2_with fail
    refine HM.out.mono ?_
    rintro e w1 ⟨rfl, hb1⟩
    have B1 := Lib.hid hb1
    clear hb1 HM
    go_wp2_with fail
    go_ret
    exact RetRM.same H.out B1.out _
  | true =>
    rw [hok] at HM
    cases hokb : okn b with
    | false =>
      rw [ren_name (.inr hokb)]
      rw [hokb] at HMb
      clear hok h hs hX hl hokb
      go_enter Try.func53, Try.ntmps53
      go_wp2_with fail
      refine HM.out.mono ?_
      rintro e w1 ⟨rfl, hb1⟩
      have B1 := Lib.hid hb1
      have HM1 := Lib.hid (HMb.out w1)
      clear hb1 HM
      go_wp2_with fail
      refine HM1.out.mono ?_
      rintro e w2 ⟨rfl, hb2⟩
      have B2 := Lib.hid (B1.out.trans (hb2.mono B1.out.size))
      clear hb2 HM1
      go_wp2_with fail
      go_ret
      exact RetRM.same H.out B2.out _
    | true =>
      rw [hokb] at HMb
      have HRD := Lib.hid (fun u hu => H.out.read HS.out (u := u) hu a)
      cases hg : al.get st.shown a with
      | none =>
        rw [ren_none hok hokb hg]
        rw [hg, ans_none] at HRD
        clear hok h hs hX hl hg hokb
        go_enter Try.func53, Try.ntmps53
        go_wp2_with fail
        refine HM.out.mono ?_
        rintro e w1 ⟨rfl, hb1⟩
        have B1 := Lib.hid hb1
        have HM1 := Lib.hid (HMb.out w1)
        clear hb1 HM
        go_wp2_with fail
        refine HM1.out.mono ?_
        rintro e w2 ⟨rfl, hb2⟩
        have B2 := Lib.hid (B1.out.trans (hb2.mono B1.out.size))
        have HR1 := Lib.hid (HRD.out w2 B2.out)
        clear hb2 HM1
        go_wp2_with fail
        refine HR1.out.mono ?_
        rintro e w3 ⟨rfl, hb3⟩
        have B3 := Lib.hid (B2.out.trans (hb3.mono B2.out.size))
        clear hb3 HR1
        go_wp2_with fail
        go_ret
        exact RetRM.same H.out B3.out _
      | some y =>
        rw [ren_do hl hok hokb (by rw [hg]; simp)]
        rw [hg, ans_some] at HRD
        have HCH := Lib.hid (fun u (hu : Below w.heap.size w u) => (change_r u r X st (.ren a b) (H.out.below hu) HS.out (fun k hk => Nat.lt_of_lt_of_le (HX.out k hk) hu.size)))
        simp only [chK, chA, chB] at HCH
        clear hok h hs hX hl hg hokb
        go_enter Try.func53, Try.ntmps53
        go_wp2_with fail
        refine HM.out.mono ?_
        rintro e w1 ⟨rfl, hb1⟩
        have B1 := Lib.hid hb1
        have HM1 := Lib.hid (HMb.out w1)
        clear hb1 HM
        go_wp2_with fail
        refine HM1.out.mono ?_
        rintro e w2 ⟨rfl, hb2⟩
        have B2 := Lib.hid (B1.out.trans (hb2.mono B1.out.size))
        have HR1 := Lib.hid (HRD.out w2 B2.out)
        clear hb2 HM1
        go_wp2_with fail
        refine HR1.out.mono ?_
        rintro e w3 ⟨rfl, hb3⟩
        have B3 := Lib.hid (B2.out.trans (hb3.mono B2.out.size))
        have HC2 := Lib.hid (HCH.out w3 B3.out)
        clear hb3 HR1
        go_wp2_with fail
        refine HC2.out.mono ?_
        rintro e w4 hr3
        have R3 := Lib.hid (hr3.after B3.out)
        obtain ⟨rfl, _⟩ := hr3
        clear HC2
        go_wp2_with fail
        go_ret
        exact R3.out
theorem sync_live {st : St} (hl : Live st) : syncSt st = { st with last := st.shown, pend := [], ops := st.ops + 1 } := by
  unfold syncSt
  rw [hl.pw, if_neg (by rw [hl.dead]; simp)]
  unfold cnt
  obtain ⟨a, b, c, d, e, f⟩ := st
  have := hl.due
  simp only at this
  subst this
  rfl
set_option maxHeartbeats 2000000 in
set_option maxRecDepth 100000 in
theorem sync_r (w : World) (r : Nat) (X : Nat → Prop) (st : St) (h : RM w r X st) (hl : Live st) (hs : Sm st) (hX : ∀ k, X k → k < w.heap.size) :
    Calls Try.prog 24 #[ptr r] w (RetRM w r X (syncSt st) 0) := by
  rw [sync_live hl]
  obtain ⟨A, c, A2, c2, hk, hA, hA2, hr⟩ := h
  have lr := blk_lt hk.blk
  have HRAW := Lib.hid (raw_y w r st.room A c st.last A2 c2 st.pend st.ops hk hs.ops0 hs.ops1)
  obtain ⟨w2, hw2⟩ : ∃ w2, w.setCell ⟨r, 3, none⟩ (.int .i64 (st.ops + 1)) = w2 := ⟨_, rfl⟩
  rw [hw2] at HRAW
  have hc2 : Chg (fun k => k = r) w w2 := by rw [← hw2]; exact chg_set _ _ _ _
  have hk2 : Rk w2 r st.room A c st.last A2 c2 st.pend (st.ops + 1) := by
    refine ⟨?_, hk.fr.chg hc2 (fun a e => (hA a e).2), (ls_chg hk.ch (Nat.le_refl _) hc2 (fun a e => (hA2 a e).2)).more hc2.size, hk.nil, hk.le, hk.cap, hk.srt⟩
    rw [← hw2, setp_obj hk.blk]
    simp
  have HFI := Lib.hid (files_y w2 r st.room A c st.last A2 c2 st.pend (st.ops + 1) hk2 (by have := hs.sum; omega) (by have := hs.len; omega))
  have hsrt2 : Srt st.shown := fold_srt hk.srt _
  have HX := Lib.hid (And.intro hX (And.intro hA hr))
  have HC2 := Lib.hid hc2
  have HK2 := Lib.hid hk2
  have HSR := Lib.hid hsrt2
  have hs2 := hc2.size
  clear hk hA hA2 hr hw2 hc2 hk2 hX hs hsrt2
  obtain ⟨fs, hfs⟩ : ∃ fs, fold st.last st.pend = fs := ⟨_, rfl⟩
  have hfs' : st.shown = fs := hfs
  rw [hfs] at HFI
  rw [hfs'] at HSR ⊢
  obtain ⟨n, hn⟩ : ∃ n, fs.length = n := ⟨_, rfl⟩
  unfold RetD at HFI
  rw [hn] at HFI
  have HN := Lib.hid hn
  clear hfs hfs' hn
  go_enter Try.func24, Try.ntmps24
  go_wp2_with fail
  refine HRAW.out.mono ?_
  rintro e w2' ⟨rfl, hw22⟩
  subst hw22
  clear HRAW
  go_wp2_with fail
  refine HFI.out.mono ?_
  rintro e w3 ⟨A3, c3, rfl, hf3, hb3, hat⟩
  have gr3 := blk_below hb3 HK2.out.blk (blk_lt HK2.out.blk)
  have q1 : w3.cell? ⟨r, 1, none⟩ = some (.slice A st.last.length c) := by rw [cell_of_row _ _ _ _ _ _ gr3]; rfl
  have fz1 := frozen_of_row _ _ 1 _ _ gr3
  have lr3 := blk_lt gr3
  have gs := setp_obj (o := 1) (u := .slice A3 n c3) gr3
  have q2 : (w3.setCell ⟨r, 1, none⟩ (.slice A3 n c3)).cell? ⟨r, 2, none⟩ = some (.slice A2 st.pend.length c2) := by rw [cell_of_row _ _ _ _ _ _ gs]; rfl
  have fz2 := frozen_of_row _ _ 2 _ _ gs
  have R3 := Lib.hid (And.intro hf3 (And.intro hb3 (And.intro hat gr3)))
  clear hf3 hb3 hat gr3 gs HFI
  go_wp2_with fail
  go_ret
  obtain ⟨hf3, hb3, hat, gr3⟩ := R3.out
  have hb3s := hb3.size
  have hc6 : Chg (fun k => k = r) w3 ((w3.setCell ⟨r, 1, none⟩ (.slice A3 n c3)).setCell ⟨r, 2, none⟩ (.slice none 0 0)) := (chg_set _ _ _ _).trans (chg_set _ _ _ _) (fun _ _ e => e)
  have hrX := HX.out.2.2
  have hne : ∀ a, A3 = some a → (X a.block ∨ (w2'.heap.size ≤ a.block ∧ a.block < w3.heap.size)) ∧ a.block ≠ r := fun a e => by
    rcases hat with e9 | e9
    · rw [e9] at e; exact ⟨.inl (HX.out.2.1 a e).1, (HX.out.2.1 a e).2⟩
    · have h9 := e9 a e
      exact ⟨.inr h9, by omega⟩
  refine ⟨rfl, ⟨A3, c3, none, 0, ⟨?_, hf3.chg hc6 (fun a e => (hne a e).2), Ls.nil _ _ _, fun _ => rfl, Nat.le_refl _, by omega, HSR.out⟩, fun a e => ⟨?_, (hne a e).2⟩, fun a e => (by cases e), .inl hrX⟩, (HC2.out.trans ((Chg.of_below hb3).mono (S' := fun k => k = r) (fun _ _ e => e.elim)) (fun _ _ e => e)).trans hc6 (fun _ _ e => e)⟩
  · rw [setp_obj (setp_obj gr3), HN.out]
    simp
  · rcases (hne a e).1 with e9 | e9
    · exact .inl e9
    · exact .inr ⟨by omega, by simpa using e9.2⟩
end Go.Proofs.Ytmnliieiiaedeaa.dk
