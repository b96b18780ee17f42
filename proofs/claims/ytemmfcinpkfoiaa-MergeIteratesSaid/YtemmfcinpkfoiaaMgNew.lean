/-
  merge.New.
-/
import Derived.Test.YtemmfcinpkfoiaaMgCopied
namespace Go.Proofs.Ytemmfcinpkfoiaa.mg
open Go.ChangeShapes Go.WideShapes Go.ChangeAt Go.RowKit Go.Shelf plain words ord mem rg

/-- an iterator over copies of the lists, that lie at its heap size's end -/
def RetNew (w : World) (ls : List It) (e : Ending) (w' : World) : Prop :=
  ∃ H p v its its0, e = .returned (hp p) ∧ Hd w' H p v its ∧ w.heap.size ≤ H ∧ its.Perm (full its0) ∧ its0.map It.l = ls.map It.l ∧ Hf its 0 its.length ∧ (∀ x ∈ its, ∀ b off, x.A = some ⟨b, off, none⟩ → w.heap.size ≤ b) ∧ Below w.heap.size w w'
set_option maxRecDepth 100000 in
set_option maxHeartbeats 4000000 in
theorem new_x (w : World) (B n c : Nat) (A : Option Addr) (ls : List It) (h : Lists w B n A ls) (hB : B ≤ w.heap.size) (hn : n ≤ 90000) (hN : (pts ls).length ≤ 90000) :
    Calls Try.prog 25 #[.slice A n c] w (RetNew w ls) := by
  obtain ⟨i0, hi, hz0, hz1, hz2⟩ := info_parts infoH
  obtain ⟨w1, hmk, hown1, hg1⟩ := run_make_own (P := Try.prog) w w.heap.size 28 HE.e i0 _ 1 Try.underlying28 hi hz0 hz1 .i64 .i64 n (by rw [hz2]; omega) (by unfold maxLen; omega) (Nat.le_refl _)
  have hrow1 : Rw HE w1 (.slice (some ⟨w.heap.size, 0, none⟩) 0 n) 0 [] := ⟨rfl, Row.of_own hown1⟩
  have hb1 : Below w.heap.size w w1 := ⟨hg1.os, hg1.tape, hg1.output, hg1.size, fun k hk => hg1.block k hk (by simp)⟩
  have HS := Lib.hid (show Cop w ls 0 w1 (.slice (some ⟨w.heap.size, 0, none⟩) 0 n) [] from ⟨hrow1, fun g hg => (by cases hg; exact Nat.le_refl _), fun x hx => (by simp at hx), by simp, hb1⟩)
  have HL := Lib.hid h
  have HLL := Lib.hid h.row.1
  clear h hi hz0 hz1 hz2 hown1 hg1 hrow1 hb1
  go_enter Try.func25, Try.ntmps25
  go_wp2_with fail
  go_loopg [3, 5, 11] n (fun gg s3 s5 s11 wr => ∃ (i : Nat) (its : List It), s11 = .int .i64 i ∧ i ≤ n ∧ n - i ≤ gg ∧ Aside (Cop w ls i wr s3 its))
  case atStart => exact ⟨0, [], rfl, Nat.zero_le _, by omega, HS.out⟩
  case round =>
    clear HS hmk
    obtain ⟨i, its, rfl, hi, hg, S⟩ := hrel
    obtain ⟨wv, rfl⟩ : ∃ wv, wv = wr := ⟨wr, rfl⟩
    obtain ⟨A1, c1, e1, hc11, hc12, hA1⟩ := S.out.row.form
    subst e1
    by_cases hlt : i < n
    · obtain ⟨x, hx⟩ := HL.out.row.get hlt
      have hLv := HL.out.below S.out.bel hB
      obtain ⟨b, off, hA, hbB, hc⟩ := hLv.row.at_ hx
      have hx0 := hc 0 (by decide)
      simp only [HE, Nat.mul_one, Nat.add_zero, itE, It.val, List.getElem?_cons_zero] at hx0
      have hxi := hLv.ok x (List.mem_of_getElem? hx)
      have hxn := pts_at hx
      have hi1 : (i : Int) < (n : Int) := by omega
      have hi0 : (0 : Int) ≤ (i : Int) := by omega
      have hsz := S.out.bel.size
      have HV := Lib.hid (clone_p wv B _ x.c x.A x.l hxi.ls hxi.nil (by omega) (by omega))
      have hbl : b < wv.heap.size := World.block_lt_of_cell? wv _ hx0
      have HX := Lib.hid hx
      subst hA
      clear hx hLv hc hxi
      go_wp2_with fail
      refine HV.out.mono ?_
      rintro e w2 ⟨A2, c2, rfl, hown2, hb2⟩
      have hb3 : Below wv.heap.size wv (w2.alloc (.cells #[.slice A2 x.l.length c2] 27)) := hb2.alloc hb2.size _
      have hb23 : Below w2.heap.size w2 (w2.alloc (.cells #[.slice A2 x.l.length c2] 27)) := (Below.refl _ _).alloc (Nat.le_refl _) _
      have hnews : Ls HE (w2.alloc (.cells (HE.enc ⟨A2, c2, x.l⟩).toArray 27)) (w2.heap.size + 1) (some ⟨w2.heap.size, 0, none⟩) 1 [⟨A2, c2, x.l⟩] := ls_new _ _
      have he : (HE.enc ⟨A2, c2, x.l⟩).toArray = #[.slice A2 x.l.length c2] := by simp [HE, itE, It.val]
      rw [he] at hnews
      have hrow3 := S.out.row.chg (Chg.of_below hb3) (fun _ _ e => e)
      have OW := Lib.hid (hown2.below hb23 (Nat.le_refl _))
      have B3 := Lib.hid hb3
      clear hown2 hb2 hb3 hb23 he HV
      go_wp2_with (at_builtin; refine append_l rfl (.tmp 15) (.tmp 18) rfl _ i its (by rfl) hrow3 _ _ 1 1 (fun e => by cases e) [⟨A2, c2, x.l⟩] (by rfl) hnews (by omega) ?_; intro v9 w9 hown9 hgrow9 hat9; have S9 := Lib.hid (S.out.step (y := ⟨A2, c2, x.l⟩) HX.out B3.out OW.out rfl hown9 hgrow9 hat9); clear hown9 hgrow9 hat9 hnews hrow3)
      go_roundg (n - (i + 1))
      case measure => omega
      case rel => exact ⟨i + 1, _, by go_num, by omega, by omega, S9.out⟩
    · have hi1 : ¬ (i : Int) < (n : Int) := by omega
      have hin : i = n := by omega
      subst hin
      have hsz := S.out.bel.size
      have hik : ∀ y ∈ its, ItL wv wv.heap.size y := fun y hy => by
        have h1 := S.out.ok y hy
        obtain ⟨A', c', e1, e2, e3, e4⟩ := h1.form
        cases e1
        exact ⟨h1.ls, e3, e4⟩
      have HI := Lib.hid (iterate_x wv wv.heap.size i c1 A1 its S.out.row.ls (Nat.le_refl _) hn hik)
      have SS := Lib.hid S.out
      clear hik S
      go_wp2_with fail
      refine HI.out.mono ?_
      rintro e w2 ⟨p, v2, its2, rfl, hd2, hb2, hp2, hf2⟩
      have D2 := Lib.hid hd2
      have B2 := Lib.hid hb2
      have P2 := Lib.hid hp2
      have F2 := Lib.hid hf2
      clear hd2 hb2 hp2 hf2 HI
      go_wp2_with fail
      go_ret
      refine ⟨wv.heap.size, p, v2, its2, its, rfl, D2.out, hsz, P2.out, ?_, F2.out, fun x hx b off e => ?_, SS.out.bel.trans (B2.out.mono hsz)⟩
      · rw [SS.out.map, List.take_of_length_le (Nat.le_of_eq HLL.out)]
      · have hxi : x ∈ its := (List.mem_filter.1 (P2.out.mem_iff.1 hx)).1
        have h1 := SS.out.ok x hxi
        have hv : x.val.ownBlock = some b := by rw [It.val, e]; rfl
        exact (h1.lt b hv).1
end Go.Proofs.Ytemmfcinpkfoiaa.mg
