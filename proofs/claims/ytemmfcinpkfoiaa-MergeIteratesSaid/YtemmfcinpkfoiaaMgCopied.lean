/-
  The law's copied: lists of their own.
-/
import Derived.Test.YtemmfcinpkfoiaaMgMerge
namespace Go.Proofs.Ytemmfcinpkfoiaa.mg
open Go.ChangeShapes Go.WideShapes Go.ChangeAt Go.RowKit Go.Shelf plain words ord mem rg

/-- the first i lists, copied -/
structure Cop (w : World) (ls : List It) (i : Nat) (wr : World) (v1 : Value) (its : List It) : Prop where
  row : Rw HE wr v1 i its
  own : ∀ g, v1.ownBlock = some g → w.heap.size ≤ g
  ok : ∀ x ∈ its, Ow PE wr w.heap.size x.val x.l.length x.l
  map : its.map It.l = (ls.take i).map It.l
  bel : Below w.heap.size w wr
theorem Cop.step {w wr w3 w4 : World} {ls its : List It} {i : Nat} {v1 v4 : Value} {x y : It} (h : Cop w ls i wr v1 its) (hx : ls[i]? = some x) (hb : Below wr.heap.size wr w3)
    (hy : Ow PE w3 wr.heap.size y.val y.l.length y.l) (hv : y.l = x.l) (hr : Rw HE w4 v4 (i + 1) (its ++ [y])) (hg : w3.grownBy w4 v1.ownBlock)
    (hat : v4.ownBlock = v1.ownBlock ∨ v4.ownBlock = some w3.heap.size) : Cop w ls (i + 1) w4 v4 (its ++ [y]) := by
  have hs := h.bel.size
  have hs3 := hb.size
  have hc : Chg (fun b => v1.ownBlock = some b) wr w4 := ((Chg.of_below hb).mono (fun _ _ e => e.elim)).grown hg (fun k hk _ => hk)
  have hc3 : Chg (fun b => v1.ownBlock = some b) w3 w4 := (Chg.refl _ _).grown hg (fun k hk _ => hk)
  refine ⟨hr, fun g hg => ?_, fun z hz => ?_, ?_, h.bel.trans (hc.below hs h.own)⟩
  · rcases hat with e | e
    · exact h.own g (e.symm.trans hg)
    · rw [hg] at e; injection e with e; omega
  · rcases List.mem_append.1 hz with hz | hz
    · refine (h.ok z hz).chg hc fun g hg e => ?_
      obtain ⟨c1, h1⟩ := (h.ok z hz).type hg
      obtain ⟨c2, h2⟩ := h.row.type e
      exact blk_type h1 h2 (by decide) rfl
    · simp at hz; subst hz
      refine (hy.base hs).chg hc3 fun g hg e => ?_
      obtain ⟨c1, h1⟩ := hy.type hg
      obtain ⟨c2, h2⟩ := (h.row.chg (Chg.of_below hb) (fun _ _ e => e)).type e
      exact blk_type h1 h2 (by decide) rfl
  · rw [take_succ_at hx, List.map_append, List.map_append, h.map]
    simp [hv]
def RetCopied (w : World) (ls : List It) (n : Nat) (e : Ending) (w' : World) : Prop :=
  ∃ A c its, e = .returned (.slice A n c) ∧ Cop w ls n w' (.slice A n c) its
set_option maxRecDepth 100000 in
set_option maxHeartbeats 4000000 in
theorem copied_x (w : World) (B n c : Nat) (A : Option Addr) (ls : List It) (h : Lists w B n A ls) (hB : B ≤ w.heap.size) (hn : n ≤ 90000) (hN : (pts ls).length ≤ 90000) :
    Calls Try.prog 20 #[.slice A n c] w (RetCopied w ls n) := by
  have hb0 : Below w.heap.size w (w.alloc (.cells #[] 27)) := (Below.refl _ _).alloc (Nat.le_refl _) _
  have HS := Lib.hid (show Cop w ls 0 (w.alloc (.cells #[] 27)) (.slice (some ⟨w.heap.size, 0, none⟩) 0 0) [] from ⟨Rw.of_ow (Ow.lit w), fun g hg => (by cases hg; exact Nat.le_refl _), fun x hx => (by simp at hx), by simp, hb0⟩)
  have HL := Lib.hid h
  have HLL := Lib.hid h.row.1
  clear h hb0
  go_enter Try.func20, Try.ntmps20
  go_wp2_with fail
  go_loopg [3, 4] n (fun gg s3 s4 wr => ∃ (i : Nat) (its : List It), s4 = .int .i64 i ∧ i ≤ n ∧ n - i ≤ gg ∧ Aside (Cop w ls i wr s3 its))
  case atStart => exact ⟨0, [], rfl, Nat.zero_le _, by omega, HS.out⟩
  case round =>
    clear HS
    obtain ⟨i, its, rfl, hi, hg, S⟩ := hrel
    obtain ⟨wv, rfl⟩ : ∃ wv, wv = wr := ⟨wr, rfl⟩
    obtain ⟨A1, c1, e1, hc11, hc12, hA1⟩ := S.out.row.form
    subst e1
    by_cases hlt : i < n
    · obtain ⟨x, hx⟩ := HL.out.row.get hlt
      have hLv := HL.out.below S.out.bel hB
      obtain ⟨b, off, hA, hbB, hc⟩ := hLv.row.at_ hx
      have hx0 := hc 0 (by decide)
      simp only [HE, Nat.mul_one, Nat.add_zero, itE, It.val, List.getElem?_cons_zero] at hx0
      have hxi := hLv.ok x (List.mem_of_getElem? hx)
      have hxn := pts_at hx
      have hi1 : (i : Int) < (n : Int) := by omega
      have hi0 : (0 : Int) ≤ (i : Int) := by omega
      have hsz := S.out.bel.size
      have hbl : b < wv.heap.size := World.block_lt_of_cell? wv _ hx0
      have HX := Lib.hid hx
      have hbe : Below wv.heap.size wv (wv.alloc (.cells #[] 24)) := (Below.refl _ _).alloc (Nat.le_refl _) _
      have hlit : Ow PE (wv.alloc (.cells #[] 24)) wv.heap.size (.slice (some ⟨wv.heap.size, 0, none⟩) 0 0) 0 [] := Ow.lit wv
      have hxl := hxi.ls.below hbe (by omega)
      have hni := hxi.nil
      have HBE := Lib.hid hbe
      have HLIT := Lib.hid hlit
      subst hA
      clear hx hLv hc hxi hbe
      go_wp2_with (at_builtin; first
        | (refine append_p rfl (.tmp 15) (.tmp 19) rfl wv.heap.size _ 0 [] (by rfl) hlit B x.A x.l.length x.c hni x.l (by rfl) hxl (by omega) (by simp) ?_
           intro A2 c2 w2 hown2 hg2 hA2 hc21 hc22 hs2
           simp only [Nat.zero_add, List.nil_append] at hown2 ⊢
           have hb2 : Below wv.heap.size wv w2 := HLIT.out.below_grown HBE.out hg2 (by simp)
           have hb3 : Below wv.heap.size wv (w2.alloc (.cells #[.slice A2 x.l.length c2] 27)) := hb2.alloc hb2.size _
           have hb23 : Below w2.heap.size w2 (w2.alloc (.cells #[.slice A2 x.l.length c2] 27)) := (Below.refl _ _).alloc (Nat.le_refl _) _
           have hnews : Ls HE (w2.alloc (.cells (HE.enc ⟨A2, c2, x.l⟩).toArray 27)) (w2.heap.size + 1) (some ⟨w2.heap.size, 0, none⟩) 1 [⟨A2, c2, x.l⟩] := ls_new _ _
           have he : (HE.enc ⟨A2, c2, x.l⟩).toArray = #[.slice A2 x.l.length c2] := by simp [HE, itE, It.val]
           rw [he] at hnews
           have hrow3 := S.out.row.chg (Chg.of_below hb3) (fun _ _ e => e)
           have OW := Lib.hid (hown2.below hb23 (Nat.le_refl _))
           have B3 := Lib.hid hb3
           clear hown2 hg2 hA2 hb2 hb3 hb23 he hxl hlit hs2)
        | (refine append_l rfl (.tmp 14) (.tmp 21) rfl _ i its (by rfl) hrow3 _ _ 1 1 (fun e => by cases e) [⟨A2, c2, x.l⟩] (by rfl) hnews (by omega) ?_
           intro v9 w9 hown9 hgrow9 hat9
           have S9 := Lib.hid (S.out.step (y := ⟨A2, c2, x.l⟩) HX.out B3.out OW.out rfl hown9 hgrow9 hat9)
           clear hown9 hgrow9 hat9 hnews hrow3))
      go_roundg (n - (i + 1))
      case measure => omega
      case rel => exact ⟨i + 1, _, by go_num, by omega, by omega, S9.out⟩
    · have hi1 : ¬ (i : Int) < (n : Int) := by omega
      have hin : i = n := by omega
      subst hin
      go_wp2_with fail
      go_ret
      exact ⟨A1, c1, its, rfl, S.out⟩
end Go.Proofs.Ytemmfcinpkfoiaa.mg
