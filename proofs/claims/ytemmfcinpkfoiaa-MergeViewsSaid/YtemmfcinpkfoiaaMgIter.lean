/-
  The iterator: iterate.
-/
import Derived.Test.YtemmfcinpkfoiaaMgNext
namespace Go.Proofs.Ytemmfcinpkfoiaa.mg
open Go.ChangeShapes Go.WideShapes Go.ChangeAt Go.RowKit Go.Shelf plain words ord mem rg

theorem Hd.grow {w w3 : World} {H p n : Nat} {v v3 : Value} {its : List It} {x : It} (h : Hd w H p v its) (hx : ItOk w H x) (hn : its.length + 1 = n) (hr : Rw HE w3 v3 n (its ++ [x])) (hg : w.grownBy w3 v.ownBlock)
    (hat : v3.ownBlock = v.ownBlock ∨ v3.ownBlock = some w.heap.size) :
    w3.cell? ⟨p, 0, none⟩ = some v ∧ w3.frozen? ⟨p, 0, none⟩ = false ∧ Hd (w3.setCell ⟨p, 0, none⟩ v3) H p v3 (its ++ [x]) ∧ HdTo p w v (w3.setCell ⟨p, 0, none⟩ v3) v3 := by
  have hpv : ∀ g, v.ownBlock = some g → p ≠ g := fun g hg => h.ne hg
  have hlt := h.lt
  have hp3 : w3.heap[p]? = some (.cells #[v] 55 (0, 0)) := (hg.block p hlt (fun e => hpv p e.symm rfl)).trans h.at_
  have hch3 : Chg (fun b => b = p ∨ v.ownBlock = some b) w w3 := (Chg.refl _ _).grown hg (fun k hk _ => .inr hk)
  have hpg : ∀ g, v3.ownBlock = some g → p ≠ g := fun g hg => by
    rcases hat with e | e
    · exact hpv g (e.symm.trans hg)
    · rw [hg] at e; injection e with e; omega
  have hch4 : Chg (fun b => b = p) w3 (w3.setCell ⟨p, 0, none⟩ v3) := (Chg.refl (fun b => b = p) w3).setCell (p := ⟨p, 0, none⟩) (fun _ => rfl) _
  have hall : Chg (fun b => b = p ∨ v.ownBlock = some b) w (w3.setCell ⟨p, 0, none⟩ v3) := hch3.setCell (p := ⟨p, 0, none⟩) (fun _ => .inl rfl) _
  have hbl : Below H w (w3.setCell ⟨p, 0, none⟩ v3) := (HdTo.mk (v' := v) hall (fun g h => .inl h)).below h
  refine ⟨by rw [cell_of_row _ _ _ _ _ _ hp3]; rfl, frozen_of_row _ _ _ _ _ hp3, ⟨?_, h.lo, ?_, fun g hg => ?_, fun y hy => ?_⟩, hall, fun g hg => ?_⟩
  · have := heap_setCell_same w3 p 0 _ _ v3 hp3
    simpa using this
  · have e : (its ++ [x]).length = n := by simp [hn]
    rw [e]
    exact hr.chg hch4 (fun g hg e => hpg g hg e.symm)
  · rcases hat with e | e
    · exact h.own g (e.symm.trans hg)
    · rw [hg] at e; injection e with e; have := h.lo; omega
  · rcases List.mem_append.1 hy with hy | hy
    · exact (h.ok y hy).below hbl (Nat.le_refl _)
    · simp at hy; subst hy; exact hx.below hbl (Nat.le_refl _)
  · rcases hat with e | e
    · exact .inl (e.symm.trans hg)
    · rw [hg] at e; injection e with e; exact .inr (by omega)
/-- a list that may be empty -/
structure ItL (w : World) (H : Nat) (x : It) : Prop where
  ls : Ls PE w H x.A x.l.length x.l
  cap : x.l.length ≤ x.c
  most : x.c ≤ 9223372036854775807
theorem ItL.below {w w' : World} {H C : Nat} {x : It} (h : ItL w H x) (hb : Below C w w') (hC : H ≤ C) : ItL w' H x := ⟨h.ls.below hb hC, h.cap, h.most⟩
/-- the lists that are not empty -/
def full (l : List It) : List It := l.filter fun x => decide (0 < x.l.length)
theorem pts_full (l : List It) : pts (full l) = pts l := by
  induction l with
  | nil => rfl
  | cons x l ih =>
    simp only [full, List.filter_cons]
    split
    · simp only [pts, List.flatMap_cons]
      rw [← show (full l).flatMap It.l = pts (full l) from rfl, ← show l.flatMap It.l = pts l from rfl] at ih
      simp only [full] at ih
      rw [ih]
    · next h =>
      have : x.l = [] := by
        cases hx : x.l with
        | nil => rfl
        | cons a t => simp [hx] at h
      simp only [pts, List.flatMap_cons, this, List.nil_append]
      exact ih
theorem take_succ_at {α : Type} {l : List α} {i : Nat} {x : α} (h : l[i]? = some x) : l.take (i + 1) = l.take i ++ [x] := by
  have hi := lt_of_at h
  rw [List.getElem?_eq_getElem hi] at h
  injection h with h
  rw [List.take_succ_eq_append_getElem hi, h]
def RetIter (w : World) (ls : List It) (e : Ending) (w' : World) : Prop :=
  ∃ p v its, e = .returned (hp p) ∧ Hd w' w.heap.size p v its ∧ Below w.heap.size w w' ∧ its.Perm (full ls) ∧ Hf its 0 its.length
set_option maxRecDepth 100000 in
set_option maxHeartbeats 4000000 in
theorem iterate_x (w : World) (B n c : Nat) (A : Option Addr) (ls : List It) (h : Ls HE w B A n ls) (hB : B ≤ w.heap.size) (hn : n ≤ 90000) (hok : ∀ x ∈ ls, ItL w w.heap.size x) :
    Calls Try.prog 42 #[.slice A n c] w (RetIter w ls) := by
  obtain ⟨p, hp⟩ : ∃ p, w.heap.size = p := ⟨_, rfl⟩
  obtain ⟨w1, hw1⟩ : ∃ w1, w.alloc (.cells #[.slice none 0 0] 55) = w1 := ⟨_, rfl⟩
  have hb1 : Below w.heap.size w w1 := by rw [← hw1]; exact (Below.refl _ _).alloc (Nat.le_refl _) _
  have hd1 : Hd w1 w.heap.size p (.slice none 0 0) (full (ls.take 0)) := by
    refine ⟨by rw [← hw1, ← hp]; exact alloc_new _ _, by omega, by simp only [List.take_zero, full, List.filter_nil]; exact Rw.nil _, fun g hg => (by cases hg), fun x hx => (by simp [full] at hx)⟩
  have HL := Lib.hid h
  have HO := Lib.hid hok
  have HP := Lib.hid hp
  have HW := Lib.hid hw1
  have HB := Lib.hid hb1
  have HD := Lib.hid hd1
  have hll := h.1
  have HLL := Lib.hid hll
  clear h hok hp hw1 hb1 hd1 hll
  go_enter Try.func42, Try.ntmps42
  go_wp2_with fail
  rw [HW.out, HP.out]
  go_loopg [5, 10] n (fun gg s5 s10 wr => ∃ (i : Nat) (v1 : Value), s10 = .int .i64 i ∧ i ≤ n ∧ n - i ≤ gg ∧ Aside (Hd wr w.heap.size p v1 (full (ls.take i))) ∧ Aside (Below w.heap.size w wr))
  case atStart => exact ⟨0, _, rfl, Nat.zero_le _, by omega, HD.out, HB.out⟩
  case round =>
    clear HD HB HW
    obtain ⟨i, v1, rfl, hi, hg, D, BW⟩ := hrel
    obtain ⟨wv, rfl⟩ : ∃ wv, wv = wr := ⟨wr, rfl⟩
    have c0 := D.out.cell
    by_cases hlt : i < n
    · obtain ⟨x, hx⟩ := HL.out.get hlt
      have hls := HL.out.below BW.out hB
      obtain ⟨b, off, hA, hbB, hc⟩ := hls.at_ hx
      have hx0 := hc 0 (by decide)
      simp only [HE, Nat.mul_one, Nat.add_zero, itE, It.val, List.getElem?_cons_zero] at hx0
      have hxok := (HO.out x (List.mem_of_getElem? hx)).below BW.out (Nat.le_refl _)
      have htk := take_succ_at hx
      have hi1 : (i : Int) < (n : Int) := by omega
      have hi0 : (0 : Int) ≤ (i : Int) := by omega
      have hxc := hxok.cap
      have hxm := hxok.most
      have hbl : b < wv.heap.size := World.block_lt_of_cell? wv _ hx0
      subst hA
      have HX := Lib.hid hxok
      have HT := Lib.hid htk
      clear hx hls hc hxok htk
      obtain ⟨k, hk⟩ : ∃ k, x.l.length = k := ⟨_, rfl⟩
      rw [hk] at hx0 hxc
      have HK := Lib.hid hk
      clear hk
      by_cases hz : k = 0
      · subst hz
        go_wp2_with fail
        go_roundg (n - (i + 1))
        case measure => omega
        case rel =>
          refine ⟨i + 1, v1, by go_num, by omega, by omega, ?_, BW.out⟩
          show Hd _ _ _ _ _
          rw [HT.out]
          have e : full (ls.take i ++ [x]) = full (ls.take i) := by simp [full, HK.out]
          rw [e]
          exact D.out
      · have hz1 : (0 : Int) < (k : Int) := by omega
        have hb2 : Below wv.heap.size wv (wv.alloc (.cells #[.slice x.A k x.c] 27)) := (Below.refl _ _).alloc (Nat.le_refl _) _
        have hnews : Ls HE (wv.alloc (.cells (HE.enc x).toArray 27)) (wv.heap.size + 1) (some ⟨wv.heap.size, 0, none⟩) 1 [x] := ls_new _ x
        have he : (HE.enc x).toArray = #[.slice x.A k x.c] := by simp [HE, itE, It.val, HK.out]
        rw [he] at hnews
        have hd2 := D.out.quiet (Chg.of_below hb2)
        have hrow2 := hd2.row
        have hok2 : ItOk wv w.heap.size x := ⟨HX.out.ls, fun e => by have := HK.out; rw [e] at this; exact hz this.symm, HX.out.cap, HX.out.most⟩
        have hok2 := hok2.below hb2 (C := wv.heap.size) (BW.out.size)
        have hfl : (full (ls.take i)).length ≤ i := Nat.le_trans (List.length_filter_le _ _) (by rw [List.length_take]; omega)
        have D2 := Lib.hid hd2
        have O2 := Lib.hid hok2
        have B2 := Lib.hid (BW.out.trans (hb2.mono BW.out.size))
        clear hb2 hd2 hok2 he
        go_wp2_with (at_builtin; refine append_h rfl (.tmp 21) (.tmp 23) rfl v1 _ (full (ls.take i)) (by rfl) hrow2 _ _ 1 1 (fun e => by cases e) [x] (by rfl) hnews (by omega) ?_; intro v3 w3 hown3 hgrow hat; obtain ⟨A3, c3, rfl, hc31, hc32, _⟩ := hown3.form; obtain ⟨cc3, ff3, hd3, ht3⟩ := D2.out.grow O2.out rfl hown3 hgrow hat; have D3 := Lib.hid hd3; have T3 := Lib.hid ht3; clear hd3 ht3 hown3 hgrow hat hnews hrow2)
        go_roundg (n - (i + 1))
        case measure => omega
        case rel =>
          refine ⟨i + 1, .slice A3 ((full (ls.take i)).length + 1) c3, by go_num, by omega, by omega, ?_, B2.out.trans (T3.out.below D2.out)⟩
          show Hd _ _ _ _ _
          rw [HT.out]
          have e : full (ls.take i ++ [x]) = full (ls.take i) ++ [x] := by
            have hz0 : 0 < k := by omega
            simp [full, HK.out, hz0]
          rw [e]
          exact D3.out
    · have hi1 : ¬ (i : Int) < (n : Int) := by omega
      have hin : i = n := by omega
      have D2 := D.out
      rw [hin, List.take_of_length_le (Nat.le_of_eq HLL.out)] at D2
      have hfl : (full ls).length ≤ 100000 := Nat.le_trans (List.length_filter_le _ _) (by rw [HLL.out]; omega)
      have DD := Lib.hid D2
      have HI := Lib.hid (init_x wv w.heap.size p v1 (full ls) D2 _ rfl hfl)
      clear D2 hin hfl
      go_wp2_with fail
      refine HI.out.mono ?_
      rintro e w2 ⟨v2, its2, rfl, hs2, hf2⟩
      have S2 := Lib.hid hs2
      have F2 := Lib.hid hf2
      clear hs2 hf2 HI
      go_wp2_with fail
      go_ret
      refine ⟨p, v2, its2, rfl, S2.out.hd, BW.out.trans (S2.out.fr.below DD.out), S2.out.perm, ?_⟩
      rw [S2.out.perm.length_eq]
      exact F2.out
end Go.Proofs.Ytemmfcinpkfoiaa.mg
