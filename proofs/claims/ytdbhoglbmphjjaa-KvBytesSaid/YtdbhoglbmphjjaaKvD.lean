/-
  Bytes as a placement: the program's Decode.
-/
import Derived.Test.YtdbhoglbmphjjaaKvM
import Derived.Test.YtdbhoglbmphjjaaUvC
import Derived.Test.YtdbhoglbmphjjaaRow
import Derived.Test.YtdbhoglbmphjjaaPmC
import Derived.Test.YtdbhoglbmphjjaaPmE
namespace Go.Proofs.Ytdbhoglbmphjjaa.kv
open Go.ChangeShapes Go.WideShapes Go.ChangeAt Go.RowKit plain words ord mem uvs uvc pm

/-- the two variables of the reader: what is left, and whether all was well -/
structure DS (w : World) (gb gk B : Nat) (s : St) : Prop where
  rest : ∃ A n c, w.heap[gb]? = some (.cells #[.slice A n c] 26 (0, 0)) ∧ Bs w B A n s.1 ∧ n ≤ c ∧ c ≤ 9223372036854775807 ∧ n ≤ 1099511627776 ∧ B ≤ gb
  ok : w.heap[gk]? = some (.cells #[.bool s.2] 4 (0, 0))
  lok : B ≤ gk
theorem DS.ne {w : World} {gb gk B : Nat} {s : St} (h : DS w gb gk B s) : gb ≠ gk := by
  obtain ⟨A, n, c, h1, _⟩ := h.rest
  exact blk_type h1 h.ok (by decide)
theorem bs_cut2 {w : World} {B n b off c k : Nat} {bs : List UInt8} (h : Bs w B (some ⟨b, off, none⟩) n bs) (hk : k ≤ n) (hc : n ≤ c) : Bs w B (if c = k then some ⟨b, off, none⟩ else some ⟨b, off + k, none⟩) (n - k) (bs.drop k) := bs_cut h hk hc
theorem rd_no {s : St} (h : (ru s.1 0 0).2 = 0 ∨ 1099511627776 < (ru s.1 0 0).1) : rd s = (0, (s.1, false)) := by unfold rd; rw [if_pos h]
theorem rd_yes {s : St} (h1 : (ru s.1 0 0).2 ≠ 0) (h2 : (ru s.1 0 0).1 ≤ 1099511627776) : rd s = (((ru s.1 0 0).1 : Int), (s.1.drop (ru s.1 0 0).2, s.2)) := by unfold rd; rw [if_neg (by omega)]
theorem cset (w : World) (g : Nat) (u : Value) : Chg (fun k => k = g) w (w.setCell ⟨g, 0, none⟩ u) := Chg.setCell (S := fun k => k = g) (Chg.refl _ _) (p := ⟨g, 0, none⟩) (fun _ => rfl) u
/-- the flag is laid down .. -/
theorem DS.flag {w : World} {gb gk B : Nat} {s : St} (h : DS w gb gk B s) (hB : B ≤ w.heap.size) (x : Bool) : DS (w.setCell ⟨gk, 0, none⟩ (.bool x)) gb gk B (s.1, x) ∧ Chg (fun k => k = gb ∨ k = gk) w (w.setCell ⟨gk, 0, none⟩ (.bool x)) := by
  have hne := h.ne
  obtain ⟨⟨A, n, c, hg, hb, h1, h2, h3, h4⟩, hk, h5⟩ := h
  have hc := cset w gk (.bool x)
  refine ⟨⟨⟨A, n, c, hc.blk hg hne, hb.below (hc.below hB (fun k e => by omega)) (Nat.le_refl _), h1, h2, h3, h4⟩, ?_, h5⟩, hc.mono (fun _ _ e => .inr e)⟩
  have := heap_setCell_same w gk 0 _ _ (.bool x) hk
  simpa using this
/-- .. and what is left -/
theorem DS.left {w : World} {gb gk B : Nat} {s : St} (h : DS w gb gk B s) (hB : B ≤ w.heap.size) {A : Option Addr} {n c : Nat} {r : List UInt8} (hb : Bs w B A n r) (h1 : n ≤ c) (h2 : c ≤ 9223372036854775807) (h3 : n ≤ 1099511627776) : DS (w.setCell ⟨gb, 0, none⟩ (.slice A n c)) gb gk B (r, s.2) ∧ Chg (fun k => k = gb ∨ k = gk) w (w.setCell ⟨gb, 0, none⟩ (.slice A n c)) := by
  have hne := h.ne
  obtain ⟨⟨A0, n0, c0, hg, _, _, _, _, h4⟩, hk, h5⟩ := h
  have hc := cset w gb (.slice A n c)
  refine ⟨⟨⟨A, n, c, ?_, hb.below (hc.below hB (fun k e => by omega)) (Nat.le_refl _), h1, h2, h3, h4⟩, hc.blk hk (fun e => hne e.symm), h5⟩, hc.mono (fun _ _ e => .inl e)⟩
  have := heap_setCell_same w gb 0 _ _ (.slice A n c) hg
  simpa using this
def RetRd (w : World) (gb gk B : Nat) (s : St) (e : Ending) (w' : World) : Prop := e = .returned (.int .i64 (rd s).1) ∧ DS w' gb gk B (rd s).2 ∧ Chg (fun k => k = gb ∨ k = gk) w w'
set_option maxHeartbeats 1000000 in
theorem next_x (w : World) (gb gk B : Nat) (s : St) (h : DS w gb gk B s) (hB : B ≤ w.heap.size) :
    Calls Try.prog 15 #[.pointer (some ⟨gb, 0, none⟩), .pointer (some ⟨gk, 0, none⟩)] w (RetRd w gb gk B s) := by
  have hne := h.ne
  have HDS := Lib.hid h
  obtain ⟨⟨A, n, c, hg, hb, hnc, hc, hn, hgB⟩, hk, hkB⟩ := h
  have c0 : w.cell? ⟨gb, 0, none⟩ = some (.slice A n c) := by rw [cell_of_row _ _ _ _ _ _ hg]; rfl
  have f0 := frozen_of_row w gb 0 _ _ hg
  have k0 : w.cell? ⟨gk, 0, none⟩ = some (.bool s.2) := by rw [cell_of_row _ _ _ _ _ _ hk]; rfl
  have kf := frozen_of_row w gk 0 _ _ hk
  have hgl := blk_lt hg
  have hkl := blk_lt hk
  have HR := Lib.hid (readuv_x w B n c A s.1 hb hn)
  obtain ⟨r, hr⟩ : ∃ r, ru s.1 0 0 = r := ⟨_, rfl⟩
  rw [hr] at HR
  have HRE := Lib.hid hr
  have HG := Lib.hid hg
  have HK := Lib.hid hk
  have HBS := Lib.hid hb
  obtain ⟨v, k⟩ := r
  simp only [RetNum] at HR
  clear hg hk hb hr
  by_cases h0 : k = 0
  · subst h0
    have HD := Lib.hid (rd_no (s := s) (.inl (by rw [HRE.out])))
    go_enter Try.func15, Try.ntmps15
    go_wp2_with (fail)
    refine HR.out.mono ?_
    rintro e w' ⟨rfl, rfl⟩
    go_wp2_with (fail)
    go_ret
    obtain ⟨t1, t2⟩ := HDS.out.flag hB false
    exact ⟨by rw [HD.out]; rfl, by rw [HD.out]; exact t1, t2⟩
  · by_cases hv : 1099511627776 < v
    · have HD := Lib.hid (rd_no (s := s) (.inr (by rw [HRE.out]; exact hv)))
      have hvi : (1099511627776 : Int) < (v : Int) := by omega
      have hki : ((k : Int) == 0) = false := by simp; omega
      go_enter Try.func15, Try.ntmps15
      go_wp2_with (fail)
      refine HR.out.mono ?_
      rintro e w' ⟨rfl, rfl⟩
      go_wp2_with (fail)
      go_ret
      obtain ⟨t1, t2⟩ := HDS.out.flag hB false
      exact ⟨by rw [HD.out]; rfl, by rw [HD.out]; exact t1, t2⟩
    · have HD := Lib.hid (rd_yes (s := s) (by rw [HRE.out]; exact h0) (by rw [HRE.out]; omega))
      have hvi : ¬ (1099511627776 : Int) < (v : Int) := by omega
      have hki : ((k : Int) == 0) = false := by simp; omega
      have hkn : k ≤ n := by
        obtain ⟨_, h2, _⟩ := ru_back0 s.1 v k HRE.out h0
        rw [HBS.out.len_] at h2
        exact h2
      obtain ⟨b, off, hA, hbB⟩ := Rd.some_of HBS.out (n := 0) (by omega)
      subst hA
      go_enter Try.func15, Try.ntmps15
      go_wp2_with (fail)
      refine HR.out.mono ?_
      rintro e w' ⟨rfl, rfl⟩
      go_wp2_with (fail)
      · go_ret
        obtain ⟨t1, t2⟩ := HDS.out.left hB (A := some ⟨b, off, none⟩) (n := n - k) (c := 0) (by have := bs_cut2 HBS.out hkn hnc; rwa [if_pos (by assumption)] at this) (by omega) (by omega) (by omega)
        exact ⟨by rw [HD.out, HRE.out]; rfl, by rw [HD.out, HRE.out]; exact t1, t2⟩
      · go_ret
        obtain ⟨t1, t2⟩ := HDS.out.left hB (A := some ⟨b, off + k, none⟩) (n := n - k) (c := c - k) (by have := bs_cut2 HBS.out hkn hnc; rwa [if_neg (by assumption)] at this) (by omega) (by omega) (by omega)
        exact ⟨by rw [HD.out, HRE.out]; rfl, by rw [HD.out, HRE.out]; exact t1, t2⟩
end Go.Proofs.Ytdbhoglbmphjjaa.kv
