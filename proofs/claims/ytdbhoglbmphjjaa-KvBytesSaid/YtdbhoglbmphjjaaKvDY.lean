/-
  Bytes as a placement: the document's Decode: its reader.
-/
import Derived.Test.YtdbhoglbmphjjaaKvDX
namespace Go.Proofs.Ytdbhoglbmphjjaa.kv
open Go.ChangeShapes Go.WideShapes Go.ChangeAt Go.RowKit Go.Shelf plain words ord mem uvs uvc pm

/-- the reader: what is left, and whether all was well -/
def DSy (w : World) (gi B : Nat) (s : St) : Prop := ∃ A n c, w.heap[gi]? = some (.cells #[.slice A n c, .bool (!s.2)] 47 (0, 0)) ∧ Bs w B A n s.1 ∧ n ≤ c ∧ c ≤ 9223372036854775807 ∧ n ≤ 1099511627776 ∧ B ≤ gi
theorem cseto (w : World) (g o : Nat) (u : Value) : Chg (fun k => k = g) w (w.setCell ⟨g, o, none⟩ u) := Chg.setCell (S := fun k => k = g) (Chg.refl _ _) (p := ⟨g, o, none⟩) (fun _ => rfl) u
theorem DSy.chg {S : Nat → Prop} {w w' : World} {gi B : Nat} {s : St} (h : DSy w gi B s) (hc : Chg S w w') (hB : B ≤ w.heap.size) (h1 : ¬ S gi) (h3 : ∀ k, S k → B ≤ k) : DSy w' gi B s := by
  obtain ⟨A, n, c, hg, hb, k1, k2, k3, k4⟩ := h
  exact ⟨A, n, c, hc.blk hg h1, hb.below (hc.below hB h3) (Nat.le_refl _), k1, k2, k3, k4⟩
theorem DSy.flag {w : World} {gi B : Nat} {s : St} (h : DSy w gi B s) (hB : B ≤ w.heap.size) : DSy (w.setCell ⟨gi, 1, none⟩ (.bool true)) gi B (s.1, false) ∧ Chg (fun k => k = gi) w (w.setCell ⟨gi, 1, none⟩ (.bool true)) := by
  obtain ⟨A, n, c, hg, hb, h1, h2, h3, h4⟩ := h
  have hc := cseto w gi 1 (.bool true)
  refine ⟨⟨A, n, c, ?_, hb.below (hc.below hB (fun k e => by omega)) (Nat.le_refl _), h1, h2, h3, h4⟩, hc⟩
  have := heap_setCell_same w gi 1 _ _ (.bool true) hg
  simpa using this
theorem DSy.left {w : World} {gi B : Nat} {s : St} (h : DSy w gi B s) (hB : B ≤ w.heap.size) {A : Option Addr} {n c : Nat} {r : List UInt8} (hb : Bs w B A n r) (h1 : n ≤ c) (h2 : c ≤ 9223372036854775807) (h3 : n ≤ 1099511627776) : DSy (w.setCell ⟨gi, 0, none⟩ (.slice A n c)) gi B (r, s.2) ∧ Chg (fun k => k = gi) w (w.setCell ⟨gi, 0, none⟩ (.slice A n c)) := by
  obtain ⟨A0, n0, c0, hg, _, _, _, _, h4⟩ := h
  have hc := cseto w gi 0 (.slice A n c)
  refine ⟨⟨A, n, c, ?_, hb.below (hc.below hB (fun k e => by omega)) (Nat.le_refl _), h1, h2, h3, h4⟩, hc⟩
  have := heap_setCell_same w gi 0 _ _ (.slice A n c) hg
  simpa using this
def RetRdy (w : World) (gi B : Nat) (s : St) (e : Ending) (w' : World) : Prop := e = .returned (.int .i64 (rd s).1) ∧ DSy w' gi B (rd s).2 ∧ Chg (fun k => k = gi) w w'
set_option maxHeartbeats 1000000 in
theorem number_y (w : World) (gi B : Nat) (s : St) (h : DSy w gi B s) (hB : B ≤ w.heap.size) :
    Calls Try.prog 17 #[.pointer (some ⟨gi, 0, none⟩)] w (RetRdy w gi B s) := by
  have HDS := Lib.hid h
  obtain ⟨A, n, c, hg, hb, hnc, hc, hn, hgB⟩ := h
  have c0 : w.cell? ⟨gi, 0, none⟩ = some (.slice A n c) := by rw [cell_of_row _ _ _ _ _ _ hg]; rfl
  have hgl := blk_lt hg
  have HR := Lib.hid (readuv_y w B n c A s.1 hb hB hnc hc hn)
  obtain ⟨r, hr⟩ : ∃ r, ru s.1 0 0 = r := ⟨_, rfl⟩
  rw [hr] at HR
  have HRE := Lib.hid hr
  have HG := Lib.hid hg
  have HBS := Lib.hid hb
  obtain ⟨v, k⟩ := r
  simp only [RetNum] at HR
  have HNX := Lib.hid (fun (u : World) (hu : Below w.heap.size w u) => And.intro (HDS.out.chg (Chg.of_below hu) hB (fun e => e) (fun k e => e.elim)) (And.intro (blk_below hu HG.out hgl) (HBS.out.below hu hB)))
  clear hg hb hr
  by_cases h0 : k = 0
  · subst h0
    have HD := Lib.hid (rd_no (s := s) (.inl (by rw [HRE.out])))
    go_enter Try.func17, Try.ntmps17
    go_wp2_with (fail)
    refine HR.out.mono ?_
    rintro e w' ⟨rfl, hb⟩
    obtain ⟨n1, n2, n3⟩ := HNX.out w' hb
    have f1 := frozen_of_row w' gi 1 _ _ n2
    have b1 : w'.cell? ⟨gi, 1, none⟩ = some (.bool (!s.2)) := by rw [cell_of_row _ _ _ _ _ _ n2]; rfl
    have hgl' := blk_lt n2
    have HN1 := Lib.hid n1
    have HBB := Lib.hid hb
    have hs := hb.size
    clear n1 n2 n3 hb c0
    go_wp2_with (fail)
    go_ret
    obtain ⟨t1, t2⟩ := HN1.out.flag (by omega)
    exact ⟨by rw [HD.out]; rfl, by rw [HD.out]; exact t1, ((Chg.of_below HBB.out).mono (fun _ _ e => e.elim)).trans t2 (fun _ _ e => e)⟩
  · by_cases hv : 1099511627776 < v
    · have HD := Lib.hid (rd_no (s := s) (.inr (by rw [HRE.out]; exact hv)))
      have hvi : (1099511627776 : Int) < (v : Int) := by omega
      have hki : ((k : Int) == 0) = false := by simp; omega
      go_enter Try.func17, Try.ntmps17
      go_wp2_with (fail)
      refine HR.out.mono ?_
      rintro e w' ⟨rfl, hb⟩
      obtain ⟨n1, n2, n3⟩ := HNX.out w' hb
      have f1 := frozen_of_row w' gi 1 _ _ n2
      have b1 : w'.cell? ⟨gi, 1, none⟩ = some (.bool (!s.2)) := by rw [cell_of_row _ _ _ _ _ _ n2]; rfl
      have hgl' := blk_lt n2
      have HN1 := Lib.hid n1
      have HBB := Lib.hid hb
      have hs := hb.size
      clear n1 n2 n3 hb c0
      go_wp2_with (fail)
      go_ret
      obtain ⟨t1, t2⟩ := HN1.out.flag (by omega)
      exact ⟨by rw [HD.out]; rfl, by rw [HD.out]; exact t1, ((Chg.of_below HBB.out).mono (fun _ _ e => e.elim)).trans t2 (fun _ _ e => e)⟩
    · have HD := Lib.hid (rd_yes (s := s) (by rw [HRE.out]; exact h0) (by rw [HRE.out]; omega))
      have hvi : ¬ (1099511627776 : Int) < (v : Int) := by omega
      have hki : ((k : Int) == 0) = false := by simp; omega
      have hkn : k ≤ n := by
        obtain ⟨_, h2, _⟩ := ru_back0 s.1 v k HRE.out h0
        rw [HBS.out.len_] at h2
        exact h2
      obtain ⟨b, off, hA, hbB⟩ := Rd.some_of HBS.out (n := 0) (by omega)
      subst hA
      go_enter Try.func17, Try.ntmps17
      go_wp2_with (fail)
      refine HR.out.mono ?_
      rintro e w' ⟨rfl, hb⟩
      obtain ⟨n1, n2, n3⟩ := HNX.out w' hb
      have f0 := frozen_of_row w' gi 0 _ _ n2
      have b0 : w'.cell? ⟨gi, 0, none⟩ = some (.slice (some ⟨b, off, none⟩) n c) := by rw [cell_of_row _ _ _ _ _ _ n2]; rfl
      have hgl' := blk_lt n2
      have HN1 := Lib.hid n1
      have HN3 := Lib.hid n3
      have HBB := Lib.hid hb
      have hs := hb.size
      clear n1 n2 n3 hb c0
      go_wp2_with (fail)
      · go_ret
        obtain ⟨t1, t2⟩ := HN1.out.left (by omega) (A := some ⟨b, off, none⟩) (n := n - k) (c := 0) (by have := bs_cut2 HN3.out hkn hnc; rwa [if_pos (by assumption)] at this) (by omega) (by omega) (by omega)
        exact ⟨by rw [HD.out, HRE.out]; rfl, by rw [HD.out, HRE.out]; exact t1, ((Chg.of_below HBB.out).mono (fun _ _ e => e.elim)).trans t2 (fun _ _ e => e)⟩
      · go_ret
        obtain ⟨t1, t2⟩ := HN1.out.left (by omega) (A := some ⟨b, off + k, none⟩) (n := n - k) (c := c - k) (by have := bs_cut2 HN3.out hkn hnc; rwa [if_neg (by assumption)] at this) (by omega) (by omega) (by omega)
        exact ⟨by rw [HD.out, HRE.out]; rfl, by rw [HD.out, HRE.out]; exact t1, ((Chg.of_below HBB.out).mono (fun _ _ e => e.elim)).trans t2 (fun _ _ e => e)⟩
end Go.Proofs.Ytdbhoglbmphjjaa.kv
