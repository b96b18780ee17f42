/-
  Messages: the encoder's flag; rows of structs made and filled.
-/
import Derived.Test.YthkcnakodlbdpaaWrP
import Derived.Laws.CopyRow
import Derived.Laws.MakeOwn
namespace Go.Proofs.Ythkcnakodlbdpaa.wr
open Go.ChangeShapes Go.WideShapes Go.ChangeAt Go.RowKit plain words ord mem uvs uvc

set_option maxHeartbeats 2000000 in
set_option maxRecDepth 100000 in
theorem flag_e (w : World) (g B mb off : Nat) (cur : Array Value) (t : TypeId) (l : By) (b : Bool) (h : StE w g B l) (hV : V w mb cur t) (hv : cur[off]? = some (.bool b)) (hne : mb ≠ g) (ht : t ≠ 5) (hgB : True) (hB : B ≤ w.heap.size) (hn : l.length ≤ 1000000000) :
    Calls Try.prog 59 #[.pointer (some ⟨g, 0, none⟩), .pointer (some ⟨mb, off, none⟩)] w (RetE w g B mb cur t (fun cur x => cur.setIfInBounds off (.bool x)) (flgE l b)) := by
  obtain ⟨i0, hi, hz0, hz1, hz2⟩ := info_parts mem.infoB
  obtain ⟨A, c, hg, ho⟩ := h
  have hgl := blk_lt hg
  have hml := blk_lt hV
  have c0 : w.cell? ⟨g, 0, none⟩ = some (.slice A l.length c) := by rw [cell_of_row _ _ _ _ _ _ hg]; rfl
  have c1 : w.cell? ⟨mb, off, none⟩ = some (.bool b) := by rw [cell_of_row _ _ _ _ _ _ hV]; exact hv
  have HRET := Lib.hid (fun (w' : World) (h1 : StE w' g B (l ++ [if b = true then 1 else 0])) (h2 : Chg (TB w g B) w w') => (show RetE w g B mb cur t (fun cur x => cur.setIfInBounds off (.bool x)) (flgE l b) (.returned (.tuple #[])) w' from ⟨h2.mono (fun _ _ e => e.fr), .inl ⟨rfl, rfl, by unfold flgE; exact h1, by simp only [flgE]; rw [set_same hv]; exact V.tb hV h2 hne ht⟩⟩))
  obtain ⟨L, hL⟩ : ∃ L, l.length = L := ⟨_, rfl⟩
  rw [hL] at hg ho c0 hn
  have HL := Lib.hid hL
  have HG := Lib.hid hg
  have HO := Lib.hid ho
  clear hg ho hL hV hv
  cases b with
  | true =>
    obtain ⟨w1, hw1⟩ : ∃ w1, w.alloc (.cells #[.int .u8 1] 5) = w1 := ⟨_, rfl⟩
    have hb1 : Below w.heap.size w w1 := by rw [← hw1]; exact below_al _ _
    have hnew : Rd w1 (w.heap.size + 1) (some ⟨w.heap.size, 0, none⟩) 1 (u8s [1]) := by rw [← hw1]; exact rd_lit 5 (u8s [1]) rfl
    have hs1 := hb1.size
    have ho1 : w1.ownsRow B 5 1 (.slice A L c) L (u8s l) := own_keep HO.out hb1 (Nat.le_refl _)
    have g1 : w1.heap[g]? = some (.cells #[.slice A L c] 52 (0, 0)) := blk_below hb1 HG.out hgl
    have HB1 := Lib.hid hb1
    clear hb1
    go_enter Try.func59, Try.ntmps59
    go_wp2_with (at_builtin; (refine wpList_append_rd rfl (.tmp 11) (.tmp 12) 33 rfl B 5 i0 (.int .u8 0) 1 1 Try.underlying33 hi hz0 hz1 hz2 rfl (by decide) (.slice A L c) L (u8s l) rfl ho1 (w.heap.size + 1) (some ⟨w.heap.size, 0, none⟩) 1 1 (fun e => by cases e) (u8s [1]) rfl hnew (u8s_one _) (by unfold maxLen; omega) (by omega) (by omega) ?_; intro v2 w2 hown2 hg2 hnn2; have gb2 : w2.heap[g]? = some (.cells #[.slice A L c] 52 (0, 0)) := (hg2.block g (blk_lt g1) (fun e => own_ne ho1 g1 e.symm)).trans g1; have hbg2 : Chg (TB w g B) w w2 := ((Chg.of_below HB1.out).mono (fun _ _ e => e.elim)).grown hg2 (fun k hk _ => .inr ⟨(ho1.lt k hk).1, own_type HO.out hk⟩); have c2 : w2.cell? ⟨g, 0, none⟩ = some (.slice A L c) := (by rw [cell_of_row _ _ _ _ _ _ gb2]; rfl); have f2 := frozen_of_row w2 g 0 _ _ gb2; have hgl2 := blk_lt gb2; have hlen : (l ++ [1]).length = L + 1 := (by rw [List.length_append, HL.out]; rfl); have HF := Lib.hid (out_put (w := w) (l := l ++ [1]) gb2 (by rw [u8s_append]; exact hown2) hlen hbg2 hgB); obtain ⟨A2, cc2, rfl, _⟩ := own_fit hlen (by rw [u8s_append]; exact hown2); clear hown2 hg2 hnn2 gb2 hbg2 hlen))
    go_end0
    exact HRET.out _ HF.out.1 HF.out.2
  | false =>
    obtain ⟨w1, hw1⟩ : ∃ w1, w.alloc (.cells #[.int .u8 0] 5) = w1 := ⟨_, rfl⟩
    have hb1 : Below w.heap.size w w1 := by rw [← hw1]; exact below_al _ _
    have hnew : Rd w1 (w.heap.size + 1) (some ⟨w.heap.size, 0, none⟩) 1 (u8s [0]) := by rw [← hw1]; exact rd_lit 5 (u8s [0]) rfl
    have hs1 := hb1.size
    have ho1 : w1.ownsRow B 5 1 (.slice A L c) L (u8s l) := own_keep HO.out hb1 (Nat.le_refl _)
    have g1 : w1.heap[g]? = some (.cells #[.slice A L c] 52 (0, 0)) := blk_below hb1 HG.out hgl
    have HB1 := Lib.hid hb1
    clear hb1
    go_enter Try.func59, Try.ntmps59
    go_wp2_with (at_builtin; (refine wpList_append_rd rfl (.tmp 20) (.tmp 21) 33 rfl B 5 i0 (.int .u8 0) 1 1 Try.underlying33 hi hz0 hz1 hz2 rfl (by decide) (.slice A L c) L (u8s l) rfl ho1 (w.heap.size + 1) (some ⟨w.heap.size, 0, none⟩) 1 1 (fun e => by cases e) (u8s [0]) rfl hnew (u8s_one _) (by unfold maxLen; omega) (by omega) (by omega) ?_; intro v2 w2 hown2 hg2 hnn2; have gb2 : w2.heap[g]? = some (.cells #[.slice A L c] 52 (0, 0)) := (hg2.block g (blk_lt g1) (fun e => own_ne ho1 g1 e.symm)).trans g1; have hbg2 : Chg (TB w g B) w w2 := ((Chg.of_below HB1.out).mono (fun _ _ e => e.elim)).grown hg2 (fun k hk _ => .inr ⟨(ho1.lt k hk).1, own_type HO.out hk⟩); have c2 : w2.cell? ⟨g, 0, none⟩ = some (.slice A L c) := (by rw [cell_of_row _ _ _ _ _ _ gb2]; rfl); have f2 := frozen_of_row w2 g 0 _ _ gb2; have hgl2 := blk_lt gb2; have hlen : (l ++ [0]).length = L + 1 := (by rw [List.length_append, HL.out]; rfl); have HF := Lib.hid (out_put (w := w) (l := l ++ [0]) gb2 (by rw [u8s_append]; exact hown2) hlen hbg2 hgB); obtain ⟨A2, cc2, rfl, _⟩ := own_fit hlen (by rw [u8s_append]; exact hown2); clear hown2 hg2 hnn2 gb2 hbg2 hlen))
    go_end0
    exact HRET.out _ HF.out.1 HF.out.2
/-- a row of zeros -/
theorem made_cs {α : Type} {enc : α → List Value} {k : Nat} (hk : ∀ x, (enc x).length = k) (hp : 0 < k) (z : α) (n : Nat) : madeCells (enc z).toArray (n * k) = (cs enc (List.replicate n z)).toArray := by
  apply Array.ext
  · rw [size_madeCells, List.size_toArray, cs_len hk, List.length_replicate]
  · intro i h1 h2
    rw [size_madeCells] at h1
    have hq : i / k < n := (Nat.div_lt_iff_lt_mul hp).2 h1
    have hr : i % k < k := Nat.mod_lt _ hp
    have hi : i / k * k + i % k = i := Nat.div_add_mod' i k
    have h3 := cs_at hk (List.replicate n z) (i / k) z (by simp [hq]) (i % k) hr
    rw [hi] at h3
    have h4 : (cs enc (List.replicate n z)).toArray[i]? = (enc z)[i % k]? := by simpa using h3
    rw [Array.getElem?_eq_getElem h2] at h4
    have hr2 : i % k < (enc z).length := by rw [hk]; exact hr
    have h5 : (enc z)[i % k]? = some ((enc z)[i % k]'hr2) := List.getElem?_eq_getElem hr2
    rw [h5] at h4
    rw [Option.some.inj h4]
    simp [madeCells, hk]
    rw [List.getElem?_eq_getElem hr2]; rfl
theorem run_copy_rowk {P : Program} (w : World) (dT sT ty elem : TypeId) (g dLen dCap k : Nat) (a : Addr) (sLen sCap : Nat) (cur : Array Value) (t : TypeId) (vs : List Value)
    (hu : P.underlying dT = some (.slice elem)) (hs : (P.info? elem).map (·.size) = some k)
    (hg : w.heap[g]? = some (.cells cur t (0, 0))) (hn : vs.length = Nat.min sLen dLen * k)
    (hsrc : ∀ j v, vs[j]? = some v → w.cell? (a.add j) = some v) (hfit : vs.length ≤ cur.size) (h1 : ∀ v ∈ vs, v.oneCell' = true) :
    (Builtin.copy_ #[dT, sT] ty #[.slice (some ⟨g, 0, none⟩) dLen dCap, .slice (some a) sLen sCap]).run P w =
      .ok (goInt (Nat.min sLen dLen)) (w.setRow g (vs ++ cur.toList.drop vs.length).toArray) := by
  have hl := run_loadCells_list (P := P) w a vs hsrc
  have hst := run_storeCells_at P g 0 t vs 0 cur w hg (by simpa using hfit) h1
  simp only [Nat.zero_add, List.take_zero, List.nil_append] at hst
  cases hq : P.info? elem with
  | none => simp [hq] at hs
  | some i =>
    have hi : i.size = k := by simpa [hq] using hs
    simp [Builtin.copy_, run_underlying hu, Builtin.lenOf, Builtin.firstCells, sizeOf, typeInfo, hq, hi, ← hn, hl, hst]
end Go.Proofs.Ythkcnakodlbdpaa.wr
