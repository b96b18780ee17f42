/-
  slices.Sort and slices.Sorted at numbers.
-/
import Derived.Test.YtnpkhkhchimcnaaPmSeq
import Derived.Test.YtnpkhkhchimcnaaPmLaid
namespace Go.Proofs.Ytnpkhkhchimcnaa.pm
open Go.ChangeShapes Go.WideShapes Go.ChangeAt Go.RowKit Go.Shelf Go.Sort plain words ord mem

theorem holds_i {w : World} {g : Nat} {cur : Array Value} {e : TypeId} {zs : List Int} (hb : w.heap[g]? = some (.cells cur e (0, 0))) (ht : cur.toList.take zs.length = zs.map (Value.int .i64)) : Holds (Value.int .i64) w g 0 zs.toArray := by
  intro j hj
  have hj' : j < zs.length := by simpa using hj
  refine ⟨?_, by simp [World.frozen?, hb]⟩
  have h1 : (cur.toList.take zs.length)[j]? = (zs.map (Value.int .i64))[j]? := by rw [ht]
  rw [List.getElem?_take_of_lt hj'] at h1
  simp only [World.cell?, hb, Nat.zero_add]
  simp only [Option.isSome_none, Bool.false_eq_true, if_false]
  rw [← Array.getElem?_toList, h1]
  simp [hj']
theorem heap_i {w : World} {g n : Nat} {os : Array Obj} {cur : Array Value} {e : TypeId} {fr : Nat × Nat} (d : Array Int) (hb : w.heap[g]? = some (.cells cur e fr)) :
    (grow (putRow (Value.int .i64) (Sort.ahead w n) g 0 d) os).heap[g]? = some (.cells (putCells (Value.int .i64) 0 d cur) e fr) := by
  have hg : g < w.heap.size := (Array.getElem?_eq_some_iff.1 hb).1
  rw [heap_grow_old _ _ (by simpa using hg)]
  simp [putRow, mapBlock, Sort.ahead, Array.getElem?_modify, hb, onCells]
theorem grown_i {w : World} {g n : Nat} {os : Array Obj} (d : Array Int) : w.grownBy (grow (putRow (Value.int .i64) (Sort.ahead w n) g 0 d) os) (some g) := by
  refine ⟨rfl, rfl, rfl, by simp, fun k hk hne => ?_⟩
  rw [heap_grow_old _ _ (by simpa using hk)]
  have : g ≠ k := fun e => hne (by rw [e])
  simp [putRow, mapBlock, Sort.ahead, Array.getElem?_modify, this]
theorem take_i (cur : Array Value) (ts : List Int) (h : ts.length ≤ cur.size) : (putCells (Value.int .i64) 0 ts.toArray cur).toList.take ts.length = ts.map (Value.int .i64) := by
  apply List.ext_getElem?
  intro j
  by_cases hj : j < ts.length
  · rw [List.getElem?_take_of_lt hj, Array.getElem?_toList]
    simp [putCells, hj, show j < cur.size by omega]
  · rw [List.getElem?_take_eq_none (by omega), List.getElem?_eq_none (by simp; omega)]
def srt (l : List Int) : List Int := l.mergeSort fun x y => decide (x ≤ y)
theorem srt_len (l : List Int) : (srt l).length = l.length := by unfold srt; rw [List.length_mergeSort]
theorem srt_perm (l : List Int) : (srt l).Perm l := List.mergeSort_perm _ _
theorem srt_le (l : List Int) : (srt l).Pairwise fun a b => a ≤ b := by
  have := List.pairwise_mergeSort (le := fun x y : Int => decide (x ≤ y)) (fun a b c h1 h2 => by simp at *; omega) (fun a b => by simp; omega) l
  exact this.imp (fun h => by simpa using h)
theorem NE_cs (l : List Int) : cs NE.enc l = l.map (Value.int .i64) := by
  induction l with
  | nil => rfl
  | cons x l ih => rw [cs_cons, ih]; rfl
theorem sort_x (w : World) (B n c : Nat) (A : Option Addr) (l : List Int) (h : Ow NE w B (.slice A n c) n l) (hn : n < 4611686018427387904) :
    Calls Try.prog 42 #[.slice A n c] w fun e w' => e = .returned (.tuple #[]) ∧ Ow NE w' B (.slice A n c) n (srt l) ∧ ∃ o, (∀ g, o = some g → B ≤ g ∧ ∃ cu, w.heap[g]? = some (.cells cu 3 (0, 0))) ∧ w.grownBy w' o := by
  obtain ⟨hl, hrow⟩ := h
  rw [NE_cs] at hrow
  rcases Nat.eq_zero_or_pos n with h0 | h0
  · subst h0
    obtain rfl := List.eq_nil_of_length_eq_zero hl
    have := AnyM.slices_Sort_int_none sortA A c w
    rw [show sortA_ren.f 5 = 42 by rfl] at this
    refine this.mono ?_
    rintro e w' ⟨rfl, rfl⟩
    exact ⟨rfl, ⟨by simp [srt], by rw [NE_cs]; simpa [srt] using hrow⟩, none, fun g e => (by cases e), World.grownBy.refl _ _⟩
  · rcases hrow.2 with ⟨_, h1⟩ | ⟨g, cap, cur, e0, hbase, hb, h1, h2, h3, h4⟩
    · omega
    · injection e0 with e1 e2 e3
      subst e1 e3
      have hH := holds_i (zs := l) hb (by rw [hl]; rw [show n * NE.k = n from Nat.mul_one n] at h4; exact h4)
      have := AnyM.slices_Sort_int sortA g 0 c l w hH ((Array.getElem?_eq_some_iff.1 hb).1) (by rw [hl]; exact hn)
      rw [show sortA_ren.f 5 = 42 by rfl, hl] at this
      refine this.mono ?_
      rintro e w' ⟨rfl, k, os, rfl⟩
      have hl2 : (srt l).length = n := by rw [srt_len, hl]
      refine ⟨rfl, ⟨hl2, ?_⟩, some g, fun g' e => by cases e; exact ⟨hbase, cur, hb⟩, grown_i _⟩
      rw [NE_cs]
      refine ⟨by rw [List.length_map, hl2]; exact (Nat.mul_one n).symm, .inr ⟨g, c, _, rfl, hbase, heap_i _ hb, h1, h2, by simp [putCells, h3], ?_⟩⟩
      rw [show n * NE.k = n from Nat.mul_one n]
      have hck : c * NE.k = c := Nat.mul_one c
      have := take_i cur (srt l) (by rw [hl2]; omega)
      rw [hl2] at this
      exact this
theorem sorted_x (w : World) (Bs n c : Nat) (A : Option Addr) (l : List Int) (hBs : Bs < w.heap.size) (hc : w.cell? ⟨Bs, 0, none⟩ = some (.slice A n c)) (hl : Ls NE w w.heap.size A n l) (hn : n ≤ 1000000) :
    Calls Try.prog 29 #[.func (.func 62) #[] #[.pointer (some ⟨Bs, 0, none⟩)]] w (RetNn w (srt l)) := by
  have HA := Lib.hid (collect_x w Bs n c A l hBs hc hl hn)
  have HL := Lib.hid hl.1
  clear hc hl
  go_enter Try.func29, Try.ntmps29
  go_wp2_with (fail)
  refine HA.out.mono ?_
  rintro e w2 ⟨A2, c2, rfl, h2, h3⟩
  have H3 := Lib.hid h3
  have HS := Lib.hid (sort_x w2 w.heap.size l.length c2 A2 l h2 (by rw [HL.out]; omega))
  obtain ⟨m, hm⟩ : ∃ m, l.length = m := ⟨_, rfl⟩
  rw [hm] at HS
  have HM := Lib.hid hm
  rw [hm]
  clear h2 h3 HA hm
  go_wp2_with (fail)
  refine HS.out.mono ?_
  rintro e w3 ⟨rfl, h4, o, h5, h6⟩
  have H4 := Lib.hid h4
  have H6 := Lib.hid (show Below w.heap.size w w3 from H3.out.trans (((Chg.refl (fun k => o = some k) w2).grown h6 (fun k e _ => e)).below H3.out.size (fun k e => (h5 k e).1)))
  clear h4 h5 h6 HS
  go_wp2_with (fail)
  go_ret
  have e1 : (srt l).length = m := by rw [srt_len, HM.out]
  exact ⟨A2, c2, by rw [e1]; rfl, by rw [e1]; exact H4.out, H6.out⟩
end Go.Proofs.Ytnpkhkhchimcnaa.pm
