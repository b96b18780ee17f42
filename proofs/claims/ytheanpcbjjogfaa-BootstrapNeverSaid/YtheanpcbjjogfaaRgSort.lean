/-
  Ranges sorted, and written in place, in a row of the call's own.
-/
import Derived.Test.YtheanpcbjjogfaaRgProg
namespace Go.Proofs.Ytheanpcbjjogfaa.rg
open Go.ChangeShapes Go.WideShapes Go.ChangeAt Go.RowKit plain words ord mem

theorem heap_map (w : World) (g : Nat) (f : Array Value → Array Value) (cur : Array Value) (e : TypeId) (fr : Nat × Nat) (h : w.heap[g]? = some (.cells cur e fr)) : (Sort.mapBlock w g f).heap[g]? = some (.cells (f cur) e fr) := by
  show (w.heap.modify g (Sort.onCells f))[g]? = _
  rw [Array.getElem?_modify, if_pos rfl, h]; rfl
theorem below_map (w : World) (B g : Nat) (f : Array Value → Array Value) (hB : B ≤ g) : Below B w (Sort.mapBlock w g f) :=
  ⟨rfl, rfl, rfl, by simp [Sort.mapBlock], fun k hk => by
    show (w.heap.modify g (Sort.onCells f))[k]? = _
    rw [Array.getElem?_modify, if_neg (by omega)]⟩
theorem own_map {w : World} {B k g n cap : Nat} {e : TypeId} {xs ys : List Value} {f : Array Value → Array Value} (h : w.ownsRow B e k (.slice (some ⟨g, 0, none⟩) n cap) n xs) (hs : ∀ c : Array Value, (f c).size = c.size) (hy : ys.length = n * k)
    (hf : ∀ c : Array Value, c.toList.take (n * k) = xs → (f c).toList.take (n * k) = ys) : (Sort.mapBlock w g f).ownsRow B e k (.slice (some ⟨g, 0, none⟩) n cap) n ys := by
  refine ⟨hy, ?_⟩
  rcases h.2 with ⟨h0, _⟩ | ⟨g', cap', cur, h0, hb, hg, h1, h2, h3, h4⟩
  · cases h0
  · cases h0
    exact .inr ⟨g, cap, f cur, rfl, hb, heap_map w g f cur e (0, 0) hg, h1, h2, by rw [hs]; exact h3, hf cur h4⟩
theorem own_blk {w : World} {B k g n cap : Nat} {e : TypeId} {xs : List Value} (h : w.ownsRow B e k (.slice (some ⟨g, 0, none⟩) n cap) n xs) : ∃ cur, w.heap[g]? = some (.cells cur e (0, 0)) := by
  rcases h.2 with ⟨h0, _⟩ | ⟨g', cap', cur, h0, hb, hg, _⟩
  · cases h0
  · cases h0; exact ⟨cur, hg⟩
theorem own_set {w : World} {B k g n cap j : Nat} {e : TypeId} {xs : List Value} (h : w.ownsRow B e k (.slice (some ⟨g, 0, none⟩) n cap) n xs) (v : Value) : (w.setCell ⟨g, j, none⟩ v).ownsRow B e k (.slice (some ⟨g, 0, none⟩) n cap) n (xs.set j v) := by
  rw [Sort.setCell_eq]
  refine own_map h (by simp) (by rw [List.length_set]; exact h.1) fun c hc => ?_
  rw [Array.toList_setIfInBounds, List.take_set, hc]

instance : Inhabited R := ⟨(0, 0)⟩
theorem flat_cs (d : Array R) : Sort.flatK rgE 2 d = (cs rgE d.toList).toArray := by
  have hl : (cs rgE d.toList).length = d.size * 2 := by rw [cs_len rgE_len]; simp
  refine Sort.ext_get! (by simp [hl]) fun t ht => ?_
  have ht' : t < d.size * 2 := by simpa using ht
  rw [Sort.get_flatK _ _ _ _ ht']
  have h1 : t / 2 < d.size := by omega
  have h2 : d.toList[t / 2]? = some d[t / 2] := by simp [h1]
  have h3 := cs_at (k := 2) rgE_len d.toList (t / 2) _ h2 (t % 2) (by omega)
  rw [show t / 2 * 2 + t % 2 = t from by omega] at h3
  rw [getElem!_pos (cs rgE d.toList).toArray t (by simp [hl, ht']), getElem!_pos d (t / 2) h1]
  have h4 : t < (cs rgE d.toList).length := by omega
  rw [List.getElem?_eq_getElem h4] at h3
  simp only [List.getElem_toArray]
  have h5 : t % 2 < (rgE d[t / 2]).length := by rw [rgE_len]; omega
  rw [List.getElem?_eq_getElem h5] at h3
  rw [getElem!_pos (rgE d[t / 2]) (t % 2) h5]
  injection h3 with h3
  exact h3.symm
theorem put_take (ys : List Value) (c : Array Value) (hl : ys.length ≤ c.size) : (Sort.putCells (id : Value → Value) 0 ys.toArray c).toList.take ys.length = ys := by
  refine List.ext_getElem (by simp [Sort.putCells]; omega) fun i h1 h2 => ?_
  rw [List.getElem_take]
  simp [Sort.putCells, h2]
theorem holds_own {w : World} {B g n cap : Nat} {l : List R} (h : Own w B (.slice (some ⟨g, 0, none⟩) n cap) n l) : Sort.HoldsK rgE 2 w g 0 l.toArray := by
  unfold Sort.HoldsK
  rw [flat_cs]
  intro j hj
  have hj' : j < n * 2 := by rw [← h.2.1]; simpa using hj
  obtain ⟨cur, hc⟩ := own_blk h.2
  refine ⟨?_, frozen_of_row _ _ _ _ _ hc⟩
  rw [Nat.zero_add, h.2.cellAt j hj', getElem!_pos _ j hj]
  simp
theorem own_sorted {w : World} {B g n cap m : Nat} {l : List R} (h : Own w B (.slice (some ⟨g, 0, none⟩) n cap) n l) (d : Array R) (os : Array Obj) (hd : d.size = n) (hB : B ≤ g) :
    Own (sortWorldK rgE 2 w g 0 m d os) B (.slice (some ⟨g, 0, none⟩) n cap) n d.toList ∧ Below B w (sortWorldK rgE 2 w g 0 m d os) := by
  have hlen : (cs rgE d.toList).length = n * 2 := by rw [cs_len rgE_len]; simp [hd]
  unfold sortWorldK Sort.putRowK
  rw [flat_cs]
  obtain ⟨wa, hwa⟩ : ∃ wa, Sort.ahead w m = wa := ⟨_, rfl⟩
  have hba : Below w.heap.size w wa := by rw [← hwa]; exact ⟨rfl, rfl, rfl, Nat.le_refl _, fun _ _ => rfl⟩
  have hoa := h.below hba (Nat.le_refl _)
  have hsa := hba.size
  rw [hwa]
  have h1 : (Sort.mapBlock wa g (Sort.putCells id 0 (cs rgE d.toList).toArray)).ownsRow B 27 2 (.slice (some ⟨g, 0, none⟩) n cap) n (cs rgE d.toList) := by
    refine own_map hoa.2 (by simp [Sort.putCells]) hlen fun c hc => ?_
    have hcl : n * 2 ≤ c.size := by
      have := congrArg List.length hc
      rw [hoa.2.1, List.length_take] at this
      simp at this
      omega
    have := put_take (cs rgE d.toList) c (by omega)
    rwa [hlen] at this
  have hlt : g < w.heap.size := own_lt h.2 rfl
  have hbm := below_map wa B g (Sort.putCells id 0 (cs rgE d.toList).toArray) hB
  obtain ⟨wm, hwm⟩ : ∃ wm, Sort.mapBlock wa g (Sort.putCells id 0 (cs rgE d.toList).toArray) = wm := ⟨_, rfl⟩
  show Own (Sort.grow (Sort.mapBlock wa g (Sort.putCells id 0 (cs rgE d.toList).toArray)) os) _ _ _ _ ∧ Below B w (Sort.grow (Sort.mapBlock wa g (Sort.putCells id 0 (cs rgE d.toList).toArray)) os)
  rw [hwm] at h1 hbm ⊢
  have hbg : Below wm.heap.size wm (Sort.grow wm os) := ⟨rfl, rfl, rfl, by simp [Sort.grow], fun k hk => by
    show (wm.heap ++ os)[k]? = _
    rw [Array.getElem?_append_left hk]⟩
  have hsm := hbm.size
  refine ⟨⟨by simp [hd], own_keep h1 hbg (Nat.le_refl _)⟩, ((hba.mono (by omega)).trans hbm).trans (hbg.mono (by omega))⟩

theorem swo : Sort.SWO (ltOf fun x y : R => cmpI x.1 y.1) := by
  have e : ∀ x y : R, ltOf (fun x y : R => cmpI x.1 y.1) x y = decide (x.1 < y.1) := fun x y => by
    unfold ltOf cmpI
    by_cases h1 : x.1 < y.1
    · simp [h1]
    · by_cases h2 : y.1 < x.1 <;> simp [h1, h2]
  refine ⟨fun x => by rw [e]; simp, fun x y z h1 h2 => by rw [e] at *; simp at *; omega, fun x y z h1 h2 => by rw [e] at *; simp at *; omega⟩
theorem ltOf_eq (x y : R) : ltOf (fun x y : R => cmpI x.1 y.1) x y = decide (x.1 < y.1) := by
  unfold ltOf cmpI
  by_cases h1 : x.1 < y.1
  · simp [h1]
  · by_cases h2 : y.1 < x.1 <;> simp [h1, h2]

theorem sort_x (w : World) (B g n cap : Nat) (l : List R) (h : Own w B (.slice (some ⟨g, 0, none⟩) n cap) n l) (hB : B ≤ g) (hn : n ≤ 1000000) :
    Calls Try.prog 30 #[.slice (some ⟨g, 0, none⟩) n cap, .func (.func 31) #[] #[]] w fun e w' => e = .returned (.tuple #[]) ∧ ∃ l', l'.Perm l ∧ l'.Pairwise (fun a b => a.1 ≤ b.1) ∧ Own w' B (.slice (some ⟨g, 0, none⟩) n cap) n l' ∧ Below B w w' := by
  have eg : ∀ args w, (callFunc 31 args).run Try.prog w = .ok (.enter 31 args) w := enters_of Try.func31 (by kernel_rfl) rfl
  have hc : CmpLays Try.prog 31 #[] rgE 2 (fun x y : R => cmpI x.1 y.1) g 0 l.toArray.size w := fun m os dk _ x y => (less_x x y _).mono fun e w' ⟨he, os', hw⟩ => ⟨he, 0, os', hw⟩
  have hcon := AnyQ.slices_SortFunc sortRg 2 Try.isAgg27 Try.sizeOf27 rgE rgE_len rgE_one (fun x y : R => cmpI x.1 y.1) swo 31 #[] g 0 cap l.toArray w eg hc (holds_own h) (own_lt h.2 rfl) (by simp [h.1]; omega)
  change Calls Try.prog 30 _ _ _ at hcon
  have hsz : l.toArray.size = n := by simp [h.1]
  rw [hsz] at hcon
  refine hcon.mono ?_
  rintro e w' ⟨rfl, d', m, os, hp, hs, rfl⟩
  have hd : d'.size = n := by rw [hp.1, hsz]
  obtain ⟨ho, hb⟩ := own_sorted (m := m) h d' os hd hB
  refine ⟨rfl, d'.toList, ?_, ?_, ho, hb⟩
  · have h3 := hp.2.2
    rw [show d'.extract 0 n = d' from by rw [← hd]; simp, show l.toArray.extract 0 n = l.toArray from by rw [← hsz]; simp] at h3
    simpa using h3
  · rw [List.pairwise_iff_getElem]
    intro i j hi hj hij
    have h4 := hs i j (Nat.zero_le _) hij (by simpa [hd] using hj)
    rw [ltOf_eq, getElem!_pos d' j (by simpa using hj), getElem!_pos d' i (by simpa using hi)] at h4
    simp at h4 ⊢
    exact h4
end Go.Proofs.Ytheanpcbjjogfaa.rg
