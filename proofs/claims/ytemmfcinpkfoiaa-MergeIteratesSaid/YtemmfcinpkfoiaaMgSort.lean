/-
  Points sorted in a row of the call's own; a row written in place, whatever the elements.
-/
import Derived.Test.YtemmfcinpkfoiaaMgOrd
namespace Go.Proofs.Ytemmfcinpkfoiaa.mem
open Go.ChangeShapes Go.WideShapes Go.ChangeAt Go.RowKit Go.Shelf plain words ord mem rg

section
variable {α : Type} [Inhabited α] {E : El α} {w w' : World} {B C n g cap i m : Nat} {A : Option Addr} {v : Value} {l : List α}
theorem flat_ls (d : Array α) : Sort.flatK E.enc E.k d = (cs E.enc d.toList).toArray := by
  have hp := E.pos
  have hl : (cs E.enc d.toList).length = d.size * E.k := by rw [cs_len E.len]; simp
  refine Sort.ext_get! (by simp [hl]) fun t ht => ?_
  have ht' : t < d.size * E.k := by simpa using ht
  rw [Sort.get_flatK _ _ _ _ ht']
  have h1 : t / E.k < d.size := by rw [Nat.div_lt_iff_lt_mul hp]; exact ht'
  have h2 : d.toList[t / E.k]? = some d[t / E.k] := by simp [h1]
  have hm : t % E.k < E.k := Nat.mod_lt _ hp
  have h3 := cs_at (k := E.k) E.len d.toList (t / E.k) _ h2 (t % E.k) hm
  rw [show t / E.k * E.k + t % E.k = t from by rw [Nat.mul_comm]; exact Nat.div_add_mod t E.k] at h3
  rw [getElem!_pos (cs E.enc d.toList).toArray t (by simp [hl, ht']), getElem!_pos d (t / E.k) h1]
  have h4 : t < (cs E.enc d.toList).length := by omega
  rw [List.getElem?_eq_getElem h4] at h3
  simp only [List.getElem_toArray]
  have h5 : t % E.k < (E.enc d[t / E.k]).length := by rw [E.len]; exact hm
  rw [List.getElem?_eq_getElem h5] at h3
  rw [getElem!_pos (E.enc d[t / E.k]) (t % E.k) h5]
  injection h3 with h3
  exact h3.symm
theorem holds_ow (h : Ow E w B (.slice (some ⟨g, 0, none⟩) n cap) n l) : Sort.HoldsK E.enc E.k w g 0 l.toArray := by
  unfold Sort.HoldsK
  rw [flat_ls]
  intro j hj
  have hj' : j < n * E.k := by rw [← h.2.1]; simpa using hj
  obtain ⟨cur, hc⟩ := own_blk h.2
  refine ⟨?_, frozen_of_row _ _ _ _ _ hc⟩
  rw [Nat.zero_add, h.2.cellAt j hj', getElem!_pos _ j hj]
  simp
theorem ow_sorted (h : Ow E w B (.slice (some ⟨g, 0, none⟩) n cap) n l) (d : Array α) (os : Array Obj) (hd : d.size = n) (hB : B ≤ g) :
    Ow E (sortWorldK E.enc E.k w g 0 m d os) B (.slice (some ⟨g, 0, none⟩) n cap) n d.toList ∧ Below B w (sortWorldK E.enc E.k w g 0 m d os) := by
  have hlen : (cs E.enc d.toList).length = n * E.k := by rw [cs_len E.len]; simp [hd]
  unfold sortWorldK Sort.putRowK
  rw [flat_ls]
  obtain ⟨wa, hwa⟩ : ∃ wa, Sort.ahead w m = wa := ⟨_, rfl⟩
  have hba : Below w.heap.size w wa := by rw [← hwa]; exact ⟨rfl, rfl, rfl, Nat.le_refl _, fun _ _ => rfl⟩
  have hoa := h.below hba (Nat.le_refl _)
  have hsa := hba.size
  rw [hwa]
  have h1 : (Sort.mapBlock wa g (Sort.putCells id 0 (cs E.enc d.toList).toArray)).ownsRow B E.e E.k (.slice (some ⟨g, 0, none⟩) n cap) n (cs E.enc d.toList) := by
    refine own_map hoa.2 (by simp [Sort.putCells]) hlen fun c hc => ?_
    have hcl : n * E.k ≤ c.size := by
      have := congrArg List.length hc
      rw [hoa.2.1, List.length_take] at this
      simp at this
      omega
    have := put_take (cs E.enc d.toList) c (by omega)
    rwa [hlen] at this
  have hlt : g < w.heap.size := own_lt h.2 rfl
  have hbm := below_map wa B g (Sort.putCells id 0 (cs E.enc d.toList).toArray) hB
  obtain ⟨wm, hwm⟩ : ∃ wm, Sort.mapBlock wa g (Sort.putCells id 0 (cs E.enc d.toList).toArray) = wm := ⟨_, rfl⟩
  show Ow E (Sort.grow (Sort.mapBlock wa g (Sort.putCells id 0 (cs E.enc d.toList).toArray)) os) _ _ _ _ ∧ Below B w (Sort.grow (Sort.mapBlock wa g (Sort.putCells id 0 (cs E.enc d.toList).toArray)) os)
  rw [hwm] at h1 hbm ⊢
  have hbg : Below wm.heap.size wm (Sort.grow wm os) := ⟨rfl, rfl, rfl, by simp [Sort.grow], fun k hk => by
    show (wm.heap ++ os)[k]? = _
    rw [Array.getElem?_append_left hk]⟩
  have hsm := hbm.size
  refine ⟨⟨by simp [hd], own_keep h1 hbg (Nat.le_refl _)⟩, ((hba.mono (by omega)).trans hbm).trans (hbg.mono (by omega))⟩
omit [Inhabited α] in
theorem ow_cut (h : Ow E w B (.slice (some ⟨g, 0, none⟩) n cap) n l) (hi : i ≤ n) : Ow E w B (.slice (some ⟨g, 0, none⟩) i cap) i (l.take i) := by
  refine ⟨by rw [List.length_take, h.1]; omega, ?_⟩
  rcases h.2.2 with ⟨h0, _⟩ | ⟨g', cap', cur, h0, hb, hg, h1, h2, h3, h4⟩
  · cases h0
  · cases h0
    refine ⟨by rw [cs_len E.len, List.length_take, h.1]; congr 1; omega, .inr ⟨g, cap, cur, rfl, hb, hg, by omega, h2, h3, ?_⟩⟩
    rw [← cs_take E.len, ← h4, List.take_take, Nat.min_eq_left (Nat.mul_le_mul_right _ hi)]
omit [Inhabited α] in
/-- cells behind the first i elements may be written -/
theorem ow_cells (vs : List Value) (w : World) (o : Nat) (ho : i * E.k ≤ o) (hB : B ≤ g) (h : Ow E w B (.slice (some ⟨g, 0, none⟩) i cap) i l) :
    Ow E (w.setCells g o vs) B (.slice (some ⟨g, 0, none⟩) i cap) i l ∧ Below B w (w.setCells g o vs) := by
  induction vs generalizing w o with
  | nil => exact ⟨h, Below.refl _ _⟩
  | cons v vs ih =>
    have h1 : Ow E (w.setCell ⟨g, o, none⟩ v) B (.slice (some ⟨g, 0, none⟩) i cap) i l := by
      have := own_set (j := o) h.2 v
      rw [List.set_eq_of_length_le (by rw [h.2.1]; exact ho)] at this
      exact ⟨h.1, this⟩
    have h2 : Below B w (w.setCell ⟨g, o, none⟩ v) := rg.below_set hB v
    obtain ⟨h3, h4⟩ := ih (w.setCell ⟨g, o, none⟩ v) (o + 1) (by omega) h1
    exact ⟨h3, h2.trans h4⟩
end
end Go.Proofs.Ytemmfcinpkfoiaa.mem
namespace Go.Proofs.Ytemmfcinpkfoiaa.mg
open Go.ChangeShapes Go.WideShapes Go.ChangeAt Go.RowKit Go.Shelf plain words ord mem rg

theorem sort_x (w : World) (B g n cap : Nat) (l : List Pt) (h : Ow PE w B (.slice (some ⟨g, 0, none⟩) n cap) n l) (hB : B ≤ g) (hn : n ≤ 1000000) :
    Calls Try.prog 57 #[.slice (some ⟨g, 0, none⟩) n cap, .func (.func 58) #[] #[]] w fun e w' => e = .returned (.tuple #[]) ∧ ∃ l', l'.Perm l ∧ l'.Pairwise (fun a b => lessP b a = false) ∧ Ow PE w' B (.slice (some ⟨g, 0, none⟩) n cap) n l' ∧ Below B w w' := by
  have eg : ∀ args w, (callFunc 58 args).run Try.prog w = .ok (.enter 58 args) w := enters_of Try.func58 (by kernel_rfl) rfl
  have hc : CmpLays Try.prog 58 #[] PE.enc 3 cmpP g 0 l.toArray.size w := fun m os dk _ x y => (order_x x y _).mono fun e w' ⟨he, os', hw⟩ => ⟨he, 1, os', hw⟩
  have hcon := AnyQ.slices_SortFunc sortPt 3 Try.isAgg24 Try.sizeOf24 PE.enc PE.len PE.one cmpP swoP 58 #[] g 0 cap l.toArray w eg hc (holds_ow h) (own_lt h.2 rfl) (by simp [h.1]; omega)
  change Calls Try.prog 57 _ _ _ at hcon
  have hsz : l.toArray.size = n := by simp [h.1]
  rw [hsz] at hcon
  refine hcon.mono ?_
  rintro e w' ⟨rfl, d', m, os, hp, hs, rfl⟩
  have hd : d'.size = n := by rw [hp.1, hsz]
  obtain ⟨ho, hb⟩ := ow_sorted (m := m) h d' os hd hB
  refine ⟨rfl, d'.toList, ?_, ?_, ho, hb⟩
  · have h3 := hp.2.2
    rw [show d'.extract 0 n = d' from by rw [← hd]; simp, show l.toArray.extract 0 n = l.toArray from by rw [← hsz]; simp] at h3
    simpa using h3
  · rw [List.pairwise_iff_getElem]
    intro i j hi hj hij
    have h4 := hs i j (Nat.zero_le _) hij (by simpa [hd] using hj)
    rw [ltOf_P, getElem!_pos d' j (by simpa using hj), getElem!_pos d' i (by simpa using hi)] at h4
    simpa using h4
end Go.Proofs.Ytemmfcinpkfoiaa.mg
