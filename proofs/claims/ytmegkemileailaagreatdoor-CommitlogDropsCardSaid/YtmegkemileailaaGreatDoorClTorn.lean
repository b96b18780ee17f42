/-
  Records cut off: mathematics, nothing of the program.
-/
import Derived.Test.YtmegkemileailaaGreatDoorCl
namespace Go.Proofs.YtmegkemileailaaGreatDoor.cl
open uvs

theorem dec1_nil : dec1 [] = none := by
  cases h : dec1 [] with
  | none => rfl
  | some p =>
    have h1 := dec1_pos (r := p.1) (n := p.2) (by rw [h])
    obtain ⟨_, _, _, h4, _⟩ := dec1_back (r := p.1) (n := p.2) (by rw [h])
    simp at h4
    omega
/-- where the first m records end -/
def ends (gs : List Rec) (m : Nat) : Nat := (encs (gs.take m)).length
theorem ends_zero (gs : List Rec) : ends gs 0 = 0 := rfl
theorem ends_all (gs : List Rec) {m : Nat} (h : gs.length ≤ m) : ends gs m = (encs gs).length := by unfold ends; rw [List.take_of_length_le h]
theorem ends_app (gs : List Rec) (r : Rec) {m : Nat} (h : m ≤ gs.length) : ends (gs ++ [r]) m = ends gs m := by unfold ends; rw [List.take_append_of_le_length h]
theorem ends_le (gs : List Rec) (m : Nat) : ends gs m ≤ (encs gs).length := by
  unfold ends
  have : encs gs = encs (gs.take m) ++ encs (gs.drop m) := by rw [← encs_append, List.take_append_drop]
  rw [this, List.length_append]; omega
theorem dec_torn (gs : List Rec) (hg : ∀ r ∈ gs, Good r ∧ Num r) {m k : Nat} (hm : m ≤ gs.length) (h1 : ends gs m ≤ k) (h2 : m < gs.length → k < ends gs (m + 1)) :
    dec ((encs gs).take k) = (gs.take m, ends gs m) := by
  unfold ends at *
  have e : encs gs = encs (gs.take m) ++ encs (gs.drop m) := by rw [← encs_append, List.take_append_drop]
  have hk : (encs gs).take k = encs (gs.take m) ++ (encs (gs.drop m)).take (k - (encs (gs.take m)).length) := by
    rw [e, List.take_append, List.take_of_length_le h1]
  rw [hk, dec_encs _ (fun r hr => hg r (List.mem_of_mem_take hr))]
  have hd : dec1 ((encs (gs.drop m)).take (k - (encs (gs.take m)).length)) = none := by
    rcases Nat.lt_or_ge m gs.length with hlt | hge
    · have e2 : gs.drop m = gs[m] :: gs.drop (m + 1) := List.drop_eq_getElem_cons hlt
      have h3 := h2 hlt
      have e3 : gs.take (m + 1) = gs.take m ++ [gs[m]] := by rw [List.take_add_one, List.getElem?_eq_getElem hlt]; rfl
      rw [e3, encs_append, List.length_append] at h3
      have e4 : encs [gs[m]] = enc gs[m] := by simp [encs]
      rw [e4] at h3
      rw [e2, encs_cons, List.take_append_of_le_length (by omega)]
      obtain ⟨g1, g2⟩ := hg gs[m] (List.getElem_mem hlt)
      exact dec1_cut g1 g2 (by omega)
    · rw [List.drop_eq_nil_of_le hge]
      simp only [encs, List.map_nil, List.flatten_nil, List.take_nil]
      exact dec1_nil
  rw [dec_none hd]
  simp
end Go.Proofs.YtmegkemileailaaGreatDoor.cl
