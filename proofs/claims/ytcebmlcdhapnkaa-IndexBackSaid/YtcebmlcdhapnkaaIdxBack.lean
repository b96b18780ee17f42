/-
  Index: what was laid down is read back; what is cut short is not.
-/
import Derived.Test.YtcebmlcdhapnkaaIdxLst
namespace Go.Proofs.Ytcebmlcdhapnkaa.idx
open Go Go.RowKit plain words ord mem uvs uvc

theorem rn_append {p : List UInt8} (q : List UInt8) (h : (rn p).2 ≠ 0) : rn (p ++ q) = rn p := by
  obtain ⟨hv, hn, _⟩ := rn_facts p
  have hb := rn_back p h
  have hl : (uv (rn p).1).length = (rn p).2 := by rw [← hb, List.length_take]; omega
  have hp : p = uv (rn p).1 ++ p.drop (rn p).2 := by rw [← hb, List.take_append_drop]
  conv => lhs; rw [hp, List.append_assoc]
  rw [rn_uv _ hv, hl]
theorem rt_append {p : List UInt8} (q : List UInt8) (h : (rt p).2 ≠ 0) : rt (p ++ q) = rt p := by
  by_cases hc : (rn p).2 = 0 ∨ (rn p).1 < 1 ∨ 16 < (rn p).1 ∨ p.length - (rn p).2 < (rn p).1
  · unfold rt at h
    rw [if_pos hc] at h
    exact absurd rfl h
  · have h1 := rn_append q (fun e => hc (.inl e))
    have hf := rn_facts p
    unfold rt
    rw [h1, if_neg hc, if_neg (by rw [List.length_append]; omega)]
    rw [List.drop_append_of_le_length (by omega), List.take_append_of_le_length (by rw [List.length_drop]; omega)]
theorem sum4_append {p : List UInt8} (q : List UInt8) (h : 4 ≤ p.length) : sum4 (p ++ q) = sum4 p := by
  match p, h with
  | a :: b :: c :: d :: l, _ => rfl
theorem re_parts {p : List UInt8} (h : (re p).2 ≠ 0) : ∃ S t V1 N1 V2 N2, rt p = (S, t) ∧ rn (p.drop t) = (V1, N1) ∧ rn (p.drop (t + N1)) = (V2, N2) ∧ t ≠ 0 ∧ N1 ≠ 0 ∧ N2 ≠ 0 ∧ t + N1 + N2 + 4 ≤ p.length := by
  obtain ⟨S, t, e0⟩ : ∃ S t, rt p = (S, t) := ⟨_, _, rfl⟩
  obtain ⟨V1, N1, e1⟩ : ∃ V N, rn (p.drop t) = (V, N) := ⟨_, _, rfl⟩
  obtain ⟨V2, N2, e2⟩ : ∃ V N, rn (p.drop (t + N1)) = (V, N) := ⟨_, _, rfl⟩
  refine ⟨S, t, V1, N1, V2, N2, e0, e1, e2, fun e => ?_, fun e => ?_, fun e => ?_, ?_⟩
  · exact h (by rw [re0 (by rw [e0]; exact e)]; rfl)
  · exact h (by rw [re1 e0 (by rw [e1]; exact e)]; rfl)
  · exact h (by rw [re2 e0 e1 e2 (.inl e)]; rfl)
  · rcases Nat.lt_or_ge p.length (t + N1 + N2 + 4) with h1 | h1
    · exact absurd (show (re p).2 = 0 by rw [re2 e0 e1 e2 (.inr h1)]; rfl) h
    · exact h1
theorem re_append {p : List UInt8} (q : List UInt8) (h : (re p).2 ≠ 0) : re (p ++ q) = re p := by
  obtain ⟨S, t, V1, N1, V2, N2, e0, e1, e2, n0, n1, n2, hl⟩ := re_parts h
  have f0 : rt (p ++ q) = (S, t) := by rw [rt_append q (by rw [e0]; exact n0), e0]
  have f1 : rn ((p ++ q).drop t) = (V1, N1) := by rw [List.drop_append_of_le_length (by omega), rn_append q (by rw [e1]; exact n1), e1]
  have f2 : rn ((p ++ q).drop (t + N1)) = (V2, N2) := by rw [List.drop_append_of_le_length (by omega), rn_append q (by rw [e2]; exact n2), e2]
  rw [re3 e0 e1 e2 n0 n1 n2 hl, re3 f0 f1 f2 n0 n1 n2 (by rw [List.length_append]; omega), List.drop_append_of_le_length (by omega), sum4_append q (by rw [List.length_drop]; omega)]

/-- an entry that may be in a list -/
def OkE (x : En) : Prop := (1 ≤ x.1.size ∧ x.1.size ≤ 16) ∧ (0 ≤ x.2.1 ∧ x.2.1 ≤ 2147483647) ∧ (0 ≤ x.2.2.1 ∧ x.2.2.1 ≤ 2147483647) ∧ 0 ≤ x.2.2.2 ∧ x.2.2.2 < 4294967296
theorem rt_txt (s : ByteArray) (h1 : 1 ≤ s.size) (h2 : s.size ≤ 16) (rest : List UInt8) : rt (txt s ++ rest) = (s, (txt s).length) := by
  have hu := uv_len s.size
  have hs := str_len s
  have hr : rn (txt s ++ rest) = (s.size, (uv s.size).length) := by
    rw [txt, List.append_assoc]
    exact rn_uv _ (by omega) _
  have hlen : (txt s ++ rest).length = (uv s.size).length + s.size + rest.length := by rw [txt, List.length_append, List.length_append, hs]
  unfold rt
  rw [hr, if_neg (by simp only; omega)]
  simp only
  have e1 : (txt s ++ rest).drop (uv s.size).length = s.data.toList ++ rest := by
    rw [txt, List.append_assoc, List.drop_left]
  have e2 : (s.data.toList ++ rest).take s.size = s.data.toList := by
    rw [← hs, List.take_left]
  rw [e1, e2, show (txt s).length = (uv s.size).length + s.size from by rw [txt, List.length_append, hs]]
theorem sum4_be (z : Int) (h0 : 0 ≤ z) (h1 : z < 4294967296) (rest : List UInt8) : sum4 (be z ++ rest) = z := by
  obtain ⟨n, rfl⟩ : ∃ n : Nat, z = n := ⟨z.toNat, by omega⟩
  simp only [be, List.cons_append, List.nil_append, sum4, UInt8.toNat_ofNat', Int.toNat_natCast]
  omega
theorem re_one (x : En) (h : OkE x) (rest : List UInt8) : re (oneE x ++ rest) = (x, (oneE x).length) := by
  obtain ⟨s, o, z, m⟩ := x
  obtain ⟨⟨h1, h2⟩, ⟨h3, h4⟩, ⟨h5, h6⟩, h7, h8⟩ := h
  simp only at h1 h2 h3 h4 h5 h6 h7 h8
  obtain ⟨o, rfl⟩ : ∃ q : Nat, o = q := ⟨o.toNat, by omega⟩
  obtain ⟨z, rfl⟩ : ∃ q : Nat, z = q := ⟨z.toNat, by omega⟩
  have ho := uv_len o
  have hz := uv_len z
  have ht : 1 ≤ (txt s).length := by
    have := uv_len s.size
    rw [txt, List.length_append]; omega
  have e : oneE (s, (o : Int), (z : Int), m) ++ rest = txt s ++ (uv o ++ (uv z ++ (be m ++ rest))) := by simp [oneE]
  have e1 : (txt s ++ (uv o ++ (uv z ++ (be m ++ rest)))).drop (txt s).length = uv o ++ (uv z ++ (be m ++ rest)) := List.drop_left
  have e2 : (txt s ++ (uv o ++ (uv z ++ (be m ++ rest)))).drop ((txt s).length + (uv o).length) = uv z ++ (be m ++ rest) := by rw [← List.drop_drop, e1, List.drop_left]
  have e3 : (txt s ++ (uv o ++ (uv z ++ (be m ++ rest)))).drop ((txt s).length + (uv o).length + (uv z).length) = be m ++ rest := by rw [← List.drop_drop, e2, List.drop_left]
  have hl : (oneE (s, (o : Int), (z : Int), m)).length = (txt s).length + (uv o).length + (uv z).length + 4 := by simp [oneE, be]; omega
  rw [e, hl, re3 (V1 := o) (N1 := (uv o).length) (V2 := z) (N2 := (uv z).length) (rt_txt s h1 h2 _) (by rw [e1]; exact rn_uv _ (by omega) _) (by rw [e2]; exact rn_uv _ (by omega) _) (by omega) (by omega) (by omega) (by simp [be]; omega), e3, sum4_be m h7 h8]
theorem one_pos (x : En) : 4 ≤ (oneE x).length := by simp [oneE, be]; omega
theorem lst_more (l : List En) (h : ∀ x ∈ l, OkE x) (rest : List UInt8) : lst (idxB l ++ rest) = (lst rest).map (l ++ ·) := by
  induction l with
  | nil =>
    simp only [idxB, List.flatMap_nil, List.nil_append]
    cases lst rest <;> rfl
  | cons x l ih =>
    have hx := h x (by simp)
    have e : idxB (x :: l) ++ rest = oneE x ++ (idxB l ++ rest) := by simp [idxB]
    have hp := one_pos x
    have hne : oneE x ++ (idxB l ++ rest) ≠ [] := fun e => by
      have := congrArg List.length e
      rw [List.length_append] at this
      simp only [List.length_nil] at this
      omega
    have hr := re_one x hx (idxB l ++ rest)
    rw [e, lst_cons hne (by rw [hr]; simp only; omega), hr]
    simp only
    rw [List.drop_left, ih fun y hy => h y (by simp [hy])]
    cases lst rest <;> rfl
theorem lst_back (l : List En) (h : ∀ x ∈ l, OkE x) : lst (idxB l) = some l := by
  have := lst_more l h []
  rw [List.append_nil, lst_nil] at this
  simpa using this
theorem lst_cut (l : List En) (h : ∀ x ∈ l, OkE x) (x : En) (hx : OkE x) (k : Nat) (h0 : 0 < k) (h1 : k < (oneE x).length) : lst (idxB l ++ (oneE x).take k) = none := by
  have hlen : ((oneE x).take k).length = k := by rw [List.length_take]; omega
  have hne : (oneE x).take k ≠ [] := fun e => by
    rw [e] at hlen
    simp only [List.length_nil] at hlen
    omega
  rw [lst_more l h, lst_none hne]
  · rfl
  · rcases Nat.eq_zero_or_pos (re ((oneE x).take k)).2 with e | e
    · exact e
    · exfalso
      have h2 := re_append ((oneE x).drop k) (p := (oneE x).take k) (by omega)
      rw [List.take_append_drop] at h2
      have h3 := re_one x hx []
      rw [List.append_nil] at h3
      have h4 := re_le ((oneE x).take k)
      rw [← h2, h3, hlen] at h4
      simp only at h4
      omega
theorem okE_of {l : List En} (h : checkE l = 0) (hF : ∀ x ∈ l, FitE x) : ∀ x ∈ l, OkE x := fun x hx => by
  obtain ⟨h1, h2, h3⟩ := checkF_ok l none h x hx
  obtain ⟨_, _, _, h4⟩ := hF x hx
  exact ⟨h1, h2, h3, h4⟩
end Go.Proofs.Ytcebmlcdhapnkaa.idx
