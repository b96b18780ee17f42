/-
  Index: entries as cells; what the document asks of them; their bytes.
-/
import Derived.Test.YtcebmlcdhapnkaaStructs
import Derived.Test.YtcebmlcdhapnkaaCells
import Derived.Test.YtcebmlcdhapnkaaRowStr
import Derived.Test.YtcebmlcdhapnkaaUvCodeY
import Derived.Test.YtcebmlcdhapnkaaFree
namespace Go.Proofs.Ytcebmlcdhapnkaa.idx
open Go.ChangeShapes Go.WideShapes Go.ChangeAt Go.RowKit Go.Deep plain words ord mem uvs uvc

abbrev En := ByteArray × Int × Int × Int
def eE (x : En) : List Value := [.string x.1, .int .i64 x.2.1, .int .i64 x.2.2.1, .int .u32 x.2.2.2]
theorem eE_len (x : En) : (eE x).length = 4 := rfl
theorem eE_one (x : En) : ∀ v ∈ eE x, v.oneCell' = true := by
  intro v hv
  simp [eE] at hv
  rcases hv with rfl | rfl | rfl | rfl <;> rfl
/-- a list of entries that is read -/
abbrev Ens (w : World) (B : Nat) (A : Option Addr) (n : Nat) (l : List En) : Prop := l.length = n ∧ Rd w B A (n * 4) (cs eE l)
theorem Ens.below {w w' : World} {B C n : Nat} {A : Option Addr} {l : List En} (h : Ens w B A n l) (hb : Below C w w') (hB : B ≤ C) : Ens w' B A n l := ⟨h.1, h.2.below hb hB⟩
theorem Ens.at_ {w : World} {B n : Nat} {A : Option Addr} {l : List En} (h : Ens w B A n l) {i : Nat} (hi : i < n) {x : En} (hx : l[i]? = some x) :
    ∃ b off, A = some ⟨b, off, none⟩ ∧ b < B ∧ w.cell? ⟨b, off + i * 4, none⟩ = some (.string x.1) ∧ w.cell? ⟨b, off + i * 4 + 1, none⟩ = some (.int .i64 x.2.1) ∧ w.cell? ⟨b, off + i * 4 + 2, none⟩ = some (.int .i64 x.2.2.1) ∧ w.cell? ⟨b, off + i * 4 + 3, none⟩ = some (.int .u32 x.2.2.2) := by
  obtain ⟨b, off, rfl, hb⟩ := Rd.some_of h.2 (show 0 < n * 4 by omega)
  refine ⟨b, off, rfl, hb, ?_, ?_, ?_, ?_⟩
  · exact (Rd.cellsAt (k := 4) eE_len h.2 hx hi (j := 0) (by omega)).1
  · exact (Rd.cellsAt (k := 4) eE_len h.2 hx hi (j := 1) (by omega)).1
  · exact (Rd.cellsAt (k := 4) eE_len h.2 hx hi (j := 2) (by omega)).1
  · exact (Rd.cellsAt (k := 4) eE_len h.2 hx hi (j := 3) (by omega)).1
theorem Ens.take {w : World} {B n : Nat} {A : Option Addr} {l : List En} (h : Ens w B A n l) (k : Nat) (hk : k ≤ n) : Ens w B A k (l.take k) := by
  refine ⟨by rw [List.length_take, h.1]; omega, by rw [cs_len eE_len, List.length_take, h.1]; omega, fun j hj => ?_⟩
  obtain ⟨b', off', v, e, hb, hv, hc⟩ := h.2.at_ j (by omega)
  exact ⟨b', off', v, e, hb, by rw [← cs_take eE_len, List.getElem?_take, if_pos hj]; exact hv, hc⟩
theorem Ens.none0 (w : World) (B : Nat) (A : Option Addr) : Ens w B A 0 [] := ⟨rfl, Rd.nil _ _ _⟩
/-- numbers and lengths that a machine has -/
def FitE (x : En) : Prop := x.1.size ≤ 9223372036854775807 ∧ (-9223372036854775808 ≤ x.2.1 ∧ x.2.1 ≤ 9223372036854775807) ∧ (-9223372036854775808 ≤ x.2.2.1 ∧ x.2.2.1 ≤ 9223372036854775807) ∧ 0 ≤ x.2.2.2 ∧ x.2.2.2 < 4294967296
/-- how the frame says it *-/
def IsEns (w : World) (a : Option Addr) (len cap : Nat) : Prop := ∃ l, Ens w w.heap.size a len l ∧ (∀ x ∈ l, FitE x) ∧ len ≤ cap ∧ cap ≤ maxLen ∧ (a = none → cap = 0)
theorem entries_of {H : Type} {enc : TypeId × Value → H} {W : World} {a : Option Addr} {len cap : Nat} {d : DataW H} {p : List MemPlace}
    (h0 : DataW.Trod enc Try.prog W 0 (fun _ => true) true 50 (.slice a len cap) d p) : IsEns W a len cap := by
  rcases structs_of Try.underlying50 Try.underlying68 (by kernel_rfl) (by kernel_rfl) h0 with ⟨rfl, rfl, rfl⟩ | ⟨x, rfl, hl, hm, hx⟩
  · exact ⟨[], Ens.none0 _ _ _, fun x hx => by simp at hx, Nat.le_refl _, by simp, fun _ => rfl⟩
  · have each : ∀ i, i < len → ∃ q : En, W.cell? (x.add (i * 4)) = some (.string q.1) ∧ W.cell? (x.add (i * 4 + 1)) = some (.int .i64 q.2.1) ∧ W.cell? (x.add (i * 4 + 2)) = some (.int .i64 q.2.2.1) ∧ W.cell? (x.add (i * 4 + 3)) = some (.int .u32 q.2.2.2) ∧ FitE q := fun i hi => by
      obtain ⟨v0, c0, r0⟩ := hx i hi 0 _ rfl
      obtain ⟨v1, c1, r1⟩ := hx i hi 1 _ rfl
      obtain ⟨v2, c2, r2⟩ := hx i hi 2 _ rfl
      obtain ⟨v3, c3, r3⟩ := hx i hi 3 _ rfl
      obtain ⟨s, rfl, hs⟩ := reads_string Try.underlying9 r0
      obtain ⟨n1, rfl, w1⟩ := reads_int Try.underlying3 r1
      obtain ⟨n2, rfl, w2⟩ := reads_int Try.underlying3 r2
      obtain ⟨n3, rfl, w3⟩ := reads_int Try.underlying66 r3
      have h3 := wf_u32 w3
      unfold maxLen at hs
      exact ⟨(s, n1, n2, n3), c0, c1, c2, c3, by simp only; omega, wf_i64 w1, wf_i64 w2, h3.1, by simp only; omega⟩
    obtain ⟨q, hq⟩ := choose_lt each
    refine ⟨(List.range len).map q, ⟨by simp, by rw [cs_len eE_len]; simp, fun j hj => ?_⟩, fun y hy => ?_, hl, hm, fun e => by cases e⟩
    · have hj4 : j / 4 < len := by omega
      obtain ⟨b, off, spot⟩ := x
      have hspot : spot = none := by
        have := World.cell?_spot (hq 0 (by omega)).1
        simpa [Addr.add] using this
      subst hspot
      obtain ⟨c0, c1, c2, c3, _⟩ := hq (j / 4) hj4
      rw [words.add_plain] at c0 c1 c2 c3
      have hb := World.block_lt_of_cell? W _ c0
      have hg : ((List.range len).map q)[j / 4]? = some (q (j / 4)) := by simp [hj4]
      have h7 := cs_at (k := 4) eE_len ((List.range len).map q) (j / 4) _ hg (j % 4) (by omega)
      rw [show j / 4 * 4 + j % 4 = j from by omega] at h7
      have h4 : j % 4 = 0 ∨ j % 4 = 1 ∨ j % 4 = 2 ∨ j % 4 = 3 := by omega
      rcases h4 with e | e | e | e <;> rw [e] at h7
      · exact ⟨b, off, _, rfl, hb, h7, by rw [show off + j = off + (j / 4 * 4) from by omega]; exact c0⟩
      · exact ⟨b, off, _, rfl, hb, h7, by rw [show off + j = off + (j / 4 * 4 + 1) from by omega]; exact c1⟩
      · exact ⟨b, off, _, rfl, hb, h7, by rw [show off + j = off + (j / 4 * 4 + 2) from by omega]; exact c2⟩
      · exact ⟨b, off, _, rfl, hb, h7, by rw [show off + j = off + (j / 4 * 4 + 3) from by omega]; exact c3⟩
    · obtain ⟨i, hi, rfl⟩ := List.mem_map.1 hy
      exact (hq i (by simpa using hi)).2.2.2.2

/-! ### what is asked of entries -/
def within (n : Int) : Bool := decide (0 ≤ n) && decide (n ≤ 2147483647)
def sle (a b : ByteArray) : Bool := Op.bytesLess a.toList b.toList || a.toList == b.toList
def checkF : Option ByteArray → List En → Int
  | _, [] => 0
  | p, x :: l => if x.1.size < 1 ∨ 16 < x.1.size then 80 else if (within x.2.1 && within x.2.2.1) = false then 1 else if (match p with | none => false | some q => sle x.1 q) = true then 51 else checkF (some x.1) l
def after (p : Option ByteArray) (s : ByteArray) : Bool := match p with | none => false | some q => sle s q
theorem checkF_cons (p : Option ByteArray) (x : En) (l : List En) : checkF p (x :: l) = if x.1.size < 1 ∨ 16 < x.1.size then 80 else if (within x.2.1 && within x.2.2.1) = false then 1 else if after p x.1 = true then 51 else checkF (some x.1) l := by cases p <;> rfl
def checkE (l : List En) : Int := checkF none l
def prev (l : List En) : Nat → Option ByteArray
  | 0 => none
  | k + 1 => (l[k]?).map fun x => x.1
theorem check_id {l : List En} {k : Nat} {x : En} (hx : l[k]? = some x) (h : x.1.size < 1 ∨ 16 < x.1.size) : checkF (prev l k) (l.drop k) = 80 := by
  obtain ⟨hk, rfl⟩ := List.getElem?_eq_some_iff.1 hx
  rw [List.drop_eq_getElem_cons hk, checkF_cons, if_pos h]
theorem check_arg {l : List En} {k : Nat} {x : En} (hx : l[k]? = some x) (h : ¬ (x.1.size < 1 ∨ 16 < x.1.size)) (h2 : (within x.2.1 && within x.2.2.1) = false) : checkF (prev l k) (l.drop k) = 1 := by
  obtain ⟨hk, rfl⟩ := List.getElem?_eq_some_iff.1 hx
  rw [List.drop_eq_getElem_cons hk, checkF_cons, if_neg h, if_pos h2]
theorem check_order {l : List En} {k : Nat} {x y : En} (hx : l[k + 1]? = some x) (hy : l[k]? = some y) (h : ¬ (x.1.size < 1 ∨ 16 < x.1.size)) (h2 : (within x.2.1 && within x.2.2.1) = true) (h3 : sle x.1 y.1 = true) : checkF (prev l (k + 1)) (l.drop (k + 1)) = 51 := by
  obtain ⟨hk, rfl⟩ := List.getElem?_eq_some_iff.1 hx
  have hp : prev l (k + 1) = some y.1 := by simp [prev, hy]
  rw [List.drop_eq_getElem_cons hk, checkF_cons, if_neg h, if_neg (by simp [h2]), hp]
  simp only [after, h3, if_true]
theorem check_next {l : List En} {k : Nat} {x : En} (hx : l[k]? = some x) (h : ¬ (x.1.size < 1 ∨ 16 < x.1.size)) (h2 : (within x.2.1 && within x.2.2.1) = true) (h3 : ∀ q, prev l k = some q → sle x.1 q = false) : checkF (prev l k) (l.drop k) = checkF (prev l (k + 1)) (l.drop (k + 1)) := by
  have hp : prev l (k + 1) = some x.1 := by simp [prev, hx]
  obtain ⟨hk, rfl⟩ := List.getElem?_eq_some_iff.1 hx
  rw [hp]
  conv => lhs; rw [List.drop_eq_getElem_cons hk, checkF_cons, if_neg h, if_neg (by simp [h2])]
  rw [if_neg]
  cases hq : prev l k with
  | none => simp [after]
  | some q => simp [after, h3 q hq]
theorem check_end {l : List En} {k : Nat} (hk : l.length ≤ k) : checkF (prev l k) (l.drop k) = 0 := by
  rw [List.drop_of_length_le hk]
  rfl

/-! ### their bytes -/
def txt (s : ByteArray) : List UInt8 := uv s.size ++ s.data.toList
def be (z : Int) : List UInt8 := [UInt8.ofNat (z.toNat / 16777216), UInt8.ofNat (z.toNat / 65536), UInt8.ofNat (z.toNat / 256), UInt8.ofNat z.toNat]
def oneE (x : En) : List UInt8 := txt x.1 ++ uv x.2.1.toNat ++ uv x.2.2.1.toNat ++ be x.2.2.2
def idxB (l : List En) : List UInt8 := l.flatMap oneE
def sumT (l : List En) : Nat → List UInt8
  | 0 => []
  | k + 1 => sumT l k ++ (if k % 4 = 0 then match l[k]? with | some x => txt x.1 ++ uv (idxB (l.take k)).length | none => [] else [])
def sumB (l : List En) : List UInt8 := sumT l l.length
theorem idxB_take {l : List En} {k : Nat} {x : En} (hx : l[k]? = some x) : idxB (l.take (k + 1)) = idxB (l.take k) ++ oneE x := by
  rw [take_succ_of hx, idxB, List.flatMap_append]
  simp [idxB]
theorem txt_len (s : ByteArray) (h : s.size ≤ 16) : (txt s).length ≤ 26 := by
  have := uv_len s.size
  have h2 : s.data.toList.length = s.size := by rw [Array.length_toList]; rfl
  simp only [txt, List.length_append, h2]
  omega
theorem one_len (x : En) (h : x.1.size ≤ 16) : (oneE x).length ≤ 50 := by
  have := txt_len x.1 h
  have := uv_len x.2.1.toNat
  have := uv_len x.2.2.1.toNat
  simp only [oneE, be, List.length_append, List.length_cons, List.length_nil]
  omega
theorem idxB_len (l : List En) (h : ∀ x ∈ l, x.1.size ≤ 16) : (idxB l).length ≤ 50 * l.length := by
  induction l with
  | nil => simp [idxB]
  | cons x l ih =>
    have h1 := one_len x (h x (by simp))
    have h2 := ih fun y hy => h y (by simp [hy])
    simp only [idxB, List.flatMap_cons, List.length_append, List.length_cons] at h2 ⊢
    omega
theorem sumT_len (l : List En) (h : ∀ x ∈ l, x.1.size ≤ 16) (k : Nat) : (sumT l k).length ≤ 40 * k := by
  induction k with
  | zero => simp [sumT]
  | succ k ih =>
    simp only [sumT, List.length_append]
    have : (if k % 4 = 0 then match l[k]? with | some x => txt x.1 ++ uv (idxB (l.take k)).length | none => [] else []).length ≤ 36 := by
      split
      · cases hx : l[k]? with
        | none => simp
        | some x =>
          have h1 := txt_len x.1 (h x (List.mem_of_getElem? hx))
          have h2 := uv_len (idxB (l.take k)).length
          simp only [List.length_append]
          omega
      · simp
    omega
/-- entries that pass have short names and small places *-/
theorem checkF_ok (l : List En) (p : Option ByteArray) (h : checkF p l = 0) : ∀ x ∈ l, (1 ≤ x.1.size ∧ x.1.size ≤ 16) ∧ (0 ≤ x.2.1 ∧ x.2.1 ≤ 2147483647) ∧ 0 ≤ x.2.2.1 ∧ x.2.2.1 ≤ 2147483647 := by
  induction l generalizing p with
  | nil => intro x hx; simp at hx
  | cons y l ih =>
    rw [checkF_cons] at h
    split at h
    · cases h
    · rename_i h1
      split at h
      · cases h
      · rename_i h2
        split at h
        · cases h
        · intro x hx
          rcases List.mem_cons.1 hx with rfl | hx
          · have h3 : (within x.2.1 && within x.2.2.1) = true := by simpa using h2
            simp [within] at h3
            omega
          · exact ih _ h x hx
end Go.Proofs.Ytcebmlcdhapnkaa.idx
