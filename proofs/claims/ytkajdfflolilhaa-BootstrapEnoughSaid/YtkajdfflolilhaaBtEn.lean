/-
  Boots: who gives, step by step; what is done then. Lists of bools that came in.
-/
import Derived.Test.YtkajdfflolilhaaBtN
import Derived.Test.YtkajdfflolilhaaBtNY
import Derived.Test.YtkajdfflolilhaaBtLaw
import Derived.Test.YtkajdfflolilhaaPmOpenP
namespace Go.Proofs.Ytkajdfflolilhaa.bt
open Go.ChangeShapes Go.WideShapes Go.ChangeAt Go.RowKit Go.Shelf plain words ord mem pm Go.Maps

def boolE (b : Bool) : List Value := [.bool b]
def BE : El Bool := ⟨boolE, 1, 4, fun _ => rfl, fun x v hv => by simp [boolE] at hv; subst hv; rfl, by decide⟩
theorem bools_of {H : Type} {enc : TypeId × Value → H} {W : World} {a : Option Addr} {len cap : Nat} {d : DataW H} {p : List MemPlace}
    (h0 : DataW.Trod enc Try.prog W 0 (fun _ => true) true 26 (.slice a len cap) d p) : IsLs BE (fun _ => True) W a len cap :=
  lists_of BE (fun _ => True) Try.underlying26 (by kernel_rfl) (fun cs hl h => by
    obtain ⟨n, y, h⟩ := h
    obtain ⟨b, rfl, _⟩ := DataW.trod_bool Try.underlying4 h
    exact ⟨b, rfl, trivial⟩) h0
theorem bool_at {w : World} {B n i : Nat} {A : Option Addr} {l : List Bool} (h : Ls BE w B A n l) {x : Bool} (hx : l[i]? = some x) :
    ∃ b off, A = some ⟨b, off, none⟩ ∧ b < B ∧ w.cell? ⟨b, off + i, none⟩ = some (.bool x) := by
  obtain ⟨b, off, e, hb, hc⟩ := h.at_ hx
  have := hc 0 (by decide)
  refine ⟨b, off, e, hb, ?_⟩
  simpa [BE, boolE] using this
/-- the nodes that are there -/
def avs (l : List O) : List Int := (l.filter fun o => o.2.1 == 2).map (·.1)
theorem avs_snoc {l : List O} {i : Nat} {x : O} (h : l[i]? = some x) : avs (l.take (i + 1)) = avs (l.take i) ++ (if (x.2.1 == 2) = true then [x.1] else []) := by
  unfold avs
  rw [List.take_add_one, h, List.filter_append, List.map_append]
  cases hb : (x.2.1 == 2) <;> simp [hb]
theorem avs_len (l : List O) : (avs l).length ≤ l.length := by
  unfold avs
  rw [List.length_map]
  exact List.length_filter_le _ _
theorem rise_inj {l : List O} (h : Rise (fun o : O => o.1) l) {a b : O} (ha : a ∈ l) (hb : b ∈ l) (e : a.1 = b.1) : a = b := by
  have h1 := (find_iff h a.1 a).2 ⟨ha, rfl⟩
  have h2 := (find_iff h a.1 b).2 ⟨hb, e.symm⟩
  rw [h1] at h2
  exact Option.some.inj h2
theorem avs_others {nodes : List Int} {l : List O} (h : ShardOk nodes l) {o : O} (ho : o ∈ l) (h1 : o.2.1 = 1) : othersOf o.1 l = avs l := by
  unfold othersOf avs
  congr 1
  apply List.filter_congr
  intro x hx
  by_cases e : x.2.1 = 2
  · have : x.1 ≠ o.1 := fun e2 => by
      have := rise_inj h.rise hx ho e2
      rw [this] at e; omega
    simp [e, this]
  · simp [e]
theorem avs_few {nodes : List Int} {l : List O} (h : ShardOk nodes l) {o : O} (ho : o ∈ l) (h1 : o.2.1 = 1) : (avs l).length ≤ 2 := by
  have h3 := h.three
  unfold stay at h3
  unfold avs
  rw [List.length_map]
  have hlt : (l.filter fun o => o.2.1 == 2).length < l.countP fun o => o.2.1 != 3 := by
    rw [← List.countP_eq_length_filter]
    obtain ⟨s, t, rfl⟩ := List.append_of_mem ho
    rw [List.countP_append, List.countP_append, List.countP_cons, List.countP_cons]
    have a1 : s.countP (fun o => o.2.1 == 2) ≤ s.countP fun o => o.2.1 != 3 := List.countP_mono_left fun x _ hx => by simp at hx ⊢; omega
    have a2 : t.countP (fun o => o.2.1 == 2) ≤ t.countP fun o => o.2.1 != 3 := List.countP_mono_left fun x _ hx => by simp at hx ⊢; omega
    simp [h1]
    omega
  omega
theorem avs_nodup {nodes : List Int} {l : List O} (h : ShardOk nodes l) : (avs l).Nodup := by
  unfold avs
  have h1 : (l.map (·.1)).Pairwise (· < ·) := List.pairwise_map.2 h.rise
  have h2 : ((l.filter fun o => o.2.1 == 2).map (·.1)).Pairwise (· < ·) := h1.sublist ((List.filter_sublist).map _)
  exact h2.imp (fun h e => by omega)
theorem avs_src {nodes : List Int} {l : List O} (h : ShardOk nodes l) {o : O} (ho : o ∈ l) (h1 : o.2.1 = 1) : o.2.2 ∉ avs l := by
  intro hm
  obtain ⟨_, h2, _⟩ := h.each o ho
  rcases h2 with ⟨a, _⟩ | ⟨_, x, hx, h3⟩ | ⟨a, _⟩
  · omega
  · obtain ⟨hx, e⟩ := (find_iff h.rise _ _).1 hx
    unfold avs at hm
    obtain ⟨y, hy, e2⟩ := List.mem_map.1 hm
    obtain ⟨hy1, hy2⟩ := List.mem_filter.1 hy
    have := rise_inj h.rise hx hy1 (by omega)
    rw [← this] at hy2
    simp at hy2
    omega
  · omega
/-- who has given, step by step -/
def stAt (s : BS) (gv : Nat → Bool) (ot : List Int) : Nat → BS
  | 0 => if gv 0 = true then s.got s.src else s
  | i + 1 => if gv (i + 1) = true then (stAt s gv ot i).got (ot.getD i 0) else stAt s gv ot i
def cnt (gv : Nat → Bool) : Nat → Nat
  | 0 => 0
  | i + 1 => if gv (i + 1) = true then cnt gv i + 1 else cnt gv i
theorem stAt_same (s : BS) (gv : Nat → Bool) (ot : List Int) (i : Nat) : (stAt s gv ot i).av = s.av ∧ (stAt s gv ot i).src = s.src ∧ (stAt s gv ot i).ot = s.ot ∧ (stAt s gv ot i).un = s.un ∧ (stAt s gv ot i).n ≤ s.n + 1 + i := by
  induction i with
  | zero => unfold stAt; split <;> simp [BS.got]
  | succ i ih =>
    obtain ⟨a, b, c, d, e⟩ := ih
    unfold stAt
    split
    · exact ⟨a, b, c, d, by show (stAt s gv ot i).n + 1 ≤ _; omega⟩
    · exact ⟨a, b, c, d, by omega⟩
theorem enough {s : BS} {gv : Nat → Bool} {ot : List Int} (ha : s.av = false) (hot : s.ot = ot) (hg : s.gs = []) (hu : s.un.length = 1) (hn : ot.Nodup) (hs : s.src ∉ ot) (hl : ot.length ≤ 2) :
    decide ((stAt s gv ot ot.length).left.length = 0) = (gv 0 || cnt gv ot.length == 2) ∧ (decide ((stAt s gv ot ot.length).left.length = 0) = false → (stAt s gv ot ot.length).wants.length ≠ 0) := by
  have key : (stAt s gv ot ot.length).met = (gv 0 || cnt gv ot.length == 2) ∧ (gv 0 = false → pm.has (stAt s gv ot ot.length).gs s.src = false) := by
    obtain ⟨f, t, uA, uc, un, av, src, oA, oc, ot', gb, pk, n, D, gs⟩ := s
    simp only at ha hot hg hu hs
    subst ha hot hg
    match ot', hl, hn, hs with
    | [], _, _, _ =>
      cases h0 : gv 0 <;> simp [stAt, cnt, BS.met, BS.got, full, pm.has, h0]
    | [a], _, _, hs =>
      have hs1 : ¬ src = a := by simpa using hs
      have hs2 : ¬ a = src := fun e => hs1 e.symm
      cases h0 : gv 0 <;> cases h1 : gv 1 <;> simp [stAt, cnt, BS.met, BS.got, full, pm.has, h0, h1, hs1, hs2]
    | [a, b], _, hn, hs =>
      have hs1 : ¬ src = a ∧ ¬ src = b := by simpa using hs
      have hs2 : ¬ a = src := fun e => hs1.1 e.symm
      have hs3 : ¬ b = src := fun e => hs1.2 e.symm
      have hab : ¬ a = b := by simpa using hn
      have hba : ¬ b = a := fun e => hab e.symm
      cases h0 : gv 0 <;> cases h1 : gv 1 <;> cases h2 : gv 2 <;> simp [stAt, cnt, BS.met, BS.got, full, pm.has, h0, h1, h2, hs1, hs2, hs3, hab, hba]
  obtain ⟨k1, k2⟩ := key
  obtain ⟨e1, e2, e3, e4, _⟩ := stAt_same s gv ot ot.length
  have hleft : decide ((stAt s gv ot ot.length).left.length = 0) = (gv 0 || cnt gv ot.length == 2) := by
    unfold BS.left
    rw [k1, e4]
    cases (gv 0 || cnt gv ot.length == 2) <;> simp [hu]
  refine ⟨hleft, fun hf => ?_⟩
  unfold BS.wants
  rw [hf, e1, ha, e2]
  have h0 : gv 0 = false := by rw [hf] at hleft; cases h0 : gv 0 <;> simp [h0] at hleft ⊢
  simp [notGot, k2 h0]
end Go.Proofs.Ytkajdfflolilhaa.bt
