/-
  The document's disk: without, with.
-/
import Derived.Test.YtmnliieiiaedeaaRd1
namespace Go.Proofs.Ytmnliieiiaedeaa.dk
open Go.ChangeShapes Go.WideShapes Go.ChangeAt Go.RowKit Go.Maps Go.Sort Go.Shelf plain words ord mem al

theorem infoFE : (Try.prog.info? 46).map (fun i => (i.zero, i.size, i.bytes)) = some (some (.agg #[.string ByteArray.empty, .string ByteArray.empty]), 2, 32) := by kernel_rfl
/-- 'append(v, x...)' of files in a walk -/
theorem append_f {w : World} {ops : Array Oper} {rest : List Oper} {o : Oper} {a : Act} {Q : Exit → Act → World → Prop} (hgd : o.guard = none) (s x : Operand)
    (ho : o.op = .call { callee := .builtin .append, args := #[s, x], argTypes := #[43, 43] })
    (base : Nat) (v : Value) (n : Nat) (l : AL Nm) (hs : a.eval s = v) (hown : Ow FE w base v n l)
    (B : Nat) (A : Option Addr) (m c : Nat) (hA : A = none → c = 0) (news : AL Nm) (hx : a.eval x = .slice A m c) (hr : Ls FE w B A m news)
    (hn : n + m ≤ 1099511627776) (hbase : base ≤ w.heap.size)
    (h : ∀ A' c' w', Ow FE w' base (.slice A' (n + m) c') (n + m) (l ++ news) → w.grownBy w' v.ownBlock → (A' = none → c' = 0) → n + m ≤ c' → c' ≤ 9223372036854775807 → w.heap.size ≤ w'.heap.size → wpList Try.prog ops Q rest (a.put o.dst (.slice A' (n + m) c')) w') : wpList Try.prog ops Q (o :: rest) a w := by
  obtain ⟨i0, hi, hz0, hz1, hz2⟩ := info_parts infoFE
  exact wpList_append_ow FE (P := Try.prog) Try.underlying43 hi hz0 hz1 hz2 rfl (by decide) hgd s x ho base v n l hs hown B A m c hA news hx hr hn hbase h
/-- a list of files -/
structure Fr (w : World) (A : Option Addr) (c : Nat) (l : AL Nm) : Prop where
  ls : Fls w w.heap.size A l.length l
  nil : A = none → c = 0
  len : l.length ≤ c
  cap : c ≤ 9223372036854775807
/-- a new list is handed back -/
def RetF (w : World) (l : AL Nm) (e : Ending) (w' : World) : Prop := ∃ A c, e = .returned (.slice A l.length c) ∧ Fr w' A c l ∧ Below w.heap.size w w' ∧ ∀ a, A = some a → w.heap.size ≤ a.block ∧ a.block < w'.heap.size
/-- a list is handed back: a new one, or the one at A0 -/
def RetD (w : World) (A0 : Option Addr) (l : AL Nm) (e : Ending) (w' : World) : Prop := ∃ A c, e = .returned (.slice A l.length c) ∧ Fr w' A c l ∧ Below w.heap.size w w' ∧ (A = A0 ∨ ∀ a, A = some a → w.heap.size ≤ a.block ∧ a.block < w'.heap.size)
theorem RetF.d {w : World} {A0 : Option Addr} {l : AL Nm} {e : Ending} {w' : World} (h : RetF w l e w') : RetD w A0 l e w' := by
  obtain ⟨A, c, h1, h2, h3, h4⟩ := h
  exact ⟨A, c, h1, h2, h3, .inr h4⟩
theorem Fr.below {w w' : World} {A : Option Addr} {c : Nat} {l : AL Nm} (h : Fr w A c l) (hb : Below w.heap.size w w') : Fr w' A c l :=
  ⟨(h.ls.below hb (Nat.le_refl _)).more hb.size, h.nil, h.len, h.cap⟩
theorem ls_cut {α : Type} {E : El α} {w : World} {B n c k b off : Nat} {l : List α} (h : Ls E w B (some ⟨b, off, none⟩) n l) (hk : k ≤ n) (hc : n ≤ c) (hck : ¬ c = k) : Ls E w B (some ⟨b, off + k * E.k, none⟩) (n - k) (l.drop k) := h.drop hk
theorem ls_cut0 {α : Type} {E : El α} {w : World} {B n c k b off : Nat} {l : List α} (h : Ls E w B (some ⟨b, off, none⟩) n l) (hk : k ≤ n) (hc : n ≤ c) (hck : c = k) : Ls E w B (some ⟨b, off, none⟩) 0 (l.drop k) := by
  rw [List.drop_eq_nil_of_le (by rw [h.1]; omega)]
  exact Ls.nil _ _ _
theorem ow_fr {w : World} {B n : Nat} {A : Option Addr} {c : Nat} {l : AL Nm} (h : Ow FE w B (.slice A n c) n l) : Fr w A c l := by
  obtain ⟨A', c', e, h1, h2, h3⟩ := h.form
  injection e with e1 e2 e3
  subst e1 e3
  have e0 := h.1
  refine ⟨?_, h1, by omega, h3⟩
  rw [e0]; exact h.ls
theorem ret_f {w w' : World} {B n c : Nat} {A : Option Addr} {l : AL Nm} (ho : Ow FE w' B (.slice A n c) n l) (hb : Below w.heap.size w w') (hB : w.heap.size ≤ B) : RetF w l (.returned (.slice A n c)) w' := by
  have := ho.1
  subst this
  refine ⟨A, c, rfl, ow_fr ho, hb, fun a e => ?_⟩
  subst e
  exact ⟨Nat.le_trans hB (ho.lt a.block rfl).1, (ho.lt a.block rfl).2⟩
set_option maxHeartbeats 1000000 in
set_option maxRecDepth 100000 in
theorem without_y (w : World) (n c : Nat) (A : Option Addr) (ls : AL Nm) (i : Nat) (h : Fr w A c ls) (hi : i < n) (hl : ls.length = n) (hn : n ≤ 1000000000) :
    Calls Try.prog 78 #[.slice A n c, .int .i64 i] w (RetF w (ls.take i ++ ls.drop (i + 1))) := by
  obtain ⟨hls, hnil, hlen, hcap⟩ := h
  rw [hl] at hls hlen
  obtain ⟨b, off, rfl, hb⟩ := Rd.some_of hls.2 (show 0 < n * FE.k by show 0 < n * 2; omega)
  have i0 : (0 : Int) ≤ (i : Int) := by omega
  have i1 : (i : Int) ≤ (c : Int) := by omega
  have i2 : (i : Int) ≤ (n : Int) := by omega
  obtain ⟨M, hM⟩ : ∃ M, i + 1 = M := ⟨_, rfl⟩
  rw [hM]
  have w1 : IntKind.i64.wrap ((i : Int) + 1) = (M : Int) := by rw [IntWalk.i64_in _ (by omega)]; omega
  have m0 : (0 : Int) ≤ (M : Int) := by omega
  have m1 : (M : Int) ≤ (n : Int) := by omega
  have m2 : (n : Int) ≤ (c : Int) := by omega
  have m3 : (M : Int) ≤ (c : Int) := by omega
  have hb0 : Below w.heap.size w (w.alloc (.cells #[] 46)) := (Below.refl _ _).alloc (Nat.le_refl _) _
  have hown : Ow FE (w.alloc (.cells #[] 46)) w.heap.size (.slice (some ⟨w.heap.size, 0, none⟩) 0 0) 0 [] := Ow.lit w
  have hcut1 := (hls.take (i := i) (by omega)).below hb0 (Nat.le_refl _)
  by_cases hck : c = M
  · have hcut2 := ls_cut0 (c := c) hls (k := M) (by omega) (by omega) hck
    obtain rfl : M = c := hck.symm
    have HC2 := Lib.hid hcut2
    clear hcut2
    go_enter Try.func78, Try.ntmps78
    go_wp2_with (first | (at_builtin; (refine append_f rfl (.tmp 7) (.tmp 10) rfl w.heap.size _ 0 [] rfl hown w.heap.size _ i _ (fun e => by cases e) (ls.take i) rfl hcut1 (by omega) (by simp) ?_; intro A2 c2 w2 hown2 hg2 hA2 hc21 hc22 hs2; simp only [Nat.zero_add, List.nil_append] at hown2; have hb2 := hown.below_grown hb0 hg2 (by simp); clear hg2 hcut1)) | (at_builtin; (refine append_f rfl (.tmp 12) (.tmp 16) rfl w.heap.size _ i (ls.take i) rfl hown2 w.heap.size _ _ _ (fun e => by cases e) (ls.drop M) rfl (HC2.out.below hb2 (Nat.le_refl _)) (by omega) hb2.size ?_; intro A3 c3 w3 hown3 hg3 hA3 hc31 hc32 hs3; have hb3 := hown2.below_grown hb2 hg3 hb2.size; clear hg3)))
    go_ret
    exact ret_f hown3 hb3 (Nat.le_refl _)
  · have hcut2 := ls_cut (c := c) hls (k := M) (by omega) (by omega) hck
    have hk2 : FE.k = 2 := rfl
    rw [hk2] at hcut2
    have HC2 := Lib.hid hcut2
    clear hcut2
    go_enter Try.func78, Try.ntmps78
    go_wp2_with (first | (at_builtin; (refine append_f rfl (.tmp 7) (.tmp 10) rfl w.heap.size _ 0 [] rfl hown w.heap.size _ i _ (fun e => by cases e) (ls.take i) rfl hcut1 (by omega) (by simp) ?_; intro A2 c2 w2 hown2 hg2 hA2 hc21 hc22 hs2; simp only [Nat.zero_add, List.nil_append] at hown2; have hb2 := hown.below_grown hb0 hg2 (by simp); clear hg2 hcut1)) | (at_builtin; (refine append_f rfl (.tmp 12) (.tmp 16) rfl w.heap.size _ i (ls.take i) rfl hown2 w.heap.size _ _ _ (fun e => by cases e) (ls.drop M) rfl (HC2.out.below hb2 (Nat.le_refl _)) (by omega) hb2.size ?_; intro A3 c3 w3 hown3 hg3 hA3 hc31 hc32 hs3; have hb3 := hown2.below_grown hb2 hg3 hb2.size; clear hg3)))
    go_ret
    exact ret_f hown3 hb3 (Nat.le_refl _)
end Go.Proofs.Ytmnliieiiaedeaa.dk
