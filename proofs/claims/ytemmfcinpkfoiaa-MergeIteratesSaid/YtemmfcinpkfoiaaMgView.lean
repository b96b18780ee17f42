/-
  Points: the view of one list, as the program makes it.
-/
import Derived.Test.YtemmfcinpkfoiaaMgCompX
import Derived.Shelf.SlSortCmp.NoneTotal
namespace Go.Proofs.Ytemmfcinpkfoiaa.mg
open Go.ChangeShapes Go.WideShapes Go.ChangeAt Go.RowKit Go.Shelf plain words ord mem rg

/-- points in a row of the call's own -/
def RetPts (w : World) (B : Nat) (l : List Pt) (e : Ending) (w' : World) : Prop := ∃ A c, e = .returned (.slice A l.length c) ∧ Ow PE w' B (.slice A l.length c) l.length l ∧ Below B w w'
/-- 'append(v, x...)' of points in a walk -/
theorem append_p {w : World} {ops : Array Oper} {rest : List Oper} {o : Oper} {a : Act} {Q : Exit → Act → World → Prop} (hgd : o.guard = none) (s x : Operand)
    (ho : o.op = .call { callee := .builtin .append, args := #[s, x], argTypes := #[27, 27] })
    (base : Nat) (v : Value) (n : Nat) (l : List Pt) (hs : a.eval s = v) (hown : Ow PE w base v n l)
    (B : Nat) (A : Option Addr) (m c : Nat) (hA : A = none → c = 0) (news : List Pt) (hx : a.eval x = .slice A m c) (hr : Ls PE w B A m news)
    (hn : n + m ≤ 1099511627776) (hbase : base ≤ w.heap.size)
    (h : ∀ A' c' w', Ow PE w' base (.slice A' (n + m) c') (n + m) (l ++ news) → w.grownBy w' v.ownBlock → (A' = none → c' = 0) → n + m ≤ c' → c' ≤ 9223372036854775807 → w.heap.size ≤ w'.heap.size → wpList Try.prog ops Q rest (a.put o.dst (.slice A' (n + m) c')) w') : wpList Try.prog ops Q (o :: rest) a w := by
  obtain ⟨i0, hi, hz0, hz1, hz2⟩ := info_parts infoP
  exact wpList_append_ow PE (P := Try.prog) Try.underlying27 hi hz0 hz1 hz2 rfl (by decide) hgd s x ho base v n l hs hown B A m c hA news hx hr hn hbase h
theorem clone_p (w : World) (B n c : Nat) (A : Option Addr) (l : List Pt) (h : Ls PE w B A n l) (hA : A = none → c = 0) (hB : B ≤ w.heap.size) (hn : n ≤ 1000000) :
    Calls Try.prog 44 #[.slice A n c] w (RetPts w w.heap.size l) := by
  have hl := h.1
  cases A with
  | none =>
    have hn : n = 0 := by
      rcases Nat.eq_zero_or_pos n with h0 | h0
      · exact h0
      · obtain ⟨_, _, e, _⟩ := Rd.some_of h.2 (show 0 < n * PE.k from Nat.mul_pos h0 PE.pos); cases e
    subst hn
    obtain rfl := hA rfl
    obtain rfl := List.eq_nil_of_length_eq_zero h.1
    have hne : ∀ w : World, (binOp .eql 27 (.slice none 0 0) (.slice none 0 0)).run Try.prog w = .ok (.bool true) w := fun w => Lib.run_eql_slice_nil_nil w _ _ Try.underlying27
    clear h hl
    go_enter Try.func44, Try.ntmps44
    go_wp2_with fail
    go_ret
    exact ⟨none, 0, rfl, Ow.nil _ _, Below.refl _ _⟩
  | some ad =>
    have hne : ∀ w : World, (binOp .eql 27 (.slice (some ad) n c) (.slice none 0 0)).run Try.prog w = .ok (.bool false) w := fun w => Lib.run_eql_slice_some_nil w _ _ _ Try.underlying27
    have hb0 : Below w.heap.size w (w.alloc (.cells #[] 24)) := (Below.refl _ _).alloc (Nat.le_refl _) _
    have hrd := h.below hb0 hB
    have hown : Ow PE (w.alloc (.cells #[] 24)) w.heap.size (.slice (some ⟨w.heap.size, 0, none⟩) 0 0) 0 [] := Ow.lit w
    go_enter Try.func44, Try.ntmps44
    go_wp2_with (at_builtin; refine append_p rfl (.tmp 5) (.tmp 6) rfl w.heap.size _ 0 [] rfl hown B (some ad) n c (fun e => by cases e) l rfl hrd (by omega) (by simp) ?_; intro A2 c2 w2 hown2 hg2 hA2 hc21 hc22 hs2)
    go_ret
    simp only [Nat.zero_add, List.nil_append] at hown2
    refine ⟨A2, c2, ?_, ?_, hown.below_grown hb0 hg2 (by simp)⟩
    · rw [hl]; simp
    · rw [hl]; exact hown2
theorem sortn_x (w : World) : Calls Try.prog 57 #[.slice none 0 0, .func (.func 58) #[] #[]] w fun e w' => e = .returned (.tuple #[]) ∧ w' = w := by
  have hcon := AnyF.slices_SortFunc_none sortPt none 0 (.func (.func 58) #[] #[]) w
  change Calls Try.prog 57 _ _ _ at hcon
  exact hcon
theorem compn_x (w : World) : Calls Try.prog 59 #[.slice none 0 0, .func (.func 60) #[] #[]] w fun e w' => e = .returned (.slice none 0 0) ∧ w = w' := by
  go_enter Try.func59, Try.ntmps59
  go_wp2_with fail
  go_ret
  exact ⟨rfl, rfl⟩
/-- a view in a row of the call's own -/
def RetView (w : World) (l : List Pt) (e : Ending) (w' : World) : Prop := ∃ A m c vs, e = .returned (.slice A m c) ∧ Views l vs ∧ m ≤ l.length ∧ Ow PE w' w.heap.size (.slice A m c) m vs ∧ Below w.heap.size w w'
theorem comp_len (l : List Pt) : (comp l).length ≤ l.length := by
  cases l with
  | nil => simp [comp]
  | cons h l => exact comp_le h l
set_option maxHeartbeats 1000000 in
set_option maxRecDepth 100000 in
theorem view_x (w : World) (B n c : Nat) (A : Option Addr) (l : List Pt) (h : Ls PE w B A n l) (hA : A = none → c = 0) (hB : B ≤ w.heap.size) (hn : n ≤ 1000000) :
    Calls Try.prog 41 #[.slice A n c] w (RetView w l) := by
  have HL := Lib.hid h.1
  have HC := Lib.hid (clone_p w B n c A l h hA hB hn)
  clear h
  go_enter Try.func41, Try.ntmps41
  go_wp2_with fail
  refine HC.out.mono ?_
  rintro e w1 ⟨A1, c1, rfl, hown, hb1⟩
  rw [HL.out] at hown ⊢
  rcases own_form hown.2 with ⟨e0, hl0⟩ | ⟨g, cap, e0, hg0, hg1, hcap1, hcap2⟩
  · subst hl0
    have HE := Lib.hid (show l = [] from List.eq_nil_of_length_eq_zero HL.out)
    have HB1 := Lib.hid hb1
    obtain ⟨rfl, rfl⟩ : A1 = none ∧ c1 = 0 := by injection e0 with a b c; exact ⟨a, c⟩
    have HS := Lib.hid (sortn_x w1)
    have HCM := Lib.hid (compn_x w1)
    clear hown hb1 e0
    go_wp2_with fail
    refine HS.out.mono ?_
    rintro e w2 ⟨rfl, rfl⟩
    go_wp2_with fail
    refine HCM.out.mono ?_
    rintro e w3 ⟨rfl, rfl⟩
    go_wp2_with fail
    go_ret
    refine ⟨none, 0, 0, [], rfl, ?_, Nat.zero_le _, Ow.nil _ _, HB1.out⟩
    rw [HE.out]
    exact ⟨by simp, by simp, by simp⟩
  · obtain ⟨rfl, rfl⟩ : A1 = some ⟨g, 0, none⟩ ∧ c1 = cap := by injection e0 with a b c; exact ⟨a, c⟩
    have HS := Lib.hid (sort_x w1 w.heap.size g n c1 l hown hg0 hn)
    have HB1 := Lib.hid hb1
    clear hown hb1 e0
    go_wp2_with fail
    refine HS.out.mono ?_
    rintro e w2 ⟨rfl, l', hp, hs, hown2, hb2⟩
    have HCM := Lib.hid (compact_x w2 w.heap.size g n c1 l' hown2 hg0 hn)
    have HP := Lib.hid hp
    have HSO := Lib.hid hs
    have HB2 := Lib.hid (HB1.out.trans hb2)
    clear hp hs hown2 hb2
    go_wp2_with fail
    refine HCM.out.mono ?_
    rintro e w3 ⟨m, rfl, hown3, hb3⟩
    have HB3 := Lib.hid (HB2.out.trans hb3)
    have HO3 := Lib.hid hown3
    clear hown3 hb3
    go_wp2_with fail
    go_ret
    have V := comp_views' l' HSO.out
    refine ⟨_, m, c1, comp l', rfl, ⟨V.rise, fun p hp => HP.out.mem_iff.1 (V.from_ p hp), fun p hp => V.best p (HP.out.mem_iff.2 hp)⟩, ?_, HO3.out, HB3.out⟩
    rw [← HO3.out.1, ← HP.out.length_eq]
    exact comp_len l'
end Go.Proofs.Ytemmfcinpkfoiaa.mg
