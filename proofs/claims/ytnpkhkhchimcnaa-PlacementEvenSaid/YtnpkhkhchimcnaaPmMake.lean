/-
  Placements: lists made new by the document's functions.
-/
import Derived.Test.YtnpkhkhchimcnaaPmRefA
namespace Go.Proofs.Ytnpkhkhchimcnaa.pm
open Go.ChangeShapes Go.WideShapes Go.ChangeAt Go.RowKit Go.Shelf plain words ord mem

theorem infoN : (Try.prog.info? 3).map (fun i => (i.zero, i.size, i.bytes)) = some (some (.int .i64 0), 1, 8) := by kernel_rfl
theorem info_of {t : TypeId} {z : Value} {k b : Nat} (h : (Try.prog.info? t).map (fun i => (i.zero, i.size, i.bytes)) = some (some z, k, b)) : ∃ i, Try.prog.info? t = some i ∧ i.zero = some z ∧ i.size = k ∧ i.bytes = b := by
  cases hi : Try.prog.info? t with
  | none => rw [hi] at h; cases h
  | some i => rw [hi] at h; simp at h; exact ⟨i, rfl, h.1, h.2.1, h.2.2⟩
section
variable {w : World} {ops : Array Oper} {rest : List Oper} {o : Oper} {a : Act} {Q : Exit → Act → World → Prop}
/-- 'append' to owners, to numbers, to rows of owners -/
theorem app_o (hgd : o.guard = none) (s x : Operand) (ho : o.op = .call { callee := .builtin .append, args := #[s, x], argTypes := #[42, 42] })
    (base : Nat) (v : Value) (n : Nat) (l : List O) (hs : a.eval s = v) (hown : Ow OE w base v n l)
    (B : Nat) (A : Option Addr) (m c : Nat) (hA : A = none → c = 0) (news : List O) (hx : a.eval x = .slice A m c) (hr : Ls OE w B A m news)
    (hn : n + m ≤ 1099511627776) (hbase : base ≤ w.heap.size)
    (h : ∀ A' c' w', Ow OE w' base (.slice A' (n + m) c') (n + m) (l ++ news) → w.grownBy w' v.ownBlock → (A' = none → c' = 0) → n + m ≤ c' → c' ≤ 9223372036854775807 → w.heap.size ≤ w'.heap.size → wpList Try.prog ops Q rest (a.put o.dst (.slice A' (n + m) c')) w') : wpList Try.prog ops Q (o :: rest) a w := by
  obtain ⟨i0, hi, hz0, hz1, hz2⟩ := info_of infoO
  exact wpList_append_ow OE (P := Try.prog) Try.underlying42 hi hz0 hz1 hz2 rfl (by decide) hgd s x ho base v n l hs hown B A m c hA news hx hr hn hbase h
theorem app_n (hgd : o.guard = none) (s x : Operand) (ho : o.op = .call { callee := .builtin .append, args := #[s, x], argTypes := #[22, 22] })
    (base : Nat) (v : Value) (n : Nat) (l : List Int) (hs : a.eval s = v) (hown : Ow NE w base v n l)
    (B : Nat) (A : Option Addr) (m c : Nat) (hA : A = none → c = 0) (news : List Int) (hx : a.eval x = .slice A m c) (hr : Ls NE w B A m news)
    (hn : n + m ≤ 1099511627776) (hbase : base ≤ w.heap.size)
    (h : ∀ A' c' w', Ow NE w' base (.slice A' (n + m) c') (n + m) (l ++ news) → w.grownBy w' v.ownBlock → (A' = none → c' = 0) → n + m ≤ c' → c' ≤ 9223372036854775807 → w.heap.size ≤ w'.heap.size → wpList Try.prog ops Q rest (a.put o.dst (.slice A' (n + m) c')) w') : wpList Try.prog ops Q (o :: rest) a w := by
  obtain ⟨i0, hi, hz0, hz1, hz2⟩ := info_of infoN
  exact wpList_append_ow NE (P := Try.prog) Try.underlying22 hi hz0 hz1 hz2 rfl (by decide) hgd s x ho base v n l hs hown B A m c hA news hx hr hn hbase h
theorem app_s (hgd : o.guard = none) (s x : Operand) (ho : o.op = .call { callee := .builtin .append, args := #[s, x], argTypes := #[23, 23] })
    (base : Nat) (v : Value) (n : Nat) (l : List Rw3) (hs : a.eval s = v) (hown : Ow SE w base v n l)
    (B : Nat) (A : Option Addr) (m c : Nat) (hA : A = none → c = 0) (news : List Rw3) (hx : a.eval x = .slice A m c) (hr : Ls SE w B A m news)
    (hn : n + m ≤ 1099511627776) (hbase : base ≤ w.heap.size)
    (h : ∀ A' c' w', Ow SE w' base (.slice A' (n + m) c') (n + m) (l ++ news) → w.grownBy w' v.ownBlock → (A' = none → c' = 0) → n + m ≤ c' → c' ≤ 9223372036854775807 → w.heap.size ≤ w'.heap.size → wpList Try.prog ops Q rest (a.put o.dst (.slice A' (n + m) c')) w') : wpList Try.prog ops Q (o :: rest) a w := by
  obtain ⟨i0, hi, hz0, hz1, hz2⟩ := info_of infoS
  exact wpList_append_ow SE (P := Try.prog) Try.underlying23 hi hz0 hz1 hz2 rfl (by decide) hgd s x ho base v n l hs hown B A m c hA news hx hr hn hbase h
end
/-- a new row of owners behind a call .. -/
def RetO (w : World) (l : List O) (e : Ending) (w' : World) : Prop := ∃ g c, e = .returned (.slice (some ⟨g, 0, none⟩) l.length c) ∧ Ow OE w' w.heap.size (.slice (some ⟨g, 0, none⟩) l.length c) l.length l ∧ Below w.heap.size w w'
/-- .. and of numbers -/
def RetN (w : World) (l : List Int) (e : Ending) (w' : World) : Prop := ∃ g c, e = .returned (.slice (some ⟨g, 0, none⟩) l.length c) ∧ Ow NE w' w.heap.size (.slice (some ⟨g, 0, none⟩) l.length c) l.length l ∧ Below w.heap.size w w'
def disown (l : List O) (n : Int) : List O := l.filter fun o => o.1 != n
theorem filter_succ {α : Type} {p : α → Bool} {l : List α} {i : Nat} {x : α} (h : l[i]? = some x) : (l.take (i + 1)).filter p = (l.take i).filter p ++ (if p x then [x] else []) := by
  rw [List.take_add_one, h, List.filter_append]
  congr 1
  simp only [Option.toList_some, List.filter_cons, List.filter_nil]
theorem filter_le {α : Type} (p : α → Bool) (l : List α) (i : Nat) : ((l.take i).filter p).length ≤ i := Nat.le_trans (List.length_filter_le _ _) (by rw [List.length_take]; omega)
set_option maxHeartbeats 1000000 in
theorem unset_y (w : World) (B n c : Nat) (A : Option Addr) (l : List O) (h : Ls OE w B A n l) (hB : B ≤ w.heap.size) (hn : n ≤ 1000000) (k : Int) :
    Calls Try.prog 63 #[.slice A n c, .int .i64 k] w (RetO w (disown l k)) := by
  have HH := Lib.hid h
  have HL := Lib.hid h.1
  have hba := below_al w (.cells #[] 44)
  have how : Ow OE (w.alloc (.cells #[] 44)) w.heap.size (.slice (some ⟨w.heap.size, 0, none⟩) 0 0) 0 [] := Ow.lit w
  have HBA := Lib.hid hba
  have HOW := Lib.hid how
  clear h hba how
  go_enter Try.func63, Try.ntmps63
  go_wp2_with (fail)
  go_loopg [5, 6] n (fun gg s5 s6 wr => ∃ i : Nat, s6 = .int .i64 i ∧ i ≤ n ∧ n - i ≤ gg ∧ (∃ m g' c' : Nat, s5 = .slice (some ⟨g', 0, none⟩) m c' ∧ m ≤ i ∧ Aside (Ow OE wr w.heap.size (.slice (some ⟨g', 0, none⟩) m c') m (disown (l.take i) k))) ∧ Aside (Below w.heap.size w wr))
  case atStart => exact ⟨0, rfl, by omega, by omega, ⟨0, _, _, rfl, by omega, HOW.out⟩, HBA.out⟩
  case round =>
    obtain ⟨i, rfl, hi, hg, ⟨m, g', c', rfl, hm, HO⟩, HB⟩ := hrel
    clear HBA HOW
    have hs := HB.out.size
    by_cases hlt : i < n
    · have hltz : (i : Int) < (n : Int) := by omega
      obtain ⟨x, hx⟩ := HH.out.get hlt
      obtain ⟨b, off, rfl, hb, l0, l1, l2⟩ := own_at (HH.out.below HB.out hB) hx
      have hbw : b < wr.heap.size := by omega
      have HX := Lib.hid (filter_succ (p := fun o : O => o.1 != k) hx)
      obtain ⟨x1, x2, x3⟩ := x
      simp only at l0 l1 l2 HX
      clear hx
      by_cases hq : x1 = k
      · have t : (x1 != k) = false := by simp [hq]
        have t2 : (x1 == k) = true := by simp [hq]
        have HO2 := Lib.hid (show Ow OE wr w.heap.size (.slice (some ⟨g', 0, none⟩) m c') m (disown (l.take (i + 1)) k) by unfold disown; rw [HX.out, t]; simp; exact HO.out)
        clear hq
        go_wp2_with (fail)
        go_roundg (n - (i + 1))
        case measure => omega
        case rel => exact ⟨i + 1, by go_num, by omega, by omega, ⟨m, _, _, rfl, by omega, HO2.out⟩, HB.out⟩
      · have t : (x1 != k) = true := by simp [hq]
        have t2 : (x1 == k) = false := by simp [hq]
        clear hq
        have hal := below_al wr (.cells #[.int .i64 x1, .int .i64 x2, .int .i64 x3] 44)
        have HO1 := Lib.hid (HO.out.below hal (Nat.le_refl _))
        have HB1 := Lib.hid (HB.out.trans (hal.mono hs))
        have h9 := ls_new (E := OE) (w := wr) 44 ((x1, x2, x3) : O)
        have H9 := Lib.hid h9
        clear hal h9
        go_wp2_with (at_builtin; refine app_o rfl (.tmp 21) (.tmp 26) rfl w.heap.size _ m (disown (l.take i) k) rfl HO1.out (wr.heap.size + 1) (some ⟨wr.heap.size, 0, none⟩) 1 1 (fun e => by cases e) [(x1, x2, x3)] (by rfl) H9.out (by omega) (by simp; omega) ?_; intro A4 c4 w4 hown4 hg4 _ _ _ hs4; obtain ⟨g4, c5, he4, _⟩ := hown4.some_ (by omega); cases he4; have HB4 := Lib.hid (own_below HB1.out HO1.out.2 (by simp; omega) hg4); have HO4 := Lib.hid (show Ow OE w4 w.heap.size (.slice (some ⟨g4, 0, none⟩) (m + 1) c4) (m + 1) (disown (l.take (i + 1)) k) by unfold disown at hown4 ⊢; rw [HX.out, t]; exact hown4); clear hown4 hg4)
        go_roundg (n - (i + 1))
        case measure => omega
        case rel => exact ⟨i + 1, by go_num, by omega, by omega, ⟨m + 1, _, _, rfl, by omega, HO4.out⟩, HB4.out⟩
    · obtain rfl : i = n := by omega
      have hltz : ¬ (i : Int) < (i : Int) := by omega
      have hf := HO.out
      rw [List.take_of_length_le (by rw [HL.out]; omega)] at hf
      have HF := Lib.hid hf
      clear hf
      go_wp2_with (fail)
      go_ret
      have hm2 : (disown l k).length = m := HF.out.1
      exact ⟨g', c', by rw [hm2]; rfl, by rw [hm2]; exact HF.out, HB.out⟩
def without (l : List Int) (n : Int) : List Int := l.filter fun x => x != n
def with_ (l : List Int) (n : Int) (i : Nat) : List Int := ((List.range i).map fun j : Nat => (j : Int)).filter fun x => x == n || has l x
theorem with_succ (l : List Int) (n : Int) (i : Nat) : with_ l n (i + 1) = with_ l n i ++ (if ((i : Int) == n || has l i) = true then [(i : Int)] else []) := by
  unfold with_
  rw [List.range_succ, List.map_append, List.filter_append]
  congr 1
  simp only [List.map_cons, List.map_nil, List.filter_cons, List.filter_nil]
theorem with_le (l : List Int) (n : Int) (i : Nat) : (with_ l n i).length ≤ i := Nat.le_trans (List.length_filter_le _ _) (by simp)
set_option maxHeartbeats 1000000 in
theorem without_y (w : World) (B n c : Nat) (A : Option Addr) (l : List Int) (h : Ls NE w B A n l) (hB : B ≤ w.heap.size) (hn : n ≤ 1000000) (k : Int) :
    Calls Try.prog 76 #[.slice A n c, .int .i64 k] w (RetN w (without l k)) := by
  have HH := Lib.hid h
  have HL := Lib.hid h.1
  have hba := below_al w (.cells #[] 3)
  have how : Ow NE (w.alloc (.cells #[] 3)) w.heap.size (.slice (some ⟨w.heap.size, 0, none⟩) 0 0) 0 [] := Ow.lit w
  have HBA := Lib.hid hba
  have HOW := Lib.hid how
  clear h hba how
  go_enter Try.func76, Try.ntmps76
  go_wp2_with (fail)
  go_loopg [5, 6] n (fun gg s5 s6 wr => ∃ i : Nat, s6 = .int .i64 i ∧ i ≤ n ∧ n - i ≤ gg ∧ (∃ m g' c' : Nat, s5 = .slice (some ⟨g', 0, none⟩) m c' ∧ m ≤ i ∧ Aside (Ow NE wr w.heap.size (.slice (some ⟨g', 0, none⟩) m c') m (without (l.take i) k))) ∧ Aside (Below w.heap.size w wr))
  case atStart => exact ⟨0, rfl, by omega, by omega, ⟨0, _, _, rfl, by omega, HOW.out⟩, HBA.out⟩
  case round =>
    obtain ⟨i, rfl, hi, hg, ⟨m, g', c', rfl, hm, HO⟩, HB⟩ := hrel
    clear HBA HOW
    have hs := HB.out.size
    by_cases hlt : i < n
    · have hltz : (i : Int) < (n : Int) := by omega
      obtain ⟨x, hx⟩ := HH.out.get hlt
      obtain ⟨b, off, rfl, hb, l0⟩ := num_at (HH.out.below HB.out hB) hx
      have hbw : b < wr.heap.size := by omega
      have HX := Lib.hid (filter_succ (p := fun x : Int => x != k) hx)
      clear hx
      by_cases hq : x = k
      · have t : (x != k) = false := by simp [hq]
        have t2 : (x == k) = true := by simp [hq]
        have HO2 := Lib.hid (show Ow NE wr w.heap.size (.slice (some ⟨g', 0, none⟩) m c') m (without (l.take (i + 1)) k) by unfold without; rw [HX.out, t]; simp; exact HO.out)
        clear hq
        go_wp2_with (fail)
        go_roundg (n - (i + 1))
        case measure => omega
        case rel => exact ⟨i + 1, by go_num, by omega, by omega, ⟨m, _, _, rfl, by omega, HO2.out⟩, HB.out⟩
      · have t : (x != k) = true := by simp [hq]
        have t2 : (x == k) = false := by simp [hq]
        clear hq
        have hal := below_al wr (.cells #[.int .i64 x] 3)
        have HO1 := Lib.hid (HO.out.below hal (Nat.le_refl _))
        have HB1 := Lib.hid (HB.out.trans (hal.mono hs))
        have h9 := ls_new (E := NE) (w := wr) 3 x
        have H9 := Lib.hid h9
        clear hal h9
        go_wp2_with (at_builtin; refine app_n rfl (.tmp 20) (.tmp 25) rfl w.heap.size _ m (without (l.take i) k) rfl HO1.out (wr.heap.size + 1) (some ⟨wr.heap.size, 0, none⟩) 1 1 (fun e => by cases e) [x] (by rfl) H9.out (by omega) (by simp; omega) ?_; intro A4 c4 w4 hown4 hg4 _ _ _ hs4; obtain ⟨g4, c5, he4, _⟩ := hown4.some_ (by omega); cases he4; have HB4 := Lib.hid (own_below HB1.out HO1.out.2 (by simp; omega) hg4); have HO4 := Lib.hid (show Ow NE w4 w.heap.size (.slice (some ⟨g4, 0, none⟩) (m + 1) c4) (m + 1) (without (l.take (i + 1)) k) by unfold without at hown4 ⊢; rw [HX.out, t]; exact hown4); clear hown4 hg4)
        go_roundg (n - (i + 1))
        case measure => omega
        case rel => exact ⟨i + 1, by go_num, by omega, by omega, ⟨m + 1, _, _, rfl, by omega, HO4.out⟩, HB4.out⟩
    · obtain rfl : i = n := by omega
      have hltz : ¬ (i : Int) < (i : Int) := by omega
      have hf := HO.out
      rw [List.take_of_length_le (by rw [HL.out]; omega)] at hf
      have HF := Lib.hid hf
      clear hf
      go_wp2_with (fail)
      go_ret
      have hm2 : (without l k).length = m := HF.out.1
      exact ⟨g', c', by rw [hm2]; rfl, by rw [hm2]; exact HF.out, HB.out⟩
set_option maxHeartbeats 1000000 in
theorem with_y (w : World) (B n c : Nat) (A : Option Addr) (l : List Int) (h : Ls NE w B A n l) (hB : B ≤ w.heap.size) (hn : n ≤ 1000000) (k : Int) :
    Calls Try.prog 36 #[.slice A n c, .int .i64 k] w (RetN w (with_ l k 8)) := by
  have HHAS := Lib.hid (fun (u : World) (hu : Below w.heap.size w u) (x : Int) => has_y u B n c A l (h.below hu hB) (by have := hu.size; omega) (by omega) x)
  have hba := below_al w (.cells #[] 3)
  have how : Ow NE (w.alloc (.cells #[] 3)) w.heap.size (.slice (some ⟨w.heap.size, 0, none⟩) 0 0) 0 [] := Ow.lit w
  have HBA := Lib.hid hba
  have HOW := Lib.hid how
  clear h hba how
  go_enter Try.func36, Try.ntmps36
  go_wp2_with (fail)
  go_loopg [5, 6] 8 (fun gg s5 s6 wr => ∃ i : Nat, s6 = .int .i64 i ∧ i ≤ 8 ∧ 8 - i ≤ gg ∧ (∃ m g' c' : Nat, s5 = .slice (some ⟨g', 0, none⟩) m c' ∧ m ≤ i ∧ Aside (Ow NE wr w.heap.size (.slice (some ⟨g', 0, none⟩) m c') m (with_ l k i))) ∧ Aside (Below w.heap.size w wr))
  case atStart => exact ⟨0, rfl, by omega, by omega, ⟨0, _, _, rfl, by omega, HOW.out⟩, HBA.out⟩
  case round =>
    obtain ⟨i, rfl, hi, hg, ⟨m, g', c', rfl, hm, HO⟩, HB⟩ := hrel
    clear HBA HOW
    have hs := HB.out.size
    have HX := Lib.hid (with_succ l k i)
    by_cases hlt : i < 8
    · have hltz : (i : Int) < 8 := by omega
      by_cases hq : (i : Int) = k
      · have t2 : ((i : Int) == k) = true := by simp [hq]
        have HX2 := Lib.hid (show with_ l k (i + 1) = with_ l k i ++ [(i : Int)] by rw [HX.out, t2]; rfl)
        clear hq
        have hal := below_al wr (.cells #[.int .i64 i] 3)
        have HO1 := Lib.hid (HO.out.below hal (Nat.le_refl _))
        have HB1 := Lib.hid (HB.out.trans (hal.mono hs))
        have h9 := ls_new (E := NE) (w := wr) 3 (i : Int)
        have H9 := Lib.hid h9
        clear hal h9
        go_wp2_with (at_builtin; refine app_n rfl (.tmp 20) (.tmp 22) rfl w.heap.size _ m (with_ l k i) rfl HO1.out (wr.heap.size + 1) (some ⟨wr.heap.size, 0, none⟩) 1 1 (fun e => by cases e) [(i : Int)] (by rfl) H9.out (by omega) (by simp; omega) ?_; intro A4 c4 w4 hown4 hg4 _ _ _ hs4; obtain ⟨g4, c5, he4, _⟩ := hown4.some_ (by omega); cases he4; have HB4 := Lib.hid (own_below HB1.out HO1.out.2 (by simp; omega) hg4); have HO4 := Lib.hid (show Ow NE w4 w.heap.size (.slice (some ⟨g4, 0, none⟩) (m + 1) c4) (m + 1) (with_ l k (i + 1)) by rw [HX2.out]; exact hown4); clear hown4 hg4)
        go_roundg (8 - (i + 1))
        case measure => omega
        case rel => exact ⟨i + 1, by go_num, by omega, by omega, ⟨m + 1, _, _, rfl, by omega, HO4.out⟩, HB4.out⟩
      · have t2 : ((i : Int) == k) = false := by simp [hq]
        clear hq
        go_wp2_with (fail)
        refine (HHAS.out wr HB.out i).mono ?_
        rintro e w2 ⟨rfl, hb2⟩
        have HB2 := Lib.hid (HB.out.trans (hb2.mono hs))
        have HO2 := Lib.hid (HO.out.below hb2 (Nat.le_refl _))
        have hs2 := HB2.out.size
        clear hb2
        cases hh : has l i with
        | false =>
          have HO3 := Lib.hid (show Ow NE w2 w.heap.size (.slice (some ⟨g', 0, none⟩) m c') m (with_ l k (i + 1)) by rw [HX.out, t2, hh]; simp; exact HO2.out)
          go_wp2_with (fail)
          go_roundg (8 - (i + 1))
          case measure => omega
          case rel => exact ⟨i + 1, by go_num, by omega, by omega, ⟨m, _, _, rfl, by omega, HO3.out⟩, HB2.out⟩
        | true =>
          have HX2 := Lib.hid (show with_ l k (i + 1) = with_ l k i ++ [(i : Int)] by rw [HX.out, t2, hh]; rfl)
          have hal := below_al w2 (.cells #[.int .i64 i] 3)
          have HO1 := Lib.hid (HO2.out.below hal (Nat.le_refl _))
          have HB1 := Lib.hid (HB2.out.trans (hal.mono hs2))
          have h9 := ls_new (E := NE) (w := w2) 3 (i : Int)
          have H9 := Lib.hid h9
          clear hal h9
          go_wp2_with (at_builtin; refine app_n rfl (.tmp 20) (.tmp 22) rfl w.heap.size _ m (with_ l k i) rfl HO1.out (w2.heap.size + 1) (some ⟨w2.heap.size, 0, none⟩) 1 1 (fun e => by cases e) [(i : Int)] (by rfl) H9.out (by omega) (by simp; omega) ?_; intro A4 c4 w4 hown4 hg4 _ _ _ hs4; obtain ⟨g4, c5, he4, _⟩ := hown4.some_ (by omega); cases he4; have HB4 := Lib.hid (own_below HB1.out HO1.out.2 (by simp; omega) hg4); have HO4 := Lib.hid (show Ow NE w4 w.heap.size (.slice (some ⟨g4, 0, none⟩) (m + 1) c4) (m + 1) (with_ l k (i + 1)) by rw [HX2.out]; exact hown4); clear hown4 hg4)
          go_roundg (8 - (i + 1))
          case measure => omega
          case rel => exact ⟨i + 1, by go_num, by omega, by omega, ⟨m + 1, _, _, rfl, by omega, HO4.out⟩, HB4.out⟩
    · obtain rfl : i = 8 := by omega
      have hltz : ¬ ((8 : Nat) : Int) < 8 := by omega
      go_wp2_with (fail)
      go_ret
      have hm2 : (with_ l k 8).length = m := HO.out.1
      exact ⟨g', c', by rw [hm2]; rfl, by rw [hm2]; exact HO.out, HB.out⟩
end Go.Proofs.Ytnpkhkhchimcnaa.pm
