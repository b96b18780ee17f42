/-
  (XBitsGet without Len, for seats that have no Len: tsz.) The other calls of writers and readers: NewWriter, Bytes, NewReader, Left, Get.
-/
import Derived.Test.YtknjejejkgihbaaDoorBitsPut
import Derived.Lib.BufferMore
namespace Go.Proofs.YtknjejejkgihbaaDoor.bitc
open Go.ChangeShapes Go.WideShapes Go.ChangeAt Go.RowKit plain words bitm

theorem alloc_new (w : World) (o : Obj) : (w.alloc o).heap[w.heap.size]? = some o := by
  show (w.heap.push o)[w.heap.size]? = some o
  simp
theorem newwriter_x (w : World) : Calls Tryd.prog 21 #[] w fun e w' =>
    e = .returned (.pointer (some ⟨w.heap.size, 0, none⟩)) ∧ IsW w' w.heap.size none [] ∧ Chg (fun _ => False) w w' ∧ w'.heap.size = w.heap.size + 1 := by
  go_enter Tryd.func21, Tryd.ntmps21
  go_wp2_with fail
  go_ret
  exact ⟨rfl, ⟨_, alloc_new w _, ⟨rfl, .inl ⟨rfl, rfl⟩⟩, rfl⟩, (Chg.refl _ _).alloc _, by simp⟩

/-- a row of the call's own behind the call, whatever came in -/
def RetOwn (w : World) (bs : List UInt8) (L : Nat) (e : Ending) (w' : World) : Prop :=
  ∃ A cap, e = .returned (.slice A L cap) ∧ w'.ownsRow w.heap.size 5 1 (.slice A L cap) L (u8s bs) ∧ Below w.heap.size w w'
theorem clone_x (w : World) (B n c : Nat) (A : Option Addr) (bs : List UInt8) (h : Bs w B A n bs) (hA : A = none → c = 0) (hB : B ≤ w.heap.size) (hn : n ≤ 1099511627776) :
    Calls Tryd.prog 43 #[.slice A n c] w (RetOwn w bs n) := by
  obtain ⟨i0, hi, hz0, hz1, hz2⟩ := info_parts infoB
  cases A with
  | none =>
    obtain rfl := hA rfl
    have hn0 : n = 0 := by
      rcases Nat.eq_zero_or_pos n with h0 | h0
      · exact h0
      · obtain ⟨_, _, _, e, _⟩ := h.at_ 0 h0
        cases e
    subst hn0
    obtain rfl := List.eq_nil_of_length_eq_zero h.len_
    have hne : ∀ w : World, (binOp .eql 23 (.slice none 0 0) (.slice none 0 0)).run Tryd.prog w = .ok (.bool true) w := fun w => Lib.run_eql_slice_nil_nil w _ _ Tryd.underlying23
    go_enter Tryd.func43, Tryd.ntmps43
    go_wp2_with fail
    go_ret
    exact ⟨none, 0, rfl, ⟨rfl, .inl ⟨rfl, rfl⟩⟩, Below.refl _ _⟩
  | some ad =>
    have hne : ∀ w : World, (binOp .eql 23 (.slice (some ad) n c) (.slice none 0 0)).run Tryd.prog w = .ok (.bool false) w := fun w => Lib.run_eql_slice_some_nil w _ _ _ Tryd.underlying23
    have hrd := h.alloc hB (.cells #[] 5)
    have hown := World.ownsRow_lit (w := w) (base := w.heap.size) (e := 5) (size := 1) #[] 0 (Nat.le_refl _) (by simp) rfl
    have hb0 : Below w.heap.size w (w.alloc (.cells #[] 5)) := (Below.refl _ _).alloc (Nat.le_refl _) _
    go_enter Tryd.func43, Tryd.ntmps43
    go_wp2_with (at_builtin; refine wpList_append_rd rfl (.tmp 5) (.tmp 6) 23 rfl w.heap.size 5 i0 (.int .u8 0) 1 1 Tryd.underlying23 hi hz0 hz1 hz2 rfl (by decide) _ 0 [] rfl hown B (some ad) n c (fun e => by cases e) (u8s bs) rfl (by rw [Nat.mul_one]; exact hrd) (u8s_one bs) (by unfold maxLen; omega) (by omega) (by simp) ?_; intro v1 w1 hown1 hg1 hnn1; have hbel1 := own_below hb0 hown (by simp) hg1; simp only [Nat.zero_add, List.nil_append] at hown1; obtain ⟨g1, cap1, rfl, hbg1, hgl1, hnc1, hcm1⟩ := own_some hown1 rfl hnn1; clear hg1 hnn1)
    go_ret
    exact ⟨_, cap1, rfl, hown1, hbel1⟩
/-- a reader at block p with its row in block r: of the bytes bs the first k bits are read -/
def IsR (w : World) (p : Nat) (r : Option Nat) (bs : List UInt8) (k : Nat) : Prop :=
  ∃ v, w.heap[p]? = some (.cells #[v, .int .i64 (k : Int)] 100 (0, 0)) ∧ w.ownsRow 0 5 1 v bs.length (u8s bs) ∧ v.ownBlock = r
theorem IsR.lt {w : World} {p : Nat} {r : Option Nat} {bs : List UInt8} {k : Nat} (h : IsR w p r bs k) : p < w.heap.size := by
  obtain ⟨v, h1, _⟩ := h
  rcases Nat.lt_or_ge p w.heap.size with hlt | hge
  · exact hlt
  · rw [Array.getElem?_eq_none hge] at h1; cases h1
theorem IsR.chg {S : Nat → Prop} {w w' : World} {p : Nat} {r : Option Nat} {bs : List UInt8} {k : Nat} (h : IsR w p r bs k) (hc : Chg S w w') (hp : ¬ S p) (hr : ∀ g, r = some g → ¬ S g) : IsR w' p r bs k := by
  have hlt := h.lt
  obtain ⟨v, h1, h2, h3⟩ := h
  exact ⟨v, (hc.block p hlt hp).trans h1, own_chg h2 hc (fun g hg => hr g (h3 ▸ hg)), h3⟩
theorem IsR.drew {w : World} {p : Nat} {r : Option Nat} {bs : List UInt8} {k : Nat} (h : IsR w p r bs k) : IsR w.drew p r bs k := h
theorem IsR.row_lt {w : World} {p g : Nat} {bs : List UInt8} {k : Nat} (h : IsR w p (some g) bs k) : g < w.heap.size := by
  obtain ⟨v, _, h2, h3⟩ := h
  exact (h2.lt g h3).2

theorem bytes_x (w : World) (p : Nat) (r : Option Nat) (l : List Bool) (h : IsW w p r l) (hl : l.length ≤ 1099511627776) :
    Calls Tryd.prog 24 #[.pointer (some ⟨p, 0, none⟩)] w (RetOwn w (pack l) ((l.length + 7) / 8)) := by
  obtain ⟨v0, hp0, hown0, hr0⟩ := h
  obtain ⟨L, hL⟩ : ∃ L, (l.length + 7) / 8 = L := ⟨_, rfl⟩
  have hL40 : L ≤ 1099511627776 := by omega
  rw [hL] at hown0
  rw [hL]
  clear hL
  obtain ⟨A, c, rfl, hA⟩ : ∃ A c, v0 = .slice A L c ∧ (A = none → c = 0) := by
    rcases own_form hown0 with ⟨e, e2⟩ | ⟨g, cap, e, _⟩
    · subst e2; exact ⟨_, _, e, fun _ => rfl⟩
    · exact ⟨_, _, e, fun h => by cases h⟩
  have hc0 : w.cell? ⟨p, 0, none⟩ = some (.slice A L c) := by rw [cell_of_row _ _ _ _ _ _ hp0]; rfl
  have hbs := own_bs hown0
  clear hp0 hown0 hr0
  go_enter Tryd.func24, Tryd.ntmps24
  go_wp2_with fail
  refine (clone_x _ w.heap.size L c A _ hbs hA (Nat.le_refl _) hL40).mono ?_
  rintro e w2 ⟨A2, c2, rfl, hown, hb⟩
  go_wp2_with fail
  go_ret
  exact ⟨A2, c2, rfl, hown, hb⟩

theorem newreader_x (w : World) (B n c : Nat) (A : Option Addr) (bs : List UInt8) (h : Bs w B A n bs) (hA : A = none → c = 0) (hB : B ≤ w.heap.size) (hn : n ≤ 1099511627776) :
    Calls Tryd.prog 45 #[.slice A n c] w fun e w' =>
      ∃ p r, e = .returned (.pointer (some ⟨p, 0, none⟩)) ∧ IsR w' p r bs 0 ∧ w.heap.size ≤ p ∧ (∀ g, r = some g → w.heap.size ≤ g) ∧ Below w.heap.size w w' := by
  go_enter Tryd.func45, Tryd.ntmps45
  go_wp2_with fail
  refine (clone_x _ B n c A bs h hA hB hn).mono ?_
  rintro e w2 ⟨A2, c2, rfl, hown, hb⟩
  go_wp2_with fail
  go_ret
  refine ⟨w2.heap.size, (Value.slice A2 n c2).ownBlock, rfl, ⟨_, alloc_new w2 _, ?_, rfl⟩, hb.size, fun g hg => (hown.lt g hg).1, hb.alloc hb.size _⟩
  rw [h.len_]
  exact own_base (hown.alloc _) (Nat.zero_le _)

theorem left_x (w : World) (p : Nat) (r : Option Nat) (bs : List UInt8) (k : Nat) (h : IsR w p r bs k) (hl : bs.length ≤ 1099511627776) (hk : k ≤ 8 * bs.length) :
    Calls Tryd.prog 62 #[.pointer (some ⟨p, 0, none⟩)] w fun e w' => e = .returned (.int .i64 ((8 * bs.length - k : Nat) : Int)) ∧ ∃ m, w' = w.drewN m := by
  obtain ⟨v0, hp0, hown0, hr0⟩ := h
  obtain ⟨L, hL⟩ : ∃ L, bs.length = L := ⟨_, rfl⟩
  rw [hL] at hl hk hown0
  rw [hL]
  obtain ⟨A, c, rfl⟩ : ∃ A c, v0 = .slice A L c := by
    rcases own_form hown0 with ⟨e, e2⟩ | ⟨g, cap, e, _⟩
    · subst e2; exact ⟨_, _, e⟩
    · exact ⟨_, _, e⟩
  have hc0 : w.cell? ⟨p, 0, none⟩ = some (.slice A L c) := by rw [cell_of_row _ _ _ _ _ _ hp0]; rfl
  have hc1 : w.cell? ⟨p, 1, none⟩ = some (.int .i64 (k : Int)) := by rw [cell_of_row _ _ _ _ _ _ hp0]; rfl
  clear hp0 hown0 hr0
  go_enter Tryd.func62, Tryd.ntmps62
  go_wp2_with fail
  go_quiet (fail)
  go_wp2_with fail
  go_ret
  exact ⟨ret_int (by omega), nq, rfl⟩

/-- the next n bits -/
def nxt (bs : List UInt8) (k n : Nat) : List Bool := ((ofBytes bs).drop k).take n
theorem nxt_len (bs : List UInt8) (k n : Nat) (h : k + n ≤ 8 * bs.length) : (nxt bs k n).length = n := by
  unfold nxt; rw [List.length_take, List.length_drop, ofBytes_len]; omega
theorem nxt_len_le (bs : List UInt8) (k n : Nat) : (nxt bs k n).length ≤ n := by
  unfold nxt; rw [List.length_take]; omega
theorem nxt_val_lt (bs : List UInt8) (k n : Nat) : val (nxt bs k n) < 2 ^ n :=
  Nat.lt_of_lt_of_le (val_lt _) (Nat.pow_le_pow_right (by omega) (nxt_len_le bs k n))
theorem nxt_add (bs : List UInt8) (k q m : Nat) : nxt bs k (q + m) = nxt bs k q ++ nxt bs (k + q) m := by
  unfold nxt; rw [List.take_add, List.drop_drop]
theorem get_step (bs : List UInt8) (k q m : Nat) (b : UInt8) (hb : bs[(k + q) / 8]? = some b) (hm : (k + q) % 8 + m ≤ 8) :
    val (nxt bs k (q + m)) = val (nxt bs k q) * 2 ^ m + (b.toNat >>> (8 - (k + q) % 8 - m)) % 2 ^ m := by
  have h := some_bits bs (k + q) m b hb hm
  have h' : nxt bs (k + q) m = bitsOf (b.toNat >>> (8 - (k + q) % 8 - m)) m := h
  rw [nxt_add, val_app, h', val_bitsOf, bitsOf_len]
theorem get_or (v y q m : Nat) (hv : v < 2 ^ q) (hy : y < 2 ^ m) (h : q + m ≤ 64) : bits .or .u64 (IntKind.u64.wrap ((v : Int) * 2 ^ m)) (y : Int) = ((v * 2 ^ m + y : Nat) : Int) := by
  have h64 : 2 ^ q * 2 ^ m ≤ 18446744073709551616 := by
    rw [← Nat.pow_add]
    have := Nat.pow_le_pow_right (n := 2) (by omega) h
    simpa using this
  have hpm : 0 < 2 ^ m := Nat.two_pow_pos m
  have h1 : (v + 1) * 2 ^ m ≤ 2 ^ q * 2 ^ m := Nat.mul_le_mul_right _ hv
  rw [Nat.add_mul, Nat.one_mul] at h1
  have e1 : (v : Int) * 2 ^ m = ((v * 2 ^ m : Nat) : Int) := by simp
  have e2 : IntKind.u64.wrap ((v * 2 ^ m : Nat) : Int) = ((v * 2 ^ m : Nat) : Int) := by rw [IntKind.wrap_u64]; omega
  rw [e1, e2, u64_or_nat _ _ (by omega) (by omega), Nat.or_comm, or_add m y (v * 2 ^ m) hy (Nat.mul_mod_left _ _), Nat.add_comm]

end Go.Proofs.YtknjejejkgihbaaDoor.bitc
