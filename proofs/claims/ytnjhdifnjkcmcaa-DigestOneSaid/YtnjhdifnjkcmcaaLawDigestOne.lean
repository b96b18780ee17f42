/-
  The walk of the law DigestOne.
-/
import Derived.Test.YtnjhdifnjkcmcaaAdler
import Derived.Test.YtnjhdifnjkcmcaaSlices
namespace Go.Proofs.Ytnjhdifnjkcmcaa.lawDigestOne
open Go.ChangeShapes Go.WideShapes Go.ChangeAt Go.RowKit plain words adler

theorem info5 : (Try.prog.info? 5).map (fun i => (i.zero, i.size, i.bytes)) = some (some (.int .u8 0), 1, 1) := by kernel_rfl
theorem fst_sum (bs : List UInt8) : (adl bs).1 = (1 + ((bs.map fun c => (c.toNat : Int)).sum)) % 65521 := by
  suffices h : ∀ (l : List UInt8) (p : Int × Int), p.1 = p.1 % 65521 → (l.foldl adler.step p).1 = (p.1 + ((l.map fun c => (c.toNat : Int)).sum)) % 65521 from h bs (1, 0) (by decide)
  intro l
  induction l with
  | nil => intro p hp; simpa using hp
  | cons c l ih =>
    intro p hp
    rw [List.foldl_cons, ih _ (by unfold adler.step; simp), List.map_cons, List.sum_cons]
    unfold adler.step
    simp only
    omega
theorem sum_set (bs : List UInt8) (k : Nat) (c c' : UInt8) (h : bs[k]? = some c) : (((bs.set k c').map fun c => (c.toNat : Int)).sum) = ((bs.map fun c => (c.toNat : Int)).sum) - c.toNat + c'.toNat := by
  induction bs generalizing k with
  | nil => simp at h
  | cons x l ih =>
    cases k with
    | zero =>
      simp at h
      subst h
      simp only [List.set_cons_zero, List.map_cons, List.sum_cons]
      omega
    | succ k =>
      simp at h
      simp only [List.set_cons_succ, List.map_cons, List.sum_cons, ih k h]
      omega
theorem sum_other (bs : List UInt8) (k : Nat) (c c' : UInt8) (h : bs[k]? = some c) (hne : (c'.toNat : Int) ≠ c.toNat) : sum (bs.set k c') ≠ sum bs := by
  have h1 := fst_sum bs
  have h2 := fst_sum (bs.set k c')
  rw [sum_set bs k c c' h] at h2
  have b1 := adl_bd bs
  have b2 := adl_bd (bs.set k c')
  have := c.toNat_lt
  have := c'.toNat_lt
  unfold sum
  omega
theorem set_same (bs : List UInt8) (k : Nat) (c : UInt8) (h : bs[k]? = some c) : bs.set k c = bs := by
  obtain ⟨hk, rfl⟩ := List.getElem?_eq_some_iff.1 h
  exact List.set_getElem_self hk
set_option maxHeartbeats 1000000 in
theorem walk_core (a0 : Option Addr) (n c : Nat) (bs : List UInt8) (a1 : Int) (a2 : Int) (w : World) (h : Bs w w.heap.size a0 n bs) (hA : a0 = none → c = 0) (hn : 1 ≤ n) (hn' : n ≤ 4000) (b1 : -9223372036854775808 ≤ a1 ∧ a1 ≤ 9223372036854775807) (b2 : 0 ≤ a2 ∧ a2 < 256) :
    Calls Try.prog 14 #[.slice a0 n c, .int .i64 a1, .int .u8 a2] w fun e w' => e = .returned (.bool true) ∧ Below w.heap.size w w' := by
  obtain ⟨i0, hi, hz0, hz1, hz2⟩ := info_parts info5
  obtain ⟨ht, k, hk, hkm⟩ := at_mod a1 n hn (by omega)
  obtain ⟨ch, hch⟩ : ∃ ch, bs[k]? = some ch := ⟨_, List.getElem?_eq_getElem (by rw [h.len_]; exact hk)⟩
  have hk1 : ([] ++ u8s bs)[k]? = some (.int .u8 (ch.toNat : Int)) := by
    simp only [List.nil_append, u8s, List.getElem?_map, hch]; rfl
  have HK1 := Lib.hid hk1
  clear hk1
  have hb := ch.toNat_lt
  go_enter Try.func14, Try.ntmps14
  go_wp2_with fail
  refine (adler_x _ _ n c a0 bs h (by omega)).mono ?_
  rintro e w' ⟨rfl, rfl⟩
  have hrd := h.alloc (Nat.le_refl _) (.cells #[] 5)
  have hown := World.ownsRow_lit (w := w) (base := w.heap.size) (e := 5) (size := 1) #[] 0 (Nat.le_refl _) (by simp) rfl
  generalize hsum : sum bs = sm
  have HSUM := Lib.hid hsum
  clear hsum
  go_wp2_with (at_builtin; refine wpList_append_rd rfl (.tmp 20) (.tmp 21) 23 rfl w.heap.size 5 i0 (.int .u8 0) 1 1 Try.underlying23 hi hz0 hz1 hz2 rfl (by decide) _ 0 [] rfl hown w.heap.size a0 n c hA (u8s bs) rfl (by rw [Nat.mul_one]; exact hrd) (u8s_one bs) (by unfold maxLen; omega) (by omega) (by simp) ?_; intro v1 w1 hown1 hg1 hnn1; obtain ⟨g, cap, rfl, hbg, hgl, hnc, hcm⟩ := (own_form hown1).resolve_left (fun e => by omega); have hbel := own_below ((Below.refl _ _).alloc (Nat.le_refl _) _) hown (by simp) hg1; have hc1 := (hown1.cellAt k (by omega)).trans HK1.out; have hf1 := hown1.frozenAt k; clear hg1 hnn1)
  refine (adler_y _ _ n c a0 bs ((h.below hbel (Nat.le_refl _)).keep fun p hp => World.cell?_setCell_other w1 ⟨g, k, none⟩ p _ (fun e => by subst e; simp only at hp; omega)) (by omega)).mono ?_
  rintro e w2 ⟨rfl, rfl⟩
  rw [HSUM.out]
  obtain ⟨c2, hc2⟩ := byte_of ((ch.toNat : Int) + a2)
  rw [← hc2]
  have hst := (hown1.stored k (.int .u8 (c2.toNat : Int))).1
  rw [List.nil_append, u8s_set] at hst
  have hrd2 := own_rd hst
  rw [Nat.mul_one, Nat.zero_add] at hrd2
  have hbel2 := hbel.setCell (p := ⟨g, k, none⟩) hbg (.int .u8 (c2.toNat : Int))
  have hs2 : (a2 = 0 ∧ sum (bs.set k c2) = sm) ∨ (¬ a2 = 0 ∧ sum (bs.set k c2) ≠ sm) := by
    by_cases hz : a2 = 0
    · refine .inl ⟨hz, ?_⟩
      have : c2 = ch := by
        apply UInt8.toNat_inj.1
        subst hz
        omega
      rw [this, set_same bs k ch hch]
      exact HSUM.out
    · refine .inr ⟨hz, ?_⟩
      rw [← HSUM.out]
      exact sum_other bs k ch c2 hch (by omega)
  have HC2 := Lib.hid hc2
  have HHC := Lib.hid hch
  clear hc2 hc1 hf1 hst hown1 hkm hch
  rcases hs2 with ⟨rfl, hs2⟩ | ⟨hz, hs2⟩
  · go_wp2_with fail
    refine (adler_x _ _ n cap _ (bs.set k c2) hrd2 (by omega)).mono ?_
    rintro e w3 ⟨rfl, rfl⟩
    rw [hs2]
    clear hs2
    go_wp2_with fail
    go_ret
    exact ⟨rfl, hbel2⟩
  · have hz' : (a2 == 0) = false := by simpa using hz
    have hs3 : (sum (bs.set k c2) == sm) = false := by simpa using hs2
    go_wp2_with fail
    refine (adler_x _ _ n cap _ (bs.set k c2) hrd2 (by omega)).mono ?_
    rintro e w3 ⟨rfl, rfl⟩
    generalize sum (bs.set k c2) = s2 at *
    go_wp2_with fail
    go_ret
    exact ⟨rfl, hbel2⟩

theorem walk_ok (a0 : Option Addr) (len0 cap0 : Nat) (z0 : List Int) (a1 : Int) (a2 : Int) (w : World) (w0 : IsRow .u8 w a0 len0 cap0 z0) (w1 : (Lit.int .i64 a1).wf = true) (w2 : (Lit.int .u8 a2).wf = true) :
    Calls Try.prog 14 #[.slice a0 len0 cap0, .int .i64 a1, .int .u8 a2] w fun e w' => e = .returned (.bool true) ∧ Below w.heap.size w w' := by
  obtain ⟨bs, hbs, hm, hc, hA⟩ := w0.bytes
  have b1 := wf_i64 w1
  have b2 := wf_u8 w2
  unfold maxLen at hm
  by_cases h1 : 1 ≤ len0 ∧ len0 ≤ 4000
  · exact walk_core a0 len0 cap0 bs a1 a2 w hbs hA h1.1 h1.2 b1 b2
  · by_cases h2 : 1 ≤ len0
    · have h3 : 4000 < len0 := by omega
      go_enter Try.func14, Try.ntmps14
      go_wp2_with fail
      go_ret
      exact ⟨rfl, Below.refl _ _⟩
    · go_enter Try.func14, Try.ntmps14
      go_wp2_with fail
      go_ret
      exact ⟨rfl, Below.refl _ _⟩
end Go.Proofs.Ytnjhdifnjkcmcaa.lawDigestOne
