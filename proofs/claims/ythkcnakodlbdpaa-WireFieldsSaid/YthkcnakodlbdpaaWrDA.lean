/-
  Messages: the decoder's methods.
-/
import Derived.Test.YthkcnakodlbdpaaWrQ
import Derived.Test.YthkcnakodlbdpaaClF
import Derived.Test.YthkcnakodlbdpaaWrL
import Derived.Test.YthkcnakodlbdpaaWrS
import Derived.Test.YthkcnakodlbdpaaWrC
namespace Go.Proofs.Ythkcnakodlbdpaa.wr
open Go.ChangeShapes Go.WideShapes Go.ChangeAt Go.RowKit plain words ord mem uvs uvc

def numD (s : By) (v most : Int) : R Int := match cl.num most.toNat s with
  | some (n, s') => (0, s', (n : Int))
  | none => (130, s, v)
def fixD (s : By) (v : Int) (k : Nat) : R Int := if s.length < k then (130, s, v) else (0, s.drop k, ((cl.fix (s.take k) : Nat) : Int))
def txtD (s id : By) : R By := match cl.num 16 s with
  | some (n, s') => if s'.length < n then (130, s', id) else (0, s'.drop n, s'.take n)
  | none => (130, s, id)
def flgD (s : By) (b : Bool) : R Bool := match cl.num 1 s with
  | some (n, s') => (0, s', decide (n = 1))
  | none => (130, s, b)
def decC : Cd := ⟨numD, numD, fixD, txtD, flgD⟩
theorem cnum_len {m n : Nat} {s s' : By} (h : cl.num m s = some (n, s')) : s'.length ≤ s.length := by
  unfold cl.num at h
  split at h
  · cases h
  · injection h with h; injection h with _ h; rw [← h]; simp
theorem numD_len (s : By) (v most : Int) : (numD s v most).2.1.length ≤ s.length + 10 := by
  unfold numD
  split
  · rename_i h; have := cnum_len h; simp only; omega
  · simp
theorem fixD_len (s : By) (v : Int) (k : Nat) : (fixD s v k).2.1.length ≤ s.length + k := by unfold fixD; split <;> simp; omega
theorem txtD_len (s i : By) : (txtD s i).2.1.length ≤ s.length + 30 := by
  unfold txtD
  split
  · rename_i h
    have := cnum_len h
    split <;> simp only [List.length_drop] <;> omega
  · simp
theorem flgD_len (s : By) (b : Bool) : (flgD s b).2.1.length ≤ s.length + 1 := by
  unfold flgD
  split
  · rename_i h; have := cnum_len h; simp only; omega
  · simp
/-- the decoder: what is left of bytes that lie below block B -/
def StD (w : World) (g B : Nat) (l : By) : Prop :=
  ∃ b o c, w.heap[g]? = some (.cells #[.slice (some ⟨b, o, none⟩) l.length c] 62 (0, 0)) ∧ Bs w B (some ⟨b, o, none⟩) l.length l ∧ l.length ≤ c ∧ c ≤ 9223372036854775807 ∧ B ≤ g ∧ B ≤ w.heap.size ∧ l.length ≤ 1000000000
theorem StD.lt {w : World} {g B : Nat} {l : By} (h : StD w g B l) : g < w.heap.size := by obtain ⟨b, o, c, hg, _⟩ := h; exact blk_lt hg
theorem StD.ge {w : World} {g B : Nat} {l : By} (h : StD w g B l) : B ≤ g := by obtain ⟨b, o, c, _, _, _, _, h, _⟩ := h; exact h
theorem StD.chg {S : Nat → Prop} {w w' : World} {g B : Nat} {l : By} (h : StD w g B l) (hc : Chg S w w') (hg : ¬ S g) (hS : ∀ b, b < B → ¬ S b) : StD w' g B l := by
  obtain ⟨b, o, c, h1, h2, h3, h4, h5, h6, h7⟩ := h
  exact ⟨b, o, c, hc.blk h1 hg, h2.below (hc.below h6 (fun k e => by
    rcases Nat.lt_or_ge k B with hk | hk
    · exact absurd e (hS k hk)
    · exact hk)) (Nat.le_refl _), h3, h4, h5, Nat.le_trans h6 hc.size, h7⟩
theorem StD.below {w w' : World} {g B C : Nat} {l : By} (h : StD w g B l) (hb : Below C w w') (hC : w.heap.size ≤ C) : StD w' g B l := by
  have h' := h
  obtain ⟨b, o, c, h1, h2, h3, h4, h5, h6, h7⟩ := h
  have hl := blk_lt h1
  exact ⟨b, o, c, blk_below hb h1 (by omega), h2.below hb (by omega), h3, h4, h5, by have := hb.size; omega, h7⟩
theorem StD.drew {w : World} {g B : Nat} {l : By} (h : StD w g B l) : StD w.drew g B l := h.below (Below.refl w.heap.size w).drew (Nat.le_refl _)
theorem cset1 (w : World) (g o : Nat) (u : Value) : Chg (fun k => k = g) w (w.setCell ⟨g, o, none⟩ u) := Chg.setCell (S := fun k => k = g) (Chg.refl _ _) (p := ⟨g, o, none⟩) (fun _ => rfl) u
theorem StD.setCell {w : World} {g B mb off : Nat} {l : By} {cur : Array Value} {t : TypeId} (h : StD w g B l) (hV : V w mb cur t) (hne : mb ≠ g) (hB : B ≤ mb) (v : Value) : StD (w.setCell ⟨mb, off, none⟩ v) g B l :=
  h.chg (cset1 w mb off v) (fun e => hne e.symm) (fun b hb e => by omega)
theorem StD.chg1 {w w' : World} {g B ib : Nat} {l : By} {cur : Array Value} {t : TypeId} (h : StD w g B l) (hc : Chg (fun k => k = ib) w w') (hne : g ≠ ib) (hV : V w ib cur t) (hB : B ≤ ib) : StD w' g B l :=
  h.chg hc hne (fun b hb e => by omega)
theorem std_put {w : World} {g B b o n c : Nat} {v0 : Value} {r : By} (hg : w.heap[g]? = some (.cells #[v0] 62 (0, 0))) (hb : Bs w B (some ⟨b, o, none⟩) n r) (h1 : n ≤ c) (h2 : c ≤ 9223372036854775807) (hgB : B ≤ g) (hB : B ≤ w.heap.size) (hn : n ≤ 1000000000) :
    StD (w.setCell ⟨g, 0, none⟩ (.slice (some ⟨b, o, none⟩) n c)) g B r := by
  obtain rfl := hb.len_
  have hc := cset1 w g 0 (.slice (some ⟨b, o, none⟩) r.length c)
  refine ⟨b, o, c, ?_, hb.below (hc.below hB (fun k e => by omega)) (Nat.le_refl _), h1, h2, hgB, Nat.le_trans hB hc.size, hn⟩
  have := heap_setCell_same w g 0 _ _ (.slice (some ⟨b, o, none⟩) r.length c) hg
  simpa using this
theorem V.other {w : World} {g mb o : Nat} {cur : Array Value} {t : TypeId} (h : V w mb cur t) (hne : mb ≠ g) (x : Value) : V (w.setCell ⟨g, o, none⟩ x) mb cur t := (Below.heap_setCell w ⟨g, o, none⟩ x mb hne).trans h
/-- the variable is there still, whatever it holds -/
def VS (w : World) (mb n : Nat) (t : TypeId) : Prop := ∃ cur : Array Value, cur.size = n ∧ V w mb cur t
/-- a field was passed -/
def RetG {α : Type} (w : World) (g B mb : Nat) (cur : Array Value) (t : TypeId) (put : Array Value → α → Array Value) (r : R α) (e : Ending) (w' : World) : Prop :=
  Chg (FR w g B mb) w w' ∧ ((r.1 = 0 ∧ e = .returned (.tuple #[]) ∧ StD w' g B r.2.1 ∧ V w' mb (put cur r.2.2) t) ∨ (r.1 ≠ 0 ∧ e = .panicked (errC r.1) ∧ VS w' mb cur.size t))
theorem RetG.no {α : Type} {w w' : World} {g B mb : Nat} {cur : Array Value} {t : TypeId} {put : Array Value → α → Array Value} {r : R α} {x : Int} (h : Chg (FR w g B mb) w w') (e : r.1 = x) (hx : x ≠ 0) (hv : VS w' mb cur.size t) : RetG w g B mb cur t put r (.panicked (errC x)) w' :=
  ⟨h, .inr ⟨by rw [e]; exact hx, by rw [e], hv⟩⟩
theorem RetG.ok {α : Type} {w w' : World} {g B mb : Nat} {cur : Array Value} {t : TypeId} {put : Array Value → α → Array Value} {r : R α} {s : By} {v : α} (h : Chg (FR w g B mb) w w') (e : r = (0, s, v)) (hs : StD w' g B s) (hv : V w' mb (put cur v) t) : RetG w g B mb cur t put r (.returned (.tuple #[])) w' := by
  subst e
  exact ⟨h, .inl ⟨rfl, rfl, hs, hv⟩⟩
theorem fr_g {w w' : World} {g B mb : Nat} (h : Chg (fun k => k = g) w w') : Chg (FR w g B mb) w w' := h.mono (fun _ _ e => .inl e)
set_option maxHeartbeats 2000000 in
set_option maxRecDepth 100000 in
theorem num_d (w : World) (g B mb off : Nat) (cur : Array Value) (t : TypeId) (l : By) (v most : Int) (h : StD w g B l) (hV : V w mb cur t) (hv : cur[off]? = some (.int .i64 v)) (hne : mb ≠ g) (ht : t ≠ 5) (hgB : B ≤ mb) (hB : B ≤ w.heap.size) (hn : l.length ≤ 1000000000) (hm : 0 ≤ most ∧ most ≤ 2199023255552) :
    Calls Try.prog 66 #[.pointer (some ⟨g, 0, none⟩), .pointer (some ⟨mb, off, none⟩), .int .i64 most] w (RetG w g B mb cur t (fun cur x => cur.setIfInBounds off (.int .i64 x)) (numD l v most)) := by
  obtain ⟨M, rfl⟩ : ∃ M : Nat, most = (M : Int) := ⟨most.toNat, by omega⟩
  obtain ⟨b, o, c, hg, hb, hlc, hcm, hgg, hBs, _⟩ := h
  have hgl := blk_lt hg
  have hml := blk_lt hV
  obtain ⟨N, K, hNK⟩ : ∃ N K, ru l 0 0 = (N, K) := ⟨_, _, rfl⟩
  have hru := readuv_x w B l.length c (some ⟨b, o, none⟩) l hb (by omega)
  rw [hNK] at hru
  have hnum : numD l v (M : Int) = if K = 0 ∨ M < N then (130, l, v) else (0, l.drop K, (N : Int)) := by
    unfold numD cl.num
    rw [hNK, Int.toNat_natCast]
    by_cases hh : K = 0 ∨ M < N
    · rw [if_pos hh, if_pos hh]
    · rw [if_neg hh, if_neg hh]
  have hKl : K ≠ 0 → K ≤ l.length := fun e => (ru_back0 l N K hNK e).2.1
  have c0 : w.cell? ⟨g, 0, none⟩ = some (.slice (some ⟨b, o, none⟩) l.length c) := by rw [cell_of_row _ _ _ _ _ _ hg]; rfl
  have f0 := frozen_of_row w g 0 _ _ hg
  have f1 := frozen_of_row w mb off _ _ hV
  have c1 : w.cell? ⟨mb, off, none⟩ = some (.int .i64 v) := by rw [cell_of_row _ _ _ _ _ _ hV]; exact hv
  have hw : (M : Int) % 18446744073709551616 = (M : Int) := by omega
  have HRU := Lib.hid hru
  have HG := Lib.hid hg
  have HB := Lib.hid hb
  have HVV := Lib.hid hV
  have HV := Lib.hid hv
  have HNUM := Lib.hid hnum
  obtain ⟨L, hL⟩ : ∃ L, l.length = L := ⟨_, rfl⟩
  rw [hL] at HRU HG HB c0 hlc hn hKl
  have HL := Lib.hid hL
  clear hru hg hb hV hv hnum hL hNK
  by_cases hz : K = 0
  · have HE := Lib.hid (show RetG w g B mb cur t (fun cur x => cur.setIfInBounds off (.int .i64 x)) (numD l v (M : Int)) (.panicked (errC 130)) w from RetG.no (Chg.refl _ _) (by rw [HNUM.out, if_pos (.inl hz)]) (by decide) ⟨cur, rfl, HVV.out⟩)
    have hk0 : ((K : Int) == 0) = true := by simp; omega
    clear hz HNUM hKl
    go_enter Try.func66, Try.ntmps66
    go_wp2_with (fail)
    refine HRU.out.mono ?_
    rintro e w1 ⟨rfl, rfl⟩
    go_wp2_with (fail)
    exact ⟨rfl, HE.out⟩
  · have hk0 : ((K : Int) == 0) = false := by simp; omega
    by_cases hbig : M < N
    · have HE := Lib.hid (show RetG w g B mb cur t (fun cur x => cur.setIfInBounds off (.int .i64 x)) (numD l v (M : Int)) (.panicked (errC 130)) w from RetG.no (Chg.refl _ _) (by rw [HNUM.out, if_pos (.inr hbig)]) (by decide) ⟨cur, rfl, HVV.out⟩)
      have hi : (M : Int) < (N : Int) := by omega
      clear hz HNUM hKl
      go_enter Try.func66, Try.ntmps66
      go_wp2_with (fail)
      refine HRU.out.mono ?_
      rintro e w1 ⟨rfl, rfl⟩
      go_wp2_with (fail)
      exact ⟨rfl, HE.out⟩
    · have hi : ¬ (M : Int) < (N : Int) := by omega
      have hK := hKl hz
      have HR := Lib.hid (show numD l v (M : Int) = (0, l.drop K, (N : Int)) by rw [HNUM.out, if_neg (by omega)])
      have HCUT := Lib.hid (bs_cut HB.out hK hlc)
      have wN : IntKind.i64.wrap (N : Int) = (N : Int) := by rw [IntWalk.i64_in _ (by omega)]
      have i1 : (0 : Int) ≤ (K : Int) := by omega
      have i2 : (K : Int) ≤ (L : Int) := by omega
      clear hz HNUM hKl
      have HFIN : ∀ b' o' c', Bs w B (some ⟨b', o', none⟩) (L - K) (l.drop K) → L - K ≤ c' → c' ≤ 9223372036854775807 → RetG w g B mb cur t (fun cur x => cur.setIfInBounds off (.int .i64 x)) (numD l v (M : Int)) (.returned (.tuple #[])) ((w.setCell ⟨g, 0, none⟩ (.slice (some ⟨b', o', none⟩) (L - K) c')).setCell ⟨mb, off, none⟩ (.int .i64 (N : Int))) := fun b' o' c' h1 h2 h3 => by
        have hS := std_put HG.out h1 h2 h3 hgg hB (by omega)
        have hV2 := HVV.out.other hne (o := 0) (.slice (some ⟨b', o', none⟩) (L - K) c')
        exact RetG.ok (((Chg.refl (FR w g B mb) w).setCell (p := ⟨g, 0, none⟩) (fun _ => .inl rfl) _).setCell (p := ⟨mb, off, none⟩) (fun _ => .inr (.inl rfl)) _) HR.out (hS.setCell hV2 hne hgB _) (hV2.set _)
      have HFIN := Lib.hid HFIN
      go_enter Try.func66, Try.ntmps66
      go_wp2_with (fail)
      refine HRU.out.mono ?_
      rintro e w1 ⟨rfl, rfl⟩
      go_wp2_with (fail)
      all_goals
        have h3 := HCUT.out
        first | rw [if_pos rfl] at h3 | rw [if_pos (by assumption)] at h3 | rw [if_neg (by assumption)] at h3
        go_end0
        exact HFIN.out _ _ _ h3 (by omega) (by omega)
/-- the next n bytes -/
def RetTk (w : World) (g B : Nat) (l : By) (n : Nat) (e : Ending) (w' : World) : Prop :=
  (l.length < n ∧ e = .panicked (errC 130) ∧ w' = w) ∨ (n ≤ l.length ∧ ∃ b o c, e = .returned (.slice (some ⟨b, o, none⟩) n c) ∧ Bs w' B (some ⟨b, o, none⟩) n (l.take n) ∧ StD w' g B (l.drop n) ∧ Chg (fun k => k = g) w w')
set_option maxHeartbeats 2000000 in
set_option maxRecDepth 100000 in
theorem take_d (w : World) (g B n : Nat) (l : By) (h : StD w g B l) :
    Calls Try.prog 68 #[.pointer (some ⟨g, 0, none⟩), .int .i64 n] w (RetTk w g B l n) := by
  obtain ⟨b, o, c, hg, hb, hlc, hcm, hgg, hBs, hn⟩ := h
  have hgl := blk_lt hg
  have c0 : w.cell? ⟨g, 0, none⟩ = some (.slice (some ⟨b, o, none⟩) l.length c) := by rw [cell_of_row _ _ _ _ _ _ hg]; rfl
  have f0 := frozen_of_row w g 0 _ _ hg
  have HG := Lib.hid hg
  have HB := Lib.hid hb
  obtain ⟨L, hL⟩ : ∃ L, l.length = L := ⟨_, rfl⟩
  rw [hL] at HG HB c0 hlc hn
  have HL := Lib.hid hL
  clear hg hb hL
  by_cases hs : L < n
  · have hi : (L : Int) < (n : Int) := by omega
    have HE := Lib.hid (show RetTk w g B l n (.panicked (errC 130)) w from .inl ⟨by rw [HL.out]; exact hs, rfl, rfl⟩)
    clear hs
    go_enter Try.func68, Try.ntmps68
    go_wp2_with (fail)
    exact ⟨rfl, HE.out⟩
  · have hi : ¬ (L : Int) < (n : Int) := by omega
    have hK : n ≤ L := by omega
    have HCUT := Lib.hid (bs_cut HB.out hK hlc)
    have HLES := Lib.hid (show Bs w B (some ⟨b, o, none⟩) n (l.take n) from by have := Rd.less HB.out hK; rwa [show (u8s l).take n = u8s (l.take n) by simp [u8s]] at this)
    have i1 : (0 : Int) ≤ (n : Int) := by omega
    have i2 : (n : Int) ≤ (L : Int) := by omega
    have i3 : (n : Int) ≤ (c : Int) := by omega
    have i4 : (L : Int) ≤ (c : Int) := by omega
    have HFIN : ∀ b' o' c', Bs w B (some ⟨b', o', none⟩) (L - n) (l.drop n) → L - n ≤ c' → c' ≤ 9223372036854775807 → RetTk w g B l n (.returned (.slice (some ⟨b, o, none⟩) n c)) (w.setCell ⟨g, 0, none⟩ (.slice (some ⟨b', o', none⟩) (L - n) c')) := fun b' o' c' h1 h2 h3 => by
      have hS := std_put HG.out h1 h2 h3 hgg hBs (by omega)
      have hc := cset1 w g 0 (.slice (some ⟨b', o', none⟩) (L - n) c')
      exact .inr ⟨by rw [HL.out]; exact hK, b, o, c, rfl, HLES.out.below (hc.below hBs (fun k e => by omega)) (Nat.le_refl _), hS, hc⟩
    have HFIN := Lib.hid HFIN
    clear hs
    go_enter Try.func68, Try.ntmps68
    go_wp2_with (fail)
    · have h3 := HCUT.out
      have hcn : c = n := by assumption
      rw [if_pos hcn] at h3
      have h4 := HFIN.out b o 0 h3 (by omega) (by omega)
      rw [hcn] at h4
      go_ret
      exact h4
    · have h3 := HCUT.out
      rw [if_neg (by assumption)] at h3
      go_ret
      exact HFIN.out _ _ _ h3 (by omega) (by omega)
theorem get_eq {cur : Array Value} {off : Nat} {y : Value} (h : cur[off]? = some y) (x : Value) : (cur.setIfInBounds off x)[off]? = some x := by
  have hi : off < cur.size := by
    rcases Nat.lt_or_ge off cur.size with h1 | h1
    · exact h1
    · rw [Array.getElem?_eq_none h1] at h; cases h
  rw [Array.getElem?_setIfInBounds_self_of_lt hi]
theorem set_set (cur : Array Value) (off : Nat) (x y : Value) : (cur.setIfInBounds off x).setIfInBounds off y = cur.setIfInBounds off y := by simp
set_option maxHeartbeats 2000000 in
set_option maxRecDepth 100000 in
theorem fix_d (w : World) (g B mb off : Nat) (cur : Array Value) (t : TypeId) (l : By) (v : Int) (k : Nat) (h : StD w g B l) (hV : V w mb cur t) (hv : cur[off]? = some (.int .u64 v)) (hne : mb ≠ g) (ht : t ≠ 5) (hgB : B ≤ mb) (hB : B ≤ w.heap.size) (hn : l.length ≤ 1000000000) (hvv : True) (hk : k ≤ 8) :
    Calls Try.prog 64 #[.pointer (some ⟨g, 0, none⟩), .pointer (some ⟨mb, off, none⟩), .int .i64 k] w (RetG w g B mb cur t (fun cur x => cur.setIfInBounds off (.int .u64 x)) (fixD l v k)) := by
  have hml := blk_lt hV
  have f1 := frozen_of_row w mb off _ _ hV
  have c1 : w.cell? ⟨mb, off, none⟩ = some (.int .u64 v) := by rw [cell_of_row _ _ _ _ _ _ hV]; exact hv
  obtain ⟨w1, hw1⟩ : ∃ w1, w.setCell ⟨mb, off, none⟩ (.int .u64 0) = w1 := ⟨_, rfl⟩
  have hST1 : StD w1 g B l := by rw [← hw1]; exact h.setCell hV hne hgB _
  have hV1 : V w1 mb (cur.setIfInBounds off (.int .u64 0)) t := by rw [← hw1]; exact hV.set _
  have hC1 : Chg (FR w g B mb) w w1 := by rw [← hw1]; exact (Chg.refl (FR w g B mb) w).setCell (p := ⟨mb, off, none⟩) (fun _ => .inr (.inl rfl)) _
  have HTK := Lib.hid (take_d w1 g B k l hST1)
  have HV1 := Lib.hid hV1
  have HC1 := Lib.hid hC1
  have HV := Lib.hid hv
  clear hST1 hV1 hC1 h hV hv
  go_enter Try.func64, Try.ntmps64
  go_wp2_with (fail)
  refine HTK.out.mono ?_
  intro e w2 hr
  obtain ⟨hlt, rfl, rfl⟩ | ⟨hle, b, o, c, rfl, hb, hst, hc⟩ := hr
  · have HE := Lib.hid (show RetG w g B mb cur t (fun cur x => cur.setIfInBounds off (.int .u64 x)) (fixD l v k) (.panicked (errC 130)) w2 from RetG.no HC1.out (by unfold fixD; rw [if_pos hlt]) (by decide) ⟨_, by simp, HV1.out⟩)
    clear HTK
    go_wp2_with (fail)
    exact ⟨rfl, HE.out⟩
  · have HB2 := Lib.hid hb
    have HS2 := Lib.hid hst
    have HC2 := Lib.hid (fr_trans HC1.out (fr_g hc))
    have HV2 := Lib.hid (show V w2 mb (cur.setIfInBounds off (.int .u64 0)) t from hc.blk HV1.out (fun e => hne e))
    have HR := Lib.hid (show fixD l v k = (0, l.drop k, ((cl.fix (l.take k) : Nat) : Int)) by unfold fixD; rw [if_neg (by omega)])
    have hTL : (l.take k).length = k := by rw [List.length_take]; omega
    obtain ⟨X, hX⟩ : ∃ X, l.take k = X := ⟨_, rfl⟩
    rw [hX] at hTL HR HB2
    have HTL := Lib.hid hTL
    clear hb hst hc hX hTL HTK hw1 c1 f1
    go_wp2_with (fail)
    go_loopg [7, 14] k (fun gg s7 s14 wr => ∃ (j u : Nat), s14 = .int .i64 j ∧ j ≤ k ∧ k - j ≤ gg ∧ Aside (cl.fix (X.take j) = u) ∧ Aside (StD wr g B (l.drop k)) ∧ Aside (Bs wr B (some ⟨b, o, none⟩) k X) ∧ Aside (V wr mb (cur.setIfInBounds off (.int .u64 u)) t) ∧ Aside (Chg (FR w g B mb) w wr))
    case atStart => exact ⟨0, 0, rfl, Nat.zero_le _, by omega, rfl, HS2.out, HB2.out, HV2.out, HC2.out⟩
    case round =>
      obtain ⟨j, u, rfl, hj, hgk, HU, HST, HBX, HVJ, HCJ⟩ := hrel
      obtain ⟨wv, hwv⟩ : ∃ wv, wv = wr := ⟨wr, rfl⟩
      obtain rfl := hwv
      by_cases hlt : j < k
      · obtain ⟨b', o', ch, eA, hbB, hg2, hcc⟩ := HBX.out.get hlt
        obtain ⟨e1, e2⟩ : b = b' ∧ o = o' := by injection eA with eA; injection eA with e1 e2; exact ⟨e1, e2⟩
        subst e1
        subst e2
        clear eA
        have hvl := cl.fix_take_lt X (j + 1) (by rw [HTL.out]; exact hk)
        rw [cl.fix_take X j hg2, HU.out] at hvl
        have hch := ch.toNat_lt
        have i1 : (j : Int) < (k : Int) := by omega
        have i0 : (0 : Int) ≤ (j : Int) := by omega
        have HT := Lib.hid (cl.fix_take X j hg2)
        obtain ⟨z, hz⟩ : ∃ z, ch.toNat = z := ⟨_, rfl⟩
        rw [hz] at hcc hvl hch
        have HZ := Lib.hid hz
        have w1 : IntKind.u64.wrap ((u : Int) * 256) = (u : Int) * 256 := by rw [IntKind.wrap_u64]; omega
        have w2 := cl.or_byte u z hch (by omega)
        have cm : wv.cell? ⟨mb, off, none⟩ = some (.int .u64 u) := by rw [cell_of_row _ _ _ _ _ _ HVJ.out]; exact get_eq HV.out _
        have fm := frozen_of_row wv mb off _ _ HVJ.out
        have hmv := blk_lt HVJ.out
        have hbv : b < wv.heap.size := by have := HST.out.lt; have := HST.out.ge; omega
        have HFS := Lib.hid (HST.out.setCell HVJ.out hne hgB (off := off) (.int .u64 ((u * 256 + z : Nat) : Int)))
        have HFV := Lib.hid (show V (wv.setCell ⟨mb, off, none⟩ (.int .u64 ((u * 256 + z : Nat) : Int))) mb (cur.setIfInBounds off (.int .u64 ((u * 256 + z : Nat) : Int))) t by rw [← set_set cur off (.int .u64 u)]; exact HVJ.out.set _)
        have HFB := Lib.hid (show Bs (wv.setCell ⟨mb, off, none⟩ (.int .u64 ((u * 256 + z : Nat) : Int))) B (some ⟨b, o, none⟩) k X from HBX.out.below ((cset1 wv mb off _).below (Nat.le_trans hB HCJ.out.size) (fun k e => by omega)) (Nat.le_refl _))
        have HFC := Lib.hid (fr_set (off := off) HCJ.out (.int .u64 ((u * 256 + z : Nat) : Int)))
        clear hz hg2
        go_wp2_with (fail)
        go_roundg (k - (j + 1))
        case measure => omega
        case rel =>
          exact ⟨j + 1, u * 256 + z, by go_num, by omega, by omega, (show cl.fix (X.take (j + 1)) = u * 256 + z by rw [HT.out, HU.out, HZ.out]), HFS.out, HFB.out, HFV.out, HFC.out⟩
      · have i1 : ¬ (j : Int) < (k : Int) := by omega
        obtain rfl : j = k := by omega
        have hu : cl.fix X = u := by have := HU.out; rwa [List.take_of_length_le (by rw [HTL.out]; exact Nat.le_refl _)] at this
        have HU2 := Lib.hid hu
        clear hu
        go_wp2_with (fail)
        go_end0
        exact RetG.ok HCJ.out HR.out HST.out (by rw [HU2.out]; exact HVJ.out)
theorem count_d (w : World) (g B mb off : Nat) (cur : Array Value) (t : TypeId) (l : By) (v most : Int) (h : StD w g B l) (hV : V w mb cur t) (hv : cur[off]? = some (.int .i64 v)) (hne : mb ≠ g) (ht : t ≠ 5) (hgB : B ≤ mb) (hB : B ≤ w.heap.size) (hn : l.length ≤ 1000000000) (hm : 0 ≤ most ∧ most ≤ 2199023255552) :
    Calls Try.prog 63 #[.pointer (some ⟨g, 0, none⟩), .pointer (some ⟨mb, off, none⟩), .int .i64 most] w (RetG w g B mb cur t (fun cur x => cur.setIfInBounds off (.int .i64 x)) (numD l v most)) := by
  have HN := Lib.hid (num_d w g B mb off cur t l v most h hV hv hne ht hgB hB hn hm)
  clear h hV hv hm
  go_enter Try.func63, Try.ntmps63
  go_wp2_with (fail)
  refine HN.out.mono ?_
  intro e w1 hr
  have HRR := Lib.hid hr
  obtain ⟨_, ⟨_, rfl, _⟩ | ⟨_, rfl, _⟩⟩ := hr
  · go_wp2_with (fail)
    go_end0
    exact HRR.out
  · go_wp2_with (fail)
    exact ⟨rfl, HRR.out⟩
set_option maxHeartbeats 2000000 in
set_option maxRecDepth 100000 in
theorem flag_d (w : World) (g B mb off : Nat) (cur : Array Value) (t : TypeId) (l : By) (b : Bool) (h : StD w g B l) (hV : V w mb cur t) (hv : cur[off]? = some (.bool b)) (hne : mb ≠ g) (ht : t ≠ 5) (hgB : B ≤ mb) (hB : B ≤ w.heap.size) (hn : l.length ≤ 1000000000) :
    Calls Try.prog 65 #[.pointer (some ⟨g, 0, none⟩), .pointer (some ⟨mb, off, none⟩)] w (RetG w g B mb cur t (fun cur x => cur.setIfInBounds off (.bool x)) (flgD l b)) := by
  have hml := blk_lt hV
  have hgl := h.lt
  have hge := h.ge
  obtain ⟨w1, hw1⟩ : ∃ w1, w.alloc (.cells #[.int .i64 0] 3) = w1 := ⟨_, rfl⟩
  have hb1 : Below w.heap.size w w1 := by rw [← hw1]; exact below_al _ _
  have hs1 : w1.heap.size = w.heap.size + 1 := by rw [← hw1]; simp
  obtain ⟨N, hN⟩ : ∃ N, w.heap.size = N := ⟨_, rfl⟩
  have HNM := Lib.hid (num_d w1 g B N 0 #[.int .i64 0] 3 l 0 1 (h.below hb1 (Nat.le_refl _)) (by rw [← hw1, ← hN]; exact alloc_new _ _) rfl (by omega) (by decide) (by omega) (by omega) hn (by omega))
  have HC1 := Lib.hid ((Chg.of_below hb1).mono (S' := FR w g B mb) (fun _ _ e => e.elim))
  have HV1 := Lib.hid (show V w1 mb cur t from blk_below hb1 hV hml)
  have HV := Lib.hid hv
  obtain ⟨r, hr⟩ : ∃ r, numD l 0 1 = r := ⟨_, rfl⟩
  have HR := Lib.hid (show flgD l b = if r.1 = 0 then (0, r.2.1, decide (r.2.2 = 1)) else (r.1, l, b) by
    rw [← hr]; unfold flgD numD
    rw [show ((1 : Int).toNat) = 1 from rfl]
    cases cl.num 1 l with
    | none => rfl
    | some q => obtain ⟨n, s'⟩ := q; simp; exact ⟨fun e => by omega, fun e => by omega⟩)
  rw [hr] at HNM
  have hs1' : w1.heap.size = N + 1 := by omega
  clear h hV hv hb1 hr hs1
  obtain ⟨er, l1, x⟩ := r
  go_enter Try.func65, Try.ntmps65
  go_wp2_with (fail)
  refine HNM.out.mono ?_
  intro e w2 hr
  obtain ⟨hc, ⟨h0, rfl, hst, hVn⟩ | ⟨h0, rfl, _⟩⟩ := hr
  · simp only at h0 hst hVn
    subst h0
    have hVn' : V w2 N #[.int .i64 x] 3 := hVn
    have HVM := Lib.hid (HV1.out.fr hc hne (by omega) ht)
    have HC2 := Lib.hid (fr_new HC1.out hc (by omega))
    have HS2 := Lib.hid hst
    have cn : w2.cell? ⟨N, 0, none⟩ = some (.int .i64 x) := by rw [cell_of_row _ _ _ _ _ _ hVn']; rfl
    have hnl := blk_lt hVn'
    have cm : w2.cell? ⟨mb, off, none⟩ = some (.bool b) := by rw [cell_of_row _ _ _ _ _ _ HVM.out]; exact HV.out
    have fm := frozen_of_row w2 mb off _ _ HVM.out
    have hml2 := blk_lt HVM.out
    have hq : (x == 1) = decide (x = 1) := rfl
    have HF := Lib.hid (show RetG w g B mb cur t (fun cur x => cur.setIfInBounds off (.bool x)) (flgD l b) (.returned (.tuple #[])) (w2.setCell ⟨mb, off, none⟩ (.bool (decide (x = 1)))) from RetG.ok (fr_set HC2.out _) (by rw [HR.out]; rfl) (HS2.out.setCell HVM.out hne hgB _) (HVM.out.set _))
    clear hc hst hVn hVn' HNM
    go_wp2_with (fail)
    go_end0
    exact HF.out
  · simp only at h0
    have HE := Lib.hid (show RetG w g B mb cur t (fun cur x => cur.setIfInBounds off (.bool x)) (flgD l b) (.panicked (errC er)) w2 from RetG.no (fr_new HC1.out hc (by omega)) (by rw [HR.out, if_neg h0]) h0 ⟨cur, rfl, HV1.out.fr hc hne (by omega) ht⟩)
    clear hc HNM
    go_wp2_with (fail)
    exact ⟨rfl, HE.out⟩
set_option maxHeartbeats 2000000 in
set_option maxRecDepth 100000 in
theorem text_d (w : World) (g B mb off : Nat) (cur : Array Value) (t : TypeId) (l id : By) (h : StD w g B l) (hV : V w mb cur t) (hv : cur[off]? = some (.string (cl.tx id))) (hne : mb ≠ g) (ht : t ≠ 5) (hgB : B ≤ mb) (hB : B ≤ w.heap.size) (hn : l.length ≤ 1000000000) (hid : True) :
    Calls Try.prog 67 #[.pointer (some ⟨g, 0, none⟩), .pointer (some ⟨mb, off, none⟩)] w (RetG w g B mb cur t (fun cur x => cur.setIfInBounds off (.string (cl.tx x))) (txtD l id)) := by
  have hml := blk_lt hV
  have hgl := h.lt
  have hge := h.ge
  obtain ⟨w1, hw1⟩ : ∃ w1, w.alloc (.cells #[.int .i64 0] 3) = w1 := ⟨_, rfl⟩
  have hb1 : Below w.heap.size w w1 := by rw [← hw1]; exact below_al _ _
  have hs1 : w1.heap.size = w.heap.size + 1 := by rw [← hw1]; simp
  obtain ⟨N, hN⟩ : ∃ N, w.heap.size = N := ⟨_, rfl⟩
  have HNM := Lib.hid (num_d w1 g B N 0 #[.int .i64 0] 3 l 0 16 (h.below hb1 (Nat.le_refl _)) (by rw [← hw1, ← hN]; exact alloc_new _ _) rfl (by omega) (by decide) (by omega) (by omega) hn (by omega))
  have HC1 := Lib.hid ((Chg.of_below hb1).mono (S' := FR w g B mb) (fun _ _ e => e.elim))
  have HV1 := Lib.hid (show V w1 mb cur t from blk_below hb1 hV hml)
  have HV := Lib.hid hv
  have hs1' : w1.heap.size = N + 1 := by omega
  have HR := Lib.hid (show numD l 0 16 = (match cl.num 16 l with | some (n, s') => (0, s', (n : Int)) | none => (130, l, 0)) from rfl)
  have HTX := Lib.hid (show txtD l id = (match cl.num 16 l with | some (n, s') => if s'.length < n then (130, s', id) else (0, s'.drop n, s'.take n) | none => (130, l, id)) from rfl)
  have hrn : ∀ n s', cl.num 16 l = some (n, s') → n ≤ 16 := fun n s' e => (cl.num_back e).1
  obtain ⟨q, hq⟩ : ∃ q, cl.num 16 l = q := ⟨_, rfl⟩
  rw [hq] at HR HTX hrn
  rw [HR.out] at HNM
  clear h hV hv hb1 hs1 HR hq
  go_enter Try.func67, Try.ntmps67
  go_wp2_with (fail)
  refine HNM.out.mono ?_
  cases q with
  | none =>
    intro e w2 hr
    obtain ⟨hc, ⟨h0, _⟩ | ⟨h0, rfl, _⟩⟩ := hr
    · exact absurd h0 (by simp)
    · have HE := Lib.hid (show RetG w g B mb cur t (fun cur x => cur.setIfInBounds off (.string (cl.tx x))) (txtD l id) (.panicked (errC 130)) w2 from RetG.no (fr_new HC1.out hc (by omega)) (by rw [HTX.out]) (by decide) ⟨cur, rfl, HV1.out.fr hc hne (by omega) ht⟩)
      clear hc HNM
      go_wp2_with (fail)
      exact ⟨rfl, HE.out⟩
  | some q =>
    obtain ⟨n, s'⟩ := q
    have hn16 := hrn n s' rfl
    clear hrn
    intro e w2 hr
    obtain ⟨hc, ⟨h0, rfl, hst, hVn⟩ | ⟨h0, _⟩⟩ := hr
    · simp only at hst hVn
      have hVn' : V w2 N #[.int .i64 n] 3 := hVn
      have HVM := Lib.hid (HV1.out.fr hc hne (by omega) ht)
      have HC2 := Lib.hid (fr_new HC1.out hc (by omega))
      have HTK := Lib.hid (take_d w2 g B n s' hst)
      have cn : w2.cell? ⟨N, 0, none⟩ = some (.int .i64 n) := by rw [cell_of_row _ _ _ _ _ _ hVn']; rfl
      have hnl := blk_lt hVn'
      clear hc hst hVn hVn' HNM h0
      go_wp2_with (fail)
      refine HTK.out.mono ?_
      intro e w3 hr
      obtain ⟨hlt, rfl, rfl⟩ | ⟨hle, b, o, c, rfl, hb, hst, hc⟩ := hr
      · have HE := Lib.hid (show RetG w g B mb cur t (fun cur x => cur.setIfInBounds off (.string (cl.tx x))) (txtD l id) (.panicked (errC 130)) w3 from RetG.no HC2.out (by rw [HTX.out]; show (if s'.length < n then _ else _ : R By).1 = 130; rw [if_pos hlt]) (by decide) ⟨cur, rfl, HVM.out⟩)
        clear HTK
        go_wp2_with (fail)
        exact ⟨rfl, HE.out⟩
      · have HVM3 := Lib.hid (show V w3 mb cur t from hc.blk HVM.out (fun e => hne e))
        have cm : w3.cell? ⟨mb, off, none⟩ = some (.string (cl.tx id)) := by rw [cell_of_row _ _ _ _ _ _ HVM3.out]; exact HV.out
        have fm := frozen_of_row w3 mb off _ _ HVM3.out
        have hml3 := blk_lt HVM3.out
        have k0 := conv_string (P := Try.prog) (c := c) hb 33 9 5 Try.underlying33 Try.underlying9 Try.underlying5
        have HF := Lib.hid (show RetG w g B mb cur t (fun cur x => cur.setIfInBounds off (.string (cl.tx x))) (txtD l id) (.returned (.tuple #[])) (w3.setCell ⟨mb, off, none⟩ (.string (cl.tx (s'.take n)))) from RetG.ok (fr_set (fr_trans HC2.out (fr_g hc)) _) (by rw [HTX.out]; exact if_neg (by omega)) (hst.setCell HVM3.out hne hgB _) (HVM3.out.set _))
        clear hc hst hb HTK
        go_wp2_with (fail)
        go_end0
        exact HF.out
    · exact absurd rfl h0
end Go.Proofs.Ythkcnakodlbdpaa.wr
/-
  Messages: passing over a point, a range, a meta, the decoder's.
-/
namespace Go.Proofs.Ythkcnakodlbdpaa.wr
open Go.ChangeShapes Go.WideShapes Go.ChangeAt Go.RowKit plain words ord mem uvs uvc

theorem na_number_d (g : Nat) : ∀ (n : Nat) (w : World), (nilAhead (n + 1) 60 (.pointer (some ⟨g, 0, none⟩)) "thermograph/wire.number").run Try.prog w = .ok (some false) w := fun n w => by kernel_rfl
theorem na_count_d (g : Nat) : ∀ (n : Nat) (w : World), (nilAhead (n + 1) 60 (.pointer (some ⟨g, 0, none⟩)) "thermograph/wire.count").run Try.prog w = .ok (some false) w := fun n w => by kernel_rfl
theorem na_fixed_d (g : Nat) : ∀ (n : Nat) (w : World), (nilAhead (n + 1) 60 (.pointer (some ⟨g, 0, none⟩)) "thermograph/wire.fixed").run Try.prog w = .ok (some false) w := fun n w => by kernel_rfl
theorem na_text_d (g : Nat) : ∀ (n : Nat) (w : World), (nilAhead (n + 1) 60 (.pointer (some ⟨g, 0, none⟩)) "thermograph/wire.text").run Try.prog w = .ok (some false) w := fun n w => by kernel_rfl
theorem na_flag_d (g : Nat) : ∀ (n : Nat) (w : World), (nilAhead (n + 1) 60 (.pointer (some ⟨g, 0, none⟩)) "thermograph/wire.flag").run Try.prog w = .ok (some false) w := fun n w => by kernel_rfl
set_option maxHeartbeats 2000000 in
set_option maxRecDepth 100000 in
theorem passPt_d (w : World) (g B mb : Nat) (off : Nat) (cur : Array Value) (t : TypeId) (l : By) (p : Pt) (h : StD w g B l) (hV : V w mb cur t) (c0 : cur[off]? = some (.int .i64 p.1)) (c1 : cur[off + 1]? = some (.int .u64 p.2.1)) (c2 : cur[off + 2]? = some (.int .u64 p.2.2)) (hp : (0 ≤ p.2.1 ∧ p.2.1 < 18446744073709551616) ∧ (0 ≤ p.2.2 ∧ p.2.2 < 18446744073709551616)) (hne : mb ≠ g) (ht : t ≠ 5) (hgB : B ≤ mb) (hB : B ≤ w.heap.size) (hn : l.length ≤ 999999900) :
    Calls Try.prog 22 #[.iface 60 (.pointer (some ⟨g, 0, none⟩)), .pointer (some ⟨mb, off, none⟩)] w (RetG w g B mb cur t (fun cur x => ((cur.setIfInBounds off (.int .i64 x.1)).setIfInBounds (off + 1) (.int .u64 x.2.1)).setIfInBounds (off + 2) (.int .u64 x.2.2)) (passPt decC l p)) := by
  have hmf : ∀ (fn : Fn) (first cap : Array Value) (w : World), (Instr.makeFunc fn first cap).run Try.prog w = .ok (.func fn first cap) w := fun _ _ _ _ => rfl
  have na1 := na_number_d g
  have na2 := na_fixed_d g
  have na3 := na_text_d g
  have na4 := na_flag_d g
  have HC0 := Lib.hid (Chg.refl (FR w g B mb) w)
  have ST0 := Lib.hid h
  have VV0 := Lib.hid hV
  have hs0 : w.heap.size ≤ w.heap.size := Nat.le_refl _
  have hgl := h.lt
  have hml := blk_lt hV
  clear h hV
  obtain ⟨p1, p2, p3⟩ := p
  obtain ⟨v2, rfl⟩ : ∃ v : Nat, p2 = (v : Int) := ⟨p2.toNat, by have := hp.1.1; simp only at this; omega⟩
  obtain ⟨v3, rfl⟩ : ∃ v : Nat, p3 = (v : Int) := ⟨p3.toNat, by have := hp.2.1; simp only at this; omega⟩
  have hv2 : v2 < 18446744073709551616 := by have := hp.1.2; simp only at this; omega
  have hv3 : v3 < 18446744073709551616 := by have := hp.2.2; simp only at this; omega
  simp only at c0 c1 c2
  have HV2 := Lib.hid hv2
  have HV3 := Lib.hid hv3
  have C1 := Lib.hid c1
  have C2 := Lib.hid c2
  clear hp c1 c2
  obtain ⟨r1, hr1⟩ : ∃ r, decC.num l p1 1099511627776 = r := ⟨_, rfl⟩
  have HH1 := Lib.hid (num_d w.drew g B mb off cur t l p1 1099511627776 ST0.out.drew VV0.out c0 hne ht hgB hB (by omega) (by omega))
  rw [show numD l p1 1099511627776 = r1 from hr1] at HH1
  have HQ1 := Lib.hid (show passPt decC l (p1, (v2 : Int), (v3 : Int)) = bnd r1 (p1, (v2 : Int), (v3 : Int)) fun s a => bnd (decC.fix s (v2 : Int) 8) (p1, (v2 : Int), (v3 : Int)) fun s b => bnd (decC.fix s (v3 : Int) 8) (p1, (v2 : Int), (v3 : Int)) fun s c => (0, s, (a, b, c)) by rw [← hr1]; rfl)
  have hl1 := numD_len l p1 1099511627776
  rw [show numD l p1 1099511627776 = r1 from hr1] at hl1
  have NO1 := Lib.hid (fun (w' : World) (h1 : Chg (FR w g B mb) w w') (h2 : r1.1 ≠ 0) (h3 : VS w' mb cur.size t) => RetG.no (put := fun cur x => ((cur.setIfInBounds off (.int .i64 x.1)).setIfInBounds (off + 1) (.int .u64 x.2.1)).setIfInBounds (off + 2) (.int .u64 x.2.2)) (cur := cur) (t := t) h1 (show (passPt decC l (p1, (v2 : Int), (v3 : Int))).1 = r1.1 by rw [HQ1.out, bnd_no h2]) h2 h3)
  clear hr1
  obtain ⟨er1, l1, a1⟩ := r1
  simp only at hl1
  clear c0 hv2 hv3
  go_enter Try.func22, Try.ntmps22
  go_wp2_with (fail)
  refine frp.wp_region_ptree (F := fun _ => True) (.reads [0, 1, 2, 3] (.one 4 false (.reads [5, 6] (.one 7 false .stop)))) (by kernel_rfl) (by kernel_rfl) ?_
  refine fr.tr_reads _ (by dsimp only [pick, ord.at_]) ?_
  repeat (go_big_quiet_step (fail))
  refine wpQuiet_nil ?_
  refine fr.tr_one _ (by dsimp only [pick, ord.at_]) ?_
  intro K1 g1 g2
  clear g2
  go_wp2_with (fail)
  refine g1 _ _ (Chg.refl _ _).drew ?_
  clear g1
  refine fr.tr_reads _ (by dsimp only [pick, ord.at_]) ?_
  repeat (go_big_quiet_step (fail))
  refine wpQuiet_nil ?_
  refine frp.tr_onep _ (by dsimp only [pick, ord.at_]) ?_
  intro K2 g1 g2 g3
  clear g2
  go_wp2_with (fail)
  refine HH1.out.mono ?_
  intro e w1 hr
  obtain ⟨hc, ⟨h0, rfl, hst, hV⟩ | ⟨h0, rfl, hvs⟩⟩ := hr
  · simp only at h0 hst hV
    subst h0
    have ST1 := Lib.hid hst
    have VV1 := Lib.hid hV
    have HC1 := Lib.hid (fr_trans HC0.out (fr_drew hc))
    have hs1 := HC1.out.size
    clear hst hV g3 HH1
    go_wp2_with (fail)
    refine g1 _ _ (((Chg.refl (fun _ => True) w).drew).trans (hc.mono (fun _ _ _ => trivial)) (fun _ _ e => e)) ?_
    clear g1 hc
    refine fr.tr_stop ?_
    refine PanicAll.normal ?_
    have hm1 : mb < w1.heap.size := by omega
    have hg1 : g < w1.heap.size := by omega
    obtain ⟨r2, hr2⟩ : ∃ r, decC.fix l1 (v2 : Int) 8 = r := ⟨_, rfl⟩
    have HH2 := Lib.hid (fix_d w1.drew g B mb (off + 1) (cur.setIfInBounds off (.int .i64 a1)) t l1 v2 8 ST1.out.drew VV1.out (by rw [get_ne (by omega)]; exact C1.out) hne ht hgB (by show B ≤ w1.heap.size; omega) (by omega) trivial (by omega))
    rw [show fixD l1 v2 8 = r2 from hr2] at HH2
    have HQ2 := Lib.hid (show passPt decC l (p1, (v2 : Int), (v3 : Int)) = bnd r2 (p1, (v2 : Int), (v3 : Int)) fun s b => bnd (decC.fix s (v3 : Int) 8) (p1, (v2 : Int), (v3 : Int)) fun s c => (0, s, (a1, b, c)) by rw [HQ1.out, bnd_ok rfl, ← hr2])
    have hl2 := fixD_len l1 v2 8
    rw [show fixD l1 v2 8 = r2 from hr2] at hl2
    have NO2 := Lib.hid (fun (w' : World) (h1 : Chg (FR w g B mb) w w') (h2 : r2.1 ≠ 0) (h3 : VS w' mb cur.size t) => RetG.no (put := fun cur x => ((cur.setIfInBounds off (.int .i64 x.1)).setIfInBounds (off + 1) (.int .u64 x.2.1)).setIfInBounds (off + 2) (.int .u64 x.2.2)) (cur := cur) (t := t) h1 (show (passPt decC l (p1, (v2 : Int), (v3 : Int))).1 = r2.1 by rw [HQ2.out, bnd_no h2]) h2 h3)
    clear hr2
    obtain ⟨er2, l2, a2⟩ := r2
    simp only at hl2
    go_wp2_with (fail)
    refine frp.wp_region_ptree (F := fun _ => True) (.reads [0, 1, 2, 3] (.one 4 false (.reads [5, 6] (.one 7 false .stop)))) (by kernel_rfl) (by kernel_rfl) ?_
    refine fr.tr_reads _ (by dsimp only [pick, ord.at_]) ?_
    repeat (go_big_quiet_step (fail))
    refine wpQuiet_nil ?_
    refine fr.tr_one _ (by dsimp only [pick, ord.at_]) ?_
    intro K1 g1 g2
    clear g2
    go_wp2_with (fail)
    refine g1 _ _ (Chg.refl _ _).drew ?_
    clear g1
    refine fr.tr_reads _ (by dsimp only [pick, ord.at_]) ?_
    repeat (go_big_quiet_step (fail))
    refine wpQuiet_nil ?_
    refine frp.tr_onep _ (by dsimp only [pick, ord.at_]) ?_
    intro K2 g1 g2 g3
    clear g2
    go_wp2_with (fail)
    refine HH2.out.mono ?_
    intro e w2 hr
    obtain ⟨hc, ⟨h0, rfl, hst, hV⟩ | ⟨h0, rfl, hvs⟩⟩ := hr
    · simp only at h0 hst hV
      subst h0
      have ST2 := Lib.hid hst
      have VV2 := Lib.hid hV
      have HC2 := Lib.hid (fr_trans HC1.out (fr_drew hc))
      have hs2 := HC2.out.size
      clear hst hV g3 HH2
      go_wp2_with (fail)
      refine g1 _ _ (((Chg.refl (fun _ => True) w1).drew).trans (hc.mono (fun _ _ _ => trivial)) (fun _ _ e => e)) ?_
      clear g1 hc
      refine fr.tr_stop ?_
      refine PanicAll.normal ?_
      have hm2 : mb < w2.heap.size := by omega
      have hg2 : g < w2.heap.size := by omega
      obtain ⟨r3, hr3⟩ : ∃ r, decC.fix l2 (v3 : Int) 8 = r := ⟨_, rfl⟩
      have HH3 := Lib.hid (fix_d w2.drew g B mb (off + 2) ((cur.setIfInBounds off (.int .i64 a1)).setIfInBounds (off + 1) (.int .u64 a2)) t l2 v3 8 ST2.out.drew VV2.out (by rw [get_ne (by omega), get_ne (by omega)]; exact C2.out) hne ht hgB (by show B ≤ w2.heap.size; omega) (by omega) trivial (by omega))
      rw [show fixD l2 v3 8 = r3 from hr3] at HH3
      have HQ3 := Lib.hid (show passPt decC l (p1, (v2 : Int), (v3 : Int)) = bnd r3 (p1, (v2 : Int), (v3 : Int)) fun s c => (0, s, (a1, a2, c)) by rw [HQ2.out, bnd_ok rfl, ← hr3])
      have hl3 := fixD_len l2 v3 8
      rw [show fixD l2 v3 8 = r3 from hr3] at hl3
      have NO3 := Lib.hid (fun (w' : World) (h1 : Chg (FR w g B mb) w w') (h2 : r3.1 ≠ 0) (h3 : VS w' mb cur.size t) => RetG.no (put := fun cur x => ((cur.setIfInBounds off (.int .i64 x.1)).setIfInBounds (off + 1) (.int .u64 x.2.1)).setIfInBounds (off + 2) (.int .u64 x.2.2)) (cur := cur) (t := t) h1 (show (passPt decC l (p1, (v2 : Int), (v3 : Int))).1 = r3.1 by rw [HQ3.out, bnd_no h2]) h2 h3)
      clear hr3
      obtain ⟨er3, l3, a3⟩ := r3
      simp only at hl3
      go_wp2_with (fail)
      refine frp.wp_region_ptree (F := fun _ => True) (.reads [0, 1, 2, 3] (.one 4 false (.reads [5, 6] (.one 7 false .stop)))) (by kernel_rfl) (by kernel_rfl) ?_
      refine fr.tr_reads _ (by dsimp only [pick, ord.at_]) ?_
      repeat (go_big_quiet_step (fail))
      refine wpQuiet_nil ?_
      refine fr.tr_one _ (by dsimp only [pick, ord.at_]) ?_
      intro K1 g1 g2
      clear g2
      go_wp2_with (fail)
      refine g1 _ _ (Chg.refl _ _).drew ?_
      clear g1
      refine fr.tr_reads _ (by dsimp only [pick, ord.at_]) ?_
      repeat (go_big_quiet_step (fail))
      refine wpQuiet_nil ?_
      refine frp.tr_onep _ (by dsimp only [pick, ord.at_]) ?_
      intro K2 g1 g2 g3
      clear g2
      go_wp2_with (fail)
      refine HH3.out.mono ?_
      intro e w3 hr
      obtain ⟨hc, ⟨h0, rfl, hst, hV⟩ | ⟨h0, rfl, hvs⟩⟩ := hr
      · simp only at h0 hst hV
        subst h0
        have ST3 := Lib.hid hst
        have VV3 := Lib.hid hV
        have HC3 := Lib.hid (fr_trans HC2.out (fr_drew hc))
        have hs3 := HC3.out.size
        clear hst hV g3 HH3
        go_wp2_with (fail)
        refine g1 _ _ (((Chg.refl (fun _ => True) w2).drew).trans (hc.mono (fun _ _ _ => trivial)) (fun _ _ e => e)) ?_
        clear g1 hc
        refine fr.tr_stop ?_
        refine PanicAll.normal ?_
        go_wp2_with (fail)
        go_end0
        exact RetG.ok (v := (a1, a2, a3)) HC3.out (by rw [HQ3.out, bnd_ok rfl]) ST3.out VV3.out
      · have HE := Lib.hid (NO3.out _ (fr_trans HC2.out (fr_drew hc)) h0 (by simpa using hvs))
        clear g1 hc HH3
        go_wp2_with (fail)
        intro a' ha'
        go_wp2_with (fail)
        exact ⟨ha', HE.out⟩
    · have HE := Lib.hid (NO2.out _ (fr_trans HC1.out (fr_drew hc)) h0 (by simpa using hvs))
      clear g1 hc HH2
      go_wp2_with (fail)
      intro a' ha'
      go_wp2_with (fail)
      exact ⟨ha', HE.out⟩
  · have HE := Lib.hid (NO1.out _ (fr_trans HC0.out (fr_drew hc)) h0 (by simpa using hvs))
    clear g1 hc HH1
    go_wp2_with (fail)
    intro a' ha'
    go_wp2_with (fail)
    exact ⟨ha', HE.out⟩
set_option maxHeartbeats 2000000 in
set_option maxRecDepth 100000 in
theorem passRg_d (w : World) (g B mb : Nat) (off : Nat) (cur : Array Value) (t : TypeId) (l : By) (f0 t0 : Int) (h : StD w g B l) (hV : V w mb cur t) (c0 : cur[off]? = some (.int .i64 f0)) (c1 : cur[off + 1]? = some (.int .i64 t0)) (hne : mb ≠ g) (ht : t ≠ 5) (hgB : B ≤ mb) (hB : B ≤ w.heap.size) (hn : l.length ≤ 999999900) :
    Calls Try.prog 23 #[.iface 60 (.pointer (some ⟨g, 0, none⟩)), .pointer (some ⟨mb, off, none⟩)] w (RetG w g B mb cur t (fun cur x => (cur.setIfInBounds off (.int .i64 x.1)).setIfInBounds (off + 1) (.int .i64 x.2)) (passRg decC l f0 t0)) := by
  have hmf : ∀ (fn : Fn) (first cap : Array Value) (w : World), (Instr.makeFunc fn first cap).run Try.prog w = .ok (.func fn first cap) w := fun _ _ _ _ => rfl
  have na1 := na_number_d g
  have na2 := na_fixed_d g
  have na3 := na_text_d g
  have na4 := na_flag_d g
  have HC0 := Lib.hid (Chg.refl (FR w g B mb) w)
  have ST0 := Lib.hid h
  have VV0 := Lib.hid hV
  have hs0 : w.heap.size ≤ w.heap.size := Nat.le_refl _
  have hgl := h.lt
  have hml := blk_lt hV
  clear h hV
  have C1 := Lib.hid c1
  clear c1
  obtain ⟨r1, hr1⟩ : ∃ r, decC.num l f0 1099511627777 = r := ⟨_, rfl⟩
  have HH1 := Lib.hid (num_d w.drew g B mb off cur t l f0 1099511627777 ST0.out.drew VV0.out c0 hne ht hgB hB (by omega) (by omega))
  rw [show numD l f0 1099511627777 = r1 from hr1] at HH1
  have HQ1 := Lib.hid (show passRg decC l f0 t0 = bnd r1 (f0, t0) fun s a => bnd (decC.num s t0 1099511627777) (f0, t0) fun s b => (0, s, (a, b)) by rw [← hr1]; rfl)
  have hl1 := numD_len l f0 1099511627777
  rw [show numD l f0 1099511627777 = r1 from hr1] at hl1
  have NO1 := Lib.hid (fun (w' : World) (h1 : Chg (FR w g B mb) w w') (h2 : r1.1 ≠ 0) (h3 : VS w' mb cur.size t) => RetG.no (put := fun cur x => (cur.setIfInBounds off (.int .i64 x.1)).setIfInBounds (off + 1) (.int .i64 x.2)) (cur := cur) (t := t) h1 (show (passRg decC l f0 t0).1 = r1.1 by rw [HQ1.out, bnd_no h2]) h2 h3)
  clear hr1
  obtain ⟨er1, l1, a1⟩ := r1
  simp only at hl1
  clear c0
  go_enter Try.func23, Try.ntmps23
  go_wp2_with (fail)
  refine frp.wp_region_ptree (F := fun _ => True) (.reads [0, 1, 2, 3] (.one 4 false (.reads [5, 6] (.one 7 false .stop)))) (by kernel_rfl) (by kernel_rfl) ?_
  refine fr.tr_reads _ (by dsimp only [pick, ord.at_]) ?_
  repeat (go_big_quiet_step (fail))
  refine wpQuiet_nil ?_
  refine fr.tr_one _ (by dsimp only [pick, ord.at_]) ?_
  intro K1 g1 g2
  clear g2
  go_wp2_with (fail)
  refine g1 _ _ (Chg.refl _ _).drew ?_
  clear g1
  refine fr.tr_reads _ (by dsimp only [pick, ord.at_]) ?_
  repeat (go_big_quiet_step (fail))
  refine wpQuiet_nil ?_
  refine frp.tr_onep _ (by dsimp only [pick, ord.at_]) ?_
  intro K2 g1 g2 g3
  clear g2
  go_wp2_with (fail)
  refine HH1.out.mono ?_
  intro e w1 hr
  obtain ⟨hc, ⟨h0, rfl, hst, hV⟩ | ⟨h0, rfl, hvs⟩⟩ := hr
  · simp only at h0 hst hV
    subst h0
    have ST1 := Lib.hid hst
    have VV1 := Lib.hid hV
    have HC1 := Lib.hid (fr_trans HC0.out (fr_drew hc))
    have hs1 := HC1.out.size
    clear hst hV g3 HH1
    go_wp2_with (fail)
    refine g1 _ _ (((Chg.refl (fun _ => True) w).drew).trans (hc.mono (fun _ _ _ => trivial)) (fun _ _ e => e)) ?_
    clear g1 hc
    refine fr.tr_stop ?_
    refine PanicAll.normal ?_
    have hm1 : mb < w1.heap.size := by omega
    have hg1 : g < w1.heap.size := by omega
    obtain ⟨r2, hr2⟩ : ∃ r, decC.num l1 t0 1099511627777 = r := ⟨_, rfl⟩
    have HH2 := Lib.hid (num_d w1.drew g B mb (off + 1) (cur.setIfInBounds off (.int .i64 a1)) t l1 t0 1099511627777 ST1.out.drew VV1.out (by rw [get_ne (by omega)]; exact C1.out) hne ht hgB (by show B ≤ w1.heap.size; omega) (by omega) (by omega))
    rw [show numD l1 t0 1099511627777 = r2 from hr2] at HH2
    have HQ2 := Lib.hid (show passRg decC l f0 t0 = bnd r2 (f0, t0) fun s b => (0, s, (a1, b)) by rw [HQ1.out, bnd_ok rfl, ← hr2])
    have hl2 := numD_len l1 t0 1099511627777
    rw [show numD l1 t0 1099511627777 = r2 from hr2] at hl2
    have NO2 := Lib.hid (fun (w' : World) (h1 : Chg (FR w g B mb) w w') (h2 : r2.1 ≠ 0) (h3 : VS w' mb cur.size t) => RetG.no (put := fun cur x => (cur.setIfInBounds off (.int .i64 x.1)).setIfInBounds (off + 1) (.int .i64 x.2)) (cur := cur) (t := t) h1 (show (passRg decC l f0 t0).1 = r2.1 by rw [HQ2.out, bnd_no h2]) h2 h3)
    clear hr2
    obtain ⟨er2, l2, a2⟩ := r2
    simp only at hl2
    go_wp2_with (fail)
    refine frp.wp_region_ptree (F := fun _ => True) (.reads [0, 1, 2, 3] (.one 4 false (.reads [5, 6] (.one 7 false .stop)))) (by kernel_rfl) (by kernel_rfl) ?_
    refine fr.tr_reads _ (by dsimp only [pick, ord.at_]) ?_
    repeat (go_big_quiet_step (fail))
    refine wpQuiet_nil ?_
    refine fr.tr_one _ (by dsimp only [pick, ord.at_]) ?_
    intro K1 g1 g2
    clear g2
    go_wp2_with (fail)
    refine g1 _ _ (Chg.refl _ _).drew ?_
    clear g1
    refine fr.tr_reads _ (by dsimp only [pick, ord.at_]) ?_
    repeat (go_big_quiet_step (fail))
    refine wpQuiet_nil ?_
    refine frp.tr_onep _ (by dsimp only [pick, ord.at_]) ?_
    intro K2 g1 g2 g3
    clear g2
    go_wp2_with (fail)
    refine HH2.out.mono ?_
    intro e w2 hr
    obtain ⟨hc, ⟨h0, rfl, hst, hV⟩ | ⟨h0, rfl, hvs⟩⟩ := hr
    · simp only at h0 hst hV
      subst h0
      have ST2 := Lib.hid hst
      have VV2 := Lib.hid hV
      have HC2 := Lib.hid (fr_trans HC1.out (fr_drew hc))
      have hs2 := HC2.out.size
      clear hst hV g3 HH2
      go_wp2_with (fail)
      refine g1 _ _ (((Chg.refl (fun _ => True) w1).drew).trans (hc.mono (fun _ _ _ => trivial)) (fun _ _ e => e)) ?_
      clear g1 hc
      refine fr.tr_stop ?_
      refine PanicAll.normal ?_
      go_wp2_with (fail)
      go_end0
      exact RetG.ok (v := (a1, a2)) HC2.out (by rw [HQ2.out, bnd_ok rfl]) ST2.out VV2.out
    · have HE := Lib.hid (NO2.out _ (fr_trans HC1.out (fr_drew hc)) h0 (by simpa using hvs))
      clear g1 hc HH2
      go_wp2_with (fail)
      intro a' ha'
      go_wp2_with (fail)
      exact ⟨ha', HE.out⟩
  · have HE := Lib.hid (NO1.out _ (fr_trans HC0.out (fr_drew hc)) h0 (by simpa using hvs))
    clear g1 hc HH1
    go_wp2_with (fail)
    intro a' ha'
    go_wp2_with (fail)
    exact ⟨ha', HE.out⟩
theorem fixD_rng (s : By) (v : Int) (k : Nat) (h0 : 0 ≤ v) (h1 : v < 18446744073709551616) (hk : k ≤ 8) : 0 ≤ (fixD s v k).2.2 ∧ (fixD s v k).2.2 < 18446744073709551616 := by
  unfold fixD
  split
  · exact ⟨h0, h1⟩
  · have := cl.fix_take_lt (s.take k) k (by rw [List.length_take]; omega)
    rw [List.take_take, Nat.min_self] at this
    simp only
    omega
set_option maxHeartbeats 2000000 in
set_option maxRecDepth 100000 in
theorem passMt_d (w : World) (g B mb : Nat) (off : Nat) (cur : Array Value) (t : TypeId) (l : By) (p : Mt) (h : StD w g B l) (hV : V w mb cur t) (c0 : cur[off]? = some (.string (cl.tx p.1))) (c1 : cur[off + 1]? = some (.int .i64 p.2.1)) (c2 : cur[off + 2]? = some (.int .i64 p.2.2.1)) (c3 : cur[off + 3]? = some (.int .u32 p.2.2.2)) (hp : p.1.length ≤ 1000000000 ∧ 0 ≤ p.2.2.2 ∧ p.2.2.2 < 4294967296) (hne : mb ≠ g) (ht : t ≠ 5) (hgB : B ≤ mb) (hB : B ≤ w.heap.size) (hn : l.length ≤ 999999800) :
    Calls Try.prog 25 #[.iface 60 (.pointer (some ⟨g, 0, none⟩)), .pointer (some ⟨mb, off, none⟩)] w (RetG w g B mb cur t (fun cur x => (((cur.setIfInBounds off (.string (cl.tx x.1))).setIfInBounds (off + 1) (.int .i64 x.2.1)).setIfInBounds (off + 2) (.int .i64 x.2.2.1)).setIfInBounds (off + 3) (.int .u32 x.2.2.2)) (passMt decC l p)) := by
  have hmf : ∀ (fn : Fn) (first cap : Array Value) (w : World), (Instr.makeFunc fn first cap).run Try.prog w = .ok (.func fn first cap) w := fun _ _ _ _ => rfl
  have na1 := na_number_d g
  have na2 := na_fixed_d g
  have na3 := na_text_d g
  have na4 := na_flag_d g
  have HC0 := Lib.hid (Chg.refl (FR w g B mb) w)
  have ST0 := Lib.hid h
  have VV0 := Lib.hid hV
  have hs0 : w.heap.size ≤ w.heap.size := Nat.le_refl _
  have hgl := h.lt
  have hml := blk_lt hV
  clear h hV
  obtain ⟨p1, p2, p3, p4'⟩ := p
  obtain ⟨p4, rfl⟩ : ∃ v : Nat, p4' = (v : Int) := ⟨p4'.toNat, by have := hp.2.1; simp only at this; omega⟩
  have hp4 : p4 < 4294967296 := by have := hp.2.2; simp only at this; omega
  have hid : p1.length ≤ 1000000000 := hp.1
  simp only at c0 c1 c2 c3
  have HP4 := Lib.hid hp4
  have C1 := Lib.hid c1
  have C2 := Lib.hid c2
  have C3 := Lib.hid c3
  clear hp c1 c2 c3
  obtain ⟨r1, hr1⟩ : ∃ r, decC.txt l p1 = r := ⟨_, rfl⟩
  have HH1 := Lib.hid (text_d w.drew g B mb off cur t l p1 ST0.out.drew VV0.out c0 hne ht hgB hB (by omega) trivial)
  rw [show txtD l p1 = r1 from hr1] at HH1
  have HQ1 := Lib.hid (show passMt decC l (p1, p2, p3, (p4 : Int)) = bnd r1 (p1, p2, p3, (p4 : Int)) fun s i => bnd (decC.num s p2 1099511627776) (p1, p2, p3, (p4 : Int)) fun s b => bnd (decC.num s p3 512) (p1, p2, p3, (p4 : Int)) fun s c => bnd (decC.fix s (p4 : Int) 4) (p1, p2, p3, (p4 : Int)) fun s x => (0, s, (i, b, c, x % 4294967296)) by rw [← hr1]; rfl)
  have hl1 := txtD_len l p1
  rw [show txtD l p1 = r1 from hr1] at hl1
  have NO1 := Lib.hid (fun (w' : World) (h1 : Chg (FR w g B mb) w w') (h2 : r1.1 ≠ 0) (h3 : VS w' mb cur.size t) => RetG.no (put := fun cur x => (((cur.setIfInBounds off (.string (cl.tx x.1))).setIfInBounds (off + 1) (.int .i64 x.2.1)).setIfInBounds (off + 2) (.int .i64 x.2.2.1)).setIfInBounds (off + 3) (.int .u32 x.2.2.2)) (cur := cur) (t := t) h1 (show (passMt decC l (p1, p2, p3, (p4 : Int))).1 = r1.1 by rw [HQ1.out, bnd_no h2]) h2 h3)
  clear hr1
  obtain ⟨er1, l1, a1⟩ := r1
  simp only at hl1
  clear c0 hid hp4
  go_enter Try.func25, Try.ntmps25
  go_wp2_with (fail)
  refine frp.wp_region_ptree (F := fun _ => True) (.reads [0, 1, 2, 3] (.one 4 false (.reads [5, 6] (.one 7 false .stop)))) (by kernel_rfl) (by kernel_rfl) ?_
  refine fr.tr_reads _ (by dsimp only [pick, ord.at_]) ?_
  repeat (go_big_quiet_step (fail))
  refine wpQuiet_nil ?_
  refine fr.tr_one _ (by dsimp only [pick, ord.at_]) ?_
  intro K1 g1 g2
  clear g2
  go_wp2_with (fail)
  refine g1 _ _ (Chg.refl _ _).drew ?_
  clear g1
  refine fr.tr_reads _ (by dsimp only [pick, ord.at_]) ?_
  repeat (go_big_quiet_step (fail))
  refine wpQuiet_nil ?_
  refine frp.tr_onep _ (by dsimp only [pick, ord.at_]) ?_
  intro K2 g1 g2 g3
  clear g2
  go_wp2_with (fail)
  refine HH1.out.mono ?_
  intro e w1 hr
  obtain ⟨hc, ⟨h0, rfl, hst, hV⟩ | ⟨h0, rfl, hvs⟩⟩ := hr
  · simp only at h0 hst hV
    subst h0
    have ST1 := Lib.hid hst
    have VV1 := Lib.hid hV
    have HC1 := Lib.hid (fr_trans HC0.out (fr_drew hc))
    have hs1 := HC1.out.size
    clear hst hV g3 HH1
    go_wp2_with (fail)
    refine g1 _ _ (((Chg.refl (fun _ => True) w).drew).trans (hc.mono (fun _ _ _ => trivial)) (fun _ _ e => e)) ?_
    clear g1 hc
    refine fr.tr_stop ?_
    refine PanicAll.normal ?_
    have hm1 : mb < w1.heap.size := by omega
    have hg1 : g < w1.heap.size := by omega
    obtain ⟨r2, hr2⟩ : ∃ r, decC.num l1 p2 1099511627776 = r := ⟨_, rfl⟩
    have HH2 := Lib.hid (num_d w1.drew g B mb (off + 1) (cur.setIfInBounds off (.string (cl.tx a1))) t l1 p2 1099511627776 ST1.out.drew VV1.out (by rw [get_ne (by omega)]; exact C1.out) hne ht hgB (by show B ≤ w1.heap.size; omega) (by omega) (by omega))
    rw [show numD l1 p2 1099511627776 = r2 from hr2] at HH2
    have HQ2 := Lib.hid (show passMt decC l (p1, p2, p3, (p4 : Int)) = bnd r2 (p1, p2, p3, (p4 : Int)) fun s b => bnd (decC.num s p3 512) (p1, p2, p3, (p4 : Int)) fun s c => bnd (decC.fix s (p4 : Int) 4) (p1, p2, p3, (p4 : Int)) fun s x => (0, s, (a1, b, c, x % 4294967296)) by rw [HQ1.out, bnd_ok rfl, ← hr2])
    have hl2 := numD_len l1 p2 1099511627776
    rw [show numD l1 p2 1099511627776 = r2 from hr2] at hl2
    have NO2 := Lib.hid (fun (w' : World) (h1 : Chg (FR w g B mb) w w') (h2 : r2.1 ≠ 0) (h3 : VS w' mb cur.size t) => RetG.no (put := fun cur x => (((cur.setIfInBounds off (.string (cl.tx x.1))).setIfInBounds (off + 1) (.int .i64 x.2.1)).setIfInBounds (off + 2) (.int .i64 x.2.2.1)).setIfInBounds (off + 3) (.int .u32 x.2.2.2)) (cur := cur) (t := t) h1 (show (passMt decC l (p1, p2, p3, (p4 : Int))).1 = r2.1 by rw [HQ2.out, bnd_no h2]) h2 h3)
    clear hr2
    obtain ⟨er2, l2, a2⟩ := r2
    simp only at hl2
    go_wp2_with (fail)
    refine frp.wp_region_ptree (F := fun _ => True) (.reads [0, 1, 2, 3] (.one 4 false (.reads [5, 6] (.one 7 false .stop)))) (by kernel_rfl) (by kernel_rfl) ?_
    refine fr.tr_reads _ (by dsimp only [pick, ord.at_]) ?_
    repeat (go_big_quiet_step (fail))
    refine wpQuiet_nil ?_
    refine fr.tr_one _ (by dsimp only [pick, ord.at_]) ?_
    intro K1 g1 g2
    clear g2
    go_wp2_with (fail)
    refine g1 _ _ (Chg.refl _ _).drew ?_
    clear g1
    refine fr.tr_reads _ (by dsimp only [pick, ord.at_]) ?_
    repeat (go_big_quiet_step (fail))
    refine wpQuiet_nil ?_
    refine frp.tr_onep _ (by dsimp only [pick, ord.at_]) ?_
    intro K2 g1 g2 g3
    clear g2
    go_wp2_with (fail)
    refine HH2.out.mono ?_
    intro e w2 hr
    obtain ⟨hc, ⟨h0, rfl, hst, hV⟩ | ⟨h0, rfl, hvs⟩⟩ := hr
    · simp only at h0 hst hV
      subst h0
      have ST2 := Lib.hid hst
      have VV2 := Lib.hid hV
      have HC2 := Lib.hid (fr_trans HC1.out (fr_drew hc))
      have hs2 := HC2.out.size
      clear hst hV g3 HH2
      go_wp2_with (fail)
      refine g1 _ _ (((Chg.refl (fun _ => True) w1).drew).trans (hc.mono (fun _ _ _ => trivial)) (fun _ _ e => e)) ?_
      clear g1 hc
      refine fr.tr_stop ?_
      refine PanicAll.normal ?_
      have hm2 : mb < w2.heap.size := by omega
      have hg2 : g < w2.heap.size := by omega
      obtain ⟨r3, hr3⟩ : ∃ r, decC.num l2 p3 512 = r := ⟨_, rfl⟩
      have HH3 := Lib.hid (num_d w2.drew g B mb (off + 2) ((cur.setIfInBounds off (.string (cl.tx a1))).setIfInBounds (off + 1) (.int .i64 a2)) t l2 p3 512 ST2.out.drew VV2.out (by rw [get_ne (by omega), get_ne (by omega)]; exact C2.out) hne ht hgB (by show B ≤ w2.heap.size; omega) (by omega) (by omega))
      rw [show numD l2 p3 512 = r3 from hr3] at HH3
      have HQ3 := Lib.hid (show passMt decC l (p1, p2, p3, (p4 : Int)) = bnd r3 (p1, p2, p3, (p4 : Int)) fun s c => bnd (decC.fix s (p4 : Int) 4) (p1, p2, p3, (p4 : Int)) fun s x => (0, s, (a1, a2, c, x % 4294967296)) by rw [HQ2.out, bnd_ok rfl, ← hr3])
      have hl3 := numD_len l2 p3 512
      rw [show numD l2 p3 512 = r3 from hr3] at hl3
      have NO3 := Lib.hid (fun (w' : World) (h1 : Chg (FR w g B mb) w w') (h2 : r3.1 ≠ 0) (h3 : VS w' mb cur.size t) => RetG.no (put := fun cur x => (((cur.setIfInBounds off (.string (cl.tx x.1))).setIfInBounds (off + 1) (.int .i64 x.2.1)).setIfInBounds (off + 2) (.int .i64 x.2.2.1)).setIfInBounds (off + 3) (.int .u32 x.2.2.2)) (cur := cur) (t := t) h1 (show (passMt decC l (p1, p2, p3, (p4 : Int))).1 = r3.1 by rw [HQ3.out, bnd_no h2]) h2 h3)
      clear hr3
      obtain ⟨er3, l3, a3⟩ := r3
      simp only at hl3
      go_wp2_with (fail)
      refine frp.wp_region_ptree (F := fun _ => True) (.reads [0, 1, 2, 3] (.one 4 false (.reads [5, 6] (.one 7 false .stop)))) (by kernel_rfl) (by kernel_rfl) ?_
      refine fr.tr_reads _ (by dsimp only [pick, ord.at_]) ?_
      repeat (go_big_quiet_step (fail))
      refine wpQuiet_nil ?_
      refine fr.tr_one _ (by dsimp only [pick, ord.at_]) ?_
      intro K1 g1 g2
      clear g2
      go_wp2_with (fail)
      refine g1 _ _ (Chg.refl _ _).drew ?_
      clear g1
      refine fr.tr_reads _ (by dsimp only [pick, ord.at_]) ?_
      repeat (go_big_quiet_step (fail))
      refine wpQuiet_nil ?_
      refine frp.tr_onep _ (by dsimp only [pick, ord.at_]) ?_
      intro K2 g1 g2 g3
      clear g2
      go_wp2_with (fail)
      refine HH3.out.mono ?_
      intro e w3 hr
      obtain ⟨hc, ⟨h0, rfl, hst, hV⟩ | ⟨h0, rfl, hvs⟩⟩ := hr
      · simp only at h0 hst hV
        subst h0
        have ST3 := Lib.hid hst
        have VV3 := Lib.hid hV
        have HC3 := Lib.hid (fr_trans HC2.out (fr_drew hc))
        have hs3 := HC3.out.size
        clear hst hV g3 HH3
        go_wp2_with (fail)
        refine g1 _ _ (((Chg.refl (fun _ => True) w2).drew).trans (hc.mono (fun _ _ _ => trivial)) (fun _ _ e => e)) ?_
        clear g1 hc
        refine fr.tr_stop ?_
        refine PanicAll.normal ?_
        have hm3 : mb < w3.heap.size := by omega
        have hg3 : g < w3.heap.size := by omega
        have c3 : w3.cell? ⟨mb, off + 3, none⟩ = some (.int .u32 p4) := by rw [cell_of_row _ _ _ _ _ _ VV3.out, get_ne (by omega), get_ne (by omega), get_ne (by omega)]; exact C3.out
        have hp4 := HP4.out
        have wp4 : IntKind.u64.wrap (p4 : Int) = (p4 : Int) := by rw [IntKind.wrap_u64]; omega
        have wq4 : (p4 : Int) % 18446744073709551616 = (p4 : Int) := by omega
        obtain ⟨w4, hw4⟩ : ∃ w4, w3.alloc (.cells #[.int .u64 p4] 24) = w4 := ⟨_, rfl⟩
        have hb4 : Below w3.heap.size w3 w4 := by rw [← hw4]; exact below_al _ _
        have hs34 : w4.heap.size = w3.heap.size + 1 := by rw [← hw4]; simp
        have VB := Lib.hid (show V w4 w3.heap.size #[.int .u64 p4] 24 by rw [← hw4]; exact alloc_new _ _)
        have VM := Lib.hid (show V w4 mb (((cur.setIfInBounds off (.string (cl.tx a1))).setIfInBounds (off + 1) (.int .i64 a2)).setIfInBounds (off + 2) (.int .i64 a3)) t from blk_below hb4 VV3.out (by omega))
        have HB4 := Lib.hid (fr_trans HC3.out ((Chg.of_below hb4).mono (S' := FR w3 g B mb) (fun _ _ e => e.elim)))
        obtain ⟨r4, hr4⟩ : ∃ r, decC.fix l3 (p4 : Int) 4 = r := ⟨_, rfl⟩
        have HH4 := Lib.hid (fix_d w4 g B w3.heap.size 0 #[.int .u64 p4] 24 l3 p4 4 (ST3.out.below hb4 (Nat.le_refl _)) VB.out rfl (by omega) (by decide) (by omega) (by omega) (by omega) trivial (by omega))
        rw [show fixD l3 (p4 : Int) 4 = r4 from hr4] at HH4
        have HQ4 := Lib.hid (show passMt decC l (p1, p2, p3, (p4 : Int)) = bnd r4 (p1, p2, p3, (p4 : Int)) fun s x => (0, s, (a1, a2, a3, x % 4294967296)) by rw [HQ3.out, bnd_ok rfl, ← hr4])
        have NO4 := Lib.hid (fun (w' : World) (h1 : Chg (FR w g B mb) w w') (h2 : r4.1 ≠ 0) (h3 : VS w' mb cur.size t) => RetG.no (put := fun cur x => (((cur.setIfInBounds off (.string (cl.tx x.1))).setIfInBounds (off + 1) (.int .i64 x.2.1)).setIfInBounds (off + 2) (.int .i64 x.2.2.1)).setIfInBounds (off + 3) (.int .u32 x.2.2.2)) (cur := cur) (t := t) h1 (show (passMt decC l (p1, p2, p3, (p4 : Int))).1 = r4.1 by rw [HQ4.out, bnd_no h2]) h2 h3)
        have h4v : 0 ≤ r4.2.2 ∧ r4.2.2 < 18446744073709551616 := by rw [← hr4]; exact fixD_rng l3 p4 4 (by omega) (by omega) (by omega)
        clear hr4 hb4
        obtain ⟨er4, l4, a4⟩ := r4
        simp only at h4v
        go_wp2_with (fail)
        refine HH4.out.mono ?_
        intro e w5 hr
        obtain ⟨hc, ⟨h0, rfl, hst, hVx⟩ | ⟨h0, rfl, hvs⟩⟩ := hr
        · simp only at h0 hst hVx
          subst h0
          have hVx2 : V w5 w3.heap.size #[.int .u64 a4] 24 := hVx
          have ST5 := Lib.hid hst
          have HC5 := Lib.hid (fr_new HB4.out hc (by omega))
          have VM5 := Lib.hid (VM.out.fr hc hne (by omega) ht)
          have cv : w5.cell? ⟨w3.heap.size, 0, none⟩ = some (.int .u64 a4) := by rw [cell_of_row _ _ _ _ _ _ hVx2]; rfl
          have hvl := blk_lt hVx2
          have hml5 := blk_lt VM5.out
          have cm : w5.cell? ⟨mb, off + 3, none⟩ = some (.int .u32 p4) := by rw [cell_of_row _ _ _ _ _ _ VM5.out, get_ne (by omega), get_ne (by omega), get_ne (by omega)]; exact C3.out
          have fm : w5.frozen? ⟨mb, off + 3, none⟩ = false := frozen_of_row _ _ _ _ _ VM5.out
          have wu : IntKind.u32.wrap a4 = a4 % 4294967296 := by rw [IntKind.wrap_u32]
          clear hc hst hVx hVx2 HH4 c3
          go_wp2_with (fail)
          go_end0
          exact RetG.ok (v := (a1, a2, a3, a4 % 4294967296)) (fr_set HC5.out _) (by rw [HQ4.out, bnd_ok rfl]) (ST5.out.setCell VM5.out hne hgB _) (VM5.out.set _)
        · have HE := Lib.hid (NO4.out _ (fr_new HB4.out hc (by omega)) h0 ⟨_, by simp, VM.out.fr hc hne (by omega) ht⟩)
          clear hc HH4
          go_wp2_with (fail)
          exact ⟨rfl, HE.out⟩
      · have HE := Lib.hid (NO3.out _ (fr_trans HC2.out (fr_drew hc)) h0 (by simpa using hvs))
        clear g1 hc HH3
        go_wp2_with (fail)
        intro a' ha'
        go_wp2_with (fail)
        exact ⟨ha', HE.out⟩
    · have HE := Lib.hid (NO2.out _ (fr_trans HC1.out (fr_drew hc)) h0 (by simpa using hvs))
      clear g1 hc HH2
      go_wp2_with (fail)
      intro a' ha'
      go_wp2_with (fail)
      exact ⟨ha', HE.out⟩
  · have HE := Lib.hid (NO1.out _ (fr_trans HC0.out (fr_drew hc)) h0 (by simpa using hvs))
    clear g1 hc HH1
    go_wp2_with (fail)
    intro a' ha'
    go_wp2_with (fail)
    exact ⟨ha', HE.out⟩
end Go.Proofs.Ythkcnakodlbdpaa.wr
/-
  Messages: passing over lists, the decoder's.
-/
namespace Go.Proofs.Ythkcnakodlbdpaa.wr
open Go.ChangeShapes Go.WideShapes Go.ChangeAt Go.RowKit plain words ord mem uvs uvc

def RetLd {α : Type} (E : El α) (w : World) (g B mb : Nat) (cur : Array Value) (t : TypeId) (off : Nat) (r : R (List α)) (e : Ending) (w' : World) : Prop :=
  Chg (FR w g B mb) w w' ∧ ((r.1 = 0 ∧ e = .returned (.tuple #[]) ∧ StD w' g B r.2.1 ∧ ∃ A' c', V w' mb (cur.setIfInBounds off (.slice A' r.2.2.length c')) t ∧ Ow E w' w.heap.size (.slice A' r.2.2.length c') r.2.2.length r.2.2) ∨ (r.1 ≠ 0 ∧ e = .panicked (errC r.1) ∧ VS w' mb cur.size t))
theorem numD_rng (l : By) (v most : Int) (hm : 0 ≤ most) : (numD l v most).1 = 0 → 0 ≤ (numD l v most).2.2 ∧ (numD l v most).2.2 ≤ most := by
  unfold numD
  cases h : cl.num most.toNat l with
  | none => intro h; simp at h
  | some q =>
    obtain ⟨n, s'⟩ := q
    have := (cl.num_back h).1
    intro _
    simp only
    omega
theorem passPtD_len (s : By) (p : Pt) : (passPt decC s p).2.1.length ≤ s.length + 60 := by
  have h1 := numD_len s p.1 1099511627776
  refine bnd_len (Nat.le_trans h1 (by omega)) fun _ => ?_
  have h2 := fixD_len (numD s p.1 1099511627776).2.1 p.2.1 8
  refine bnd_len (show (fixD (numD s p.1 1099511627776).2.1 p.2.1 8).2.1.length ≤ _ by omega) fun _ => ?_
  have h3 := fixD_len (fixD (numD s p.1 1099511627776).2.1 p.2.1 8).2.1 p.2.2 8
  refine bnd_len (show (fixD (fixD (numD s p.1 1099511627776).2.1 p.2.1 8).2.1 p.2.2 8).2.1.length ≤ _ by omega) fun _ => ?_
  show (fixD (fixD (numD s p.1 1099511627776).2.1 p.2.1 8).2.1 p.2.2 8).2.1.length ≤ _
  omega
theorem passMtD_len (s : By) (p : Mt) : (passMt decC s p).2.1.length ≤ s.length + 60 := by
  have h1 := txtD_len s p.1
  refine bnd_len (show (txtD s p.1).2.1.length ≤ _ by omega) fun _ => ?_
  have h2 := numD_len (txtD s p.1).2.1 p.2.1 1099511627776
  refine bnd_len (show (numD (txtD s p.1).2.1 p.2.1 1099511627776).2.1.length ≤ _ by omega) fun _ => ?_
  have h3 := numD_len (numD (txtD s p.1).2.1 p.2.1 1099511627776).2.1 p.2.2.1 512
  refine bnd_len (show (numD (numD (txtD s p.1).2.1 p.2.1 1099511627776).2.1 p.2.2.1 512).2.1.length ≤ _ by omega) fun _ => ?_
  have h4 := fixD_len (numD (numD (txtD s p.1).2.1 p.2.1 1099511627776).2.1 p.2.2.1 512).2.1 p.2.2.2 4
  refine bnd_len (show (fixD (numD (numD (txtD s p.1).2.1 p.2.1 1099511627776).2.1 p.2.2.1 512).2.1 p.2.2.2 4).2.1.length ≤ _ by omega) fun _ => ?_
  show (fixD (numD (numD (txtD s p.1).2.1 p.2.1 1099511627776).2.1 p.2.2.1 512).2.1 p.2.2.2 4).2.1.length ≤ _
  omega
set_option maxHeartbeats 4000000 in
set_option maxRecDepth 100000 in
theorem passLP_d (w : World) (g B mb off B0 : Nat) (cur : Array Value) (t : TypeId) (l : By) (lst : List Pt) (A : Option Addr) (n c : Nat) (h : StD w g B l) (hV : V w mb cur t) (c0 : cur[off]? = some (.slice A n c)) (hl : Ls PE w B0 A n lst) (hA : A = none → c = 0) (hfit : ∀ x ∈ lst, PtOk x)
    (hne : mb ≠ g) (ht : t ≠ 5) (hgB : B0 ≤ B) (hBm : B ≤ mb) (hB : B ≤ w.heap.size) (h0g : B0 ≤ g) (h0m : B0 ≤ mb) (hn : l.length ≤ 1000000) (hln : n ≤ 1000000) :
    Calls Try.prog 26 #[.iface 60 (.pointer (some ⟨g, 0, none⟩)), .pointer (some ⟨mb, off, none⟩), .int .i64 512, .func (.func 22) #[] #[]] w (RetLd PE w g B mb cur t off (passList decC (0, 0, 0) (passPt decC) 512 l lst)) := by
  have hml := blk_lt hV
  have hgl := h.lt
  have hll := hl.1
  have c1 : w.cell? ⟨mb, off, none⟩ = some (.slice A n c) := by rw [cell_of_row _ _ _ _ _ _ hV]; exact c0
  obtain ⟨w1, hw1⟩ : ∃ w1, w.alloc (.cells #[.int .i64 n] 3) = w1 := ⟨_, rfl⟩
  have hb1 : Below w.heap.size w w1 := by rw [← hw1]; exact below_al _ _
  have hs1 : w1.heap.size = w.heap.size + 1 := by rw [← hw1]; simp
  have VN := Lib.hid (show V w1 w.heap.size #[.int .i64 n] 3 by rw [← hw1]; exact alloc_new _ _)
  obtain ⟨r1, hr1⟩ : ∃ r, numD l n 512 = r := ⟨_, rfl⟩
  have HH1 := Lib.hid (count_d w1 g B w.heap.size 0 #[.int .i64 n] 3 l n 512 (h.below hb1 (Nat.le_refl _)) VN.out rfl (by omega) (by decide) (by omega) (by omega) (by omega) (by omega))
  rw [hr1] at HH1
  have HQ1 := Lib.hid (show passList decC (0, 0, 0) (passPt decC) 512 l lst = bnd r1 lst fun s n => bnd (passL (passPt decC) s (fit (0, 0, 0) lst n)) lst fun s l' => (0, s, l') by rw [← hr1, ← hll]; rfl)
  have hrng := numD_rng l n 512 (by omega)
  have hl1 := numD_len l n 512
  rw [hr1] at hrng hl1
  have VM1 := Lib.hid (blk_below hb1 hV hml : V w1 mb cur t)
  have HLS := Lib.hid hl
  have HC1 := Lib.hid ((Chg.of_below hb1).mono (S' := FR w g B mb) (fun _ _ e => e.elim))
  have HB1 := Lib.hid hb1
  have HFIT := Lib.hid hfit
  have HLL := Lib.hid hll
  have HC0 := Lib.hid c0
  have HWA := Lib.hid hA
  clear h hV hr1 hl hb1 hfit hll c0 hA
  obtain ⟨er1, l1, a1⟩ := r1
  simp only at hrng hl1
  have hmf : ∀ (fn : Fn) (first cap : Array Value) (w : World), (Instr.makeFunc fn first cap).run Try.prog w = .ok (.func fn first cap) w := fun _ _ _ _ => rfl
  go_enter Try.func26, Try.ntmps26
  go_wp2_with (fail)
  refine HH1.out.mono ?_
  intro e w2 hr
  obtain ⟨hc, ⟨h0, rfl, hst, hVx⟩ | ⟨h0, rfl, hvs⟩⟩ := hr
  · simp only at h0 hst hVx
    subst h0
    obtain ⟨hr0, hr1⟩ := hrng rfl
    obtain ⟨N, rfl⟩ : ∃ N : Nat, a1 = (N : Int) := ⟨a1.toNat, by omega⟩
    have hN : N ≤ 512 := by omega
    have hVx2 : V w2 w.heap.size #[.int .i64 (N : Int)] 3 := hVx
    have hs2 := hc.size
    have ST2 := Lib.hid hst
    have HC2 := Lib.hid (fr_new HC1.out hc (Nat.le_refl _))
    have VM2 := Lib.hid (V.fr VM1.out hc hne (by omega) ht)
    have hbB2 : Below B0 w w2 := HC2.out.below (by omega) (fun k e => by rcases e with e | e | ⟨e, _⟩ <;> omega)
    have HL2 := Lib.hid (HLS.out.below hbB2 (Nat.le_refl _))
    have cn : w2.cell? ⟨w.heap.size, 0, none⟩ = some (.int .i64 (N : Int)) := by rw [cell_of_row _ _ _ _ _ _ hVx2]; rfl
    have hnl := blk_lt hVx2
    obtain ⟨i0, hi, hz0, hz1, hz2⟩ := info_of mg.infoP
    have hmk : (Instr.makeSlice 28 (.int .i64 (N : Int)) (.int .i64 (N : Int))).run Try.prog w2 = .ok (.slice (some ⟨w2.heap.size, 0, none⟩) N N) (w2.alloc (.cells (cs PE.enc (List.replicate N (0, 0, 0))).toArray 26)) := by
      have h1 := run_make (P := Try.prog) w2 28 26 i0 (.agg #[.int .i64 0, .int .u64 0, .int .u64 0]) Try.underlying28 hi hz0 .i64 .i64 N N (by omega) (by omega) (by rw [hz2]; omega) (by omega)
      rw [h1, hz1]
      simp only [Int.toNat_natCast]
      have h2 := made_cs PE.len PE.pos (0, 0, 0) N
      rw [show (Value.cells (.agg #[.int .i64 0, .int .u64 0, .int .u64 0])) = (PE.enc (0, 0, 0)).toArray from rfl]
      rw [show (PE.k) = 3 from rfl] at h2
      rw [h2]
    obtain ⟨w3, hw3⟩ : ∃ w3, w2.alloc (.cells (cs PE.enc (List.replicate N (0, 0, 0))).toArray 26) = w3 := ⟨_, rfl⟩
    have hb3 : Below w2.heap.size w2 w3 := by rw [← hw3]; exact below_al _ _
    have hs3 : w3.heap.size = w2.heap.size + 1 := by rw [← hw3]; simp
    have VI3 := Lib.hid (show V w3 w2.heap.size (cs PE.enc (List.replicate N (0, 0, 0))).toArray 26 by rw [← hw3]; exact alloc_new _ _)
    have VM3 := Lib.hid (blk_below hb3 VM2.out (blk_lt VM2.out) : V w3 mb cur t)
    have hL3 := HL2.out.below hb3 (by omega)
    have hcp : ∃ w4 M, (∀ ty, (Builtin.copy_ #[28, 28] ty #[.slice (some ⟨w2.heap.size, 0, none⟩) N N, .slice A n c]).run Try.prog w3 = .ok (.int .i64 (M : Nat)) w4) ∧ V w4 w2.heap.size (cs PE.enc (fit (0, 0, 0) lst (N : Int))).toArray 26 ∧ Chg (fun k => k = w2.heap.size) w3 w4 :=
      copy_ls PE (0, 0, 0) Try.underlying28 (by show (Try.prog.info? 26).map (·.size) = some 3; rw [hi]; simp [hz1]) VI3.out hL3 HWA.out
    obtain ⟨w4, M, hcpy, hV4, hc4⟩ := hcp
    have hs4 := hc4.size
    have hml3 := blk_lt VM3.out
    have c3 : w3.cell? ⟨mb, off, none⟩ = some (.slice A n c) := by rw [cell_of_row _ _ _ _ _ _ VM3.out]; exact HC0.out
    have HC4 := Lib.hid (show Chg (FR w g B mb) w w4 from (HC2.out.then_below hb3).trans hc4 (fun i hi e => by omega))
    have ST4 := Lib.hid (show StD w4 g B l1 from (ST2.out.below hb3 (Nat.le_refl _)).chg1 hc4 (by have := blk_lt VM2.out; have := ST2.out.lt; omega) VI3.out (by omega))
    have VM4 := Lib.hid (hc4.blk VM3.out (by have := blk_lt VM2.out; omega) : V w4 mb cur t)
    have HS24 := Lib.hid (show w2.heap.size < w4.heap.size from blk_lt hV4)
    obtain ⟨IT, hIT⟩ : ∃ IT, fit (0, 0, 0) lst (N : Int) = IT := ⟨_, rfl⟩
    have hITl : IT.length = N := by rw [← hIT]; exact fit_len _ _ _
    have HITO := Lib.hid (show ∀ x ∈ IT, PtOk x from fun x hx => by
      rw [← hIT] at hx
      rcases fit_mem hx with h | h
      · exact HFIT.out x h
      · subst h; exact ⟨⟨by decide, by decide⟩, ⟨by decide, by decide⟩⟩)
    rw [hIT] at hV4
    have VI4 := Lib.hid hV4
    have HQ2 := Lib.hid (show passList decC (0, 0, 0) (passPt decC) 512 l lst = bnd (passL (passPt decC) l1 IT) lst fun s l' => (0, s, l') by rw [HQ1.out, bnd_ok rfl]; simp only [hIT])
    have HITL := Lib.hid hITl
    have hib : B ≤ w2.heap.size := by omega
    have hgi : g < w2.heap.size := ST2.out.lt
    have hmi : mb < w2.heap.size := blk_lt VM2.out
    clear hc hst hVx hVx2 hbB2 hL3 hb3 hc4 hV4 hIT hITl hrng
    go_wp2_with (fail)
    clear hcpy hmk c3 cn
    go_loopg [10, 27] N (fun gg s10 s27 wr => ∃ (i : Nat) (s : By) (done : List Pt), s27 = .int .i64 i ∧ i ≤ N ∧ N - i ≤ gg ∧ s.length ≤ l1.length + 60 * i ∧ Aside (done.length = i) ∧ Aside (StD wr g B s) ∧ Aside (V wr w2.heap.size (cs PE.enc (done ++ IT.drop i)).toArray 26) ∧ Aside (Chg (FR w4 g B w2.heap.size) w4 wr) ∧ Aside (PL (passPt decC) l1 IT i s done))
    case atStart => exact ⟨0, l1, [], rfl, by omega, by omega, by omega, rfl, ST4.out, VI4.out, Chg.refl _ _, PL.zero _ _ _⟩
    case round =>
      obtain ⟨i, s, done, rfl, hi, hgk, hsl, HDL, HST, HVI, HCH, HPL⟩ := hrel
      obtain ⟨wv, hwv⟩ : ∃ wv, wv = wr := ⟨wr, rfl⟩
      obtain rfl := hwv
      have hsv := HCH.out.size
      by_cases hlt : i < N
      · have hltz : (i : Int) < (N : Int) := by omega
        have hi0 : (0 : Int) ≤ (i : Int) := by omega
        obtain ⟨x, hx⟩ : ∃ x, IT[i]? = some x := ⟨_, List.getElem?_eq_getElem (by rw [HITL.out]; exact hlt)⟩
        have hdr : IT.drop i = x :: IT.drop (i + 1) := by
          have := (List.getElem?_eq_some_iff.1 hx)
          obtain ⟨h1, h2⟩ := this
          rw [List.drop_eq_getElem_cons h1, h2]
        have hat : (done ++ IT.drop i)[i]? = some x := by rw [hdr, List.getElem?_append_right (by rw [HDL.out]; exact Nat.le_refl _), HDL.out]; simp
        have hcs : ∀ j, j < 3 → (cs PE.enc (done ++ IT.drop i)).toArray[i * 3 + j]? = (PE.enc x)[j]? := fun j hj => by
          have := cs_at PE.len (done ++ IT.drop i) i x hat j hj
          rw [show (PE.k) = 3 from rfl] at this
          simpa using this
        obtain ⟨r2, hr2⟩ : ∃ r, passPt decC s x = r := ⟨_, rfl⟩
        have hr2l := passPtD_len s x
        have HH2 := Lib.hid (passPt_d wv g B w2.heap.size (i * 3) (cs PE.enc (done ++ IT.drop i)).toArray 26 s x HST.out HVI.out (hcs 0 (by decide)) (hcs 1 (by decide)) (hcs 2 (by decide)) (HITO.out x (List.mem_of_getElem? hx)) (by omega) (by decide) (by omega) (by omega) (by omega))
        rw [hr2] at HH2 hr2l
        have HXX := Lib.hid hx
        have HR2 := Lib.hid hr2
        have HDR := Lib.hid hdr
        have hiv : w2.heap.size < wv.heap.size := by have := HS24.out; omega
        clear hr2 hx hdr hat hcs
        obtain ⟨er2, s2, x2⟩ := r2
        simp only at hr2l
        go_wp2_with (fail)
        refine HH2.out.mono ?_
        intro e w5 hr
        obtain ⟨hc, ⟨h0, rfl, hst, hVx⟩ | ⟨h0, rfl, hvs⟩⟩ := hr
        · simp only at h0 hst hVx
          subst h0
          have HC5 := Lib.hid (fr_trans HCH.out hc)
          have ST5 := Lib.hid hst
          have VI5 := Lib.hid (show V w5 w2.heap.size (cs PE.enc (done ++ x2 :: IT.drop (i + 1))).toArray 26 by
            rw [← put3_cs done (IT.drop (i + 1)) x x2 HDL.out, ← HDR.out]; exact hVx)
          have HP5 := Lib.hid (HPL.out.step HXX.out HR2.out)
          clear hc hst hVx HH2
          go_wp2_with (fail)
          go_roundg (N - (i + 1))
          case measure => omega
          case rel => exact ⟨i + 1, s2, done ++ [x2], by go_num, by omega, by omega, by omega, (show (done ++ [x2]).length = i + 1 by rw [List.length_append, HDL.out]; rfl), ST5.out, (show V w5 w2.heap.size (cs PE.enc ((done ++ [x2]) ++ IT.drop (i + 1))).toArray 26 by rw [List.append_assoc]; exact VI5.out), HC5.out, HP5.out⟩
        · have he := HPL.out.err HXX.out HR2.out h0
          have HE := Lib.hid (show RetLd PE w g B mb cur t off (passList decC (0, 0, 0) (passPt decC) 512 l lst) (.panicked (errC er2)) w5 from ⟨fr_new HC4.out (fr_trans HCH.out hc) (by omega), .inr ⟨by rw [HQ2.out, bnd_no (by rw [he]; exact h0), he]; exact h0, by rw [HQ2.out, bnd_no (by rw [he]; exact h0), he], cur, rfl, V.fr VM4.out (fr_trans HCH.out hc) hne (by omega) ht⟩⟩)
          clear hc HH2 he
          go_wp2_with (fail)
          exact ⟨rfl, HE.out⟩
      · obtain rfl : i = N := by omega
        have hltz : ¬ (i : Int) < (i : Int) := by omega
        have VMv := Lib.hid (V.fr VM4.out HCH.out hne (by omega) ht)
        have cm : wv.cell? ⟨mb, off, none⟩ = some (.slice A n c) := by rw [cell_of_row _ _ _ _ _ _ VMv.out]; exact HC0.out
        have fm : wv.frozen? ⟨mb, off, none⟩ = false := frozen_of_row _ _ _ _ _ VMv.out
        have hmv := blk_lt VMv.out
        have HD := Lib.hid (HPL.out.fin HITL.out)
        have HCF := Lib.hid (fr_set (off := off) (fr_new HC4.out HCH.out (by omega)) (.slice (some ⟨w2.heap.size, 0, none⟩) i i))
        have HVF := Lib.hid (V.set VMv.out (off := off) (.slice (some ⟨w2.heap.size, 0, none⟩) i i))
        have HSF := Lib.hid (HST.out.setCell VMv.out hne hBm (off := off) (.slice (some ⟨w2.heap.size, 0, none⟩) i i))
        have HVI2 := Lib.hid (show V wv w2.heap.size (cs PE.enc done).toArray 26 by
          have := HVI.out
          rw [List.drop_of_length_le (by rw [HITL.out]; exact Nat.le_refl _), List.append_nil] at this
          exact this)
        go_wp2_with (fail)
        go_end0
        refine ⟨HCF.out, .inl ⟨by rw [HQ2.out, HD.out, bnd_ok rfl], rfl, by rw [HQ2.out, HD.out, bnd_ok rfl]; exact HSF.out, some ⟨w2.heap.size, 0, none⟩, i, ?_, ?_⟩⟩
        · rw [HQ2.out, HD.out, bnd_ok rfl]
          simp only [HDL.out]
          exact HVF.out
        · rw [HQ2.out, HD.out, bnd_ok rfl]
          simp only [HDL.out]
          exact row_ow PE (by rw [HDL.out]) ((Below.heap_setCell wv ⟨mb, off, none⟩ _ w2.heap.size (show w2.heap.size ≠ mb by omega)).trans HVI2.out) (by omega) (by unfold maxLen; omega)
  · have HE := Lib.hid (show RetLd PE w g B mb cur t off (passList decC (0, 0, 0) (passPt decC) 512 l lst) (.panicked (errC er1)) w2 from ⟨fr_new HC1.out hc (Nat.le_refl _), .inr ⟨by rw [HQ1.out, bnd_no h0]; exact h0, by rw [HQ1.out, bnd_no h0], cur, rfl, V.fr VM1.out hc hne (by omega) ht⟩⟩)
    clear hc HH1
    go_wp2_with (fail)
    exact ⟨rfl, HE.out⟩

set_option maxHeartbeats 4000000 in
set_option maxRecDepth 100000 in
theorem passLM_d (w : World) (g B mb off B0 : Nat) (cur : Array Value) (t : TypeId) (l : By) (lst : List Mt) (A : Option Addr) (n c : Nat) (h : StD w g B l) (hV : V w mb cur t) (c0 : cur[off]? = some (.slice A n c)) (hl : Ls ME w B0 A n lst) (hA : A = none → c = 0) (hfit : ∀ x ∈ lst, MtOk x)
    (hne : mb ≠ g) (ht : t ≠ 5) (hgB : B0 ≤ B) (hBm : B ≤ mb) (hB : B ≤ w.heap.size) (h0g : B0 ≤ g) (h0m : B0 ≤ mb) (hn : l.length ≤ 1000000) (hln : n ≤ 1000000) :
    Calls Try.prog 24 #[.iface 60 (.pointer (some ⟨g, 0, none⟩)), .pointer (some ⟨mb, off, none⟩), .int .i64 8, .func (.func 25) #[] #[]] w (RetLd ME w g B mb cur t off (passList decC ([], 0, 0, 0) (passMt decC) 8 l lst)) := by
  have hml := blk_lt hV
  have hgl := h.lt
  have hll := hl.1
  have c1 : w.cell? ⟨mb, off, none⟩ = some (.slice A n c) := by rw [cell_of_row _ _ _ _ _ _ hV]; exact c0
  obtain ⟨w1, hw1⟩ : ∃ w1, w.alloc (.cells #[.int .i64 n] 3) = w1 := ⟨_, rfl⟩
  have hb1 : Below w.heap.size w w1 := by rw [← hw1]; exact below_al _ _
  have hs1 : w1.heap.size = w.heap.size + 1 := by rw [← hw1]; simp
  have VN := Lib.hid (show V w1 w.heap.size #[.int .i64 n] 3 by rw [← hw1]; exact alloc_new _ _)
  obtain ⟨r1, hr1⟩ : ∃ r, numD l n 8 = r := ⟨_, rfl⟩
  have HH1 := Lib.hid (count_d w1 g B w.heap.size 0 #[.int .i64 n] 3 l n 8 (h.below hb1 (Nat.le_refl _)) VN.out rfl (by omega) (by decide) (by omega) (by omega) (by omega) (by omega))
  rw [hr1] at HH1
  have HQ1 := Lib.hid (show passList decC ([], 0, 0, 0) (passMt decC) 8 l lst = bnd r1 lst fun s n => bnd (passL (passMt decC) s (fit ([], 0, 0, 0) lst n)) lst fun s l' => (0, s, l') by rw [← hr1, ← hll]; rfl)
  have hrng := numD_rng l n 8 (by omega)
  have hl1 := numD_len l n 8
  rw [hr1] at hrng hl1
  have VM1 := Lib.hid (blk_below hb1 hV hml : V w1 mb cur t)
  have HLS := Lib.hid hl
  have HC1 := Lib.hid ((Chg.of_below hb1).mono (S' := FR w g B mb) (fun _ _ e => e.elim))
  have HB1 := Lib.hid hb1
  have HFIT := Lib.hid hfit
  have HLL := Lib.hid hll
  have HC0 := Lib.hid c0
  have HWA := Lib.hid hA
  clear h hV hr1 hl hb1 hfit hll c0 hA
  obtain ⟨er1, l1, a1⟩ := r1
  simp only at hrng hl1
  have hmf : ∀ (fn : Fn) (first cap : Array Value) (w : World), (Instr.makeFunc fn first cap).run Try.prog w = .ok (.func fn first cap) w := fun _ _ _ _ => rfl
  go_enter Try.func24, Try.ntmps24
  go_wp2_with (fail)
  refine HH1.out.mono ?_
  intro e w2 hr
  obtain ⟨hc, ⟨h0, rfl, hst, hVx⟩ | ⟨h0, rfl, hvs⟩⟩ := hr
  · simp only at h0 hst hVx
    subst h0
    obtain ⟨hr0, hr1⟩ := hrng rfl
    obtain ⟨N, rfl⟩ : ∃ N : Nat, a1 = (N : Int) := ⟨a1.toNat, by omega⟩
    have hN : N ≤ 8 := by omega
    have hVx2 : V w2 w.heap.size #[.int .i64 (N : Int)] 3 := hVx
    have hs2 := hc.size
    have ST2 := Lib.hid hst
    have HC2 := Lib.hid (fr_new HC1.out hc (Nat.le_refl _))
    have VM2 := Lib.hid (V.fr VM1.out hc hne (by omega) ht)
    have hbB2 : Below B0 w w2 := HC2.out.below (by omega) (fun k e => by rcases e with e | e | ⟨e, _⟩ <;> omega)
    have HL2 := Lib.hid (HLS.out.below hbB2 (Nat.le_refl _))
    have cn : w2.cell? ⟨w.heap.size, 0, none⟩ = some (.int .i64 (N : Int)) := by rw [cell_of_row _ _ _ _ _ _ hVx2]; rfl
    have hnl := blk_lt hVx2
    obtain ⟨i0, hi, hz0, hz1, hz2⟩ := info_of infoM
    have hmk : (Instr.makeSlice 29 (.int .i64 (N : Int)) (.int .i64 (N : Int))).run Try.prog w2 = .ok (.slice (some ⟨w2.heap.size, 0, none⟩) N N) (w2.alloc (.cells (cs ME.enc (List.replicate N ([], 0, 0, 0))).toArray 49)) := by
      have h1 := run_make (P := Try.prog) w2 29 49 i0 (.agg #[.string ByteArray.empty, .int .i64 0, .int .i64 0, .int .u32 0]) Try.underlying29 hi hz0 .i64 .i64 N N (by omega) (by omega) (by rw [hz2]; omega) (by omega)
      rw [h1, hz1]
      simp only [Int.toNat_natCast]
      have h2 := made_cs ME.len ME.pos ([], 0, 0, 0) N
      rw [show (Value.cells (.agg #[.string ByteArray.empty, .int .i64 0, .int .i64 0, .int .u32 0])) = (ME.enc ([], 0, 0, 0)).toArray from rfl]
      rw [show (ME.k) = 4 from rfl] at h2
      rw [h2]
    obtain ⟨w3, hw3⟩ : ∃ w3, w2.alloc (.cells (cs ME.enc (List.replicate N ([], 0, 0, 0))).toArray 49) = w3 := ⟨_, rfl⟩
    have hb3 : Below w2.heap.size w2 w3 := by rw [← hw3]; exact below_al _ _
    have hs3 : w3.heap.size = w2.heap.size + 1 := by rw [← hw3]; simp
    have VI3 := Lib.hid (show V w3 w2.heap.size (cs ME.enc (List.replicate N ([], 0, 0, 0))).toArray 49 by rw [← hw3]; exact alloc_new _ _)
    have VM3 := Lib.hid (blk_below hb3 VM2.out (blk_lt VM2.out) : V w3 mb cur t)
    have hL3 := HL2.out.below hb3 (by omega)
    have hcp : ∃ w4 M, (∀ ty, (Builtin.copy_ #[29, 29] ty #[.slice (some ⟨w2.heap.size, 0, none⟩) N N, .slice A n c]).run Try.prog w3 = .ok (.int .i64 (M : Nat)) w4) ∧ V w4 w2.heap.size (cs ME.enc (fit ([], 0, 0, 0) lst (N : Int))).toArray 49 ∧ Chg (fun k => k = w2.heap.size) w3 w4 :=
      copy_ls ME ([], 0, 0, 0) Try.underlying29 (by show (Try.prog.info? 49).map (·.size) = some 4; rw [hi]; simp [hz1]) VI3.out hL3 HWA.out
    obtain ⟨w4, M, hcpy, hV4, hc4⟩ := hcp
    have hs4 := hc4.size
    have hml3 := blk_lt VM3.out
    have c3 : w3.cell? ⟨mb, off, none⟩ = some (.slice A n c) := by rw [cell_of_row _ _ _ _ _ _ VM3.out]; exact HC0.out
    have HC4 := Lib.hid (show Chg (FR w g B mb) w w4 from (HC2.out.then_below hb3).trans hc4 (fun i hi e => by omega))
    have ST4 := Lib.hid (show StD w4 g B l1 from (ST2.out.below hb3 (Nat.le_refl _)).chg1 hc4 (by have := blk_lt VM2.out; have := ST2.out.lt; omega) VI3.out (by omega))
    have VM4 := Lib.hid (hc4.blk VM3.out (by have := blk_lt VM2.out; omega) : V w4 mb cur t)
    have HS24 := Lib.hid (show w2.heap.size < w4.heap.size from blk_lt hV4)
    obtain ⟨IT, hIT⟩ : ∃ IT, fit ([], 0, 0, 0) lst (N : Int) = IT := ⟨_, rfl⟩
    have hITl : IT.length = N := by rw [← hIT]; exact fit_len _ _ _
    have HITO := Lib.hid (show ∀ x ∈ IT, MtOk x from fun x hx => by
      rw [← hIT] at hx
      rcases fit_mem hx with h | h
      · exact HFIT.out x h
      · subst h; exact ⟨by decide, by decide, by decide⟩)
    rw [hIT] at hV4
    have VI4 := Lib.hid hV4
    have HQ2 := Lib.hid (show passList decC ([], 0, 0, 0) (passMt decC) 8 l lst = bnd (passL (passMt decC) l1 IT) lst fun s l' => (0, s, l') by rw [HQ1.out, bnd_ok rfl]; simp only [hIT])
    have HITL := Lib.hid hITl
    have hib : B ≤ w2.heap.size := by omega
    have hgi : g < w2.heap.size := ST2.out.lt
    have hmi : mb < w2.heap.size := blk_lt VM2.out
    clear hc hst hVx hVx2 hbB2 hL3 hb3 hc4 hV4 hIT hITl hrng
    go_wp2_with (fail)
    clear hcpy hmk c3 cn
    go_loopg [10, 27] N (fun gg s10 s27 wr => ∃ (i : Nat) (s : By) (done : List Mt), s27 = .int .i64 i ∧ i ≤ N ∧ N - i ≤ gg ∧ s.length ≤ l1.length + 60 * i ∧ Aside (done.length = i) ∧ Aside (StD wr g B s) ∧ Aside (V wr w2.heap.size (cs ME.enc (done ++ IT.drop i)).toArray 49) ∧ Aside (Chg (FR w4 g B w2.heap.size) w4 wr) ∧ Aside (PL (passMt decC) l1 IT i s done))
    case atStart => exact ⟨0, l1, [], rfl, by omega, by omega, by omega, rfl, ST4.out, VI4.out, Chg.refl _ _, PL.zero _ _ _⟩
    case round =>
      obtain ⟨i, s, done, rfl, hi, hgk, hsl, HDL, HST, HVI, HCH, HPL⟩ := hrel
      obtain ⟨wv, hwv⟩ : ∃ wv, wv = wr := ⟨wr, rfl⟩
      obtain rfl := hwv
      have hsv := HCH.out.size
      by_cases hlt : i < N
      · have hltz : (i : Int) < (N : Int) := by omega
        have hi0 : (0 : Int) ≤ (i : Int) := by omega
        obtain ⟨x, hx⟩ : ∃ x, IT[i]? = some x := ⟨_, List.getElem?_eq_getElem (by rw [HITL.out]; exact hlt)⟩
        have hdr : IT.drop i = x :: IT.drop (i + 1) := by
          have := (List.getElem?_eq_some_iff.1 hx)
          obtain ⟨h1, h2⟩ := this
          rw [List.drop_eq_getElem_cons h1, h2]
        have hat : (done ++ IT.drop i)[i]? = some x := by rw [hdr, List.getElem?_append_right (by rw [HDL.out]; exact Nat.le_refl _), HDL.out]; simp
        have hcs : ∀ j, j < 4 → (cs ME.enc (done ++ IT.drop i)).toArray[i * 4 + j]? = (ME.enc x)[j]? := fun j hj => by
          have := cs_at ME.len (done ++ IT.drop i) i x hat j hj
          rw [show (ME.k) = 4 from rfl] at this
          simpa using this
        obtain ⟨r2, hr2⟩ : ∃ r, passMt decC s x = r := ⟨_, rfl⟩
        have hr2l := passMtD_len s x
        have HH2 := Lib.hid (passMt_d wv g B w2.heap.size (i * 4) (cs ME.enc (done ++ IT.drop i)).toArray 49 s x HST.out HVI.out (hcs 0 (by decide)) (hcs 1 (by decide)) (hcs 2 (by decide)) (hcs 3 (by decide)) (HITO.out x (List.mem_of_getElem? hx)) (by omega) (by decide) (by omega) (by omega) (by omega))
        rw [hr2] at HH2 hr2l
        have HXX := Lib.hid hx
        have HR2 := Lib.hid hr2
        have HDR := Lib.hid hdr
        have hiv : w2.heap.size < wv.heap.size := by have := HS24.out; omega
        clear hr2 hx hdr hat hcs
        obtain ⟨er2, s2, x2⟩ := r2
        simp only at hr2l
        go_wp2_with (fail)
        refine HH2.out.mono ?_
        intro e w5 hr
        obtain ⟨hc, ⟨h0, rfl, hst, hVx⟩ | ⟨h0, rfl, hvs⟩⟩ := hr
        · simp only at h0 hst hVx
          subst h0
          have HC5 := Lib.hid (fr_trans HCH.out hc)
          have ST5 := Lib.hid hst
          have VI5 := Lib.hid (show V w5 w2.heap.size (cs ME.enc (done ++ x2 :: IT.drop (i + 1))).toArray 49 by
            rw [← put4_cs done (IT.drop (i + 1)) x x2 HDL.out, ← HDR.out]; exact hVx)
          have HP5 := Lib.hid (HPL.out.step HXX.out HR2.out)
          clear hc hst hVx HH2
          go_wp2_with (fail)
          go_roundg (N - (i + 1))
          case measure => omega
          case rel => exact ⟨i + 1, s2, done ++ [x2], by go_num, by omega, by omega, by omega, (show (done ++ [x2]).length = i + 1 by rw [List.length_append, HDL.out]; rfl), ST5.out, (show V w5 w2.heap.size (cs ME.enc ((done ++ [x2]) ++ IT.drop (i + 1))).toArray 49 by rw [List.append_assoc]; exact VI5.out), HC5.out, HP5.out⟩
        · have he := HPL.out.err HXX.out HR2.out h0
          have HE := Lib.hid (show RetLd ME w g B mb cur t off (passList decC ([], 0, 0, 0) (passMt decC) 8 l lst) (.panicked (errC er2)) w5 from ⟨fr_new HC4.out (fr_trans HCH.out hc) (by omega), .inr ⟨by rw [HQ2.out, bnd_no (by rw [he]; exact h0), he]; exact h0, by rw [HQ2.out, bnd_no (by rw [he]; exact h0), he], cur, rfl, V.fr VM4.out (fr_trans HCH.out hc) hne (by omega) ht⟩⟩)
          clear hc HH2 he
          go_wp2_with (fail)
          exact ⟨rfl, HE.out⟩
      · obtain rfl : i = N := by omega
        have hltz : ¬ (i : Int) < (i : Int) := by omega
        have VMv := Lib.hid (V.fr VM4.out HCH.out hne (by omega) ht)
        have cm : wv.cell? ⟨mb, off, none⟩ = some (.slice A n c) := by rw [cell_of_row _ _ _ _ _ _ VMv.out]; exact HC0.out
        have fm : wv.frozen? ⟨mb, off, none⟩ = false := frozen_of_row _ _ _ _ _ VMv.out
        have hmv := blk_lt VMv.out
        have HD := Lib.hid (HPL.out.fin HITL.out)
        have HCF := Lib.hid (fr_set (off := off) (fr_new HC4.out HCH.out (by omega)) (.slice (some ⟨w2.heap.size, 0, none⟩) i i))
        have HVF := Lib.hid (V.set VMv.out (off := off) (.slice (some ⟨w2.heap.size, 0, none⟩) i i))
        have HSF := Lib.hid (HST.out.setCell VMv.out hne hBm (off := off) (.slice (some ⟨w2.heap.size, 0, none⟩) i i))
        have HVI2 := Lib.hid (show V wv w2.heap.size (cs ME.enc done).toArray 49 by
          have := HVI.out
          rw [List.drop_of_length_le (by rw [HITL.out]; exact Nat.le_refl _), List.append_nil] at this
          exact this)
        go_wp2_with (fail)
        go_end0
        refine ⟨HCF.out, .inl ⟨by rw [HQ2.out, HD.out, bnd_ok rfl], rfl, by rw [HQ2.out, HD.out, bnd_ok rfl]; exact HSF.out, some ⟨w2.heap.size, 0, none⟩, i, ?_, ?_⟩⟩
        · rw [HQ2.out, HD.out, bnd_ok rfl]
          simp only [HDL.out]
          exact HVF.out
        · rw [HQ2.out, HD.out, bnd_ok rfl]
          simp only [HDL.out]
          exact row_ow ME (by rw [HDL.out]) ((Below.heap_setCell wv ⟨mb, off, none⟩ _ w2.heap.size (show w2.heap.size ≠ mb by omega)).trans HVI2.out) (by omega) (by unfold maxLen; omega)
  · have HE := Lib.hid (show RetLd ME w g B mb cur t off (passList decC ([], 0, 0, 0) (passMt decC) 8 l lst) (.panicked (errC er1)) w2 from ⟨fr_new HC1.out hc (Nat.le_refl _), .inr ⟨by rw [HQ1.out, bnd_no h0]; exact h0, by rw [HQ1.out, bnd_no h0], cur, rfl, V.fr VM1.out hc hne (by omega) ht⟩⟩)
    clear hc HH1
    go_wp2_with (fail)
    exact ⟨rfl, HE.out⟩
end Go.Proofs.Ythkcnakodlbdpaa.wr
/-
  Messages: passing over a whole message, the decoder's.
-/
namespace Go.Proofs.Ythkcnakodlbdpaa.wr
open Go.ChangeShapes Go.WideShapes Go.ChangeAt Go.RowKit plain words ord mem uvs uvc

theorem passRgD_len (s : By) (f t : Int) : (passRg decC s f t).2.1.length ≤ s.length + 20 := by
  have h1 := numD_len s f 1099511627777
  refine bnd_len (show (numD s f 1099511627777).2.1.length ≤ _ by omega) fun _ => ?_
  have h2 := numD_len (numD s f 1099511627777).2.1 t 1099511627777
  refine bnd_len (show (numD (numD s f 1099511627777).2.1 t 1099511627777).2.1.length ≤ _ by omega) fun _ => ?_
  show (numD (numD s f 1099511627777).2.1 t 1099511627777).2.1.length ≤ _
  omega
/-- a list that was passed: as it was, or of the call's own -/
def LO {α : Type} (E : El α) (w' : World) (base : Nat) (P0 P : Value) (l0 l : List α) : Prop := (P = P0 ∧ l = l0) ∨ Ow E w' base P l.length l
/-- a message was passed -/
def RetPd (w : World) (g B mb : Nat) (P0 M0 : Value) (m : Msg) (r : R Msg) (e : Ending) (w' : World) : Prop :=
  Chg (FR w g B mb) w w' ∧ ((r.1 = 0 ∧ e = .returned (.tuple #[]) ∧ StD w' g B r.2.1 ∧ ∃ P M, V w' mb (mcells r.2.2 P M) 31 ∧ LO PE w' w.heap.size P0 P m.pts r.2.2.pts ∧ LO ME w' w.heap.size M0 M m.mts r.2.2.mts) ∨ (r.1 ≠ 0 ∧ e = .panicked (errC r.1) ∧ VS w' mb 16 31))
theorem Ow.base {α : Type} {E : El α} {w : World} {a b n : Nat} {v : Value} {l : List α} (h : Ow E w a v n l) (hb : b ≤ a) : Ow E w b v n l := by
  obtain ⟨h1, h2, h3⟩ := h
  refine ⟨h1, h2, ?_⟩
  rcases h3 with h3 | ⟨g, cap, cur, e, h4, h5⟩
  · exact .inl h3
  · exact .inr ⟨g, cap, cur, e, Nat.le_trans hb h4, h5⟩
set_option maxHeartbeats 16000000 in
set_option maxRecDepth 100000 in
theorem pass_d (w : World) (g B mb B0 : Nat) (l : By) (m : Msg) (pA mA : Option Addr) (pc mc : Nat) (h : StD w g B l) (hV : V w mb (mcells m (.slice pA m.pts.length pc) (.slice mA m.mts.length mc)) 31) (hok : MOk w B0 m pA mA pc mc) (hid : m.id.length ≤ 1000000000) (hpt : PtOk m.p) (hlp : m.pts.length ≤ 1000000) (hlm : m.mts.length ≤ 1000000)
    (hne : mb ≠ g) (hgB : B0 ≤ B) (hBm : B ≤ mb) (hB : B ≤ w.heap.size) (h0g : B0 ≤ g) (h0m : B0 ≤ mb) (hn : l.length ≤ 100000) :
    Calls Try.prog 16 #[.iface 60 (.pointer (some ⟨g, 0, none⟩)), .pointer (some ⟨mb, 0, none⟩)] w (RetPd w g B mb (.slice pA m.pts.length pc) (.slice mA m.mts.length mc) m (pass decC l m)) := by
  have hmf : ∀ (fn : Fn) (first cap : Array Value) (w : World), (Instr.makeFunc fn first cap).run Try.prog w = .ok (.func fn first cap) w := fun _ _ _ _ => rfl
  have na1 := na_number_d g
  have na2 := na_text_d g
  have na3 := na_flag_d g
  obtain ⟨P, hP⟩ : ∃ P : Value, .slice pA m.pts.length pc = P := ⟨_, rfl⟩
  obtain ⟨M, hM⟩ : ∃ M : Value, .slice mA m.mts.length mc = M := ⟨_, rfl⟩
  have HP := Lib.hid hP.symm
  have HM := Lib.hid hM.symm
  rw [hP, hM] at hV ⊢
  have HPTS := Lib.hid hok.1
  have HMTS := Lib.hid hok.2
  have HID := Lib.hid hid
  have HPT := Lib.hid hpt
  have HC0 := Lib.hid (Chg.refl (FR w g B mb) w)
  have ST0 := Lib.hid h
  have VV0 := Lib.hid hV
  have hs0 : w.heap.size ≤ w.heap.size := Nat.le_refl _
  have hgl := h.lt
  have hml := blk_lt hV
  clear h hV hP hM hok hid hpt
  obtain ⟨r1, hr1⟩ : ∃ r, decC.num l m.seq 1099511627776 = r := ⟨_, rfl⟩
  have HH1 := Lib.hid (num_d w.drew g B mb 1 (mcells m P M) 31 l m.seq 1099511627776 ST0.out.drew VV0.out rfl hne (by decide) hBm hB (by omega) (by omega))
  rw [show numD l m.seq 1099511627776 = r1 from hr1] at HH1
  have HQ1 := Lib.hid (show pass decC l m = bnd r1 _ _ from bnd_eq hr1)
  have hl1 := numD_len l m.seq 1099511627776
  rw [show numD l m.seq 1099511627776 = r1 from hr1] at hl1
  have NO1 := Lib.hid (fun (w' : World) (h1 : Chg (FR w g B mb) w w') (h2 : r1.1 ≠ 0) (h3 : VS w' mb 16 31) => (show RetPd w g B mb P M m (pass decC l m) (.panicked (errC r1.1)) w' from ⟨h1, .inr ⟨by rw [HQ1.out, bnd_no h2]; exact h2, by rw [HQ1.out, bnd_no h2], h3⟩⟩))
  clear hr1
  obtain ⟨er1, l1, a1⟩ := r1
  simp only at hl1
  go_enter Try.func16, Try.ntmps16
  go_wp2_with (fail)
  refine frp.wp_region_ptree (F := fun _ => True) (.reads [0, 1, 2, 3] (.one 4 false (.reads [5, 6] (.one 7 false .stop)))) (by kernel_rfl) (by kernel_rfl) ?_
  refine fr.tr_reads _ (by dsimp only [pick, ord.at_]) ?_
  repeat (go_big_quiet_step (fail))
  refine wpQuiet_nil ?_
  refine fr.tr_one _ (by dsimp only [pick, ord.at_]) ?_
  intro K1 g1 g2
  clear g2
  go_wp2_with (fail)
  refine g1 _ _ (Chg.refl _ _).drew ?_
  clear g1
  refine fr.tr_reads _ (by dsimp only [pick, ord.at_]) ?_
  repeat (go_big_quiet_step (fail))
  refine wpQuiet_nil ?_
  refine frp.tr_onep _ (by dsimp only [pick, ord.at_]) ?_
  intro K2 g1 g2 g3
  clear g2
  go_wp2_with (fail)
  refine HH1.out.mono ?_
  intro e w1 hr
  obtain ⟨hc, ⟨h0, rfl, hst, hV⟩ | ⟨h0, rfl, hvs⟩⟩ := hr
  · simp only at h0 hst hV
    subst h0
    have ST1 := Lib.hid hst
    have VV1 := Lib.hid hV
    have HC1 := Lib.hid (fr_trans HC0.out (fr_drew hc))
    have hs1 := HC1.out.size
    clear hst hV g3 HH1
    go_wp2_with (fail)
    refine g1 _ _ (((Chg.refl (fun _ => True) w).drew).trans (hc.mono (fun _ _ _ => trivial)) (fun _ _ e => e)) ?_
    clear g1 hc
    refine fr.tr_stop ?_
    refine PanicAll.normal ?_
    replace VV1 := Lib.hid (show V w1 mb (mcells ({ m with seq := a1 } : Msg) P M) 31 from VV1.out)
    have hm1 : mb < w1.heap.size := by omega
    have hg1 : g < w1.heap.size := by omega
    obtain ⟨r2, hr2⟩ : ∃ r, decC.num l1 m.epoch 1099511627776 = r := ⟨_, rfl⟩
    have HH2 := Lib.hid (num_d w1.drew g B mb 2 (mcells ({ m with seq := a1 } : Msg) P M) 31 l1 m.epoch 1099511627776 ST1.out.drew VV1.out rfl hne (by decide) hBm (by show B ≤ w1.heap.size; omega) (by omega) (by omega))
    rw [show numD l1 m.epoch 1099511627776 = r2 from hr2] at HH2
    have HQ2 := Lib.hid (show pass decC l m = bnd r2 _ _ from bnd_next HQ1.out (bnd_eq hr2))
    have hl2 := numD_len l1 m.epoch 1099511627776
    rw [show numD l1 m.epoch 1099511627776 = r2 from hr2] at hl2
    have NO2 := Lib.hid (fun (w' : World) (h1 : Chg (FR w g B mb) w w') (h2 : r2.1 ≠ 0) (h3 : VS w' mb 16 31) => (show RetPd w g B mb P M m (pass decC l m) (.panicked (errC r2.1)) w' from ⟨h1, .inr ⟨by rw [HQ2.out, bnd_no h2]; exact h2, by rw [HQ2.out, bnd_no h2], h3⟩⟩))
    clear hr2
    obtain ⟨er2, l2, a2⟩ := r2
    simp only at hl2
    go_wp2_with (fail)
    refine frp.wp_region_ptree (F := fun _ => True) (.reads [0, 1, 2, 3] (.one 4 false (.reads [5, 6] (.one 7 false .stop)))) (by kernel_rfl) (by kernel_rfl) ?_
    refine fr.tr_reads _ (by dsimp only [pick, ord.at_]) ?_
    repeat (go_big_quiet_step (fail))
    refine wpQuiet_nil ?_
    refine fr.tr_one _ (by dsimp only [pick, ord.at_]) ?_
    intro K1 g1 g2
    clear g2
    go_wp2_with (fail)
    refine g1 _ _ (Chg.refl _ _).drew ?_
    clear g1
    refine fr.tr_reads _ (by dsimp only [pick, ord.at_]) ?_
    repeat (go_big_quiet_step (fail))
    refine wpQuiet_nil ?_
    refine frp.tr_onep _ (by dsimp only [pick, ord.at_]) ?_
    intro K2 g1 g2 g3
    clear g2
    go_wp2_with (fail)
    refine HH2.out.mono ?_
    intro e w2 hr
    obtain ⟨hc, ⟨h0, rfl, hst, hV⟩ | ⟨h0, rfl, hvs⟩⟩ := hr
    · simp only at h0 hst hV
      subst h0
      have ST2 := Lib.hid hst
      have VV2 := Lib.hid hV
      have HC2 := Lib.hid (fr_trans HC1.out (fr_drew hc))
      have hs2 := HC2.out.size
      clear hst hV g3 HH2
      go_wp2_with (fail)
      refine g1 _ _ (((Chg.refl (fun _ => True) w1).drew).trans (hc.mono (fun _ _ _ => trivial)) (fun _ _ e => e)) ?_
      clear g1 hc
      refine fr.tr_stop ?_
      refine PanicAll.normal ?_
      replace VV2 := Lib.hid (show V w2 mb (mcells ({ ({ m with seq := a1 } : Msg) with epoch := a2 } : Msg) P M) 31 from VV2.out)
      have hm2 : mb < w2.heap.size := by omega
      have hg2 : g < w2.heap.size := by omega
      have c0 : w2.cell? ⟨mb, 0, none⟩ = some (.int .i64 m.kind) := by rw [cell_of_row _ _ _ _ _ _ VV2.out]; rfl
      have hkk : m.kind = 1 ∨ m.kind = 3 ∨ m.kind = 5 ∨ m.kind = 7 ∨ m.kind = 6 ∨ m.kind = 4 ∨ m.kind = 8 ∨ (m.kind ≠ 1 ∧ m.kind ≠ 3 ∧ m.kind ≠ 5 ∧ m.kind ≠ 7 ∧ m.kind ≠ 6 ∧ m.kind ≠ 4 ∧ m.kind ≠ 8) := by omega
      rcases hkk with hk | hk | hk | hk | hk | hk | hk | hk
      · have kb1 : (m.kind == 1) = true := by rw [hk]; rfl
        have kb3 : (m.kind == 3) = false := by rw [hk]; rfl
        have kb5 : (m.kind == 5) = false := by rw [hk]; rfl
        have kb7 : (m.kind == 7) = false := by rw [hk]; rfl
        have kb6 : (m.kind == 6) = false := by rw [hk]; rfl
        have kb4 : (m.kind == 4) = false := by rw [hk]; rfl
        have kb8 : (m.kind == 8) = false := by rw [hk]; rfl
        have HKI := Lib.hid hk
        clear hk
        obtain ⟨r3, hr3⟩ : ∃ r, decC.num l2 m.space 255 = r := ⟨_, rfl⟩
        have HH3 := Lib.hid (num_d w2.drew g B mb 3 (mcells ({ ({ m with seq := a1 } : Msg) with epoch := a2 } : Msg) P M) 31 l2 m.space 255 (ST2.out.drew) (VV2.out) rfl hne (by decide) hBm (by show B ≤ w2.heap.size; omega) (by omega) (by omega))
        rw [show numD l2 m.space 255 = r3 from hr3] at HH3
        have HQ3 := Lib.hid (show pass decC l m = bnd r3 _ _ from bnd_next HQ2.out ((rest_1 (m0 := m) (m := ({ ({ m with seq := a1 } : Msg) with epoch := a2 } : Msg)) HKI.out).trans (bnd_eq hr3)))
        have hl3 := numD_len l2 m.space 255
        rw [show numD l2 m.space 255 = r3 from hr3] at hl3
        have NO3 := Lib.hid (fun (w' : World) (h1 : Chg (FR w g B mb) w w') (h2 : r3.1 ≠ 0) (h3 : VS w' mb 16 31) => (show RetPd w g B mb P M m (pass decC l m) (.panicked (errC r3.1)) w' from ⟨h1, .inr ⟨by rw [HQ3.out, bnd_no h2]; exact h2, by rw [HQ3.out, bnd_no h2], h3⟩⟩))
        clear hr3
        obtain ⟨er3, l3, a3⟩ := r3
        simp only at hl3
        go_wp2_with (fail)
        refine frp.wp_region_ptree (F := fun _ => True) (.reads [0, 1, 2, 3] (.one 4 false (.reads [5, 6] (.one 7 false .stop)))) (by kernel_rfl) (by kernel_rfl) ?_
        refine fr.tr_reads _ (by dsimp only [pick, ord.at_]) ?_
        repeat (go_big_quiet_step (fail))
        refine wpQuiet_nil ?_
        refine fr.tr_one _ (by dsimp only [pick, ord.at_]) ?_
        intro K1 g1 g2
        clear g2
        go_wp2_with (fail)
        refine g1 _ _ (Chg.refl _ _).drew ?_
        clear g1
        refine fr.tr_reads _ (by dsimp only [pick, ord.at_]) ?_
        repeat (go_big_quiet_step (fail))
        refine wpQuiet_nil ?_
        refine frp.tr_onep _ (by dsimp only [pick, ord.at_]) ?_
        intro K2 g1 g2 g3
        clear g2
        go_wp2_with (fail)
        refine HH3.out.mono ?_
        intro e w3 hr
        obtain ⟨hc, ⟨h0, rfl, hst, hV⟩ | ⟨h0, rfl, hvs⟩⟩ := hr
        · simp only at h0 hst hV
          subst h0
          have ST3 := Lib.hid hst
          have VV3 := Lib.hid hV
          have HC3 := Lib.hid (fr_trans HC2.out (fr_drew hc))
          have hs3 := HC3.out.size
          clear hst hV g3 HH3
          go_wp2_with (fail)
          refine g1 _ _ (((Chg.refl (fun _ => True) w2).drew).trans (hc.mono (fun _ _ _ => trivial)) (fun _ _ e => e)) ?_
          clear g1 hc
          refine fr.tr_stop ?_
          refine PanicAll.normal ?_
          replace VV3 := Lib.hid (show V w3 mb (mcells ({ ({ ({ m with seq := a1 } : Msg) with epoch := a2 } : Msg) with space := a3 } : Msg) P M) 31 from VV3.out)
          have c0 : w3.cell? ⟨mb, 0, none⟩ = some (.int .i64 m.kind) := by rw [cell_of_row _ _ _ _ _ _ VV3.out]; rfl
          have hm3 : mb < w3.heap.size := by omega
          have hg3 : g < w3.heap.size := by omega
          obtain ⟨r4, hr4⟩ : ∃ r, decC.txt l3 m.id = r := ⟨_, rfl⟩
          have HH4 := Lib.hid (text_d w3.drew g B mb 5 (mcells ({ ({ ({ m with seq := a1 } : Msg) with epoch := a2 } : Msg) with space := a3 } : Msg) P M) 31 l3 m.id (ST3.out.drew) (VV3.out) rfl hne (by decide) hBm (by show B ≤ w3.heap.size; omega) (by omega) trivial)
          rw [show txtD l3 m.id = r4 from hr4] at HH4
          have HQ4 := Lib.hid (show pass decC l m = bnd r4 _ _ from bnd_next HQ3.out (bnd_eq hr4))
          have hl4 := txtD_len l3 m.id
          rw [show txtD l3 m.id = r4 from hr4] at hl4
          have NO4 := Lib.hid (fun (w' : World) (h1 : Chg (FR w g B mb) w w') (h2 : r4.1 ≠ 0) (h3 : VS w' mb 16 31) => (show RetPd w g B mb P M m (pass decC l m) (.panicked (errC r4.1)) w' from ⟨h1, .inr ⟨by rw [HQ4.out, bnd_no h2]; exact h2, by rw [HQ4.out, bnd_no h2], h3⟩⟩))
          clear hr4
          obtain ⟨er4, l4, a4⟩ := r4
          simp only at hl4
          go_wp2_with (fail)
          refine frp.wp_region_ptree (F := fun _ => True) (.reads [0, 1, 2, 3] (.one 4 false (.reads [5, 6] (.one 7 false .stop)))) (by kernel_rfl) (by kernel_rfl) ?_
          refine fr.tr_reads _ (by dsimp only [pick, ord.at_]) ?_
          repeat (go_big_quiet_step (fail))
          refine wpQuiet_nil ?_
          refine fr.tr_one _ (by dsimp only [pick, ord.at_]) ?_
          intro K1 g1 g2
          clear g2
          go_wp2_with (fail)
          refine g1 _ _ (Chg.refl _ _).drew ?_
          clear g1
          refine fr.tr_reads _ (by dsimp only [pick, ord.at_]) ?_
          repeat (go_big_quiet_step (fail))
          refine wpQuiet_nil ?_
          refine frp.tr_onep _ (by dsimp only [pick, ord.at_]) ?_
          intro K2 g1 g2 g3
          clear g2
          go_wp2_with (fail)
          refine HH4.out.mono ?_
          intro e w4 hr
          obtain ⟨hc, ⟨h0, rfl, hst, hV⟩ | ⟨h0, rfl, hvs⟩⟩ := hr
          · simp only at h0 hst hV
            subst h0
            have ST4 := Lib.hid hst
            have VV4 := Lib.hid hV
            have HC4 := Lib.hid (fr_trans HC3.out (fr_drew hc))
            have hs4 := HC4.out.size
            clear hst hV g3 HH4
            go_wp2_with (fail)
            refine g1 _ _ (((Chg.refl (fun _ => True) w3).drew).trans (hc.mono (fun _ _ _ => trivial)) (fun _ _ e => e)) ?_
            clear g1 hc
            refine fr.tr_stop ?_
            refine PanicAll.normal ?_
            replace VV4 := Lib.hid (show V w4 mb (mcells ({ ({ ({ ({ m with seq := a1 } : Msg) with epoch := a2 } : Msg) with space := a3 } : Msg) with id := a4 } : Msg) P M) 31 from VV4.out)
            have c0 : w4.cell? ⟨mb, 0, none⟩ = some (.int .i64 m.kind) := by rw [cell_of_row _ _ _ _ _ _ VV4.out]; rfl
            have hm4 : mb < w4.heap.size := by omega
            have hg4 : g < w4.heap.size := by omega
            obtain ⟨r5, hr5⟩ : ∃ r, passPt decC l4 m.p = r := ⟨_, rfl⟩
            have HH5 := Lib.hid (passPt_d w4 g B mb 9 (mcells ({ ({ ({ ({ m with seq := a1 } : Msg) with epoch := a2 } : Msg) with space := a3 } : Msg) with id := a4 } : Msg) P M) 31 l4 m.p (ST4.out) (VV4.out) rfl rfl rfl HPT.out hne (by decide) hBm (by show B ≤ w4.heap.size; omega) (by omega))
            rw [show passPt decC l4 m.p = r5 from hr5] at HH5
            have HQ5 := Lib.hid (show pass decC l m = bnd r5 _ _ from bnd_next HQ4.out (bnd_eq hr5))
            have hl5 := passPtD_len l4 m.p
            rw [show passPt decC l4 m.p = r5 from hr5] at hl5
            have NO5 := Lib.hid (fun (w' : World) (h1 : Chg (FR w g B mb) w w') (h2 : r5.1 ≠ 0) (h3 : VS w' mb 16 31) => (show RetPd w g B mb P M m (pass decC l m) (.panicked (errC r5.1)) w' from ⟨h1, .inr ⟨by rw [HQ5.out, bnd_no h2]; exact h2, by rw [HQ5.out, bnd_no h2], h3⟩⟩))
            clear hr5
            obtain ⟨er5, l5, a5⟩ := r5
            simp only at hl5
            go_wp2_with (fail)
            refine HH5.out.mono ?_
            intro e w5 hr
            obtain ⟨hc, ⟨h0, rfl, hst, hV⟩ | ⟨h0, rfl, hvs⟩⟩ := hr
            · simp only at h0 hst hV
              subst h0
              have ST5 := Lib.hid hst
              have VV5 := Lib.hid hV
              have HC5 := Lib.hid (fr_trans HC4.out hc)
              have hs5 := HC5.out.size
              clear hst hV hc HH5
              replace VV5 := Lib.hid (show V w5 mb (mcells ({ ({ ({ ({ ({ m with seq := a1 } : Msg) with epoch := a2 } : Msg) with space := a3 } : Msg) with id := a4 } : Msg) with p := a5 } : Msg) P M) 31 from VV5.out)
              have c0 : w5.cell? ⟨mb, 0, none⟩ = some (.int .i64 m.kind) := by rw [cell_of_row _ _ _ _ _ _ VV5.out]; rfl
              have hm5 : mb < w5.heap.size := by omega
              have hg5 : g < w5.heap.size := by omega
              go_wp2_with (fail)
              go_end0
              exact ⟨HC5.out, .inl ⟨by rw [HQ5.out, bnd_ok rfl], rfl, by rw [HQ5.out, bnd_ok rfl]; exact ST5.out, P, M, by rw [HQ5.out, bnd_ok rfl]; exact VV5.out, .inl ⟨rfl, by rw [HQ5.out, bnd_ok rfl]⟩, .inl ⟨rfl, by rw [HQ5.out, bnd_ok rfl]⟩⟩⟩
            · have HE := Lib.hid (NO5.out _ (fr_trans HC4.out hc) h0 hvs)
              clear hc HH5
              go_wp2_with (fail)
              exact ⟨rfl, HE.out⟩
          · have HE := Lib.hid (NO4.out _ (fr_trans HC3.out (fr_drew hc)) h0 hvs)
            clear g1 hc HH4
            go_wp2_with (fail)
            intro a' ha'
            go_wp2_with (fail)
            exact ⟨ha', HE.out⟩
        · have HE := Lib.hid (NO3.out _ (fr_trans HC2.out (fr_drew hc)) h0 hvs)
          clear g1 hc HH3
          go_wp2_with (fail)
          intro a' ha'
          go_wp2_with (fail)
          exact ⟨ha', HE.out⟩
      · have kb1 : (m.kind == 1) = false := by rw [hk]; rfl
        have kb3 : (m.kind == 3) = true := by rw [hk]; rfl
        have kb5 : (m.kind == 5) = false := by rw [hk]; rfl
        have kb7 : (m.kind == 7) = false := by rw [hk]; rfl
        have kb6 : (m.kind == 6) = false := by rw [hk]; rfl
        have kb4 : (m.kind == 4) = false := by rw [hk]; rfl
        have kb8 : (m.kind == 8) = false := by rw [hk]; rfl
        have HKI := Lib.hid hk
        clear hk
        obtain ⟨r3, hr3⟩ : ∃ r, decC.num l2 m.space 255 = r := ⟨_, rfl⟩
        have HH3 := Lib.hid (num_d w2.drew g B mb 3 (mcells ({ ({ m with seq := a1 } : Msg) with epoch := a2 } : Msg) P M) 31 l2 m.space 255 (ST2.out.drew) (VV2.out) rfl hne (by decide) hBm (by show B ≤ w2.heap.size; omega) (by omega) (by omega))
        rw [show numD l2 m.space 255 = r3 from hr3] at HH3
        have HQ3 := Lib.hid (show pass decC l m = bnd r3 _ _ from bnd_next HQ2.out ((rest_3 (m0 := m) (m := ({ ({ m with seq := a1 } : Msg) with epoch := a2 } : Msg)) HKI.out).trans (bnd_eq hr3)))
        have hl3 := numD_len l2 m.space 255
        rw [show numD l2 m.space 255 = r3 from hr3] at hl3
        have NO3 := Lib.hid (fun (w' : World) (h1 : Chg (FR w g B mb) w w') (h2 : r3.1 ≠ 0) (h3 : VS w' mb 16 31) => (show RetPd w g B mb P M m (pass decC l m) (.panicked (errC r3.1)) w' from ⟨h1, .inr ⟨by rw [HQ3.out, bnd_no h2]; exact h2, by rw [HQ3.out, bnd_no h2], h3⟩⟩))
        clear hr3
        obtain ⟨er3, l3, a3⟩ := r3
        simp only at hl3
        go_wp2_with (fail)
        refine frp.wp_region_ptree (F := fun _ => True) (.reads [0, 1, 2, 3] (.one 4 false (.reads [5, 6] (.one 7 false .stop)))) (by kernel_rfl) (by kernel_rfl) ?_
        refine fr.tr_reads _ (by dsimp only [pick, ord.at_]) ?_
        repeat (go_big_quiet_step (fail))
        refine wpQuiet_nil ?_
        refine fr.tr_one _ (by dsimp only [pick, ord.at_]) ?_
        intro K1 g1 g2
        clear g2
        go_wp2_with (fail)
        refine g1 _ _ (Chg.refl _ _).drew ?_
        clear g1
        refine fr.tr_reads _ (by dsimp only [pick, ord.at_]) ?_
        repeat (go_big_quiet_step (fail))
        refine wpQuiet_nil ?_
        refine frp.tr_onep _ (by dsimp only [pick, ord.at_]) ?_
        intro K2 g1 g2 g3
        clear g2
        go_wp2_with (fail)
        refine HH3.out.mono ?_
        intro e w3 hr
        obtain ⟨hc, ⟨h0, rfl, hst, hV⟩ | ⟨h0, rfl, hvs⟩⟩ := hr
        · simp only at h0 hst hV
          subst h0
          have ST3 := Lib.hid hst
          have VV3 := Lib.hid hV
          have HC3 := Lib.hid (fr_trans HC2.out (fr_drew hc))
          have hs3 := HC3.out.size
          clear hst hV g3 HH3
          go_wp2_with (fail)
          refine g1 _ _ (((Chg.refl (fun _ => True) w2).drew).trans (hc.mono (fun _ _ _ => trivial)) (fun _ _ e => e)) ?_
          clear g1 hc
          refine fr.tr_stop ?_
          refine PanicAll.normal ?_
          replace VV3 := Lib.hid (show V w3 mb (mcells ({ ({ ({ m with seq := a1 } : Msg) with epoch := a2 } : Msg) with space := a3 } : Msg) P M) 31 from VV3.out)
          have c0 : w3.cell? ⟨mb, 0, none⟩ = some (.int .i64 m.kind) := by rw [cell_of_row _ _ _ _ _ _ VV3.out]; rfl
          have hm3 : mb < w3.heap.size := by omega
          have hg3 : g < w3.heap.size := by omega
          obtain ⟨r4, hr4⟩ : ∃ r, decC.txt l3 m.id = r := ⟨_, rfl⟩
          have HH4 := Lib.hid (text_d w3.drew g B mb 5 (mcells ({ ({ ({ m with seq := a1 } : Msg) with epoch := a2 } : Msg) with space := a3 } : Msg) P M) 31 l3 m.id (ST3.out.drew) (VV3.out) rfl hne (by decide) hBm (by show B ≤ w3.heap.size; omega) (by omega) trivial)
          rw [show txtD l3 m.id = r4 from hr4] at HH4
          have HQ4 := Lib.hid (show pass decC l m = bnd r4 _ _ from bnd_next HQ3.out (bnd_eq hr4))
          have hl4 := txtD_len l3 m.id
          rw [show txtD l3 m.id = r4 from hr4] at hl4
          have NO4 := Lib.hid (fun (w' : World) (h1 : Chg (FR w g B mb) w w') (h2 : r4.1 ≠ 0) (h3 : VS w' mb 16 31) => (show RetPd w g B mb P M m (pass decC l m) (.panicked (errC r4.1)) w' from ⟨h1, .inr ⟨by rw [HQ4.out, bnd_no h2]; exact h2, by rw [HQ4.out, bnd_no h2], h3⟩⟩))
          clear hr4
          obtain ⟨er4, l4, a4⟩ := r4
          simp only at hl4
          go_wp2_with (fail)
          refine frp.wp_region_ptree (F := fun _ => True) (.reads [0, 1, 2, 3] (.one 4 false (.reads [5, 6] (.one 7 false .stop)))) (by kernel_rfl) (by kernel_rfl) ?_
          refine fr.tr_reads _ (by dsimp only [pick, ord.at_]) ?_
          repeat (go_big_quiet_step (fail))
          refine wpQuiet_nil ?_
          refine fr.tr_one _ (by dsimp only [pick, ord.at_]) ?_
          intro K1 g1 g2
          clear g2
          go_wp2_with (fail)
          refine g1 _ _ (Chg.refl _ _).drew ?_
          clear g1
          refine fr.tr_reads _ (by dsimp only [pick, ord.at_]) ?_
          repeat (go_big_quiet_step (fail))
          refine wpQuiet_nil ?_
          refine frp.tr_onep _ (by dsimp only [pick, ord.at_]) ?_
          intro K2 g1 g2 g3
          clear g2
          go_wp2_with (fail)
          refine HH4.out.mono ?_
          intro e w4 hr
          obtain ⟨hc, ⟨h0, rfl, hst, hV⟩ | ⟨h0, rfl, hvs⟩⟩ := hr
          · simp only at h0 hst hV
            subst h0
            have ST4 := Lib.hid hst
            have VV4 := Lib.hid hV
            have HC4 := Lib.hid (fr_trans HC3.out (fr_drew hc))
            have hs4 := HC4.out.size
            clear hst hV g3 HH4
            go_wp2_with (fail)
            refine g1 _ _ (((Chg.refl (fun _ => True) w3).drew).trans (hc.mono (fun _ _ _ => trivial)) (fun _ _ e => e)) ?_
            clear g1 hc
            refine fr.tr_stop ?_
            refine PanicAll.normal ?_
            replace VV4 := Lib.hid (show V w4 mb (mcells ({ ({ ({ ({ m with seq := a1 } : Msg) with epoch := a2 } : Msg) with space := a3 } : Msg) with id := a4 } : Msg) P M) 31 from VV4.out)
            have c0 : w4.cell? ⟨mb, 0, none⟩ = some (.int .i64 m.kind) := by rw [cell_of_row _ _ _ _ _ _ VV4.out]; rfl
            have hm4 : mb < w4.heap.size := by omega
            have hg4 : g < w4.heap.size := by omega
            obtain ⟨r5, hr5⟩ : ∃ r, passRg decC l4 m.rf m.rt = r := ⟨_, rfl⟩
            have HH5 := Lib.hid (passRg_d w4 g B mb 7 (mcells ({ ({ ({ ({ m with seq := a1 } : Msg) with epoch := a2 } : Msg) with space := a3 } : Msg) with id := a4 } : Msg) P M) 31 l4 m.rf m.rt (ST4.out) (VV4.out) rfl rfl hne (by decide) hBm (by show B ≤ w4.heap.size; omega) (by omega))
            rw [show passRg decC l4 m.rf m.rt = r5 from hr5] at HH5
            have HQ5 := Lib.hid (show pass decC l m = bnd r5 _ _ from bnd_next HQ4.out (bnd_eq hr5))
            have hl5 := passRgD_len l4 m.rf m.rt
            rw [show passRg decC l4 m.rf m.rt = r5 from hr5] at hl5
            have NO5 := Lib.hid (fun (w' : World) (h1 : Chg (FR w g B mb) w w') (h2 : r5.1 ≠ 0) (h3 : VS w' mb 16 31) => (show RetPd w g B mb P M m (pass decC l m) (.panicked (errC r5.1)) w' from ⟨h1, .inr ⟨by rw [HQ5.out, bnd_no h2]; exact h2, by rw [HQ5.out, bnd_no h2], h3⟩⟩))
            clear hr5
            obtain ⟨er5, l5, a5⟩ := r5
            simp only at hl5
            go_wp2_with (fail)
            refine HH5.out.mono ?_
            intro e w5 hr
            obtain ⟨hc, ⟨h0, rfl, hst, hV⟩ | ⟨h0, rfl, hvs⟩⟩ := hr
            · simp only at h0 hst hV
              subst h0
              have ST5 := Lib.hid hst
              have VV5 := Lib.hid hV
              have HC5 := Lib.hid (fr_trans HC4.out hc)
              have hs5 := HC5.out.size
              clear hst hV hc HH5
              replace VV5 := Lib.hid (show V w5 mb (mcells ({ ({ ({ ({ ({ m with seq := a1 } : Msg) with epoch := a2 } : Msg) with space := a3 } : Msg) with id := a4 } : Msg) with rf := a5.1, rt := a5.2 } : Msg) P M) 31 from VV5.out)
              have c0 : w5.cell? ⟨mb, 0, none⟩ = some (.int .i64 m.kind) := by rw [cell_of_row _ _ _ _ _ _ VV5.out]; rfl
              have hm5 : mb < w5.heap.size := by omega
              have hg5 : g < w5.heap.size := by omega
              go_wp2_with (fail)
              go_end0
              exact ⟨HC5.out, .inl ⟨by rw [HQ5.out, bnd_ok rfl], rfl, by rw [HQ5.out, bnd_ok rfl]; exact ST5.out, P, M, by rw [HQ5.out, bnd_ok rfl]; exact VV5.out, .inl ⟨rfl, by rw [HQ5.out, bnd_ok rfl]⟩, .inl ⟨rfl, by rw [HQ5.out, bnd_ok rfl]⟩⟩⟩
            · have HE := Lib.hid (NO5.out _ (fr_trans HC4.out hc) h0 hvs)
              clear hc HH5
              go_wp2_with (fail)
              exact ⟨rfl, HE.out⟩
          · have HE := Lib.hid (NO4.out _ (fr_trans HC3.out (fr_drew hc)) h0 hvs)
            clear g1 hc HH4
            go_wp2_with (fail)
            intro a' ha'
            go_wp2_with (fail)
            exact ⟨ha', HE.out⟩
        · have HE := Lib.hid (NO3.out _ (fr_trans HC2.out (fr_drew hc)) h0 hvs)
          clear g1 hc HH3
          go_wp2_with (fail)
          intro a' ha'
          go_wp2_with (fail)
          exact ⟨ha', HE.out⟩
      · have kb1 : (m.kind == 1) = false := by rw [hk]; rfl
        have kb3 : (m.kind == 3) = false := by rw [hk]; rfl
        have kb5 : (m.kind == 5) = true := by rw [hk]; rfl
        have kb7 : (m.kind == 7) = false := by rw [hk]; rfl
        have kb6 : (m.kind == 6) = false := by rw [hk]; rfl
        have kb4 : (m.kind == 4) = false := by rw [hk]; rfl
        have kb8 : (m.kind == 8) = false := by rw [hk]; rfl
        have HKI := Lib.hid hk
        clear hk
        obtain ⟨r3, hr3⟩ : ∃ r, decC.num l2 m.space 255 = r := ⟨_, rfl⟩
        have HH3 := Lib.hid (num_d w2.drew g B mb 3 (mcells ({ ({ m with seq := a1 } : Msg) with epoch := a2 } : Msg) P M) 31 l2 m.space 255 (ST2.out.drew) (VV2.out) rfl hne (by decide) hBm (by show B ≤ w2.heap.size; omega) (by omega) (by omega))
        rw [show numD l2 m.space 255 = r3 from hr3] at HH3
        have HQ3 := Lib.hid (show pass decC l m = bnd r3 _ _ from bnd_next HQ2.out ((rest_5 (m0 := m) (m := ({ ({ m with seq := a1 } : Msg) with epoch := a2 } : Msg)) HKI.out).trans (bnd_eq hr3)))
        have hl3 := numD_len l2 m.space 255
        rw [show numD l2 m.space 255 = r3 from hr3] at hl3
        have NO3 := Lib.hid (fun (w' : World) (h1 : Chg (FR w g B mb) w w') (h2 : r3.1 ≠ 0) (h3 : VS w' mb 16 31) => (show RetPd w g B mb P M m (pass decC l m) (.panicked (errC r3.1)) w' from ⟨h1, .inr ⟨by rw [HQ3.out, bnd_no h2]; exact h2, by rw [HQ3.out, bnd_no h2], h3⟩⟩))
        clear hr3
        obtain ⟨er3, l3, a3⟩ := r3
        simp only at hl3
        go_wp2_with (fail)
        refine frp.wp_region_ptree (F := fun _ => True) (.reads [0, 1, 2, 3] (.one 4 false (.reads [5, 6] (.one 7 false .stop)))) (by kernel_rfl) (by kernel_rfl) ?_
        refine fr.tr_reads _ (by dsimp only [pick, ord.at_]) ?_
        repeat (go_big_quiet_step (fail))
        refine wpQuiet_nil ?_
        refine fr.tr_one _ (by dsimp only [pick, ord.at_]) ?_
        intro K1 g1 g2
        clear g2
        go_wp2_with (fail)
        refine g1 _ _ (Chg.refl _ _).drew ?_
        clear g1
        refine fr.tr_reads _ (by dsimp only [pick, ord.at_]) ?_
        repeat (go_big_quiet_step (fail))
        refine wpQuiet_nil ?_
        refine frp.tr_onep _ (by dsimp only [pick, ord.at_]) ?_
        intro K2 g1 g2 g3
        clear g2
        go_wp2_with (fail)
        refine HH3.out.mono ?_
        intro e w3 hr
        obtain ⟨hc, ⟨h0, rfl, hst, hV⟩ | ⟨h0, rfl, hvs⟩⟩ := hr
        · simp only at h0 hst hV
          subst h0
          have ST3 := Lib.hid hst
          have VV3 := Lib.hid hV
          have HC3 := Lib.hid (fr_trans HC2.out (fr_drew hc))
          have hs3 := HC3.out.size
          clear hst hV g3 HH3
          go_wp2_with (fail)
          refine g1 _ _ (((Chg.refl (fun _ => True) w2).drew).trans (hc.mono (fun _ _ _ => trivial)) (fun _ _ e => e)) ?_
          clear g1 hc
          refine fr.tr_stop ?_
          refine PanicAll.normal ?_
          replace VV3 := Lib.hid (show V w3 mb (mcells ({ ({ ({ m with seq := a1 } : Msg) with epoch := a2 } : Msg) with space := a3 } : Msg) P M) 31 from VV3.out)
          have c0 : w3.cell? ⟨mb, 0, none⟩ = some (.int .i64 m.kind) := by rw [cell_of_row _ _ _ _ _ _ VV3.out]; rfl
          have hm3 : mb < w3.heap.size := by omega
          have hg3 : g < w3.heap.size := by omega
          obtain ⟨r4, hr4⟩ : ∃ r, decC.num l3 m.shard 255 = r := ⟨_, rfl⟩
          have HH4 := Lib.hid (num_d w3.drew g B mb 4 (mcells ({ ({ ({ m with seq := a1 } : Msg) with epoch := a2 } : Msg) with space := a3 } : Msg) P M) 31 l3 m.shard 255 (ST3.out.drew) (VV3.out) rfl hne (by decide) hBm (by show B ≤ w3.heap.size; omega) (by omega) (by omega))
          rw [show numD l3 m.shard 255 = r4 from hr4] at HH4
          have HQ4 := Lib.hid (show pass decC l m = bnd r4 _ _ from bnd_next HQ3.out (bnd_eq hr4))
          have hl4 := numD_len l3 m.shard 255
          rw [show numD l3 m.shard 255 = r4 from hr4] at hl4
          have NO4 := Lib.hid (fun (w' : World) (h1 : Chg (FR w g B mb) w w') (h2 : r4.1 ≠ 0) (h3 : VS w' mb 16 31) => (show RetPd w g B mb P M m (pass decC l m) (.panicked (errC r4.1)) w' from ⟨h1, .inr ⟨by rw [HQ4.out, bnd_no h2]; exact h2, by rw [HQ4.out, bnd_no h2], h3⟩⟩))
          clear hr4
          obtain ⟨er4, l4, a4⟩ := r4
          simp only at hl4
          go_wp2_with (fail)
          refine frp.wp_region_ptree (F := fun _ => True) (.reads [0, 1, 2, 3] (.one 4 false (.reads [5, 6] (.one 7 false .stop)))) (by kernel_rfl) (by kernel_rfl) ?_
          refine fr.tr_reads _ (by dsimp only [pick, ord.at_]) ?_
          repeat (go_big_quiet_step (fail))
          refine wpQuiet_nil ?_
          refine fr.tr_one _ (by dsimp only [pick, ord.at_]) ?_
          intro K1 g1 g2
          clear g2
          go_wp2_with (fail)
          refine g1 _ _ (Chg.refl _ _).drew ?_
          clear g1
          refine fr.tr_reads _ (by dsimp only [pick, ord.at_]) ?_
          repeat (go_big_quiet_step (fail))
          refine wpQuiet_nil ?_
          refine frp.tr_onep _ (by dsimp only [pick, ord.at_]) ?_
          intro K2 g1 g2 g3
          clear g2
          go_wp2_with (fail)
          refine HH4.out.mono ?_
          intro e w4 hr
          obtain ⟨hc, ⟨h0, rfl, hst, hV⟩ | ⟨h0, rfl, hvs⟩⟩ := hr
          · simp only at h0 hst hV
            subst h0
            have ST4 := Lib.hid hst
            have VV4 := Lib.hid hV
            have HC4 := Lib.hid (fr_trans HC3.out (fr_drew hc))
            have hs4 := HC4.out.size
            clear hst hV g3 HH4
            go_wp2_with (fail)
            refine g1 _ _ (((Chg.refl (fun _ => True) w3).drew).trans (hc.mono (fun _ _ _ => trivial)) (fun _ _ e => e)) ?_
            clear g1 hc
            refine fr.tr_stop ?_
            refine PanicAll.normal ?_
            replace VV4 := Lib.hid (show V w4 mb (mcells ({ ({ ({ ({ m with seq := a1 } : Msg) with epoch := a2 } : Msg) with space := a3 } : Msg) with shard := a4 } : Msg) P M) 31 from VV4.out)
            have c0 : w4.cell? ⟨mb, 0, none⟩ = some (.int .i64 m.kind) := by rw [cell_of_row _ _ _ _ _ _ VV4.out]; rfl
            have hm4 : mb < w4.heap.size := by omega
            have hg4 : g < w4.heap.size := by omega
            obtain ⟨r5, hr5⟩ : ∃ r, passRg decC l4 m.rf m.rt = r := ⟨_, rfl⟩
            have HH5 := Lib.hid (passRg_d w4 g B mb 7 (mcells ({ ({ ({ ({ m with seq := a1 } : Msg) with epoch := a2 } : Msg) with space := a3 } : Msg) with shard := a4 } : Msg) P M) 31 l4 m.rf m.rt (ST4.out) (VV4.out) rfl rfl hne (by decide) hBm (by show B ≤ w4.heap.size; omega) (by omega))
            rw [show passRg decC l4 m.rf m.rt = r5 from hr5] at HH5
            have HQ5 := Lib.hid (show pass decC l m = bnd r5 _ _ from bnd_next HQ4.out (bnd_eq hr5))
            have hl5 := passRgD_len l4 m.rf m.rt
            rw [show passRg decC l4 m.rf m.rt = r5 from hr5] at hl5
            have NO5 := Lib.hid (fun (w' : World) (h1 : Chg (FR w g B mb) w w') (h2 : r5.1 ≠ 0) (h3 : VS w' mb 16 31) => (show RetPd w g B mb P M m (pass decC l m) (.panicked (errC r5.1)) w' from ⟨h1, .inr ⟨by rw [HQ5.out, bnd_no h2]; exact h2, by rw [HQ5.out, bnd_no h2], h3⟩⟩))
            clear hr5
            obtain ⟨er5, l5, a5⟩ := r5
            simp only at hl5
            go_wp2_with (fail)
            refine HH5.out.mono ?_
            intro e w5 hr
            obtain ⟨hc, ⟨h0, rfl, hst, hV⟩ | ⟨h0, rfl, hvs⟩⟩ := hr
            · simp only at h0 hst hV
              subst h0
              have ST5 := Lib.hid hst
              have VV5 := Lib.hid hV
              have HC5 := Lib.hid (fr_trans HC4.out hc)
              have hs5 := HC5.out.size
              clear hst hV hc HH5
              replace VV5 := Lib.hid (show V w5 mb (mcells ({ ({ ({ ({ ({ m with seq := a1 } : Msg) with epoch := a2 } : Msg) with space := a3 } : Msg) with shard := a4 } : Msg) with rf := a5.1, rt := a5.2 } : Msg) P M) 31 from VV5.out)
              have c0 : w5.cell? ⟨mb, 0, none⟩ = some (.int .i64 m.kind) := by rw [cell_of_row _ _ _ _ _ _ VV5.out]; rfl
              have hm5 : mb < w5.heap.size := by omega
              have hg5 : g < w5.heap.size := by omega
              obtain ⟨r6, hr6⟩ : ∃ r, decC.num l5 m.block 1099511627776 = r := ⟨_, rfl⟩
              have HH6 := Lib.hid (num_d w5.drew g B mb 6 (mcells ({ ({ ({ ({ ({ m with seq := a1 } : Msg) with epoch := a2 } : Msg) with space := a3 } : Msg) with shard := a4 } : Msg) with rf := a5.1, rt := a5.2 } : Msg) P M) 31 l5 m.block 1099511627776 (ST5.out.drew) (VV5.out) rfl hne (by decide) hBm (by show B ≤ w5.heap.size; omega) (by omega) (by omega))
              rw [show numD l5 m.block 1099511627776 = r6 from hr6] at HH6
              have HQ6 := Lib.hid (show pass decC l m = bnd r6 _ _ from bnd_next HQ5.out (bnd_eq hr6))
              have hl6 := numD_len l5 m.block 1099511627776
              rw [show numD l5 m.block 1099511627776 = r6 from hr6] at hl6
              have NO6 := Lib.hid (fun (w' : World) (h1 : Chg (FR w g B mb) w w') (h2 : r6.1 ≠ 0) (h3 : VS w' mb 16 31) => (show RetPd w g B mb P M m (pass decC l m) (.panicked (errC r6.1)) w' from ⟨h1, .inr ⟨by rw [HQ6.out, bnd_no h2]; exact h2, by rw [HQ6.out, bnd_no h2], h3⟩⟩))
              clear hr6
              obtain ⟨er6, l6, a6⟩ := r6
              simp only at hl6
              go_wp2_with (fail)
              refine frp.wp_region_ptree (F := fun _ => True) (.reads [0, 1, 2, 3] (.one 4 false (.reads [5, 6] (.one 7 false .stop)))) (by kernel_rfl) (by kernel_rfl) ?_
              refine fr.tr_reads _ (by dsimp only [pick, ord.at_]) ?_
              repeat (go_big_quiet_step (fail))
              refine wpQuiet_nil ?_
              refine fr.tr_one _ (by dsimp only [pick, ord.at_]) ?_
              intro K1 g1 g2
              clear g2
              go_wp2_with (fail)
              refine g1 _ _ (Chg.refl _ _).drew ?_
              clear g1
              refine fr.tr_reads _ (by dsimp only [pick, ord.at_]) ?_
              repeat (go_big_quiet_step (fail))
              refine wpQuiet_nil ?_
              refine frp.tr_onep _ (by dsimp only [pick, ord.at_]) ?_
              intro K2 g1 g2 g3
              clear g2
              go_wp2_with (fail)
              refine HH6.out.mono ?_
              intro e w6 hr
              obtain ⟨hc, ⟨h0, rfl, hst, hV⟩ | ⟨h0, rfl, hvs⟩⟩ := hr
              · simp only at h0 hst hV
                subst h0
                have ST6 := Lib.hid hst
                have VV6 := Lib.hid hV
                have HC6 := Lib.hid (fr_trans HC5.out (fr_drew hc))
                have hs6 := HC6.out.size
                clear hst hV g3 HH6
                go_wp2_with (fail)
                refine g1 _ _ (((Chg.refl (fun _ => True) w5).drew).trans (hc.mono (fun _ _ _ => trivial)) (fun _ _ e => e)) ?_
                clear g1 hc
                refine fr.tr_stop ?_
                refine PanicAll.normal ?_
                replace VV6 := Lib.hid (show V w6 mb (mcells ({ ({ ({ ({ ({ ({ m with seq := a1 } : Msg) with epoch := a2 } : Msg) with space := a3 } : Msg) with shard := a4 } : Msg) with rf := a5.1, rt := a5.2 } : Msg) with block := a6 } : Msg) P M) 31 from VV6.out)
                have c0 : w6.cell? ⟨mb, 0, none⟩ = some (.int .i64 m.kind) := by rw [cell_of_row _ _ _ _ _ _ VV6.out]; rfl
                have hm6 : mb < w6.heap.size := by omega
                have hg6 : g < w6.heap.size := by omega
                obtain ⟨r7, hr7⟩ : ∃ r, decC.txt l6 m.id = r := ⟨_, rfl⟩
                have HH7 := Lib.hid (text_d w6.drew g B mb 5 (mcells ({ ({ ({ ({ ({ ({ m with seq := a1 } : Msg) with epoch := a2 } : Msg) with space := a3 } : Msg) with shard := a4 } : Msg) with rf := a5.1, rt := a5.2 } : Msg) with block := a6 } : Msg) P M) 31 l6 m.id (ST6.out.drew) (VV6.out) rfl hne (by decide) hBm (by show B ≤ w6.heap.size; omega) (by omega) trivial)
                rw [show txtD l6 m.id = r7 from hr7] at HH7
                have HQ7 := Lib.hid (show pass decC l m = bnd r7 _ _ from bnd_next HQ6.out (bnd_eq hr7))
                have hl7 := txtD_len l6 m.id
                rw [show txtD l6 m.id = r7 from hr7] at hl7
                have NO7 := Lib.hid (fun (w' : World) (h1 : Chg (FR w g B mb) w w') (h2 : r7.1 ≠ 0) (h3 : VS w' mb 16 31) => (show RetPd w g B mb P M m (pass decC l m) (.panicked (errC r7.1)) w' from ⟨h1, .inr ⟨by rw [HQ7.out, bnd_no h2]; exact h2, by rw [HQ7.out, bnd_no h2], h3⟩⟩))
                clear hr7
                obtain ⟨er7, l7, a7⟩ := r7
                simp only at hl7
                go_wp2_with (fail)
                refine frp.wp_region_ptree (F := fun _ => True) (.reads [0, 1, 2, 3] (.one 4 false (.reads [5, 6] (.one 7 false .stop)))) (by kernel_rfl) (by kernel_rfl) ?_
                refine fr.tr_reads _ (by dsimp only [pick, ord.at_]) ?_
                repeat (go_big_quiet_step (fail))
                refine wpQuiet_nil ?_
                refine fr.tr_one _ (by dsimp only [pick, ord.at_]) ?_
                intro K1 g1 g2
                clear g2
                go_wp2_with (fail)
                refine g1 _ _ (Chg.refl _ _).drew ?_
                clear g1
                refine fr.tr_reads _ (by dsimp only [pick, ord.at_]) ?_
                repeat (go_big_quiet_step (fail))
                refine wpQuiet_nil ?_
                refine frp.tr_onep _ (by dsimp only [pick, ord.at_]) ?_
                intro K2 g1 g2 g3
                clear g2
                go_wp2_with (fail)
                refine HH7.out.mono ?_
                intro e w7 hr
                obtain ⟨hc, ⟨h0, rfl, hst, hV⟩ | ⟨h0, rfl, hvs⟩⟩ := hr
                · simp only at h0 hst hV
                  subst h0
                  have ST7 := Lib.hid hst
                  have VV7 := Lib.hid hV
                  have HC7 := Lib.hid (fr_trans HC6.out (fr_drew hc))
                  have hs7 := HC7.out.size
                  clear hst hV g3 HH7
                  go_wp2_with (fail)
                  refine g1 _ _ (((Chg.refl (fun _ => True) w6).drew).trans (hc.mono (fun _ _ _ => trivial)) (fun _ _ e => e)) ?_
                  clear g1 hc
                  refine fr.tr_stop ?_
                  refine PanicAll.normal ?_
                  replace VV7 := Lib.hid (show V w7 mb (mcells ({ ({ ({ ({ ({ ({ ({ m with seq := a1 } : Msg) with epoch := a2 } : Msg) with space := a3 } : Msg) with shard := a4 } : Msg) with rf := a5.1, rt := a5.2 } : Msg) with block := a6 } : Msg) with id := a7 } : Msg) P M) 31 from VV7.out)
                  have c0 : w7.cell? ⟨mb, 0, none⟩ = some (.int .i64 m.kind) := by rw [cell_of_row _ _ _ _ _ _ VV7.out]; rfl
                  have hm7 : mb < w7.heap.size := by omega
                  have hg7 : g < w7.heap.size := by omega
                  go_wp2_with (fail)
                  go_end0
                  exact ⟨HC7.out, .inl ⟨by rw [HQ7.out, bnd_ok rfl], rfl, by rw [HQ7.out, bnd_ok rfl]; exact ST7.out, P, M, by rw [HQ7.out, bnd_ok rfl]; exact VV7.out, .inl ⟨rfl, by rw [HQ7.out, bnd_ok rfl]⟩, .inl ⟨rfl, by rw [HQ7.out, bnd_ok rfl]⟩⟩⟩
                · have HE := Lib.hid (NO7.out _ (fr_trans HC6.out (fr_drew hc)) h0 hvs)
                  clear g1 hc HH7
                  go_wp2_with (fail)
                  intro a' ha'
                  go_wp2_with (fail)
                  exact ⟨ha', HE.out⟩
              · have HE := Lib.hid (NO6.out _ (fr_trans HC5.out (fr_drew hc)) h0 hvs)
                clear g1 hc HH6
                go_wp2_with (fail)
                intro a' ha'
                go_wp2_with (fail)
                exact ⟨ha', HE.out⟩
            · have HE := Lib.hid (NO5.out _ (fr_trans HC4.out hc) h0 hvs)
              clear hc HH5
              go_wp2_with (fail)
              exact ⟨rfl, HE.out⟩
          · have HE := Lib.hid (NO4.out _ (fr_trans HC3.out (fr_drew hc)) h0 hvs)
            clear g1 hc HH4
            go_wp2_with (fail)
            intro a' ha'
            go_wp2_with (fail)
            exact ⟨ha', HE.out⟩
        · have HE := Lib.hid (NO3.out _ (fr_trans HC2.out (fr_drew hc)) h0 hvs)
          clear g1 hc HH3
          go_wp2_with (fail)
          intro a' ha'
          go_wp2_with (fail)
          exact ⟨ha', HE.out⟩
      · have kb1 : (m.kind == 1) = false := by rw [hk]; rfl
        have kb3 : (m.kind == 3) = false := by rw [hk]; rfl
        have kb5 : (m.kind == 5) = false := by rw [hk]; rfl
        have kb7 : (m.kind == 7) = true := by rw [hk]; rfl
        have kb6 : (m.kind == 6) = false := by rw [hk]; rfl
        have kb4 : (m.kind == 4) = false := by rw [hk]; rfl
        have kb8 : (m.kind == 8) = false := by rw [hk]; rfl
        have HKI := Lib.hid hk
        clear hk
        obtain ⟨r3, hr3⟩ : ∃ r, decC.num l2 m.space 255 = r := ⟨_, rfl⟩
        have HH3 := Lib.hid (num_d w2.drew g B mb 3 (mcells ({ ({ m with seq := a1 } : Msg) with epoch := a2 } : Msg) P M) 31 l2 m.space 255 (ST2.out.drew) (VV2.out) rfl hne (by decide) hBm (by show B ≤ w2.heap.size; omega) (by omega) (by omega))
        rw [show numD l2 m.space 255 = r3 from hr3] at HH3
        have HQ3 := Lib.hid (show pass decC l m = bnd r3 _ _ from bnd_next HQ2.out ((rest_7 (m0 := m) (m := ({ ({ m with seq := a1 } : Msg) with epoch := a2 } : Msg)) HKI.out).trans (bnd_eq hr3)))
        have hl3 := numD_len l2 m.space 255
        rw [show numD l2 m.space 255 = r3 from hr3] at hl3
        have NO3 := Lib.hid (fun (w' : World) (h1 : Chg (FR w g B mb) w w') (h2 : r3.1 ≠ 0) (h3 : VS w' mb 16 31) => (show RetPd w g B mb P M m (pass decC l m) (.panicked (errC r3.1)) w' from ⟨h1, .inr ⟨by rw [HQ3.out, bnd_no h2]; exact h2, by rw [HQ3.out, bnd_no h2], h3⟩⟩))
        clear hr3
        obtain ⟨er3, l3, a3⟩ := r3
        simp only at hl3
        go_wp2_with (fail)
        refine frp.wp_region_ptree (F := fun _ => True) (.reads [0, 1, 2, 3] (.one 4 false (.reads [5, 6] (.one 7 false .stop)))) (by kernel_rfl) (by kernel_rfl) ?_
        refine fr.tr_reads _ (by dsimp only [pick, ord.at_]) ?_
        repeat (go_big_quiet_step (fail))
        refine wpQuiet_nil ?_
        refine fr.tr_one _ (by dsimp only [pick, ord.at_]) ?_
        intro K1 g1 g2
        clear g2
        go_wp2_with (fail)
        refine g1 _ _ (Chg.refl _ _).drew ?_
        clear g1
        refine fr.tr_reads _ (by dsimp only [pick, ord.at_]) ?_
        repeat (go_big_quiet_step (fail))
        refine wpQuiet_nil ?_
        refine frp.tr_onep _ (by dsimp only [pick, ord.at_]) ?_
        intro K2 g1 g2 g3
        clear g2
        go_wp2_with (fail)
        refine HH3.out.mono ?_
        intro e w3 hr
        obtain ⟨hc, ⟨h0, rfl, hst, hV⟩ | ⟨h0, rfl, hvs⟩⟩ := hr
        · simp only at h0 hst hV
          subst h0
          have ST3 := Lib.hid hst
          have VV3 := Lib.hid hV
          have HC3 := Lib.hid (fr_trans HC2.out (fr_drew hc))
          have hs3 := HC3.out.size
          clear hst hV g3 HH3
          go_wp2_with (fail)
          refine g1 _ _ (((Chg.refl (fun _ => True) w2).drew).trans (hc.mono (fun _ _ _ => trivial)) (fun _ _ e => e)) ?_
          clear g1 hc
          refine fr.tr_stop ?_
          refine PanicAll.normal ?_
          replace VV3 := Lib.hid (show V w3 mb (mcells ({ ({ ({ m with seq := a1 } : Msg) with epoch := a2 } : Msg) with space := a3 } : Msg) P M) 31 from VV3.out)
          have c0 : w3.cell? ⟨mb, 0, none⟩ = some (.int .i64 m.kind) := by rw [cell_of_row _ _ _ _ _ _ VV3.out]; rfl
          have hm3 : mb < w3.heap.size := by omega
          have hg3 : g < w3.heap.size := by omega
          obtain ⟨r4, hr4⟩ : ∃ r, decC.num l3 m.shard 255 = r := ⟨_, rfl⟩
          have HH4 := Lib.hid (num_d w3.drew g B mb 4 (mcells ({ ({ ({ m with seq := a1 } : Msg) with epoch := a2 } : Msg) with space := a3 } : Msg) P M) 31 l3 m.shard 255 (ST3.out.drew) (VV3.out) rfl hne (by decide) hBm (by show B ≤ w3.heap.size; omega) (by omega) (by omega))
          rw [show numD l3 m.shard 255 = r4 from hr4] at HH4
          have HQ4 := Lib.hid (show pass decC l m = bnd r4 _ _ from bnd_next HQ3.out (bnd_eq hr4))
          have hl4 := numD_len l3 m.shard 255
          rw [show numD l3 m.shard 255 = r4 from hr4] at hl4
          have NO4 := Lib.hid (fun (w' : World) (h1 : Chg (FR w g B mb) w w') (h2 : r4.1 ≠ 0) (h3 : VS w' mb 16 31) => (show RetPd w g B mb P M m (pass decC l m) (.panicked (errC r4.1)) w' from ⟨h1, .inr ⟨by rw [HQ4.out, bnd_no h2]; exact h2, by rw [HQ4.out, bnd_no h2], h3⟩⟩))
          clear hr4
          obtain ⟨er4, l4, a4⟩ := r4
          simp only at hl4
          go_wp2_with (fail)
          refine frp.wp_region_ptree (F := fun _ => True) (.reads [0, 1, 2, 3] (.one 4 false (.reads [5, 6] (.one 7 false .stop)))) (by kernel_rfl) (by kernel_rfl) ?_
          refine fr.tr_reads _ (by dsimp only [pick, ord.at_]) ?_
          repeat (go_big_quiet_step (fail))
          refine wpQuiet_nil ?_
          refine fr.tr_one _ (by dsimp only [pick, ord.at_]) ?_
          intro K1 g1 g2
          clear g2
          go_wp2_with (fail)
          refine g1 _ _ (Chg.refl _ _).drew ?_
          clear g1
          refine fr.tr_reads _ (by dsimp only [pick, ord.at_]) ?_
          repeat (go_big_quiet_step (fail))
          refine wpQuiet_nil ?_
          refine frp.tr_onep _ (by dsimp only [pick, ord.at_]) ?_
          intro K2 g1 g2 g3
          clear g2
          go_wp2_with (fail)
          refine HH4.out.mono ?_
          intro e w4 hr
          obtain ⟨hc, ⟨h0, rfl, hst, hV⟩ | ⟨h0, rfl, hvs⟩⟩ := hr
          · simp only at h0 hst hV
            subst h0
            have ST4 := Lib.hid hst
            have VV4 := Lib.hid hV
            have HC4 := Lib.hid (fr_trans HC3.out (fr_drew hc))
            have hs4 := HC4.out.size
            clear hst hV g3 HH4
            go_wp2_with (fail)
            refine g1 _ _ (((Chg.refl (fun _ => True) w3).drew).trans (hc.mono (fun _ _ _ => trivial)) (fun _ _ e => e)) ?_
            clear g1 hc
            refine fr.tr_stop ?_
            refine PanicAll.normal ?_
            replace VV4 := Lib.hid (show V w4 mb (mcells ({ ({ ({ ({ m with seq := a1 } : Msg) with epoch := a2 } : Msg) with space := a3 } : Msg) with shard := a4 } : Msg) P M) 31 from VV4.out)
            have c0 : w4.cell? ⟨mb, 0, none⟩ = some (.int .i64 m.kind) := by rw [cell_of_row _ _ _ _ _ _ VV4.out]; rfl
            have hm4 : mb < w4.heap.size := by omega
            have hg4 : g < w4.heap.size := by omega
            obtain ⟨r5, hr5⟩ : ∃ r, decC.num l4 m.block 1099511627776 = r := ⟨_, rfl⟩
            have HH5 := Lib.hid (num_d w4.drew g B mb 6 (mcells ({ ({ ({ ({ m with seq := a1 } : Msg) with epoch := a2 } : Msg) with space := a3 } : Msg) with shard := a4 } : Msg) P M) 31 l4 m.block 1099511627776 (ST4.out.drew) (VV4.out) rfl hne (by decide) hBm (by show B ≤ w4.heap.size; omega) (by omega) (by omega))
            rw [show numD l4 m.block 1099511627776 = r5 from hr5] at HH5
            have HQ5 := Lib.hid (show pass decC l m = bnd r5 _ _ from bnd_next HQ4.out (bnd_eq hr5))
            have hl5 := numD_len l4 m.block 1099511627776
            rw [show numD l4 m.block 1099511627776 = r5 from hr5] at hl5
            have NO5 := Lib.hid (fun (w' : World) (h1 : Chg (FR w g B mb) w w') (h2 : r5.1 ≠ 0) (h3 : VS w' mb 16 31) => (show RetPd w g B mb P M m (pass decC l m) (.panicked (errC r5.1)) w' from ⟨h1, .inr ⟨by rw [HQ5.out, bnd_no h2]; exact h2, by rw [HQ5.out, bnd_no h2], h3⟩⟩))
            clear hr5
            obtain ⟨er5, l5, a5⟩ := r5
            simp only at hl5
            go_wp2_with (fail)
            refine frp.wp_region_ptree (F := fun _ => True) (.reads [0, 1, 2, 3] (.one 4 false (.reads [5, 6] (.one 7 false .stop)))) (by kernel_rfl) (by kernel_rfl) ?_
            refine fr.tr_reads _ (by dsimp only [pick, ord.at_]) ?_
            repeat (go_big_quiet_step (fail))
            refine wpQuiet_nil ?_
            refine fr.tr_one _ (by dsimp only [pick, ord.at_]) ?_
            intro K1 g1 g2
            clear g2
            go_wp2_with (fail)
            refine g1 _ _ (Chg.refl _ _).drew ?_
            clear g1
            refine fr.tr_reads _ (by dsimp only [pick, ord.at_]) ?_
            repeat (go_big_quiet_step (fail))
            refine wpQuiet_nil ?_
            refine frp.tr_onep _ (by dsimp only [pick, ord.at_]) ?_
            intro K2 g1 g2 g3
            clear g2
            go_wp2_with (fail)
            refine HH5.out.mono ?_
            intro e w5 hr
            obtain ⟨hc, ⟨h0, rfl, hst, hV⟩ | ⟨h0, rfl, hvs⟩⟩ := hr
            · simp only at h0 hst hV
              subst h0
              have ST5 := Lib.hid hst
              have VV5 := Lib.hid hV
              have HC5 := Lib.hid (fr_trans HC4.out (fr_drew hc))
              have hs5 := HC5.out.size
              clear hst hV g3 HH5
              go_wp2_with (fail)
              refine g1 _ _ (((Chg.refl (fun _ => True) w4).drew).trans (hc.mono (fun _ _ _ => trivial)) (fun _ _ e => e)) ?_
              clear g1 hc
              refine fr.tr_stop ?_
              refine PanicAll.normal ?_
              replace VV5 := Lib.hid (show V w5 mb (mcells ({ ({ ({ ({ ({ m with seq := a1 } : Msg) with epoch := a2 } : Msg) with space := a3 } : Msg) with shard := a4 } : Msg) with block := a5 } : Msg) P M) 31 from VV5.out)
              have c0 : w5.cell? ⟨mb, 0, none⟩ = some (.int .i64 m.kind) := by rw [cell_of_row _ _ _ _ _ _ VV5.out]; rfl
              have hm5 : mb < w5.heap.size := by omega
              have hg5 : g < w5.heap.size := by omega
              obtain ⟨r6, hr6⟩ : ∃ r, decC.txt l5 m.id = r := ⟨_, rfl⟩
              have HH6 := Lib.hid (text_d w5.drew g B mb 5 (mcells ({ ({ ({ ({ ({ m with seq := a1 } : Msg) with epoch := a2 } : Msg) with space := a3 } : Msg) with shard := a4 } : Msg) with block := a5 } : Msg) P M) 31 l5 m.id (ST5.out.drew) (VV5.out) rfl hne (by decide) hBm (by show B ≤ w5.heap.size; omega) (by omega) trivial)
              rw [show txtD l5 m.id = r6 from hr6] at HH6
              have HQ6 := Lib.hid (show pass decC l m = bnd r6 _ _ from bnd_next HQ5.out (bnd_eq hr6))
              have hl6 := txtD_len l5 m.id
              rw [show txtD l5 m.id = r6 from hr6] at hl6
              have NO6 := Lib.hid (fun (w' : World) (h1 : Chg (FR w g B mb) w w') (h2 : r6.1 ≠ 0) (h3 : VS w' mb 16 31) => (show RetPd w g B mb P M m (pass decC l m) (.panicked (errC r6.1)) w' from ⟨h1, .inr ⟨by rw [HQ6.out, bnd_no h2]; exact h2, by rw [HQ6.out, bnd_no h2], h3⟩⟩))
              clear hr6
              obtain ⟨er6, l6, a6⟩ := r6
              simp only at hl6
              go_wp2_with (fail)
              refine frp.wp_region_ptree (F := fun _ => True) (.reads [0, 1, 2, 3] (.one 4 false (.reads [5, 6] (.one 7 false .stop)))) (by kernel_rfl) (by kernel_rfl) ?_
              refine fr.tr_reads _ (by dsimp only [pick, ord.at_]) ?_
              repeat (go_big_quiet_step (fail))
              refine wpQuiet_nil ?_
              refine fr.tr_one _ (by dsimp only [pick, ord.at_]) ?_
              intro K1 g1 g2
              clear g2
              go_wp2_with (fail)
              refine g1 _ _ (Chg.refl _ _).drew ?_
              clear g1
              refine fr.tr_reads _ (by dsimp only [pick, ord.at_]) ?_
              repeat (go_big_quiet_step (fail))
              refine wpQuiet_nil ?_
              refine frp.tr_onep _ (by dsimp only [pick, ord.at_]) ?_
              intro K2 g1 g2 g3
              clear g2
              go_wp2_with (fail)
              refine HH6.out.mono ?_
              intro e w6 hr
              obtain ⟨hc, ⟨h0, rfl, hst, hV⟩ | ⟨h0, rfl, hvs⟩⟩ := hr
              · simp only at h0 hst hV
                subst h0
                have ST6 := Lib.hid hst
                have VV6 := Lib.hid hV
                have HC6 := Lib.hid (fr_trans HC5.out (fr_drew hc))
                have hs6 := HC6.out.size
                clear hst hV g3 HH6
                go_wp2_with (fail)
                refine g1 _ _ (((Chg.refl (fun _ => True) w5).drew).trans (hc.mono (fun _ _ _ => trivial)) (fun _ _ e => e)) ?_
                clear g1 hc
                refine fr.tr_stop ?_
                refine PanicAll.normal ?_
                replace VV6 := Lib.hid (show V w6 mb (mcells ({ ({ ({ ({ ({ ({ m with seq := a1 } : Msg) with epoch := a2 } : Msg) with space := a3 } : Msg) with shard := a4 } : Msg) with block := a5 } : Msg) with id := a6 } : Msg) P M) 31 from VV6.out)
                have c0 : w6.cell? ⟨mb, 0, none⟩ = some (.int .i64 m.kind) := by rw [cell_of_row _ _ _ _ _ _ VV6.out]; rfl
                have hm6 : mb < w6.heap.size := by omega
                have hg6 : g < w6.heap.size := by omega
                go_wp2_with (fail)
                go_end0
                exact ⟨HC6.out, .inl ⟨by rw [HQ6.out, bnd_ok rfl], rfl, by rw [HQ6.out, bnd_ok rfl]; exact ST6.out, P, M, by rw [HQ6.out, bnd_ok rfl]; exact VV6.out, .inl ⟨rfl, by rw [HQ6.out, bnd_ok rfl]⟩, .inl ⟨rfl, by rw [HQ6.out, bnd_ok rfl]⟩⟩⟩
              · have HE := Lib.hid (NO6.out _ (fr_trans HC5.out (fr_drew hc)) h0 hvs)
                clear g1 hc HH6
                go_wp2_with (fail)
                intro a' ha'
                go_wp2_with (fail)
                exact ⟨ha', HE.out⟩
            · have HE := Lib.hid (NO5.out _ (fr_trans HC4.out (fr_drew hc)) h0 hvs)
              clear g1 hc HH5
              go_wp2_with (fail)
              intro a' ha'
              go_wp2_with (fail)
              exact ⟨ha', HE.out⟩
          · have HE := Lib.hid (NO4.out _ (fr_trans HC3.out (fr_drew hc)) h0 hvs)
            clear g1 hc HH4
            go_wp2_with (fail)
            intro a' ha'
            go_wp2_with (fail)
            exact ⟨ha', HE.out⟩
        · have HE := Lib.hid (NO3.out _ (fr_trans HC2.out (fr_drew hc)) h0 hvs)
          clear g1 hc HH3
          go_wp2_with (fail)
          intro a' ha'
          go_wp2_with (fail)
          exact ⟨ha', HE.out⟩
      · have kb1 : (m.kind == 1) = false := by rw [hk]; rfl
        have kb3 : (m.kind == 3) = false := by rw [hk]; rfl
        have kb5 : (m.kind == 5) = false := by rw [hk]; rfl
        have kb7 : (m.kind == 7) = false := by rw [hk]; rfl
        have kb6 : (m.kind == 6) = true := by rw [hk]; rfl
        have kb4 : (m.kind == 4) = false := by rw [hk]; rfl
        have kb8 : (m.kind == 8) = false := by rw [hk]; rfl
        have HKI := Lib.hid hk
        clear hk
        obtain ⟨r3, hr3⟩ : ∃ r, decC.num l2 m.err 255 = r := ⟨_, rfl⟩
        have HH3 := Lib.hid (num_d w2.drew g B mb 12 (mcells ({ ({ m with seq := a1 } : Msg) with epoch := a2 } : Msg) P M) 31 l2 m.err 255 (ST2.out.drew) (VV2.out) rfl hne (by decide) hBm (by show B ≤ w2.heap.size; omega) (by omega) (by omega))
        rw [show numD l2 m.err 255 = r3 from hr3] at HH3
        have HQ3 := Lib.hid (show pass decC l m = bnd r3 _ _ from bnd_next HQ2.out ((rest_6 (m0 := m) (m := ({ ({ m with seq := a1 } : Msg) with epoch := a2 } : Msg)) HKI.out).trans (bnd_eq hr3)))
        have hl3 := numD_len l2 m.err 255
        rw [show numD l2 m.err 255 = r3 from hr3] at hl3
        have NO3 := Lib.hid (fun (w' : World) (h1 : Chg (FR w g B mb) w w') (h2 : r3.1 ≠ 0) (h3 : VS w' mb 16 31) => (show RetPd w g B mb P M m (pass decC l m) (.panicked (errC r3.1)) w' from ⟨h1, .inr ⟨by rw [HQ3.out, bnd_no h2]; exact h2, by rw [HQ3.out, bnd_no h2], h3⟩⟩))
        clear hr3
        obtain ⟨er3, l3, a3⟩ := r3
        simp only at hl3
        go_wp2_with (fail)
        refine frp.wp_region_ptree (F := fun _ => True) (.reads [0, 1, 2, 3] (.one 4 false (.reads [5, 6] (.one 7 false .stop)))) (by kernel_rfl) (by kernel_rfl) ?_
        refine fr.tr_reads _ (by dsimp only [pick, ord.at_]) ?_
        repeat (go_big_quiet_step (fail))
        refine wpQuiet_nil ?_
        refine fr.tr_one _ (by dsimp only [pick, ord.at_]) ?_
        intro K1 g1 g2
        clear g2
        go_wp2_with (fail)
        refine g1 _ _ (Chg.refl _ _).drew ?_
        clear g1
        refine fr.tr_reads _ (by dsimp only [pick, ord.at_]) ?_
        repeat (go_big_quiet_step (fail))
        refine wpQuiet_nil ?_
        refine frp.tr_onep _ (by dsimp only [pick, ord.at_]) ?_
        intro K2 g1 g2 g3
        clear g2
        go_wp2_with (fail)
        refine HH3.out.mono ?_
        intro e w3 hr
        obtain ⟨hc, ⟨h0, rfl, hst, hV⟩ | ⟨h0, rfl, hvs⟩⟩ := hr
        · simp only at h0 hst hV
          subst h0
          have ST3 := Lib.hid hst
          have VV3 := Lib.hid hV
          have HC3 := Lib.hid (fr_trans HC2.out (fr_drew hc))
          have hs3 := HC3.out.size
          clear hst hV g3 HH3
          go_wp2_with (fail)
          refine g1 _ _ (((Chg.refl (fun _ => True) w2).drew).trans (hc.mono (fun _ _ _ => trivial)) (fun _ _ e => e)) ?_
          clear g1 hc
          refine fr.tr_stop ?_
          refine PanicAll.normal ?_
          replace VV3 := Lib.hid (show V w3 mb (mcells ({ ({ ({ m with seq := a1 } : Msg) with epoch := a2 } : Msg) with err := a3 } : Msg) P M) 31 from VV3.out)
          have c0 : w3.cell? ⟨mb, 0, none⟩ = some (.int .i64 m.kind) := by rw [cell_of_row _ _ _ _ _ _ VV3.out]; rfl
          have hm3 : mb < w3.heap.size := by omega
          have hg3 : g < w3.heap.size := by omega
          obtain ⟨r4, hr4⟩ : ∃ r, decC.flg l3 m.more = r := ⟨_, rfl⟩
          have HH4 := Lib.hid (flag_d w3.drew g B mb 13 (mcells ({ ({ ({ m with seq := a1 } : Msg) with epoch := a2 } : Msg) with err := a3 } : Msg) P M) 31 l3 m.more (ST3.out.drew) (VV3.out) rfl hne (by decide) hBm (by show B ≤ w3.heap.size; omega) (by omega))
          rw [show flgD l3 m.more = r4 from hr4] at HH4
          have HQ4 := Lib.hid (show pass decC l m = bnd r4 _ _ from bnd_next HQ3.out (bnd_eq hr4))
          have hl4 := flgD_len l3 m.more
          rw [show flgD l3 m.more = r4 from hr4] at hl4
          have NO4 := Lib.hid (fun (w' : World) (h1 : Chg (FR w g B mb) w w') (h2 : r4.1 ≠ 0) (h3 : VS w' mb 16 31) => (show RetPd w g B mb P M m (pass decC l m) (.panicked (errC r4.1)) w' from ⟨h1, .inr ⟨by rw [HQ4.out, bnd_no h2]; exact h2, by rw [HQ4.out, bnd_no h2], h3⟩⟩))
          clear hr4
          obtain ⟨er4, l4, a4⟩ := r4
          simp only at hl4
          go_wp2_with (fail)
          refine frp.wp_region_ptree (F := fun _ => True) (.reads [0, 1, 2, 3] (.one 4 false (.reads [5, 6] (.one 7 false .stop)))) (by kernel_rfl) (by kernel_rfl) ?_
          refine fr.tr_reads _ (by dsimp only [pick, ord.at_]) ?_
          repeat (go_big_quiet_step (fail))
          refine wpQuiet_nil ?_
          refine fr.tr_one _ (by dsimp only [pick, ord.at_]) ?_
          intro K1 g1 g2
          clear g2
          go_wp2_with (fail)
          refine g1 _ _ (Chg.refl _ _).drew ?_
          clear g1
          refine fr.tr_reads _ (by dsimp only [pick, ord.at_]) ?_
          repeat (go_big_quiet_step (fail))
          refine wpQuiet_nil ?_
          refine frp.tr_onep _ (by dsimp only [pick, ord.at_]) ?_
          intro K2 g1 g2 g3
          clear g2
          go_wp2_with (fail)
          refine HH4.out.mono ?_
          intro e w4 hr
          obtain ⟨hc, ⟨h0, rfl, hst, hV⟩ | ⟨h0, rfl, hvs⟩⟩ := hr
          · simp only at h0 hst hV
            subst h0
            have ST4 := Lib.hid hst
            have VV4 := Lib.hid hV
            have HC4 := Lib.hid (fr_trans HC3.out (fr_drew hc))
            have hs4 := HC4.out.size
            clear hst hV g3 HH4
            go_wp2_with (fail)
            refine g1 _ _ (((Chg.refl (fun _ => True) w3).drew).trans (hc.mono (fun _ _ _ => trivial)) (fun _ _ e => e)) ?_
            clear g1 hc
            refine fr.tr_stop ?_
            refine PanicAll.normal ?_
            replace VV4 := Lib.hid (show V w4 mb (mcells ({ ({ ({ ({ m with seq := a1 } : Msg) with epoch := a2 } : Msg) with err := a3 } : Msg) with more := a4 } : Msg) P M) 31 from VV4.out)
            have c0 : w4.cell? ⟨mb, 0, none⟩ = some (.int .i64 m.kind) := by rw [cell_of_row _ _ _ _ _ _ VV4.out]; rfl
            have hm4 : mb < w4.heap.size := by omega
            have hg4 : g < w4.heap.size := by omega
            have hbel5 : Below B0 w w4 := HC4.out.below (by omega) (fun k e => by rcases e with e | e | ⟨e, _⟩ <;> omega)
            obtain ⟨r5, hr5⟩ : ∃ r, passList decC ([], 0, 0, 0) (passMt decC) 8 l4 m.mts = r := ⟨_, rfl⟩
            have HH5 := Lib.hid (passLM_d w4 g B mb 15 B0 (mcells ({ ({ ({ ({ m with seq := a1 } : Msg) with epoch := a2 } : Msg) with err := a3 } : Msg) with more := a4 } : Msg) P M) 31 l4 m.mts mA m.mts.length mc (ST4.out) (VV4.out) (by rw [HP.out, HM.out]; rfl) (HMTS.out.1.below hbel5 (Nat.le_refl _)) HMTS.out.2.1 HMTS.out.2.2 hne (by decide) hgB hBm (by show B ≤ w4.heap.size; omega) h0g h0m (by omega) (by omega))
            rw [hr5] at HH5
            have HQ5 := Lib.hid (show pass decC l m = bnd r5 _ _ from bnd_next HQ4.out (bnd_eq hr5))
            have NO5 := Lib.hid (fun (w' : World) (h1 : Chg (FR w g B mb) w w') (h2 : r5.1 ≠ 0) (h3 : VS w' mb 16 31) => (show RetPd w g B mb P M m (pass decC l m) (.panicked (errC r5.1)) w' from ⟨h1, .inr ⟨by rw [HQ5.out, bnd_no h2]; exact h2, by rw [HQ5.out, bnd_no h2], h3⟩⟩))
            clear hr5 hbel5
            obtain ⟨er5, l5, a5⟩ := r5
            go_wp2_with (fail)
            refine HH5.out.mono ?_
            intro e w5 hr
            obtain ⟨hc, ⟨h0, rfl, hst, hV⟩ | ⟨h0, rfl, hvs⟩⟩ := hr
            · simp only at h0 hst
              subst h0
              have ST5 := Lib.hid hst
              obtain ⟨A9, c9, hV9, hO9⟩ := hV
              have VV5 := Lib.hid hV9
              have HO9 := Lib.hid hO9
              have HC5 := Lib.hid (fr_trans HC4.out hc)
              clear hst hV9 hO9 hc HH5
              go_wp2_with (fail)
              go_end0
              exact ⟨HC5.out, .inl ⟨by rw [HQ5.out, bnd_ok rfl], rfl, by rw [HQ5.out, bnd_ok rfl]; exact ST5.out, P, (.slice A9 a5.length c9), by rw [HQ5.out, bnd_ok rfl]; exact VV5.out, .inl ⟨rfl, by rw [HQ5.out, bnd_ok rfl]⟩, .inr (by rw [HQ5.out, bnd_ok rfl]; exact Ow.base HO9.out HC4.out.size)⟩⟩
            · have HE := Lib.hid (NO5.out _ (fr_trans HC4.out hc) h0 hvs)
              clear hc HH5
              go_wp2_with (fail)
              exact ⟨rfl, HE.out⟩
          · have HE := Lib.hid (NO4.out _ (fr_trans HC3.out (fr_drew hc)) h0 hvs)
            clear g1 hc HH4
            go_wp2_with (fail)
            intro a' ha'
            go_wp2_with (fail)
            exact ⟨ha', HE.out⟩
        · have HE := Lib.hid (NO3.out _ (fr_trans HC2.out (fr_drew hc)) h0 hvs)
          clear g1 hc HH3
          go_wp2_with (fail)
          intro a' ha'
          go_wp2_with (fail)
          exact ⟨ha', HE.out⟩
      · have kb1 : (m.kind == 1) = false := by rw [hk]; rfl
        have kb3 : (m.kind == 3) = false := by rw [hk]; rfl
        have kb5 : (m.kind == 5) = false := by rw [hk]; rfl
        have kb7 : (m.kind == 7) = false := by rw [hk]; rfl
        have kb6 : (m.kind == 6) = false := by rw [hk]; rfl
        have kb4 : (m.kind == 4) = true := by rw [hk]; rfl
        have kb8 : (m.kind == 8) = false := by rw [hk]; rfl
        have HKI := Lib.hid hk
        clear hk
        obtain ⟨r3, hr3⟩ : ∃ r, decC.num l2 m.err 255 = r := ⟨_, rfl⟩
        have HH3 := Lib.hid (num_d w2.drew g B mb 12 (mcells ({ ({ m with seq := a1 } : Msg) with epoch := a2 } : Msg) P M) 31 l2 m.err 255 (ST2.out.drew) (VV2.out) rfl hne (by decide) hBm (by show B ≤ w2.heap.size; omega) (by omega) (by omega))
        rw [show numD l2 m.err 255 = r3 from hr3] at HH3
        have HQ3 := Lib.hid (show pass decC l m = bnd r3 _ _ from bnd_next HQ2.out ((rest_4 (m0 := m) (m := ({ ({ m with seq := a1 } : Msg) with epoch := a2 } : Msg)) HKI.out).trans (bnd_eq hr3)))
        have hl3 := numD_len l2 m.err 255
        rw [show numD l2 m.err 255 = r3 from hr3] at hl3
        have NO3 := Lib.hid (fun (w' : World) (h1 : Chg (FR w g B mb) w w') (h2 : r3.1 ≠ 0) (h3 : VS w' mb 16 31) => (show RetPd w g B mb P M m (pass decC l m) (.panicked (errC r3.1)) w' from ⟨h1, .inr ⟨by rw [HQ3.out, bnd_no h2]; exact h2, by rw [HQ3.out, bnd_no h2], h3⟩⟩))
        clear hr3
        obtain ⟨er3, l3, a3⟩ := r3
        simp only at hl3
        go_wp2_with (fail)
        refine frp.wp_region_ptree (F := fun _ => True) (.reads [0, 1, 2, 3] (.one 4 false (.reads [5, 6] (.one 7 false .stop)))) (by kernel_rfl) (by kernel_rfl) ?_
        refine fr.tr_reads _ (by dsimp only [pick, ord.at_]) ?_
        repeat (go_big_quiet_step (fail))
        refine wpQuiet_nil ?_
        refine fr.tr_one _ (by dsimp only [pick, ord.at_]) ?_
        intro K1 g1 g2
        clear g2
        go_wp2_with (fail)
        refine g1 _ _ (Chg.refl _ _).drew ?_
        clear g1
        refine fr.tr_reads _ (by dsimp only [pick, ord.at_]) ?_
        repeat (go_big_quiet_step (fail))
        refine wpQuiet_nil ?_
        refine frp.tr_onep _ (by dsimp only [pick, ord.at_]) ?_
        intro K2 g1 g2 g3
        clear g2
        go_wp2_with (fail)
        refine HH3.out.mono ?_
        intro e w3 hr
        obtain ⟨hc, ⟨h0, rfl, hst, hV⟩ | ⟨h0, rfl, hvs⟩⟩ := hr
        · simp only at h0 hst hV
          subst h0
          have ST3 := Lib.hid hst
          have VV3 := Lib.hid hV
          have HC3 := Lib.hid (fr_trans HC2.out (fr_drew hc))
          have hs3 := HC3.out.size
          clear hst hV g3 HH3
          go_wp2_with (fail)
          refine g1 _ _ (((Chg.refl (fun _ => True) w2).drew).trans (hc.mono (fun _ _ _ => trivial)) (fun _ _ e => e)) ?_
          clear g1 hc
          refine fr.tr_stop ?_
          refine PanicAll.normal ?_
          replace VV3 := Lib.hid (show V w3 mb (mcells ({ ({ ({ m with seq := a1 } : Msg) with epoch := a2 } : Msg) with err := a3 } : Msg) P M) 31 from VV3.out)
          have c0 : w3.cell? ⟨mb, 0, none⟩ = some (.int .i64 m.kind) := by rw [cell_of_row _ _ _ _ _ _ VV3.out]; rfl
          have hm3 : mb < w3.heap.size := by omega
          have hg3 : g < w3.heap.size := by omega
          have hbel4 : Below B0 w w3 := HC3.out.below (by omega) (fun k e => by rcases e with e | e | ⟨e, _⟩ <;> omega)
          obtain ⟨r4, hr4⟩ : ∃ r, passList decC (0, 0, 0) (passPt decC) 512 l3 m.pts = r := ⟨_, rfl⟩
          have HH4 := Lib.hid (passLP_d w3 g B mb 14 B0 (mcells ({ ({ ({ m with seq := a1 } : Msg) with epoch := a2 } : Msg) with err := a3 } : Msg) P M) 31 l3 m.pts pA m.pts.length pc (ST3.out) (VV3.out) (by rw [HP.out, HM.out]; rfl) (HPTS.out.1.below hbel4 (Nat.le_refl _)) HPTS.out.2.1 HPTS.out.2.2 hne (by decide) hgB hBm (by show B ≤ w3.heap.size; omega) h0g h0m (by omega) (by omega))
          rw [hr4] at HH4
          have HQ4 := Lib.hid (show pass decC l m = bnd r4 _ _ from bnd_next HQ3.out (bnd_eq hr4))
          have NO4 := Lib.hid (fun (w' : World) (h1 : Chg (FR w g B mb) w w') (h2 : r4.1 ≠ 0) (h3 : VS w' mb 16 31) => (show RetPd w g B mb P M m (pass decC l m) (.panicked (errC r4.1)) w' from ⟨h1, .inr ⟨by rw [HQ4.out, bnd_no h2]; exact h2, by rw [HQ4.out, bnd_no h2], h3⟩⟩))
          clear hr4 hbel4
          obtain ⟨er4, l4, a4⟩ := r4
          go_wp2_with (fail)
          refine HH4.out.mono ?_
          intro e w4 hr
          obtain ⟨hc, ⟨h0, rfl, hst, hV⟩ | ⟨h0, rfl, hvs⟩⟩ := hr
          · simp only at h0 hst
            subst h0
            have ST4 := Lib.hid hst
            obtain ⟨A9, c9, hV9, hO9⟩ := hV
            have VV4 := Lib.hid hV9
            have HO9 := Lib.hid hO9
            have HC4 := Lib.hid (fr_trans HC3.out hc)
            clear hst hV9 hO9 hc HH4
            go_wp2_with (fail)
            go_end0
            exact ⟨HC4.out, .inl ⟨by rw [HQ4.out, bnd_ok rfl], rfl, by rw [HQ4.out, bnd_ok rfl]; exact ST4.out, (.slice A9 a4.length c9), M, by rw [HQ4.out, bnd_ok rfl]; exact VV4.out, .inr (by rw [HQ4.out, bnd_ok rfl]; exact Ow.base HO9.out HC3.out.size), .inl ⟨rfl, by rw [HQ4.out, bnd_ok rfl]⟩⟩⟩
          · have HE := Lib.hid (NO4.out _ (fr_trans HC3.out hc) h0 hvs)
            clear hc HH4
            go_wp2_with (fail)
            exact ⟨rfl, HE.out⟩
        · have HE := Lib.hid (NO3.out _ (fr_trans HC2.out (fr_drew hc)) h0 hvs)
          clear g1 hc HH3
          go_wp2_with (fail)
          intro a' ha'
          go_wp2_with (fail)
          exact ⟨ha', HE.out⟩
      · have kb1 : (m.kind == 1) = false := by rw [hk]; rfl
        have kb3 : (m.kind == 3) = false := by rw [hk]; rfl
        have kb5 : (m.kind == 5) = false := by rw [hk]; rfl
        have kb7 : (m.kind == 7) = false := by rw [hk]; rfl
        have kb6 : (m.kind == 6) = false := by rw [hk]; rfl
        have kb4 : (m.kind == 4) = false := by rw [hk]; rfl
        have kb8 : (m.kind == 8) = true := by rw [hk]; rfl
        have HKI := Lib.hid hk
        clear hk
        obtain ⟨r3, hr3⟩ : ∃ r, decC.num l2 m.err 255 = r := ⟨_, rfl⟩
        have HH3 := Lib.hid (num_d w2.drew g B mb 12 (mcells ({ ({ m with seq := a1 } : Msg) with epoch := a2 } : Msg) P M) 31 l2 m.err 255 (ST2.out.drew) (VV2.out) rfl hne (by decide) hBm (by show B ≤ w2.heap.size; omega) (by omega) (by omega))
        rw [show numD l2 m.err 255 = r3 from hr3] at HH3
        have HQ3 := Lib.hid (show pass decC l m = bnd r3 _ _ from bnd_next HQ2.out ((rest_8 (m0 := m) (m := ({ ({ m with seq := a1 } : Msg) with epoch := a2 } : Msg)) HKI.out).trans (bnd_eq hr3)))
        have hl3 := numD_len l2 m.err 255
        rw [show numD l2 m.err 255 = r3 from hr3] at hl3
        have NO3 := Lib.hid (fun (w' : World) (h1 : Chg (FR w g B mb) w w') (h2 : r3.1 ≠ 0) (h3 : VS w' mb 16 31) => (show RetPd w g B mb P M m (pass decC l m) (.panicked (errC r3.1)) w' from ⟨h1, .inr ⟨by rw [HQ3.out, bnd_no h2]; exact h2, by rw [HQ3.out, bnd_no h2], h3⟩⟩))
        clear hr3
        obtain ⟨er3, l3, a3⟩ := r3
        simp only at hl3
        go_wp2_with (fail)
        refine frp.wp_region_ptree (F := fun _ => True) (.reads [0, 1, 2, 3] (.one 4 false (.reads [5, 6] (.one 7 false .stop)))) (by kernel_rfl) (by kernel_rfl) ?_
        refine fr.tr_reads _ (by dsimp only [pick, ord.at_]) ?_
        repeat (go_big_quiet_step (fail))
        refine wpQuiet_nil ?_
        refine fr.tr_one _ (by dsimp only [pick, ord.at_]) ?_
        intro K1 g1 g2
        clear g2
        go_wp2_with (fail)
        refine g1 _ _ (Chg.refl _ _).drew ?_
        clear g1
        refine fr.tr_reads _ (by dsimp only [pick, ord.at_]) ?_
        repeat (go_big_quiet_step (fail))
        refine wpQuiet_nil ?_
        refine frp.tr_onep _ (by dsimp only [pick, ord.at_]) ?_
        intro K2 g1 g2 g3
        clear g2
        go_wp2_with (fail)
        refine HH3.out.mono ?_
        intro e w3 hr
        obtain ⟨hc, ⟨h0, rfl, hst, hV⟩ | ⟨h0, rfl, hvs⟩⟩ := hr
        · simp only at h0 hst hV
          subst h0
          have ST3 := Lib.hid hst
          have VV3 := Lib.hid hV
          have HC3 := Lib.hid (fr_trans HC2.out (fr_drew hc))
          have hs3 := HC3.out.size
          clear hst hV g3 HH3
          go_wp2_with (fail)
          refine g1 _ _ (((Chg.refl (fun _ => True) w2).drew).trans (hc.mono (fun _ _ _ => trivial)) (fun _ _ e => e)) ?_
          clear g1 hc
          refine fr.tr_stop ?_
          refine PanicAll.normal ?_
          replace VV3 := Lib.hid (show V w3 mb (mcells ({ ({ ({ m with seq := a1 } : Msg) with epoch := a2 } : Msg) with err := a3 } : Msg) P M) 31 from VV3.out)
          have c0 : w3.cell? ⟨mb, 0, none⟩ = some (.int .i64 m.kind) := by rw [cell_of_row _ _ _ _ _ _ VV3.out]; rfl
          have hm3 : mb < w3.heap.size := by omega
          have hg3 : g < w3.heap.size := by omega
          have hbel4 : Below B0 w w3 := HC3.out.below (by omega) (fun k e => by rcases e with e | e | ⟨e, _⟩ <;> omega)
          obtain ⟨r4, hr4⟩ : ∃ r, passList decC (0, 0, 0) (passPt decC) 512 l3 m.pts = r := ⟨_, rfl⟩
          have HH4 := Lib.hid (passLP_d w3 g B mb 14 B0 (mcells ({ ({ ({ m with seq := a1 } : Msg) with epoch := a2 } : Msg) with err := a3 } : Msg) P M) 31 l3 m.pts pA m.pts.length pc (ST3.out) (VV3.out) (by rw [HP.out, HM.out]; rfl) (HPTS.out.1.below hbel4 (Nat.le_refl _)) HPTS.out.2.1 HPTS.out.2.2 hne (by decide) hgB hBm (by show B ≤ w3.heap.size; omega) h0g h0m (by omega) (by omega))
          rw [hr4] at HH4
          have HQ4 := Lib.hid (show pass decC l m = bnd r4 _ _ from bnd_next HQ3.out (bnd_eq hr4))
          have NO4 := Lib.hid (fun (w' : World) (h1 : Chg (FR w g B mb) w w') (h2 : r4.1 ≠ 0) (h3 : VS w' mb 16 31) => (show RetPd w g B mb P M m (pass decC l m) (.panicked (errC r4.1)) w' from ⟨h1, .inr ⟨by rw [HQ4.out, bnd_no h2]; exact h2, by rw [HQ4.out, bnd_no h2], h3⟩⟩))
          clear hr4 hbel4
          obtain ⟨er4, l4, a4⟩ := r4
          go_wp2_with (fail)
          refine HH4.out.mono ?_
          intro e w4 hr
          obtain ⟨hc, ⟨h0, rfl, hst, hV⟩ | ⟨h0, rfl, hvs⟩⟩ := hr
          · simp only at h0 hst
            subst h0
            have ST4 := Lib.hid hst
            obtain ⟨A9, c9, hV9, hO9⟩ := hV
            have VV4 := Lib.hid hV9
            have HO9 := Lib.hid hO9
            have HC4 := Lib.hid (fr_trans HC3.out hc)
            clear hst hV9 hO9 hc HH4
            go_wp2_with (fail)
            go_end0
            exact ⟨HC4.out, .inl ⟨by rw [HQ4.out, bnd_ok rfl], rfl, by rw [HQ4.out, bnd_ok rfl]; exact ST4.out, (.slice A9 a4.length c9), M, by rw [HQ4.out, bnd_ok rfl]; exact VV4.out, .inr (by rw [HQ4.out, bnd_ok rfl]; exact Ow.base HO9.out HC3.out.size), .inl ⟨rfl, by rw [HQ4.out, bnd_ok rfl]⟩⟩⟩
          · have HE := Lib.hid (NO4.out _ (fr_trans HC3.out hc) h0 hvs)
            clear hc HH4
            go_wp2_with (fail)
            exact ⟨rfl, HE.out⟩
        · have HE := Lib.hid (NO3.out _ (fr_trans HC2.out (fr_drew hc)) h0 hvs)
          clear g1 hc HH3
          go_wp2_with (fail)
          intro a' ha'
          go_wp2_with (fail)
          exact ⟨ha', HE.out⟩
      · have kb1 : (m.kind == 1) = false := by simp; omega
        have kb3 : (m.kind == 3) = false := by simp; omega
        have kb5 : (m.kind == 5) = false := by simp; omega
        have kb7 : (m.kind == 7) = false := by simp; omega
        have kb6 : (m.kind == 6) = false := by simp; omega
        have kb4 : (m.kind == 4) = false := by simp; omega
        have kb8 : (m.kind == 8) = false := by simp; omega
        have HKI := Lib.hid hk
        clear hk
        obtain ⟨r3, hr3⟩ : ∃ r, decC.num l2 m.err 255 = r := ⟨_, rfl⟩
        have HH3 := Lib.hid (num_d w2.drew g B mb 12 (mcells ({ ({ m with seq := a1 } : Msg) with epoch := a2 } : Msg) P M) 31 l2 m.err 255 (ST2.out.drew) (VV2.out) rfl hne (by decide) hBm (by show B ≤ w2.heap.size; omega) (by omega) (by omega))
        rw [show numD l2 m.err 255 = r3 from hr3] at HH3
        have HQ3 := Lib.hid (show pass decC l m = bnd r3 _ _ from bnd_next HQ2.out ((rest_0 (m0 := m) (m := ({ ({ m with seq := a1 } : Msg) with epoch := a2 } : Msg)) HKI.out).trans (bnd_eq hr3)))
        have hl3 := numD_len l2 m.err 255
        rw [show numD l2 m.err 255 = r3 from hr3] at hl3
        have NO3 := Lib.hid (fun (w' : World) (h1 : Chg (FR w g B mb) w w') (h2 : r3.1 ≠ 0) (h3 : VS w' mb 16 31) => (show RetPd w g B mb P M m (pass decC l m) (.panicked (errC r3.1)) w' from ⟨h1, .inr ⟨by rw [HQ3.out, bnd_no h2]; exact h2, by rw [HQ3.out, bnd_no h2], h3⟩⟩))
        clear hr3
        obtain ⟨er3, l3, a3⟩ := r3
        simp only at hl3
        go_wp2_with (fail)
        refine frp.wp_region_ptree (F := fun _ => True) (.reads [0, 1, 2, 3] (.one 4 false (.reads [5, 6] (.one 7 false .stop)))) (by kernel_rfl) (by kernel_rfl) ?_
        refine fr.tr_reads _ (by dsimp only [pick, ord.at_]) ?_
        repeat (go_big_quiet_step (fail))
        refine wpQuiet_nil ?_
        refine fr.tr_one _ (by dsimp only [pick, ord.at_]) ?_
        intro K1 g1 g2
        clear g2
        go_wp2_with (fail)
        refine g1 _ _ (Chg.refl _ _).drew ?_
        clear g1
        refine fr.tr_reads _ (by dsimp only [pick, ord.at_]) ?_
        repeat (go_big_quiet_step (fail))
        refine wpQuiet_nil ?_
        refine frp.tr_onep _ (by dsimp only [pick, ord.at_]) ?_
        intro K2 g1 g2 g3
        clear g2
        go_wp2_with (fail)
        refine HH3.out.mono ?_
        intro e w3 hr
        obtain ⟨hc, ⟨h0, rfl, hst, hV⟩ | ⟨h0, rfl, hvs⟩⟩ := hr
        · simp only at h0 hst hV
          subst h0
          have ST3 := Lib.hid hst
          have VV3 := Lib.hid hV
          have HC3 := Lib.hid (fr_trans HC2.out (fr_drew hc))
          have hs3 := HC3.out.size
          clear hst hV g3 HH3
          go_wp2_with (fail)
          refine g1 _ _ (((Chg.refl (fun _ => True) w2).drew).trans (hc.mono (fun _ _ _ => trivial)) (fun _ _ e => e)) ?_
          clear g1 hc
          refine fr.tr_stop ?_
          refine PanicAll.normal ?_
          replace VV3 := Lib.hid (show V w3 mb (mcells ({ ({ ({ m with seq := a1 } : Msg) with epoch := a2 } : Msg) with err := a3 } : Msg) P M) 31 from VV3.out)
          have c0 : w3.cell? ⟨mb, 0, none⟩ = some (.int .i64 m.kind) := by rw [cell_of_row _ _ _ _ _ _ VV3.out]; rfl
          have hm3 : mb < w3.heap.size := by omega
          have hg3 : g < w3.heap.size := by omega
          go_wp2_with (fail)
          go_end0
          exact ⟨HC3.out, .inl ⟨by rw [HQ3.out, bnd_ok rfl], rfl, by rw [HQ3.out, bnd_ok rfl]; exact ST3.out, P, M, by rw [HQ3.out, bnd_ok rfl]; exact VV3.out, .inl ⟨rfl, by rw [HQ3.out, bnd_ok rfl]⟩, .inl ⟨rfl, by rw [HQ3.out, bnd_ok rfl]⟩⟩⟩
        · have HE := Lib.hid (NO3.out _ (fr_trans HC2.out (fr_drew hc)) h0 hvs)
          clear g1 hc HH3
          go_wp2_with (fail)
          intro a' ha'
          go_wp2_with (fail)
          exact ⟨ha', HE.out⟩
    · have HE := Lib.hid (NO2.out _ (fr_trans HC1.out (fr_drew hc)) h0 hvs)
      clear g1 hc HH2
      go_wp2_with (fail)
      intro a' ha'
      go_wp2_with (fail)
      exact ⟨ha', HE.out⟩
  · have HE := Lib.hid (NO1.out _ (fr_trans HC0.out (fr_drew hc)) h0 hvs)
    clear g1 hc HH1
    go_wp2_with (fail)
    intro a' ha'
    go_wp2_with (fail)
    exact ⟨ha', HE.out⟩
end Go.Proofs.Ythkcnakodlbdpaa.wr
/-
  Messages: Decode, the program's.
-/
namespace Go.Proofs.Ythkcnakodlbdpaa.wr
open Go.ChangeShapes Go.WideShapes Go.ChangeAt Go.RowKit plain words ord mem uvs uvc

def zeroM : Msg := ⟨0, 0, 0, 0, 0, [], 0, 0, 0, (0, 0, 0), 0, false, [], []⟩
def zcells : Array Value := #[.int .i64 0, .int .i64 0, .int .i64 0, .int .i64 0, .int .i64 0, .string ⟨#[]⟩, .int .i64 0, .int .i64 0, .int .i64 0, .int .i64 0, .int .u64 0, .int .u64 0, .int .i64 0, .bool false, .slice none 0 0, .slice none 0 0]
theorem infoMsg : (Try.prog.info? 31).map (·.size) = some 16 := by kernel_rfl
theorem zcells_all : zcells.all (·.oneCell') = true := by simp [zcells, Value.oneCell']
theorem setRow_mb {w : World} {g : Nat} {old cs : Array Value} {t : TypeId} (h : w.heap[g]? = some (.cells old t (0, 0))) : (w.setRow g cs).heap[g]? = some (.cells cs t (0, 0)) := setRow_heap w g _ _ _ _ h
theorem Chg.setRow {S : Nat → Prop} {a w : World} {g : Nat} (h : Chg S a w) (hg : g < a.heap.size → S g) (cs : Array Value) : Chg S a (w.setRow g cs) :=
  ⟨h.os, h.tape, h.output, by show _ ≤ (w.heap.modify _ _).size; simp; exact h.size, fun i hi hn => by
    rw [← h.block i hi hn]
    have e : i ≠ g := fun e => hn (by subst e; exact hg hi)
    simp [World.setRow, Array.getElem?_modify, Ne.symm e]⟩
theorem setRow_o {w : World} {g g' : Nat} {cs : Array Value} {o : Obj} (h : w.heap[g]? = some o) (hn : g ≠ g') : (w.setRow g' cs).heap[g]? = some o := by
  have hc : Chg (fun k => k = g') w (w.setRow g' cs) := wr.Chg.setRow (S := fun k => k = g') (Chg.refl _ _) (fun _ => rfl) _
  exact hc.blk h hn
set_option maxRecDepth 100000 in
theorem dcatch_bad (p q : Nat) (old : Array Value) (y : Value) (z : Int) (older : List PanicEntry) (w : World) (hpq : p ≠ q) (hp : w.heap[p]? = some (.cells old 31 (0, 0))) (ho : old.size = 16) (hq : w.heap[q]? = some (.cells #[y] 27 (0, 0))) :
    CallsD Try.prog 19 #[.pointer (some ⟨p, 0, none⟩), .pointer (some ⟨q, 0, none⟩)] (.panicking ({ v := .iface 27 (.int .i64 z), recovered := false } :: older)) w fun e u' w' =>
      e = .returned (.tuple #[]) ∧ u' = .panicking ({ v := .iface 27 (.int .i64 z), recovered := true } :: older) ∧ w' = ((w.setRow p zcells).setCell ⟨q, 0, none⟩ (.int .i64 z)).drew := by
  have c1 : w.cell? ⟨q, 0, none⟩ = some y := by rw [cell_of_row _ _ _ _ _ _ hq]; rfl
  have f1 : w.frozen? ⟨q, 0, none⟩ = false := frozen_of_row _ _ 0 _ _ hq
  have c2 : (w.setRow p zcells).cell? ⟨q, 0, none⟩ = some y := by rw [cell_of_row _ _ _ _ _ _ (setRow_o hq hpq.symm)]; rfl
  have f2 : (w.setRow p zcells).frozen? ⟨q, 0, none⟩ = false := frozen_of_row _ _ 0 _ _ (setRow_o hq hpq.symm)
  refine callsD_of_wpS Try.func19 rfl fun c₀ cs hu => ?_
  apply wpS_seq
  apply wpS_region
  simp [wpOpsS, go_sem, recoverD, hu, Try.ntmps19, Exit.thenS]
  apply wpS_seq
  apply wpS_region
  simp [wpOpsS, go_sem, recoverD, hu, Try.ntmps19, Exit.thenS]
  refine wpS_cond (t := true) (by simp [Act.eval, Array.replicate]) ?_
  simp only [if_true]
  refine wpS_of_wp ?_
  have hta : ∀ w : World, (Instr.typeAssert (.iface 27 (.int .i64 z)) 20 27 false).run Try.prog w = .ok (.int .i64 z) w := fun _ => by kernel_rfl
  have c1' : w.drew.cell? ⟨q, 0, none⟩ = some y := c1
  have f1' : w.drew.frozen? ⟨q, 0, none⟩ = false := f1
  obtain ⟨F, hF⟩ : ∃ F : Array Value, #[Value.pointer (some ⟨p, 0, none⟩), Value.pointer (some ⟨q, 0, none⟩), .iface 27 (.int .i64 z), .iface 27 (.int .i64 z), .iface 27 (.int .i64 z), .bool true, undef, undef, undef] = F := ⟨_, rfl⟩
  refine Eq.mp (congrArg (fun F => Code.wp _ _ _ (Act.mk F []) w) (show F = _ from hF.symm)) ?_
  subst hF
  refine fr.wp_region_tree (F := fun _ => True) (.reads [0, 1, 2] (.one 3 false (.one 4 false .stop))) (by kernel_rfl) (by kernel_rfl) ?_
  refine fr.tr_reads _ (by dsimp only [pick, ord.at_]) ?_
  repeat (go_big_quiet_step (fail))
  refine wpQuiet_nil ?_
  refine fr.tr_one _ (by dsimp only [pick, ord.at_]) ?_
  intro K1 g1 g2
  clear g2
  refine wpList_store_row rfl _ _ _ rfl p zcells (by rfl) (by rfl) _ _ (show w.drew.heap[p]? = _ from hp) infoMsg ho zcells_all ?_
  have d2 : (w.drew.setRow p zcells).cell? ⟨q, 0, none⟩ = some y := c2
  have e2 : (w.drew.setRow p zcells).frozen? ⟨q, 0, none⟩ = false := f2
  obtain ⟨w1, hw1⟩ : ∃ w1, w.drew.setRow p zcells = w1 := ⟨_, rfl⟩
  have hql := blk_lt hq
  have hsz : q < w1.heap.size := by rw [← hw1]; exact blk_lt (setRow_o (w := w.drew) (cs := zcells) hq hpq.symm)
  have hc : Chg (fun _ => True) w w1 := by rw [← hw1]; exact wr.Chg.setRow (S := fun _ => True) (Chg.refl _ _).drew (fun _ => trivial) _
  have hfin : ((w.setRow p zcells).setCell ⟨q, 0, none⟩ (.int .i64 z)).drew = w1.setCell ⟨q, 0, none⟩ (.int .i64 z) := by rw [← hw1]; rfl
  have HFIN := Lib.hid hfin
  rw [hw1] at d2 e2 ⊢
  clear hw1 hfin c2 f2 c1' f1' c1 f1
  go_wp2_with (fail)
  refine g1 _ _ hc ?_
  clear g1
  refine fr.tr_one _ (by dsimp only [pick, ord.at_]) ?_
  intro K1 g1 g2
  clear g2
  go_wp2_with (fail)
  refine g1 _ _ (hc.setCell (p := ⟨q, 0, none⟩) (fun _ => trivial) _) ?_
  refine fr.tr_stop ?_
  refine NoPanic.normal ?_
  rw [HFIN.out]
  all_goals simp [bodyPostS, results, Try.results19]
theorem dcatch_idle (p q : Addr) (w : World) :
    CallsD Try.prog 19 #[.pointer (some p), .pointer (some q)] .returning w fun e u' w' => e = .returned (.tuple #[]) ∧ u' = .returning ∧ w' = w := by
  refine callsD_of_wpS Try.func19 rfl fun c₀ cs hu => ?_
  apply wpS_seq
  apply wpS_region
  simp [wpOpsS, go_sem, recoverD, hu, Try.ntmps19, Exit.thenS]
  apply wpS_seq
  apply wpS_region
  simp [wpOpsS, go_sem, recoverD, hu, Try.ntmps19, Exit.thenS]
  refine wpS_cond (t := false) (by simp [Act.eval, Array.replicate]) ?_
  simp only [Bool.false_eq_true, if_false]
  refine wpS_of_wp (wp_skip ?_)
  cases c₀
  simp_all [bodyPostS, results, Try.results19]
def D130 {α : Type} (r : R α) : Prop := r.1 = 0 ∨ r.1 = 130
theorem D130.bnd {α β : Type} {r : R α} {d : β} {k : By → α → R β} (h : D130 r) (h2 : ∀ s v, D130 (k s v)) : D130 (bnd r d k) := by
  by_cases e : r.1 = 0
  · rw [bnd_ok e]; exact h2 _ _
  · rw [bnd_no e]; exact .inr (h.resolve_left e)
theorem D130.ok {α : Type} (s : By) (v : α) : D130 ((0, s, v) : R α) := .inl rfl
theorem numD_130 (s : By) (v most : Int) : D130 (numD s v most) := by unfold numD; split; exact .inl rfl; exact .inr rfl
theorem fixD_130 (s : By) (v : Int) (k : Nat) : D130 (fixD s v k) := by unfold fixD; split; exact .inr rfl; exact .inl rfl
theorem txtD_130 (s i : By) : D130 (txtD s i) := by
  unfold txtD; split
  · split; exact .inr rfl; exact .inl rfl
  · exact .inr rfl
theorem flgD_130 (s : By) (b : Bool) : D130 (flgD s b) := by unfold flgD; split; exact .inl rfl; exact .inr rfl
theorem passPt_130 (s : By) (p : Pt) : D130 (passPt decC s p) := (numD_130 _ _ _).bnd fun _ _ => (fixD_130 _ _ _).bnd fun _ _ => (fixD_130 _ _ _).bnd fun _ _ => .ok _ _
theorem passRg_130 (s : By) (f t : Int) : D130 (passRg decC s f t) := (numD_130 _ _ _).bnd fun _ _ => (numD_130 _ _ _).bnd fun _ _ => .ok _ _
theorem passMt_130 (s : By) (p : Mt) : D130 (passMt decC s p) := (txtD_130 _ _).bnd fun _ _ => (numD_130 _ _ _).bnd fun _ _ => (numD_130 _ _ _).bnd fun _ _ => (fixD_130 _ _ _).bnd fun _ _ => .ok _ _
theorem passL_130 {α : Type} {item : By → α → R α} (hi : ∀ s x, D130 (item s x)) : ∀ (l : List α) (s : By), D130 (passL item s l)
  | [], s => .ok _ _
  | x :: l, s => (hi s x).bnd fun _ _ => (passL_130 hi l _).bnd fun _ _ => .ok _ _
theorem passList_130 {α : Type} {z : α} {item : By → α → R α} {most : Int} (hi : ∀ s x, D130 (item s x)) (s : By) (l : List α) : D130 (passList decC z item most s l) := (numD_130 _ _ _).bnd fun _ _ => (passL_130 hi _ _).bnd fun _ _ => .ok _ _
theorem head_130 (s : By) (m : Msg) : D130 (head decC s m) := by
  unfold head
  split
  · exact (numD_130 _ _ _).bnd fun _ _ => (txtD_130 _ _).bnd fun _ _ => .ok _ _
  · split
    · exact (numD_130 _ _ _).bnd fun _ _ => (numD_130 _ _ _).bnd fun _ _ => .ok _ _
    · exact (numD_130 _ _ _).bnd fun _ _ => .ok _ _
theorem blockId_130 (s : By) (m : Msg) : D130 (blockId decC s m) := (numD_130 _ _ _).bnd fun _ _ => (txtD_130 _ _).bnd fun _ _ => .ok _ _
theorem tail_130 (s : By) (m : Msg) : D130 (tail decC s m) := by
  unfold tail
  split
  · exact (passPt_130 _ _).bnd fun _ _ => .ok _ _
  split
  · exact (passRg_130 _ _ _).bnd fun _ _ => .ok _ _
  split
  · exact (passRg_130 _ _ _).bnd fun _ _ => blockId_130 _ _
  split
  · exact blockId_130 _ _
  split
  · exact (flgD_130 _ _).bnd fun _ _ => (passList_130 passMt_130 _ _).bnd fun _ _ => .ok _ _
  split
  · exact (passList_130 passPt_130 _ _).bnd fun _ _ => .ok _ _
  · exact .ok _ _
theorem pass_130 (s : By) (m : Msg) : D130 (pass decC s m) := (numD_130 _ _ _).bnd fun _ _ => (numD_130 _ _ _).bnd fun _ _ => (head_130 _ _).bnd fun _ _ => tail_130 _ _
def kindM (k : Nat) : Msg := { zeroM with kind := (k : Int) }
/-- Decode's answer -/
def decM : By → Option Msg
  | [] => none
  | k :: s => if 32767 < s.length ∨ k.toNat < 1 ∨ 8 < k.toNat then none else if (pass decC s (kindM k.toNat)).1 = 0 ∧ (pass decC s (kindM k.toNat)).2.1 = [] then some (pass decC s (kindM k.toNat)).2.2 else none
def RetDec (w : World) (r : Option Msg) (e : Ending) (w' : World) : Prop :=
  Below w.heap.size w w' ∧ match r with
  | none => e = .returned (.tuple #[.agg zcells, .int .i64 130])
  | some m => ∃ P M, e = .returned (.tuple #[.agg (mcells m P M), .int .i64 0]) ∧ Ow PE w' w.heap.size P m.pts.length m.pts ∧ Ow ME w' w.heap.size M m.mts.length m.mts
theorem load_msg {w : World} {g : Nat} {cs : Array Value} (h : w.heap[g]? = some (.cells cs 31 (0, 0))) (hs : cs.size = 16) : (loadVar 31 ⟨g, 0, none⟩).run Try.prog w = .ok (.agg cs) w :=
  run_loadVar_row w g _ _ cs _ _ h Try.underlying31 rfl (by rw [infoMsg, hs])
theorem results_two {fn : Func} {p q : Tmp} {tA tB : TypeId} (h : fn.results = #[.cell p tA, .cell q tB]) (tmps : Array Value) (w : World) (a b : Addr) (x y : Value) (hp : tmps.getD p undef = .pointer (some a)) (hq : tmps.getD q undef = .pointer (some b)) (h1 : (loadVar tA a).run Try.prog w = .ok x w) (h2 : (loadVar tB b).run Try.prog w = .ok y w) : (results fn tmps).run Try.prog w = .ok (.tuple #[x, y]) w := by
  have hp' : tmps[p]?.getD undef = .pointer (some a) := by simpa using hp
  have hq' : tmps[q]?.getD undef = .pointer (some b) := by simpa using hq
  simp [results, h, hp', hq', asAddr, h1, h2]
theorem load_err {w : World} {g : Nat} {x : Value} (h : w.cell? ⟨g, 0, none⟩ = some x) : (loadVar 27 ⟨g, 0, none⟩).run Try.prog w = .ok x w := by
  simp [go_sem, h]
theorem row_facts {w : World} {N : Nat} {old : Array Value} {y : Value} (cs : Array Value) (g0 : V w N old 31) (g1 : w.heap[N + 1]? = some (.cells #[y] 27 (0, 0))) :
    V (w.setRow N cs) N cs 31 ∧ (w.setRow N cs).heap[N + 1]? = some (.cells #[y] 27 (0, 0)) ∧ (w.setRow N cs).cell? ⟨N + 1, 0, none⟩ = some y ∧ (w.setRow N cs).frozen? ⟨N + 1, 0, none⟩ = false ∧ N + 1 < (w.setRow N cs).heap.size := by
  have h1 := setRow_o (cs := cs) g1 (show N + 1 ≠ N by omega)
  exact ⟨setRow_mb g0, h1, cell1 h1, fro1 h1, blk_lt h1⟩
theorem fin_facts {w : World} {N : Nat} {cs : Array Value} {y : Value} (z : Int) (g0 : V w N cs 31) (hs : cs.size = 16) (g1 : w.heap[N + 1]? = some (.cells #[y] 27 (0, 0))) :
    (loadVar 31 ⟨N, 0, none⟩).run Try.prog (w.setCell ⟨N + 1, 0, none⟩ (.int .i64 z)) = .ok (.agg cs) (w.setCell ⟨N + 1, 0, none⟩ (.int .i64 z)) ∧ (w.setCell ⟨N + 1, 0, none⟩ (.int .i64 z)).cell? ⟨N + 1, 0, none⟩ = some (.int .i64 z) :=
  ⟨load_msg (set1o g0 (show N ≠ N + 1 by omega)) hs, cell1 (set1 g1)⟩
theorem bel_row {w0 w : World} {B g : Nat} {cs : Array Value} (h : Below B w0 w) (hB : B ≤ w0.heap.size) (hg : B ≤ g) : Below B w0 (w.setRow g cs) :=
  Chg.below (wr.Chg.setRow (S := fun k => B ≤ k) ⟨h.os, h.tape, h.output, h.size, fun k hk hn => h.block k (by omega)⟩ (fun _ => hg) cs) hB (fun k e => e)
theorem mcells_all (m : Msg) (P M : Value) (hP : P.oneCell' = true) (hM : M.oneCell' = true) : (mcells m P M).all (·.oneCell') = true := by
  rw [Array.all_eq_true_iff_forall_mem]
  intro v hv
  simp [mcells] at hv
  rcases hv with h | h | h | h | h | h | h | h | h | h | h | h | h | h | h | h <;> subst h <;> first | rfl | exact hP | exact hM
theorem Ow.one {α : Type} {E : El α} {w : World} {a n : Nat} {v : Value} {l : List α} (h : Ow E w a v n l) : v.oneCell' = true := by
  obtain ⟨_, _, h3⟩ := h
  rcases h3 with ⟨e, _⟩ | ⟨g, cap, cur, e, _⟩ <;> (rw [e]; rfl)
theorem Ow.nil {α : Type} (E : El α) (w : World) (a : Nat) : Ow E w a (.slice none 0 0) 0 [] := ⟨rfl, by rw [cs_len E.len]; rfl, .inl ⟨rfl, rfl⟩⟩
theorem LO.own {α : Type} {E : El α} {w' : World} {b b2 : Nat} {P : Value} {l : List α} (h : LO E w' b (.slice none 0 0) P [] l) (hb : b2 ≤ b) : Ow E w' b2 P l.length l := by
  rcases h with ⟨rfl, rfl⟩ | h
  · exact Ow.nil E w' b2
  · exact Ow.base h hb
theorem Ow.set {α : Type} {E : El α} {w : World} {a n g o : Nat} {v x : Value} {cur : Array Value} {t : TypeId} {l : List α} (h : Ow E w a v n l) (hV : V w g cur t) (ht : t ≠ E.e) : Ow E (w.setCell ⟨g, o, none⟩ x) a v n l :=
  ⟨h.1, own_chg h.2 (cl.chg_set w g o x) (fun k hk e => by
    obtain ⟨cur', hc⟩ := own_type h.2 hk
    rw [e, hV] at hc
    injection hc with hc
    injection hc with _ hc
    exact ht hc)⟩
theorem Ow.setR {α : Type} {E : El α} {w : World} {a n g : Nat} {v : Value} {cur cs : Array Value} {t : TypeId} {l : List α} (h : Ow E w a v n l) (hV : V w g cur t) (ht : t ≠ E.e) : Ow E (w.setRow g cs) a v n l :=
  ⟨h.1, own_chg h.2 (wr.Chg.setRow (S := fun k => k = g) (Chg.refl _ _) (fun _ => rfl) cs) (fun k hk e => by
    obtain ⟨cur', hc⟩ := own_type h.2 hk
    rw [e, hV] at hc
    injection hc with hc
    injection hc with _ hc
    exact ht hc)⟩
set_option maxHeartbeats 4000000 in
set_option maxRecDepth 100000 in
theorem decode_x (w : World) (B n c : Nat) (A : Option Addr) (bs : By) (h : Bs w B A n bs) (hB : B ≤ w.heap.size) (hnc : n ≤ c) (hcm : c ≤ 9223372036854775807) (hn : n ≤ 1000000000) :
    Calls Try.prog 13 #[.slice A n c] w (RetDec w (decM bs)) := by
  have hmf : ∀ (fn : Fn) (first cap : Array Value) (w : World), (Instr.makeFunc fn first cap).run Try.prog w = .ok (.func fn first cap) w := fun _ _ _ _ => rfl
  obtain ⟨N, hN⟩ : ∃ N, w.heap.size = N := ⟨_, rfl⟩
  obtain ⟨w1, hw1⟩ : ∃ w1, (w.alloc (.cells zcells 31)).alloc (.cells #[.int .i64 0] 27) = w1 := ⟨_, rfl⟩
  have hb1 : Below w.heap.size w w1 := by rw [← hw1]; exact ((Below.refl _ _).alloc (Nat.le_refl _) _).alloc (by simp) _
  have g0 : V w1 N zcells 31 := by rw [← hw1, ← hN]; exact alloc_old _ (alloc_new _ _)
  have g1 : w1.heap[N + 1]? = some (.cells #[.int .i64 0] 27 (0, 0)) := by
    rw [← hw1, ← hN]
    have := alloc_new (w.alloc (.cells zcells 31)) (.cells #[.int .i64 0] 27)
    rwa [World.size_alloc] at this
  have hz1 : w1.heap.size = N + 2 := by rw [← hw1, World.size_alloc, World.size_alloc, hN]
  unfold zcells at hw1
  have hl1 : N + 1 < w1.heap.size := by omega
  have HN := Lib.hid hN
  have HBS := Lib.hid h
  have hlen := h.len_
  by_cases hbad : n < 1 ∨ 32768 < n
  · have hdm : decM bs = none := by
      cases bs with
      | nil => rfl
      | cons k s =>
        simp only [List.length_cons] at hlen
        exact if_pos (Or.inl (by omega))
    clear hlen
    by_cases h1 : n < 1
    · clear hbad
      have HDM := Lib.hid hdm
      obtain ⟨rm, re, c3, f3, hl3⟩ := row_facts zcells g0 g1
      have hbR : Below w.heap.size w (w1.setRow N zcells) := bel_row hb1 (Nat.le_refl _) (by omega)
      obtain ⟨kl, ke⟩ := fin_facts 130 rm rfl re
      have KL := Lib.hid kl
      have KE := Lib.hid (load_err ke)
      have HFIN := Lib.hid (show RetDec w (decM bs) (.returned (.tuple #[.agg zcells, .int .i64 130])) ((w1.setRow N zcells).setCell ⟨N + 1, 0, none⟩ (.int .i64 130)) from by rw [HDM.out]; exact ⟨bel1 hbR (by omega) _, rfl⟩)
      clear hb1 g1 hdm kl ke rm re hbR h
      go_enter_defers Try.func13, Try.ntmps13
      go_wp2_with (refine wpList_store_row rfl _ _ _ rfl N zcells (by rfl) (by rfl) _ _ g0 infoMsg rfl zcells_all ?_)
      refine leaves_cons (f := 19) (args := #[.pointer (some ⟨N, 0, none⟩), .pointer (some ⟨N + 1, 0, none⟩)]) (by simp) (by simp [go_sem]) ?_
      refine (dcatch_idle ⟨N, 0, none⟩ ⟨N + 1, 0, none⟩ _).mono ?_
      rintro e u' w'' ⟨rfl, rfl, rfl⟩
      have kl := KL.out
      have ke := KE.out
      simp only [Leaves, settle]
      exact ⟨_, results_two rfl _ _ _ _ _ _ rfl rfl kl ke, HFIN.out⟩
    · have h2 : 32768 < n := by omega
      have h2i : (32768 : Int) < (n : Int) := by omega
      have h1i : ¬ (n : Int) < 1 := by omega
      clear hbad h1 h2
      have HDM := Lib.hid hdm
      obtain ⟨rm, re, c3, f3, hl3⟩ := row_facts zcells g0 g1
      have hbR : Below w.heap.size w (w1.setRow N zcells) := bel_row hb1 (Nat.le_refl _) (by omega)
      obtain ⟨kl, ke⟩ := fin_facts 130 rm rfl re
      have KL := Lib.hid kl
      have KE := Lib.hid (load_err ke)
      have HFIN := Lib.hid (show RetDec w (decM bs) (.returned (.tuple #[.agg zcells, .int .i64 130])) ((w1.setRow N zcells).setCell ⟨N + 1, 0, none⟩ (.int .i64 130)) from by rw [HDM.out]; exact ⟨bel1 hbR (by omega) _, rfl⟩)
      clear hb1 g1 hdm kl ke rm re hbR h
      go_enter_defers Try.func13, Try.ntmps13
      go_wp2_with (refine wpList_store_row rfl _ _ _ rfl N zcells (by rfl) (by rfl) _ _ g0 infoMsg rfl zcells_all ?_)
      refine leaves_cons (f := 19) (args := #[.pointer (some ⟨N, 0, none⟩), .pointer (some ⟨N + 1, 0, none⟩)]) (by simp) (by simp [go_sem]) ?_
      refine (dcatch_idle ⟨N, 0, none⟩ ⟨N + 1, 0, none⟩ _).mono ?_
      rintro e u' w'' ⟨rfl, rfl, rfl⟩
      have kl := KL.out
      have ke := KE.out
      simp only [Leaves, settle]
      exact ⟨_, results_two rfl _ _ _ _ _ _ rfl rfl kl ke, HFIN.out⟩
  · obtain ⟨b, o, ch, rfl, hbB, hg, hcell⟩ := HBS.out.get (show 0 < n by omega)
    have h1i : ¬ (n : Int) < 1 := by omega
    have h2i : ¬ (32768 : Int) < (n : Int) := by omega
    have h0i : (0 : Int) < (n : Int) := by omega
    cases bs with
    | nil => simp at hg
    | cons k s =>
    obtain rfl : ch = k := by simpa using hg.symm
    simp only [List.length_cons] at hlen
    obtain ⟨kn, hkn⟩ : ∃ kn, ch.toNat = kn := ⟨_, rfl⟩
    rw [hkn] at hcell
    have hk256 : kn < 256 := by rw [← hkn]; exact ch.toNat_lt
    have cb : w1.cell? ⟨b, o, none⟩ = some (.int .u8 (kn : Int)) := by rw [hb1.cell (p := ⟨b, o, none⟩) (show b < w.heap.size by omega)]; exact hcell
    have hbl : b < w1.heap.size := by omega
    have HDEC := Lib.hid (show decM (ch :: s) = if 32767 < s.length ∨ kn < 1 ∨ 8 < kn then none else if (pass decC s (kindM kn)).1 = 0 ∧ (pass decC s (kindM kn)).2.1 = [] then some (pass decC s (kindM kn)).2.2 else none by rw [← hkn]; rfl)
    have HLEN := Lib.hid hlen
    clear hlen hcell hg hkn
    by_cases hk : kn < 1 ∨ 8 < kn
    · have hdm : decM (ch :: s) = none := by rw [HDEC.out, if_pos (.inr hk)]
      by_cases h1 : kn < 1
      · have h3i : (kn : Int) < 1 := by omega
        clear hk
        have HDM := Lib.hid hdm
        obtain ⟨rm, re, c3, f3, hl3⟩ := row_facts zcells g0 g1
        have hbR : Below w.heap.size w (w1.setRow N zcells) := bel_row hb1 (Nat.le_refl _) (by omega)
        obtain ⟨kl, ke⟩ := fin_facts 130 rm rfl re
        have KL := Lib.hid kl
        have KE := Lib.hid (load_err ke)
        have HFIN := Lib.hid (show RetDec w (decM (ch :: s)) (.returned (.tuple #[.agg zcells, .int .i64 130])) ((w1.setRow N zcells).setCell ⟨N + 1, 0, none⟩ (.int .i64 130)) from by rw [HDM.out]; exact ⟨bel1 hbR (by omega) _, rfl⟩)
        clear hb1 g1 hdm kl ke rm re hbR h
        go_enter_defers Try.func13, Try.ntmps13
        go_wp2_with (refine wpList_store_row rfl _ _ _ rfl N zcells (by rfl) (by rfl) _ _ g0 infoMsg rfl zcells_all ?_)
        refine leaves_cons (f := 19) (args := #[.pointer (some ⟨N, 0, none⟩), .pointer (some ⟨N + 1, 0, none⟩)]) (by simp) (by simp [go_sem]) ?_
        refine (dcatch_idle ⟨N, 0, none⟩ ⟨N + 1, 0, none⟩ _).mono ?_
        rintro e u' w'' ⟨rfl, rfl, rfl⟩
        have kl := KL.out
        have ke := KE.out
        simp only [Leaves, settle]
        exact ⟨_, results_two rfl _ _ _ _ _ _ rfl rfl kl ke, HFIN.out⟩
      · have h3i : ¬ (kn : Int) < 1 := by omega
        have h4i : (8 : Int) < (kn : Int) := by omega
        clear hk h1
        have HDM := Lib.hid hdm
        obtain ⟨rm, re, c3, f3, hl3⟩ := row_facts zcells g0 g1
        have hbR : Below w.heap.size w (w1.setRow N zcells) := bel_row hb1 (Nat.le_refl _) (by omega)
        obtain ⟨kl, ke⟩ := fin_facts 130 rm rfl re
        have KL := Lib.hid kl
        have KE := Lib.hid (load_err ke)
        have HFIN := Lib.hid (show RetDec w (decM (ch :: s)) (.returned (.tuple #[.agg zcells, .int .i64 130])) ((w1.setRow N zcells).setCell ⟨N + 1, 0, none⟩ (.int .i64 130)) from by rw [HDM.out]; exact ⟨bel1 hbR (by omega) _, rfl⟩)
        clear hb1 g1 hdm kl ke rm re hbR h
        go_enter_defers Try.func13, Try.ntmps13
        go_wp2_with (refine wpList_store_row rfl _ _ _ rfl N zcells (by rfl) (by rfl) _ _ g0 infoMsg rfl zcells_all ?_)
        refine leaves_cons (f := 19) (args := #[.pointer (some ⟨N, 0, none⟩), .pointer (some ⟨N + 1, 0, none⟩)]) (by simp) (by simp [go_sem]) ?_
        refine (dcatch_idle ⟨N, 0, none⟩ ⟨N + 1, 0, none⟩ _).mono ?_
        rintro e u' w'' ⟨rfl, rfl, rfl⟩
        have kl := KL.out
        have ke := KE.out
        simp only [Leaves, settle]
        exact ⟨_, results_two rfl _ _ _ _ _ _ rfl rfl kl ke, HFIN.out⟩
    · have h3i : ¬ (kn : Int) < 1 := by omega
      have h4i : ¬ (8 : Int) < (kn : Int) := by omega
      have HD2 := Lib.hid (show decM (ch :: s) = if (pass decC s (kindM kn)).1 = 0 ∧ (pass decC s (kindM kn)).2.1 = [] then some (pass decC s (kindM kn)).2.2 else none by rw [HDEC.out, if_neg (by have := HLEN.out; omega)])
      have c0 : w1.cell? ⟨N, 0, none⟩ = some (.int .i64 0) := by rw [cell_of_row _ _ _ _ _ _ g0]; rfl
      have f0 : w1.frozen? ⟨N, 0, none⟩ = false := frozen_of_row _ _ _ _ _ g0
      have wk : IntKind.i64.wrap (kn : Int) = (kn : Int) := by rw [IntWalk.i64_in _ (by omega)]
      obtain ⟨w2, hw2⟩ : ∃ w2, w1.setCell ⟨N, 0, none⟩ (.int .i64 (kn : Int)) = w2 := ⟨_, rfl⟩
      have hb2 : Below w.heap.size w w2 := by rw [← hw2]; exact bel1 hb1 (by omega) _
      have hz2 : w2.heap.size = N + 2 := by rw [← hw2]; simpa using hz1
      have v2 : V w2 N (mcells (kindM kn) (.slice none 0 0) (.slice none 0 0)) 31 := by rw [← hw2]; exact g0.set _
      have e2 : w2.heap[N + 1]? = some (.cells #[.int .i64 0] 27 (0, 0)) := by rw [← hw2]; exact set1o g1 (by omega)
      have hcut := bs_cut (HBS.out.below hb2 hB) (show 1 ≤ n by omega) hnc
      rw [show (ch :: s).drop 1 = s from rfl] at hcut
      have hsl : s.length = n - 1 := by have := HLEN.out; omega
      have hs5 : s.length ≤ 100000 := by omega
      have i1 : (1 : Int) ≤ (n : Int) := by omega
      have i3 : (n : Int) ≤ (c : Int) := by omega
      have B2 := Lib.hid hb2
      have V2 := Lib.hid v2
      have E2 := Lib.hid e2
      have HCUT := Lib.hid hcut
      have HSL := Lib.hid hsl
      have HNC := Lib.hid hnc
      clear hb1 g0 g1 hb2 v2 e2 hcut hsl hk h
      by_cases hc1 : c = 1
      · have hcut := HCUT.out
        rw [if_pos hc1] at hcut
        obtain ⟨w3, hw3⟩ : ∃ w3, w2.alloc (.cells #[.slice (some ⟨b, o, none⟩) (n - 1) 0] 62) = w3 := ⟨_, rfl⟩
        have hb3 : Below w2.heap.size w2 w3 := by rw [← hw3]; exact below_al _ _
        have hz3 : w3.heap.size = N + 3 := by rw [← hw3, World.size_alloc, hz2]
        have gg : w3.heap[N + 2]? = some (.cells #[.slice (some ⟨b, o, none⟩) (n - 1) 0] 62 (0, 0)) := by rw [← hw3, ← hz2]; exact alloc_new _ _
        have hnc' := HNC.out
        have hST : StD w3 (N + 2) N s := ⟨b, o, 0, by rw [HSL.out]; exact gg, by rw [HSL.out]; exact (hcut.below hb3 (by omega)).more (by omega), by rw [HSL.out]; omega, by omega, by omega, by omega, by omega⟩
        have hV := blk_below hb3 V2.out (by omega)
        have hb30 : Below w.heap.size w w3 := B2.out.trans (hb3.mono (by omega))
        have hmk : MOk w3 N (kindM kn) none none 0 0 := ⟨⟨⟨rfl, Rd.nil _ _ _⟩, fun _ => rfl, fun x hx => by cases hx⟩, ⟨⟨rfl, Rd.nil _ _ _⟩, fun _ => rfl, fun x hx => by cases hx⟩⟩
        have HPS := Lib.hid (pass_d w3 (N + 2) N N N s (kindM kn) none none 0 0 hST hV hmk (show (0 : Nat) ≤ 1000000000 by decide) (show PtOk (0, 0, 0) from ⟨⟨by decide, by decide⟩, ⟨by decide, by decide⟩⟩) (show (0 : Nat) ≤ 1000000 by decide) (show (0 : Nat) ≤ 1000000 by decide) (by omega) (Nat.le_refl _) (Nat.le_refl _) (by omega) (by omega) (Nat.le_refl _) hs5)
        obtain ⟨r, hr⟩ : ∃ r, pass decC s (kindM kn) = r := ⟨_, rfl⟩
        have h130 := pass_130 s (kindM kn)
        have HD2 := HD2
        rw [hr] at HPS HD2 h130
        have B3 := Lib.hid hb30
        have E3 := Lib.hid (blk_below hb3 E2.out (by omega))
        have H130 := Lib.hid h130
        have hl3 : N + 2 < w3.heap.size := by omega
        clear hST hV hmk hb30 hb3 gg hr h130 HCUT hcut
        obtain ⟨er, l, m'⟩ := r
        go_enter_defers Try.func13, Try.ntmps13
        go_wp2_with (fail)
        refine HPS.out.mono ?_
        clear HPS c0 f0 hw1 hw2 hw3
        intro e w4 hret
        obtain ⟨hc, ⟨h0, rfl, hst, P, M, hV4, hP4, hM4⟩ | ⟨h0, rfl, hvs⟩⟩ := hret
        · simp only at h0 hst hV4 hP4 hM4
          subst h0
          have g4 := hc.blk E3.out (fun e => by
            rcases e with e | e | ⟨_, cur, e⟩
            · omega
            · omega
            · rw [E3.out] at e; injection e with e; injection e with _ e; exact absurd e (by decide))
          have hb4 : Below w.heap.size w w4 := B3.out.trans (hc.below (by omega) (fun k e => by rcases e with e | e | ⟨e, _⟩ <;> omega))
          have oP : Ow PE w4 w.heap.size P m'.pts.length m'.pts := LO.own hP4 (by omega)
          have oM : Ow ME w4 w.heap.size M m'.mts.length m'.mts := LO.own hM4 (by omega)
          obtain ⟨b4, o4, c4, gg, hb5, _⟩ := hst
          have cg := cell1 gg
          have hgl := blk_lt gg
          obtain ⟨L, hL⟩ : ∃ L, l.length = L := ⟨_, rfl⟩
          rw [hL] at cg
          have V4 := Lib.hid hV4
          by_cases hL0 : 0 < L
          · have hLi : (0 : Int) < (L : Int) := by omega
            have hdm : decM (ch :: s) = none := by rw [HD2.out, if_neg (fun e => by have := e.2; rw [show l = [] from this] at hL; simp at hL; omega)]
            obtain ⟨rm, re, c3, f3, hl5⟩ := row_facts zcells hV4 g4
            have hbR : Below w.heap.size w (w4.setRow N zcells) := bel_row hb4 (Nat.le_refl _) (by omega)
            obtain ⟨kl, ke⟩ := fin_facts 130 rm rfl re
            have KL := Lib.hid kl
            have KE := Lib.hid (load_err ke)
            have HFIN := Lib.hid (show RetDec w (decM (ch :: s)) (.returned (.tuple #[.agg zcells, .int .i64 130])) ((w4.setRow N zcells).setCell ⟨N + 1, 0, none⟩ (.int .i64 130)) from by rw [hdm]; exact ⟨bel1 hbR (by omega) _, rfl⟩)
            clear hc gg g4 hb4 oP oM hb5 hL hdm rm re hbR kl ke hP4 hM4 hV4
            go_wp2_with (refine wpList_store_row rfl _ _ _ rfl N zcells (by rfl) (by rfl) _ _ V4.out infoMsg rfl zcells_all ?_)
            refine leaves_cons (f := 19) (args := #[.pointer (some ⟨N, 0, none⟩), .pointer (some ⟨N + 1, 0, none⟩)]) (by simp) (by simp [go_sem]) ?_
            refine (dcatch_idle ⟨N, 0, none⟩ ⟨N + 1, 0, none⟩ _).mono ?_
            rintro e u' w'' ⟨rfl, rfl, rfl⟩
            have kl := KL.out
            have ke := KE.out
            simp only [Leaves, settle]
            exact ⟨_, results_two rfl _ _ _ _ _ _ rfl rfl kl ke, HFIN.out⟩
          · have hLi : ¬ (0 : Int) < (L : Int) := by omega
            have hdm : decM (ch :: s) = some m' := by rw [HD2.out, if_pos ⟨rfl, List.eq_nil_of_length_eq_zero (by show l.length = 0; omega)⟩]
            obtain ⟨rm, re, c3, f3, hl5⟩ := row_facts (mcells m' P M) hV4 g4
            have hbR : Below w.heap.size w (w4.setRow N (mcells m' P M)) := bel_row hb4 (Nat.le_refl _) (by omega)
            obtain ⟨kl, ke⟩ := fin_facts 0 rm rfl re
            have KL := Lib.hid kl
            have KE := Lib.hid (load_err ke)
            have HALL := Lib.hid (mcells_all m' P M (Ow.one oP) (Ow.one oM))
            have HFIN := Lib.hid (show RetDec w (decM (ch :: s)) (.returned (.tuple #[.agg (mcells m' P M), .int .i64 0])) ((w4.setRow N (mcells m' P M)).setCell ⟨N + 1, 0, none⟩ (.int .i64 0)) from by
              rw [hdm]
              exact ⟨bel1 hbR (by omega) _, P, M, rfl, Ow.set (Ow.setR oP hV4 (by decide)) re (by decide), Ow.set (Ow.setR oM hV4 (by decide)) re (by decide)⟩)
            obtain ⟨mm, hmm⟩ : ∃ mm, mcells m' P M = mm := ⟨_, rfl⟩
            have hms : mm.size = 16 := by rw [← hmm]; rfl
            rw [hmm] at KL KE HALL HFIN V4 c3 f3 hl5
            have HMS := Lib.hid hms
            clear hc gg g4 hb4 oP oM hb5 hL hdm rm re hbR kl ke hP4 hM4 hV4 hmm hms
            go_wp2_with (first | (refine wpList_load_row rfl _ _ rfl N (by rfl) _ _ _ _ V4.out Try.underlying31 rfl (by rw [HMS.out]; exact infoMsg) ?_) | (refine wpList_store_row rfl _ _ _ rfl N mm (by rfl) (by rfl) _ _ V4.out (by rw [HMS.out]; exact infoMsg) rfl HALL.out ?_))
            refine leaves_cons (f := 19) (args := #[.pointer (some ⟨N, 0, none⟩), .pointer (some ⟨N + 1, 0, none⟩)]) (by simp) (by simp [go_sem]) ?_
            refine (dcatch_idle ⟨N, 0, none⟩ ⟨N + 1, 0, none⟩ _).mono ?_
            rintro e u' w'' ⟨rfl, rfl, rfl⟩
            have kl := KL.out
            have ke := KE.out
            simp only [Leaves, settle]
            exact ⟨_, results_two rfl _ _ _ _ _ _ rfl rfl kl ke, HFIN.out⟩
        · simp only at h0
          have g4 := hc.blk E3.out (fun e => by
            rcases e with e | e | ⟨_, cur, e⟩
            · omega
            · omega
            · rw [E3.out] at e; injection e with e; injection e with _ e; exact absurd e (by decide))
          have hb4 : Below w.heap.size w w4 := B3.out.trans (hc.below (by omega) (fun k e => by rcases e with e | e | ⟨e, _⟩ <;> omega))
          obtain ⟨old, hos, hvo⟩ := hvs
          have he := H130.out.resolve_left h0
          simp only at he
          subst he
          have hdm : decM (ch :: s) = none := by rw [HD2.out, if_neg (fun e => by exact h0 e.1)]
          obtain ⟨rm, re, c3, f3, hl5⟩ := row_facts zcells hvo g4
          have hbR : Below w.heap.size w (w4.setRow N zcells) := bel_row hb4 (Nat.le_refl _) (by omega)
          obtain ⟨kl, ke⟩ := fin_facts 130 rm rfl re
          have KL := Lib.hid (show (loadVar 31 ⟨N, 0, none⟩).run Try.prog ((w4.setRow N zcells).setCell ⟨N + 1, 0, none⟩ (.int .i64 130)).drew = .ok (.agg zcells) ((w4.setRow N zcells).setCell ⟨N + 1, 0, none⟩ (.int .i64 130)).drew from load_msg (set1o rm (show N ≠ N + 1 by omega)) rfl)
          have KE := Lib.hid (load_err (drew_cell ke))
          have HFIN := Lib.hid (show RetDec w (decM (ch :: s)) (.returned (.tuple #[.agg zcells, .int .i64 130])) ((w4.setRow N zcells).setCell ⟨N + 1, 0, none⟩ (.int .i64 130)).drew from by rw [hdm]; exact ⟨(bel1 hbR (by omega) _).drew, rfl⟩)
          clear hc hb4 hdm rm re hbR kl ke
          go_wp2_with (fail)
          unfold errC
          refine leaves_cons (f := 19) (args := #[.pointer (some ⟨N, 0, none⟩), .pointer (some ⟨N + 1, 0, none⟩)]) (by simp) (by simp [go_sem]) ?_
          refine (dcatch_bad N (N + 1) old _ 130 [] w4 (by omega) hvo hos g4).mono ?_
          rintro e u' w'' ⟨rfl, rfl, rfl⟩
          have kl := KL.out
          have ke := KE.out
          simp only [Leaves, settle]
          exact ⟨_, results_two rfl _ _ _ _ _ _ rfl rfl kl ke, HFIN.out⟩
      · have hcut := HCUT.out
        rw [if_neg hc1] at hcut
        obtain ⟨w3, hw3⟩ : ∃ w3, w2.alloc (.cells #[.slice (some ⟨b, (o + 1), none⟩) (n - 1) (c - 1)] 62) = w3 := ⟨_, rfl⟩
        have hb3 : Below w2.heap.size w2 w3 := by rw [← hw3]; exact below_al _ _
        have hz3 : w3.heap.size = N + 3 := by rw [← hw3, World.size_alloc, hz2]
        have gg : w3.heap[N + 2]? = some (.cells #[.slice (some ⟨b, (o + 1), none⟩) (n - 1) (c - 1)] 62 (0, 0)) := by rw [← hw3, ← hz2]; exact alloc_new _ _
        have hnc' := HNC.out
        have hST : StD w3 (N + 2) N s := ⟨b, (o + 1), (c - 1), by rw [HSL.out]; exact gg, by rw [HSL.out]; exact (hcut.below hb3 (by omega)).more (by omega), by rw [HSL.out]; omega, by omega, by omega, by omega, by omega⟩
        have hV := blk_below hb3 V2.out (by omega)
        have hb30 : Below w.heap.size w w3 := B2.out.trans (hb3.mono (by omega))
        have hmk : MOk w3 N (kindM kn) none none 0 0 := ⟨⟨⟨rfl, Rd.nil _ _ _⟩, fun _ => rfl, fun x hx => by cases hx⟩, ⟨⟨rfl, Rd.nil _ _ _⟩, fun _ => rfl, fun x hx => by cases hx⟩⟩
        have HPS := Lib.hid (pass_d w3 (N + 2) N N N s (kindM kn) none none 0 0 hST hV hmk (show (0 : Nat) ≤ 1000000000 by decide) (show PtOk (0, 0, 0) from ⟨⟨by decide, by decide⟩, ⟨by decide, by decide⟩⟩) (show (0 : Nat) ≤ 1000000 by decide) (show (0 : Nat) ≤ 1000000 by decide) (by omega) (Nat.le_refl _) (Nat.le_refl _) (by omega) (by omega) (Nat.le_refl _) hs5)
        obtain ⟨r, hr⟩ : ∃ r, pass decC s (kindM kn) = r := ⟨_, rfl⟩
        have h130 := pass_130 s (kindM kn)
        have HD2 := HD2
        rw [hr] at HPS HD2 h130
        have B3 := Lib.hid hb30
        have E3 := Lib.hid (blk_below hb3 E2.out (by omega))
        have H130 := Lib.hid h130
        have hl3 : N + 2 < w3.heap.size := by omega
        clear hST hV hmk hb30 hb3 gg hr h130 HCUT hcut
        obtain ⟨er, l, m'⟩ := r
        go_enter_defers Try.func13, Try.ntmps13
        go_wp2_with (fail)
        refine HPS.out.mono ?_
        clear HPS c0 f0 hw1 hw2 hw3
        intro e w4 hret
        obtain ⟨hc, ⟨h0, rfl, hst, P, M, hV4, hP4, hM4⟩ | ⟨h0, rfl, hvs⟩⟩ := hret
        · simp only at h0 hst hV4 hP4 hM4
          subst h0
          have g4 := hc.blk E3.out (fun e => by
            rcases e with e | e | ⟨_, cur, e⟩
            · omega
            · omega
            · rw [E3.out] at e; injection e with e; injection e with _ e; exact absurd e (by decide))
          have hb4 : Below w.heap.size w w4 := B3.out.trans (hc.below (by omega) (fun k e => by rcases e with e | e | ⟨e, _⟩ <;> omega))
          have oP : Ow PE w4 w.heap.size P m'.pts.length m'.pts := LO.own hP4 (by omega)
          have oM : Ow ME w4 w.heap.size M m'.mts.length m'.mts := LO.own hM4 (by omega)
          obtain ⟨b4, o4, c4, gg, hb5, _⟩ := hst
          have cg := cell1 gg
          have hgl := blk_lt gg
          obtain ⟨L, hL⟩ : ∃ L, l.length = L := ⟨_, rfl⟩
          rw [hL] at cg
          have V4 := Lib.hid hV4
          by_cases hL0 : 0 < L
          · have hLi : (0 : Int) < (L : Int) := by omega
            have hdm : decM (ch :: s) = none := by rw [HD2.out, if_neg (fun e => by have := e.2; rw [show l = [] from this] at hL; simp at hL; omega)]
            obtain ⟨rm, re, c3, f3, hl5⟩ := row_facts zcells hV4 g4
            have hbR : Below w.heap.size w (w4.setRow N zcells) := bel_row hb4 (Nat.le_refl _) (by omega)
            obtain ⟨kl, ke⟩ := fin_facts 130 rm rfl re
            have KL := Lib.hid kl
            have KE := Lib.hid (load_err ke)
            have HFIN := Lib.hid (show RetDec w (decM (ch :: s)) (.returned (.tuple #[.agg zcells, .int .i64 130])) ((w4.setRow N zcells).setCell ⟨N + 1, 0, none⟩ (.int .i64 130)) from by rw [hdm]; exact ⟨bel1 hbR (by omega) _, rfl⟩)
            clear hc gg g4 hb4 oP oM hb5 hL hdm rm re hbR kl ke hP4 hM4 hV4
            go_wp2_with (refine wpList_store_row rfl _ _ _ rfl N zcells (by rfl) (by rfl) _ _ V4.out infoMsg rfl zcells_all ?_)
            refine leaves_cons (f := 19) (args := #[.pointer (some ⟨N, 0, none⟩), .pointer (some ⟨N + 1, 0, none⟩)]) (by simp) (by simp [go_sem]) ?_
            refine (dcatch_idle ⟨N, 0, none⟩ ⟨N + 1, 0, none⟩ _).mono ?_
            rintro e u' w'' ⟨rfl, rfl, rfl⟩
            have kl := KL.out
            have ke := KE.out
            simp only [Leaves, settle]
            exact ⟨_, results_two rfl _ _ _ _ _ _ rfl rfl kl ke, HFIN.out⟩
          · have hLi : ¬ (0 : Int) < (L : Int) := by omega
            have hdm : decM (ch :: s) = some m' := by rw [HD2.out, if_pos ⟨rfl, List.eq_nil_of_length_eq_zero (by show l.length = 0; omega)⟩]
            obtain ⟨rm, re, c3, f3, hl5⟩ := row_facts (mcells m' P M) hV4 g4
            have hbR : Below w.heap.size w (w4.setRow N (mcells m' P M)) := bel_row hb4 (Nat.le_refl _) (by omega)
            obtain ⟨kl, ke⟩ := fin_facts 0 rm rfl re
            have KL := Lib.hid kl
            have KE := Lib.hid (load_err ke)
            have HALL := Lib.hid (mcells_all m' P M (Ow.one oP) (Ow.one oM))
            have HFIN := Lib.hid (show RetDec w (decM (ch :: s)) (.returned (.tuple #[.agg (mcells m' P M), .int .i64 0])) ((w4.setRow N (mcells m' P M)).setCell ⟨N + 1, 0, none⟩ (.int .i64 0)) from by
              rw [hdm]
              exact ⟨bel1 hbR (by omega) _, P, M, rfl, Ow.set (Ow.setR oP hV4 (by decide)) re (by decide), Ow.set (Ow.setR oM hV4 (by decide)) re (by decide)⟩)
            obtain ⟨mm, hmm⟩ : ∃ mm, mcells m' P M = mm := ⟨_, rfl⟩
            have hms : mm.size = 16 := by rw [← hmm]; rfl
            rw [hmm] at KL KE HALL HFIN V4 c3 f3 hl5
            have HMS := Lib.hid hms
            clear hc gg g4 hb4 oP oM hb5 hL hdm rm re hbR kl ke hP4 hM4 hV4 hmm hms
            go_wp2_with (first | (refine wpList_load_row rfl _ _ rfl N (by rfl) _ _ _ _ V4.out Try.underlying31 rfl (by rw [HMS.out]; exact infoMsg) ?_) | (refine wpList_store_row rfl _ _ _ rfl N mm (by rfl) (by rfl) _ _ V4.out (by rw [HMS.out]; exact infoMsg) rfl HALL.out ?_))
            refine leaves_cons (f := 19) (args := #[.pointer (some ⟨N, 0, none⟩), .pointer (some ⟨N + 1, 0, none⟩)]) (by simp) (by simp [go_sem]) ?_
            refine (dcatch_idle ⟨N, 0, none⟩ ⟨N + 1, 0, none⟩ _).mono ?_
            rintro e u' w'' ⟨rfl, rfl, rfl⟩
            have kl := KL.out
            have ke := KE.out
            simp only [Leaves, settle]
            exact ⟨_, results_two rfl _ _ _ _ _ _ rfl rfl kl ke, HFIN.out⟩
        · simp only at h0
          have g4 := hc.blk E3.out (fun e => by
            rcases e with e | e | ⟨_, cur, e⟩
            · omega
            · omega
            · rw [E3.out] at e; injection e with e; injection e with _ e; exact absurd e (by decide))
          have hb4 : Below w.heap.size w w4 := B3.out.trans (hc.below (by omega) (fun k e => by rcases e with e | e | ⟨e, _⟩ <;> omega))
          obtain ⟨old, hos, hvo⟩ := hvs
          have he := H130.out.resolve_left h0
          simp only at he
          subst he
          have hdm : decM (ch :: s) = none := by rw [HD2.out, if_neg (fun e => by exact h0 e.1)]
          obtain ⟨rm, re, c3, f3, hl5⟩ := row_facts zcells hvo g4
          have hbR : Below w.heap.size w (w4.setRow N zcells) := bel_row hb4 (Nat.le_refl _) (by omega)
          obtain ⟨kl, ke⟩ := fin_facts 130 rm rfl re
          have KL := Lib.hid (show (loadVar 31 ⟨N, 0, none⟩).run Try.prog ((w4.setRow N zcells).setCell ⟨N + 1, 0, none⟩ (.int .i64 130)).drew = .ok (.agg zcells) ((w4.setRow N zcells).setCell ⟨N + 1, 0, none⟩ (.int .i64 130)).drew from load_msg (set1o rm (show N ≠ N + 1 by omega)) rfl)
          have KE := Lib.hid (load_err (drew_cell ke))
          have HFIN := Lib.hid (show RetDec w (decM (ch :: s)) (.returned (.tuple #[.agg zcells, .int .i64 130])) ((w4.setRow N zcells).setCell ⟨N + 1, 0, none⟩ (.int .i64 130)).drew from by rw [hdm]; exact ⟨(bel1 hbR (by omega) _).drew, rfl⟩)
          clear hc hb4 hdm rm re hbR kl ke
          go_wp2_with (fail)
          unfold errC
          refine leaves_cons (f := 19) (args := #[.pointer (some ⟨N, 0, none⟩), .pointer (some ⟨N + 1, 0, none⟩)]) (by simp) (by simp [go_sem]) ?_
          refine (dcatch_bad N (N + 1) old _ 130 [] w4 (by omega) hvo hos g4).mono ?_
          rintro e u' w'' ⟨rfl, rfl, rfl⟩
          have kl := KL.out
          have ke := KE.out
          simp only [Leaves, settle]
          exact ⟨_, results_two rfl _ _ _ _ _ _ rfl rfl kl ke, HFIN.out⟩
end Go.Proofs.Ythkcnakodlbdpaa.wr
