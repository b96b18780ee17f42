/-
  Messages: the encoder's methods.
-/
import Derived.Test.YthkcnakodlbdpaaWrM
import Derived.Test.YthkcnakodlbdpaaClN2
import Derived.Test.YthkcnakodlbdpaaOrdF
import Derived.Test.YthkcnakodlbdpaaTxt
import Derived.Test.YthkcnakodlbdpaaClR
namespace Go.Proofs.Ythkcnakodlbdpaa.wr
open Go.ChangeShapes Go.WideShapes Go.ChangeAt Go.RowKit plain words ord mem uvs uvc

theorem below_al (w : World) (o : Obj) : Below w.heap.size w (w.alloc o) := (Below.refl _ _).alloc (Nat.le_refl _) _
def errC (x : Int) : List PanicEntry := [{ v := .iface 27 (.int .i64 x), recovered := false }]
/-- the encoder: bytes in a row of its own, from block B on -/
def StE (w : World) (g B : Nat) (l : By) : Prop :=
  ∃ A c, w.heap[g]? = some (.cells #[.slice A l.length c] 52 (0, 0)) ∧ w.ownsRow B 5 1 (.slice A l.length c) l.length (u8s l)
/-- a variable's block -/
abbrev V (w : World) (mb : Nat) (cur : Array Value) (t : TypeId) : Prop := w.heap[mb]? = some (.cells cur t (0, 0))
/-- what may change: the coder, the variable, and rows of bytes from B on -/
def FR (w : World) (g B mb k : Nat) : Prop := k = g ∨ k = mb ∨ (B ≤ k ∧ ∃ cur, w.heap[k]? = some (.cells cur 5 (0, 0)))
def TB (w : World) (g B k : Nat) : Prop := k = g ∨ (B ≤ k ∧ ∃ cur, w.heap[k]? = some (.cells cur 5 (0, 0)))
theorem TB.fr {w : World} {g B mb k : Nat} (h : TB w g B k) : FR w g B mb k := h.elim .inl fun e => .inr (.inr e)
/-- a field was passed -/
def RetE {α : Type} (w : World) (g B mb : Nat) (cur : Array Value) (t : TypeId) (put : Array Value → α → Array Value) (r : R α) (e : Ending) (w' : World) : Prop :=
  Chg (FR w g B mb) w w' ∧ ((r.1 = 0 ∧ e = .returned (.tuple #[]) ∧ StE w' g B r.2.1 ∧ V w' mb (put cur r.2.2) t) ∨ (r.1 ≠ 0 ∧ e = .panicked (errC r.1)))
def RetOut (w : World) (g B : Nat) (l : By) (w' : World) : Prop := StE w' g B l ∧ Chg (TB w g B) w w'
theorem own_fit {w : World} {B n : Nat} {v : Value} {l : By} (hl : l.length = n) (h : w.ownsRow B 5 1 v n (u8s l)) : ∃ A c, v = .slice A n c ∧ (A = none → c = 0) ∧ n ≤ c ∧ c ≤ 9223372036854775807 := cl.own_fit hl h
/-- the row is not the coder's block -/
theorem own_ne {w : World} {g B n : Nat} {v v0 : Value} {l : List Value} (ho : w.ownsRow B 5 1 v n l) (hg : w.heap[g]? = some (.cells #[v0] 52 (0, 0))) (hk : v.ownBlock = some g) : False := by
  rcases ho.2 with ⟨e, _⟩ | ⟨g', cap, cur, e, _, h3, _⟩
  · rw [e] at hk; cases hk
  · rw [e] at hk; injection hk with hk
    have hk : g' = g := hk
    subst hk; rw [hg] at h3; injection h3 with h3; injection h3 with _ h3; exact absurd h3 (by decide)
theorem out_put {w w2 : World} {g B n : Nat} {v0 v2 : Value} {l : By} (hg : w2.heap[g]? = some (.cells #[v0] 52 (0, 0))) (ho : w2.ownsRow B 5 1 v2 n (u8s l)) (hl : l.length = n) (hb : Chg (TB w g B) w w2) (hgB : True) :
    RetOut w g B l (w2.setCell ⟨g, 0, none⟩ v2) := by
  subst hl
  obtain ⟨A, c, rfl, _⟩ := own_fit rfl ho
  refine ⟨⟨A, c, ?_, own_chg ho (cl.chg_set w2 g 0 _) (fun k hk e => own_ne ho hg (by rw [hk, e]))⟩, hb.setCell (p := ⟨g, 0, none⟩) (fun _ => .inl rfl) _⟩
  have := heap_setCell_same w2 g 0 _ _ (.slice A l.length c) hg
  simpa using this
theorem set_same {cur : Array Value} {i : Nat} {v : Value} (h : cur[i]? = some v) : cur.setIfInBounds i v = cur := by
  apply Array.ext_getElem?
  intro j
  by_cases e : i = j
  · subst e
    have hi : i < cur.size := by
      rcases Nat.lt_or_ge i cur.size with h1 | h1
      · exact h1
      · rw [Array.getElem?_eq_none h1] at h; cases h
    rw [Array.getElem?_setIfInBounds_self_of_lt hi, h]
  · rw [Array.getElem?_setIfInBounds_ne e]
/-- the variable stays: it is no row of bytes, and not the coder -/
theorem V.tb {w w' : World} {g B mb : Nat} {cur : Array Value} {t : TypeId} (h : V w mb cur t) (hc : Chg (TB w g B) w w') (hne : mb ≠ g) (ht : t ≠ 5) : V w' mb cur t := by
  refine hc.blk h fun e => ?_
  rcases e with e | ⟨_, cur', e⟩
  · exact hne e
  · rw [h] at e
    injection e with e
    injection e with _ e
    exact ht e
set_option maxHeartbeats 2000000 in
set_option maxRecDepth 100000 in
theorem num_e (w : World) (g B mb off : Nat) (cur : Array Value) (t : TypeId) (l : By) (v most : Int) (h : StE w g B l) (hV : V w mb cur t) (hv : cur[off]? = some (.int .i64 v)) (hne : mb ≠ g) (ht : t ≠ 5) (hgB : True) (hB : B ≤ w.heap.size) (hn : l.length ≤ 1000000000) (hm : most ≤ 2199023255552) :
    Calls Try.prog 60 #[.pointer (some ⟨g, 0, none⟩), .pointer (some ⟨mb, off, none⟩), .int .i64 most] w (RetE w g B mb cur t (fun cur x => cur.setIfInBounds off (.int .i64 x)) (numE l v most)) := by
  obtain ⟨i0, hi, hz0, hz1, hz2⟩ := info_parts mem.infoB
  obtain ⟨A, c, hg, ho⟩ := h
  have hgl := blk_lt hg
  have hml := blk_lt hV
  have c0 : w.cell? ⟨g, 0, none⟩ = some (.slice A l.length c) := by rw [cell_of_row _ _ _ _ _ _ hg]; rfl
  have c1 : w.cell? ⟨mb, off, none⟩ = some (.int .i64 v) := by rw [cell_of_row _ _ _ _ _ _ hV]; exact hv
  have HSET := Lib.hid (set_same hv)
  have HVV := Lib.hid hV
  clear hv hV
  by_cases hbad : v < 0 ∨ most < v
  · have HR := Lib.hid (show numE l v most = (1, l, v) by unfold numE; rw [if_pos hbad])
    have HE := Lib.hid (show RetE w g B mb cur t (fun cur x => cur.setIfInBounds off (.int .i64 x)) (numE l v most) (.panicked (errC 1)) w from ⟨Chg.refl _ _, .inr ⟨by rw [HR.out]; simp, by rw [HR.out]⟩⟩)
    by_cases h0 : v < 0
    · clear hbad
      go_enter Try.func60, Try.ntmps60
      go_wp2_with (fail)
      exact ⟨rfl, HE.out⟩
    · have h1 : most < v := by omega
      clear hbad
      go_enter Try.func60, Try.ntmps60
      go_wp2_with (fail)
      exact ⟨rfl, HE.out⟩
  · have hlo : ¬ v < 0 := fun e => hbad (.inl e)
    have hhi : ¬ most < v := fun e => hbad (.inr e)
    have HR := Lib.hid (show numE l v most = (0, l ++ uv v.toNat, v) by unfold numE; rw [if_neg hbad])
    obtain ⟨z, rfl⟩ : ∃ z : Nat, v = (z : Int) := ⟨v.toNat, by omega⟩
    have hz : z ≤ 2199023255552 := by omega
    have huv := uvarint_x w.drew 0 0 0 none [] z (Rd.nil _ _ _) (Nat.zero_le _) (by omega) (by omega)
    rw [List.nil_append] at huv
    have hul := uv_len z
    have hz' : (z : Int) % 18446744073709551616 = (z : Int) := by omega
    have HUV := Lib.hid huv
    have HUL := Lib.hid hul
    have HG := Lib.hid hg
    have HO := Lib.hid ho
    obtain ⟨L, hL⟩ : ∃ L, l.length = L := ⟨_, rfl⟩
    rw [hL] at HG HO c0 hn
    have HL := Lib.hid hL
    have z0 := Wb.at_ c0
    have z1 := Wb.at_ c1
    have HRET := Lib.hid (fun (w' : World) (hr : RetOut w g B (l ++ uv z) w') => (show RetE w g B mb cur t (fun cur x => cur.setIfInBounds off (.int .i64 x)) (numE l z most) (.returned (.tuple #[])) w' from ⟨hr.2.mono (fun _ _ e => e.fr), .inl ⟨by rw [HR.out], rfl, by rw [HR.out]; simpa using hr.1, by rw [HR.out]; simp only; rw [HSET.out]; exact HVV.out.tb hr.2 hne ht⟩⟩))
    clear huv hul hg ho hL hbad
    go_enter Try.func60, Try.ntmps60
    go_wp2_with (fail)
    refine wp_region_plan [([0, 1, 2, 3, 4, 5, 6, 7, 8], some (9, false)), ([], some (10, true)), ([11, 12], some (13, true)), ([], none)] (by kernel_rfl) (by kernel_rfl) ?_
    refine seg_act _ (by dsimp only [pick, ord.at_]) _ (by dsimp only [pick, ord.at_]) ?_
    repeat (go_big_quiet_step (fail))
    refine wpQuiet_nil ?_
    intro K1 h1 h2
    clear h1
    go_wp2_with (fail)
    refine HUV.out.mono ?_
    rintro e w1 ⟨A', c', rfl, hown, hb⟩
    have hrd := own_rd hown
    have hL2 := HUL.out
    have hs1 : w.heap.size ≤ w1.heap.size := hb.size
    have hb1 : Below w.heap.size w w1 := (Below.refl _ _).drew.trans hb
    have ho1 : w1.ownsRow B 5 1 (.slice A L c) L (u8s l) := own_keep HO.out hb1 (Nat.le_refl _)
    have g1 : w1.heap[g]? = some (.cells #[.slice A L c] 52 (0, 0)) := blk_below hb1 HG.out hgl
    have HB1 := Lib.hid hb1
    clear hb hb1 z0 c0 z1 c1
    go_wp2_with (fail)
    refine h2 _ _ HB1.out ?_
    refine seg_write _ (by dsimp only [pick, ord.at_]) _ (by dsimp only [pick, ord.at_]) ?_
    repeat (go_big_quiet_step (fail))
    refine wpQuiet_nil ?_
    intro K2 g2
    go_wp2_with (at_builtin; (refine wpList_append_rd rfl (.tmp 22) (.tmp 27) 33 rfl B 5 i0 (.int .u8 0) 1 1 Try.underlying33 hi hz0 hz1 hz2 rfl (by decide) (.slice A L c) L (u8s l) rfl ho1 w1.heap.size A' (uv z).length c' (fun e => by
      rcases own_form hown with ⟨e', _⟩ | ⟨g, cap, e', _⟩
      · injection e'
      · rw [e] at e'; injection e' with e'; cases e') (u8s (uv z)) rfl hrd (u8s_one _) (by unfold maxLen; omega) (by omega) (by omega) ?_; intro v2 w2 hown2 hg2 hnn2; have gb2 : w2.heap[g]? = some (.cells #[.slice A L c] 52 (0, 0)) := (hg2.block g (blk_lt g1) (fun e => own_ne ho1 g1 e.symm)).trans g1; have hbg2 : Chg (TB w g B) w w2 := ((Chg.of_below HB1.out).mono (fun _ _ e => e.elim)).grown hg2 (fun k hk _ => .inr ⟨(ho1.lt k hk).1, own_type HO.out hk⟩); have c2 : w2.cell? ⟨g, 0, none⟩ = some (.slice A L c) := (by rw [cell_of_row _ _ _ _ _ _ gb2]; rfl); have f2 := frozen_of_row w2 g 0 _ _ gb2; have hgl2 := blk_lt gb2))
    have hlen : (l ++ uv z).length = L + (uv z).length := by rw [List.length_append, HL.out]
    have HF := Lib.hid (out_put (w := w) (l := l ++ uv z) gb2 (by rw [u8s_append]; exact hown2) hlen hbg2 hgB)
    obtain ⟨A2, cc2, rfl, _⟩ := own_fit hlen (by rw [u8s_append]; exact hown2)
    clear hown2 hg2 hnn2 gb2 hbg2 hown hrd hlen ho1 g1
    refine seg_write _ (by dsimp only [pick, ord.at_]) _ (by dsimp only [pick, ord.at_]) ?_
    repeat (go_big_quiet_step (fail))
    refine wpQuiet_nil ?_
    intro K3 g3
    go_wp2_with (fail)
    refine seg_end _ (by dsimp only [pick, ord.at_]) ?_
    repeat (go_big_quiet_step (fail))
    refine wpQuiet_nil (NoPanic.normal ?_)
    go_wp2_with (fail)
    go_end0
    exact HRET.out _ HF.out
theorem tb_trans {a b c : World} {g B : Nat} (h : Chg (TB a g B) a b) (k : Chg (TB b g B) b c) : Chg (TB a g B) a c :=
  h.trans k fun i hi e => by
    by_cases hs : TB a g B i
    · exact hs
    · have hb := h.block i hi hs
      rcases e with e | ⟨e1, cur, e2⟩
      · exact .inl e
      · exact .inr ⟨e1, cur, by rw [← hb]; exact e2⟩
theorem fr_trans {a b c : World} {g B mb : Nat} (h : Chg (FR a g B mb) a b) (k : Chg (FR b g B mb) b c) : Chg (FR a g B mb) a c :=
  h.trans k fun i hi e => by
    by_cases hs : FR a g B mb i
    · exact hs
    · have hb := h.block i hi hs
      rcases e with e | e | ⟨e1, cur, e2⟩
      · exact .inl e
      · exact .inr (.inl e)
      · exact .inr (.inr ⟨e1, cur, by rw [← hb]; exact e2⟩)
theorem StE.below {w w' : World} {g B C : Nat} {l : By} (h : StE w g B l) (hb : Below C w w') (hC : w.heap.size ≤ C) : StE w' g B l := by
  obtain ⟨A, c, hg, ho⟩ := h
  exact ⟨A, c, blk_below hb hg (Nat.lt_of_lt_of_le (blk_lt hg) hC), own_keep ho hb hC⟩
theorem StE.lt {w : World} {g B : Nat} {l : By} (h : StE w g B l) : g < w.heap.size := by obtain ⟨A, c, hg, _⟩ := h; exact blk_lt hg
theorem count_e (w : World) (g B mb off : Nat) (cur : Array Value) (t : TypeId) (l : By) (v most : Int) (h : StE w g B l) (hV : V w mb cur t) (hv : cur[off]? = some (.int .i64 v)) (hne : mb ≠ g) (ht : t ≠ 5) (hgB : True) (hB : B ≤ w.heap.size) (hn : l.length ≤ 1000000000) (hm : most ≤ 2199023255552) :
    Calls Try.prog 57 #[.pointer (some ⟨g, 0, none⟩), .pointer (some ⟨mb, off, none⟩), .int .i64 most] w (RetE w g B mb cur t (fun cur x => cur.setIfInBounds off (.int .i64 x)) (cntE l v most)) := by
  have HN := Lib.hid (num_e w g B mb off cur t l v most h hV hv hne ht hgB hB hn hm)
  have hml := blk_lt hV
  have c1 : w.cell? ⟨mb, off, none⟩ = some (.int .i64 v) := by rw [cell_of_row _ _ _ _ _ _ hV]; exact hv
  clear h hV hv
  by_cases hb : most < v
  · have HR := Lib.hid (show cntE l v most = (52, l, v) by unfold cntE; rw [if_pos hb])
    have HE := Lib.hid (show RetE w g B mb cur t (fun cur x => cur.setIfInBounds off (.int .i64 x)) (cntE l v most) (.panicked (errC 52)) w from ⟨Chg.refl _ _, .inr ⟨by rw [HR.out]; simp, by rw [HR.out]⟩⟩)
    go_enter Try.func57, Try.ntmps57
    go_wp2_with (fail)
    exact ⟨rfl, HE.out⟩
  · have HR := Lib.hid (show cntE l v most = numE l v most by unfold cntE; rw [if_neg hb])
    obtain ⟨rr, hrr⟩ : ∃ rr, numE l v most = rr := ⟨_, rfl⟩
    rw [hrr] at HN HR
    obtain ⟨er, s', v'⟩ := rr
    rw [HR.out]
    clear hrr
    go_enter Try.func57, Try.ntmps57
    go_wp2_with (fail)
    refine HN.out.mono ?_
    intro e w1 hr
    have HRR := Lib.hid hr
    obtain ⟨_, ⟨_, rfl, _⟩ | ⟨_, rfl⟩⟩ := hr
    · go_wp2_with (fail)
      go_end0
      exact HRR.out
    · go_wp2_with (fail)
      exact ⟨rfl, HRR.out⟩
set_option maxHeartbeats 2000000 in
set_option maxRecDepth 100000 in
theorem fix_e (w : World) (g B mb off : Nat) (cur : Array Value) (t : TypeId) (l : By) (v k : Nat) (h : StE w g B l) (hV : V w mb cur t) (hv : cur[off]? = some (.int .u64 v)) (hne : mb ≠ g) (ht : t ≠ 5) (hgB : True) (hB : B ≤ w.heap.size) (hn : l.length ≤ 1000000000) (hvv : v < 18446744073709551616) (hk : k ≤ 8) :
    Calls Try.prog 58 #[.pointer (some ⟨g, 0, none⟩), .pointer (some ⟨mb, off, none⟩), .int .i64 k] w (RetE w g B mb cur t (fun cur x => cur.setIfInBounds off (.int .u64 x)) (fixE l v k)) := by
  obtain ⟨i0, hi, hz0, hz1, hz2⟩ := info_parts mem.infoB
  have HO := Lib.hid h
  have hgl : g < w.heap.size := h.lt
  have HV := Lib.hid hvv
  have HRET := Lib.hid (fun (w' : World) (h1 : StE w' g B (l ++ cl.be k v)) (h2 : Chg (TB w g B) w w') => (show RetE w g B mb cur t (fun cur x => cur.setIfInBounds off (.int .u64 x)) (fixE l v k) (.returned (.tuple #[])) w' from ⟨h2.mono (fun _ _ e => e.fr), .inl ⟨rfl, rfl, by simpa [fixE] using h1, by simp only [fixE]; rw [set_same hv]; exact V.tb hV h2 hne ht⟩⟩))
  have HVT := Lib.hid (fun (w' : World) (h2 : Chg (TB w g B) w w') => (show w'.cell? ⟨mb, off, none⟩ = some (.int .u64 v) ∧ mb < w'.heap.size from ⟨by rw [cell_of_row _ _ _ _ _ _ (V.tb hV h2 hne ht)]; exact hv, blk_lt (V.tb hV h2 hne ht)⟩))
  clear h hvv hV hv
  have k1 : IntKind.i64.wrap ((k : Int) - 1) = (k : Int) - 1 := by rw [IntWalk.i64_in _ (by omega)]
  go_enter Try.func58, Try.ntmps58
  go_wp2_with (fail)
  go_loopg [6] k (fun gg s6 wr => ∃ (j : Nat), s6 = .int .i64 ((k : Int) - 1 - j) ∧ j ≤ k ∧ k - j ≤ gg ∧ Aside (StE wr g B (l ++ cl.be j (v / 256 ^ (k - j)))) ∧ Aside (Chg (TB w g B) w wr))
  case atStart => exact ⟨0, by simp, Nat.zero_le _, by omega, (show StE w g B (l ++ []) by rw [List.append_nil]; exact HO.out), Chg.refl _ _⟩
  case round =>
    clear k1
    obtain ⟨j, rfl, hj, hg, OV, BW⟩ := hrel
    obtain ⟨wv, rfl⟩ : ∃ wv, wv = wr := ⟨wr, rfl⟩
    obtain ⟨cv, hmv⟩ := HVT.out wv BW.out
    by_cases hlt : j < k
    · obtain ⟨m, hm⟩ : ∃ m : Nat, k - (j + 1) = m := ⟨_, rfl⟩
      have hmi : (k : Int) - 1 - (j : Int) = (m : Int) := by omega
      rw [hmi]
      have HMORE := Lib.hid (cl.be_more k j v hlt)
      rw [hm] at HMORE
      obtain ⟨A, c, gb, ho⟩ := OV.out
      have hYl : (l ++ cl.be j (v / 256 ^ (k - j))).length ≤ 1000000008 := by rw [List.length_append, cl.be_len]; omega
      obtain ⟨Y, hY⟩ : ∃ Y, l ++ cl.be j (v / 256 ^ (k - j)) = Y := ⟨_, rfl⟩
      rw [hY] at gb ho hYl
      have HY := Lib.hid hY
      have c0 : wv.cell? ⟨g, 0, none⟩ = some (.slice A Y.length c) := by rw [cell_of_row _ _ _ _ _ _ gb]; rfl
      have hbv := blk_lt gb
      obtain ⟨L, hL⟩ : ∃ L, Y.length = L := ⟨_, rfl⟩
      rw [hL] at gb ho hYl c0
      have HL := Lib.hid hL
      have HG := Lib.hid gb
      have HO2 := Lib.hid ho
      have m0 : (0 : Int) ≤ (m : Int) := by omega
      have m8 : m < 8 := by omega
      obtain ⟨D, hD⟩ : ∃ D : Nat, v / 256 ^ m = D := ⟨_, rfl⟩
      obtain ⟨ch, hch⟩ : ∃ ch, UInt8.ofNat (D % 256) = ch := ⟨_, rfl⟩
      have hval : (v : Int) / 2 ^ (8 * m) % 256 = (ch.toNat : Int) := by
        rw [← hch, ofNat_lt _ (by omega), ← hD]
        have e2 : ((2 : Int) ^ (8 * m)) = ((256 ^ m : Nat) : Int) := by rw [Int.pow_mul]; simp
        rw [e2]
        simp
      have w8 : IntKind.i64.wrap (8 * (m : Int)) = 8 * (m : Int) := by rw [IntWalk.i64_in _ (by omega)]
      rw [hD, hch] at HMORE
      have HD := Lib.hid hD
      have z0 := Wb.at_ c0
      have z1 := Wb.at_ cv
      clear OV hY hL gb ho hmi HO hD hch
      go_wp2_with (fail)
      refine wp_region_plan [([0, 1, 2, 3, 4, 5, 6, 7, 8, 9, 10, 11], some (12, false)), ([], some (13, true)), ([14, 15], some (16, true)), ([], none)] (by kernel_rfl) (by kernel_rfl) ?_
      refine seg_act _ (by dsimp only [pick, ord.at_]) _ (by dsimp only [pick, ord.at_]) ?_
      repeat (go_big_quiet_step (fail))
      refine wpQuiet_nil ?_
      intro K1 h1 h2
      clear h1
      go_wp2_with (fail)
      have hb1 : Below wv.heap.size wv ((wv.alloc (.cells #[.int .u8 (ch.toNat : Int)] 5)).drew) := ((Below.refl _ _).alloc (Nat.le_refl _) _).drew
      have hnew : Rd (wv.alloc (.cells #[.int .u8 (ch.toNat : Int)] 5)) (wv.heap.size + 1) (some ⟨wv.heap.size, 0, none⟩) 1 (u8s [ch]) := rd_lit 5 (u8s [ch]) rfl
      have hnew := hnew.drew
      obtain ⟨w1, hw1⟩ : ∃ w1, (wv.alloc (.cells #[.int .u8 (ch.toNat : Int)] 5)).drew = w1 := ⟨_, rfl⟩
      rw [hw1] at hb1 hnew ⊢
      have hs1 : wv.heap.size ≤ w1.heap.size := hb1.size
      have hsB : B ≤ wv.heap.size := Nat.le_trans hB BW.out.size
      have ho1 : w1.ownsRow B 5 1 (.slice A L c) L (u8s Y) := own_keep HO2.out hb1 (Nat.le_refl _)
      have g1 : w1.heap[g]? = some (.cells #[.slice A L c] 52 (0, 0)) := blk_below hb1 HG.out hbv
      refine h2 _ _ hb1 ?_
      clear h2 z0 z1 cv
      refine seg_write _ (by dsimp only [pick, ord.at_]) _ (by dsimp only [pick, ord.at_]) ?_
      repeat (go_big_quiet_step (fail))
      refine wpQuiet_nil ?_
      intro K2 g2
      go_wp2_with (at_builtin; (refine wpList_append_rd rfl (.tmp 17) (.tmp 25) 33 rfl B 5 i0 (.int .u8 0) 1 1 Try.underlying33 hi hz0 hz1 hz2 rfl (by decide) (.slice A L c) L (u8s Y) rfl ho1 (wv.heap.size + 1) _ 1 1 (fun e => by cases e) (u8s [ch]) rfl hnew (u8s_one _) (by unfold maxLen; omega) (by omega) (by omega) ?_; intro v2 w2 hown2 hg2 hnn2; have gb2 : w2.heap[g]? = some (.cells #[.slice A L c] 52 (0, 0)) := (hg2.block g (blk_lt g1) (fun e => own_ne ho1 g1 e.symm)).trans g1; have hbg2 : Chg (TB wv g B) wv w2 := ((Chg.of_below hb1).mono (fun _ _ e => e.elim)).grown hg2 (fun k hk _ => .inr ⟨(ho1.lt k hk).1, own_type HO2.out hk⟩); have c2 : w2.cell? ⟨g, 0, none⟩ = some (.slice A L c) := (by rw [cell_of_row _ _ _ _ _ _ gb2]; rfl); have f2 := frozen_of_row w2 g 0 _ _ gb2; have hgl2 := blk_lt gb2))
      have hlen : (Y ++ [ch]).length = L + 1 := by rw [List.length_append, HL.out]; rfl
      have HF := Lib.hid (out_put (w := wv) (l := Y ++ [ch]) gb2 (by rw [u8s_append]; exact hown2) hlen hbg2 hgB)
      obtain ⟨A2, cc2, rfl, _⟩ := own_fit hlen (by rw [u8s_append]; exact hown2)
      clear hown2 hg2 hnn2 gb2 hbg2 hnew hlen ho1 g1 hb1 hw1
      refine seg_write _ (by dsimp only [pick, ord.at_]) _ (by dsimp only [pick, ord.at_]) ?_
      repeat (go_big_quiet_step (fail))
      refine wpQuiet_nil ?_
      intro K3 g3
      go_wp2_with (fail)
      refine seg_end _ (by dsimp only [pick, ord.at_]) ?_
      repeat (go_big_quiet_step (fail))
      refine wpQuiet_nil (NoPanic.normal ?_)
      have w9 : IntKind.i64.wrap ((m : Int) - 1) = (m : Int) - 1 := by rw [IntWalk.i64_in _ (by omega)]
      go_wp2_with (fail)
      go_roundg (k - (j + 1))
      case measure => omega
      case rel =>
        refine ⟨j + 1, ?_, by omega, by omega, ?_, tb_trans BW.out HF.out.2⟩
        · congr 1; omega
        · show StE _ g B (l ++ cl.be (j + 1) (v / 256 ^ (k - (j + 1))))
          rw [show k - (j + 1) = m from hm, HD.out, HMORE.out, ← List.append_assoc, HY.out]
          exact HF.out.1
    · have hjk : j = k := by omega
      subst hjk
      have i1 : ¬ (0 : Int) ≤ (j : Int) - 1 - (j : Int) := by omega
      go_wp2_with (fail)
      go_end0
      refine HRET.out _ ?_ BW.out
      have := OV.out
      rw [Nat.sub_self, Nat.pow_zero, Nat.div_one] at this
      exact this
set_option maxHeartbeats 2000000 in
set_option maxRecDepth 100000 in
theorem text_e (w : World) (g B mb off : Nat) (cur : Array Value) (t : TypeId) (l id : By) (h : StE w g B l) (hV : V w mb cur t) (hv : cur[off]? = some (.string (cl.tx id))) (hne : mb ≠ g) (ht : t ≠ 5) (hgB : True) (hB : B ≤ w.heap.size) (hn : l.length ≤ 999999900) (hid : id.length ≤ 1000000000) :
    Calls Try.prog 61 #[.pointer (some ⟨g, 0, none⟩), .pointer (some ⟨mb, off, none⟩)] w (RetE w g B mb cur t (fun cur x => cur.setIfInBounds off (.string (cl.tx x))) (txtE l id)) := by
  obtain ⟨i0, hi, hz0, hz1, hz2⟩ := info_parts mem.infoB
  have hml := blk_lt hV
  have hgl := h.lt
  have c1 : w.cell? ⟨mb, off, none⟩ = some (.string (cl.tx id)) := by rw [cell_of_row _ _ _ _ _ _ hV]; exact hv
  have HVT := Lib.hid (fun (w' : World) (h2 : Chg (TB w g B) w w') => (show w'.cell? ⟨mb, off, none⟩ = some (.string (cl.tx id)) ∧ mb < w'.heap.size from ⟨by rw [cell_of_row _ _ _ _ _ _ (V.tb hV h2 hne ht)]; exact hv, blk_lt (V.tb hV h2 hne ht)⟩))
  have hsz := cl.tx_size id
  obtain ⟨n, hn0⟩ : ∃ n, id.length = n := ⟨_, rfl⟩
  rw [hn0] at hsz hid
  by_cases hb : 16 < n
  · have hbz : (16 : Int) < (n : Int) := by omega
    have HR := Lib.hid (show txtE l id = (80, l, id) by unfold txtE; rw [if_pos (by rw [hn0]; exact hb)])
    have HE := Lib.hid (show RetE w g B mb cur t (fun cur x => cur.setIfInBounds off (.string (cl.tx x))) (txtE l id) (.panicked (errC 80)) w from ⟨Chg.refl _ _, .inr ⟨by rw [HR.out]; simp, by rw [HR.out]⟩⟩)
    clear h hV hv hn0
    go_enter Try.func61, Try.ntmps61
    go_wp2_with (fail)
    exact ⟨rfl, HE.out⟩
  · have hbz : ¬ (16 : Int) < (n : Int) := by omega
    have HR := Lib.hid (show txtE l id = (0, l ++ uv n ++ id, id) by unfold txtE; rw [if_neg (by rw [hn0]; exact hb), hn0])
    have HRET := Lib.hid (fun (w' : World) (h1 : StE w' g B (l ++ uv n ++ id)) (h2 : Chg (TB w g B) w w') => (show RetE w g B mb cur t (fun cur x => cur.setIfInBounds off (.string (cl.tx x))) (txtE l id) (.returned (.tuple #[])) w' from ⟨h2.mono (fun _ _ e => e.fr), .inl ⟨by rw [HR.out], rfl, by rw [HR.out]; exact h1, by rw [HR.out]; simp only; rw [set_same hv]; exact V.tb hV h2 hne ht⟩⟩))
    obtain ⟨w1, hw1⟩ : ∃ w1, w.alloc (.cells #[.int .i64 n] 3) = w1 := ⟨_, rfl⟩
    have hb1 : Below w.heap.size w w1 := by rw [← hw1]; exact below_al _ _
    have hs1 : w1.heap.size = w.heap.size + 1 := by rw [← hw1]; simp
    have HNM := Lib.hid (num_e w1 g B w.heap.size 0 #[.int .i64 n] 3 l n 16 (h.below hb1 (Nat.le_refl _)) (by rw [← hw1]; exact alloc_new _ _) rfl (by omega) (by decide) hgB (by omega) (by omega) (by omega))
    have HNR := Lib.hid (show numE l n 16 = (0, l ++ uv n, (n : Int)) by unfold numE; rw [if_neg (by omega)]; simp)
    rw [HNR.out] at HNM
    have HB1 := Lib.hid hb1
    have HN0 := Lib.hid hn0
    clear h hV hv hn0 hb1
    go_enter Try.func61, Try.ntmps61
    go_wp2_with (fail)
    refine HNM.out.mono ?_
    intro e w2 hr
    obtain ⟨hc2, ⟨_, rfl, hst, _⟩ | ⟨hno, _⟩⟩ := hr
    · have hcT : Chg (TB w g B) w w2 := ((Chg.of_below HB1.out).mono (S' := TB w g B) (fun _ _ e => e.elim)).trans hc2 (fun i hi e => by
        rcases e with e | e | ⟨e1, cur', e2⟩
        · exact .inl e
        · omega
        · exact .inr ⟨e1, cur', by rw [← HB1.out.block i hi]; exact e2⟩)
      obtain ⟨cv, hmv⟩ := HVT.out w2 hcT
      obtain ⟨A, c, hg, ho⟩ := hst
      have HCT := Lib.hid hcT
      simp only at hg ho
      have hYl : (l ++ uv n).length ≤ 999999910 := by have := (uv_len n).2; rw [List.length_append]; omega
      obtain ⟨Y, hY⟩ : ∃ Y, l ++ uv n = Y := ⟨_, rfl⟩
      rw [hY] at hg ho hYl HRET
      obtain ⟨L, hL⟩ : ∃ L, Y.length = L := ⟨_, rfl⟩
      rw [hL] at hg ho hYl
      have HL := Lib.hid hL
      have HG := Lib.hid hg
      have HO := Lib.hid ho
      have hs2 := hc2.size
      have c0 : w2.cell? ⟨g, 0, none⟩ = some (.slice A L c) := by rw [cell_of_row _ _ _ _ _ _ hg]; rfl
      have hg2 := blk_lt hg
      have z0 := Wb.at_ c0
      have z1 := Wb.at_ cv
      clear hc2 hcT hg ho hY hL c1 hw1
      go_wp2_with (fail)
      refine wp_region_plan [([0, 1, 2, 3, 4, 5, 6, 7], some (8, true)), ([9, 10], some (11, true)), ([], none)] (by kernel_rfl) (by kernel_rfl) ?_
      refine seg_write _ (by dsimp only [pick, ord.at_]) _ (by dsimp only [pick, ord.at_]) ?_
      repeat (go_big_quiet_step (fail))
      refine wpQuiet_nil ?_
      intro K2 gg2
      have HOd := Lib.hid (show w2.drew.ownsRow B 5 1 (.slice A L c) L (u8s Y) from own_keep HO.out (Below.refl w2.heap.size w2).drew (Nat.le_refl _))
      have g1 : w2.drew.heap[g]? = some (.cells #[.slice A L c] 52 (0, 0)) := HG.out
      go_wp2_with (at_builtin; (refine Lib.wpList_append_own_string _ rfl (.tmp 21) (.tmp 24) 33 9 rfl B 5 i0 Try.underlying33 Try.underlying9 hi hz0 hz1 hz2 (.slice A L c) _ _ rfl HOd.out (cl.tx id) rfl (by unfold maxLen; omega) (by omega) (by show B ≤ w2.heap.size; omega) ?_; intro v3 w3 hrow hg3 hnn; have gb3 : w3.heap[g]? = some (.cells #[.slice A L c] 52 (0, 0)) := (hg3.block g (blk_lt g1) (fun e => own_ne HOd.out g1 e.symm)).trans g1; have hbg3 : Chg (TB w2 g B) w2 w3 := (Chg.refl (TB w2 g B) w2).drew.grown hg3 (fun k hk _ => .inr ⟨(HOd.out.lt k hk).1, own_type HO.out hk⟩); have c3 : w3.cell? ⟨g, 0, none⟩ = some (.slice A L c) := (by rw [cell_of_row _ _ _ _ _ _ gb3]; rfl); have f3 := frozen_of_row w3 g 0 _ _ gb3; have hgl3 := blk_lt gb3))
      rw [strCells_u8s, cl.tx_list, ← u8s_append] at hrow
      have hlen : (Y ++ id).length = L + n := by rw [List.length_append, HL.out, HN0.out]
      have hrow2 : w3.ownsRow B 5 1 v3 (L + n) (u8s (Y ++ id)) := by simpa only [hsz] using hrow
      have HF := Lib.hid (out_put (w := w2) (l := Y ++ id) gb3 hrow2 hlen hbg3 hgB)
      obtain ⟨A2, cc2, rfl, _⟩ := own_fit hlen hrow2
      clear hrow hrow2 hg3 hnn gb3 hbg3 hlen g1
      refine seg_write _ (by dsimp only [pick, ord.at_]) _ (by dsimp only [pick, ord.at_]) ?_
      repeat (go_big_quiet_step (fail))
      refine wpQuiet_nil ?_
      intro K3 g3
      go_wp2_with (fail)
      refine seg_end _ (by dsimp only [pick, ord.at_]) ?_
      repeat (go_big_quiet_step (fail))
      refine wpQuiet_nil (NoPanic.normal ?_)
      go_wp2_with (fail)
      go_end0
      exact HRET.out _ HF.out.1 (tb_trans HCT.out HF.out.2)
    · exact absurd rfl hno
end Go.Proofs.Ythkcnakodlbdpaa.wr
