/-
  The document's half.
-/
import Derived.Test.YtemmfcinpkfoiaaMgMerge
namespace Go.Proofs.Ytemmfcinpkfoiaa.mg
open Go.ChangeShapes Go.WideShapes Go.ChangeAt Go.RowKit Go.Shelf plain words ord mem rg

theorem winsr_x (a b : Pt) (w : World) : Calls Try.prog 24 #[pV a, pV b] w fun e w' => e = .returned (.bool (wins a b)) ∧ Below w.heap.size w w' := by
  obtain ⟨t0, v0, s0⟩ := a
  obtain ⟨t1, v1, s1⟩ := b
  unfold wins pV
  dsimp only
  rcases Int.lt_trichotomy s1 s0 with h | h | h
  · go_enter Try.func24, Try.ntmps24
    go_wp2_with fail
    go_ret
    exact ⟨ret_bool (by simp [h]), below2 _ _ _⟩
  · subst h
    have h1 : ¬ s1 < s1 := by omega
    have h2 : (s1 == s1) = true := by simp
    go_enter Try.func24, Try.ntmps24
    go_wp2_with fail
    go_ret
    exact ⟨ret_bool (by simp), below2 _ _ _⟩
  · have h1 : ¬ s1 < s0 := by omega
    have h2 : (s0 == s1) = false := by simp; omega
    go_enter Try.func24, Try.ntmps24
    go_wp2_with fail
    go_ret
    exact ⟨ret_bool (by simp [h1]), below2 _ _ _⟩
/-- two rising lists put together so far -/
structure Mh (a b o : List Pt) (i k : Nat) : Prop where
  rise : o.Pairwise fun a b => a.1 < b.1
  sub : ∀ q ∈ o, q ∈ a ∨ q ∈ b
  sepa : ∀ q ∈ o, ∀ r ∈ a.drop i, q.1 < r.1
  sepb : ∀ q ∈ o, ∀ r ∈ b.drop k, q.1 < r.1
  cov : ∀ r, (r ∈ a.take i ∨ r ∈ b.take k) → ∃ q ∈ o, q.1 = r.1 ∧ wins r q = false
  len : o.length ≤ i + k
theorem Mh.start (a b : List Pt) : Mh a b [] 0 0 := ⟨.nil, fun _ h => by simp at h, fun _ h => by simp at h, fun _ h => by simp at h, fun _ h => by simp at h, Nat.le_refl _⟩
theorem Mh.step {a b o : List Pt} {i k i' k' : Nat} {p : Pt} (h : Mh a b o i k) (hi : i ≤ i') (hk : k ≤ k') (hp : p ∈ a ∨ p ∈ b) (ho : ∀ q ∈ o, q.1 < p.1) (ha : ∀ r ∈ a.drop i', p.1 < r.1) (hb : ∀ r ∈ b.drop k', p.1 < r.1)
    (hc : ∀ r, (r ∈ a.take i' ∨ r ∈ b.take k') → (r ∈ a.take i ∨ r ∈ b.take k) ∨ (r.1 = p.1 ∧ wins r p = false)) (hl : i + k + 1 ≤ i' + k') : Mh a b (o ++ [p]) i' k' := by
  have hda : ∀ r ∈ a.drop i', r ∈ a.drop i := fun r hr => by
    rw [show i' = i + (i' - i) by omega, ← List.drop_drop] at hr
    exact List.mem_of_mem_drop hr
  have hdb : ∀ r ∈ b.drop k', r ∈ b.drop k := fun r hr => by
    rw [show k' = k + (k' - k) by omega, ← List.drop_drop] at hr
    exact List.mem_of_mem_drop hr
  refine ⟨?_, fun q hq => ?_, fun q hq r hr => ?_, fun q hq r hr => ?_, fun r hr => ?_, ?_⟩
  · rw [List.pairwise_append]
    refine ⟨h.rise, List.pairwise_singleton _ _, fun x hx y hy => ?_⟩
    simp at hy; subst hy; exact ho x hx
  · rcases List.mem_append.1 hq with hq | hq
    · exact h.sub q hq
    · simp at hq; subst hq; exact hp
  · rcases List.mem_append.1 hq with hq | hq
    · exact h.sepa q hq r (hda r hr)
    · simp at hq; subst hq; exact ha r hr
  · rcases List.mem_append.1 hq with hq | hq
    · exact h.sepb q hq r (hdb r hr)
    · simp at hq; subst hq; exact hb r hr
  · rcases hc r hr with h1 | ⟨h1, h2⟩
    · obtain ⟨q, hq, h2⟩ := h.cov r h1
      exact ⟨q, List.mem_append.2 (.inl hq), h2⟩
    · exact ⟨p, by simp, h1.symm, h2⟩
  · have := h.len
    rw [List.length_append, List.length_singleton]
    omega
theorem at_drop {a : List Pt} {i : Nat} {x : Pt} (h : a[i]? = some x) : a.drop i = x :: a.drop (i + 1) := by
  have hi := lt_of_at h
  rw [List.getElem?_eq_getElem hi] at h
  injection h with h
  rw [List.drop_eq_getElem_cons hi, h]
theorem drop_gt {a : List Pt} {i : Nat} {x : Pt} (hr : a.Pairwise fun a b => a.1 < b.1) (h : a[i]? = some x) : ∀ r ∈ a.drop (i + 1), x.1 < r.1 := by
  have h2 : (a.drop i).Pairwise fun a b => a.1 < b.1 := hr.sublist (List.drop_sublist _ _)
  rw [at_drop h, List.pairwise_cons] at h2
  exact h2.1
theorem drop_ge {a : List Pt} {i : Nat} {x : Pt} (hr : a.Pairwise fun a b => a.1 < b.1) (h : a[i]? = some x) : ∀ r ∈ a.drop i, x.1 ≤ r.1 := by
  intro r hr2
  rw [at_drop h] at hr2
  rcases List.mem_cons.1 hr2 with rfl | h2
  · exact Int.le_refl _
  · exact Int.le_of_lt (drop_gt hr h r h2)
theorem mem_take_succ {a : List Pt} {i : Nat} {x r : Pt} (h : a[i]? = some x) (hr : r ∈ a.take (i + 1)) : r ∈ a.take i ∨ r = x := by
  rw [take_succ_at h] at hr
  rcases List.mem_append.1 hr with hr | hr
  · exact .inl hr
  · simp at hr; exact .inr hr
theorem at_mem_drop {a : List Pt} {i : Nat} {x : Pt} (h : a[i]? = some x) : x ∈ a.drop i := by rw [at_drop h]; exact List.mem_cons_self
theorem Mh.left {a b o : List Pt} {i k : Nat} {x : Pt} (h : Mh a b o i k) (hra : a.Pairwise fun a b => a.1 < b.1) (hx : a[i]? = some x) (hlt : ∀ r ∈ b.drop k, x.1 < r.1) : Mh a b (o ++ [x]) (i + 1) k :=
  h.step (Nat.le_succ _) (Nat.le_refl _) (.inl (List.mem_of_getElem? hx)) (fun q hq => h.sepa q hq x (at_mem_drop hx)) (drop_gt hra hx) hlt (fun r hr => by
    rcases hr with hr | hr
    · rcases mem_take_succ hx hr with h1 | rfl
      · exact .inl (.inl h1)
      · exact .inr ⟨rfl, wins_irrefl _⟩
    · exact .inl (.inr hr)) (by omega)
theorem Mh.right {a b o : List Pt} {i k : Nat} {x : Pt} (h : Mh a b o i k) (hrb : b.Pairwise fun a b => a.1 < b.1) (hx : b[k]? = some x) (hlt : ∀ r ∈ a.drop i, x.1 < r.1) : Mh a b (o ++ [x]) i (k + 1) :=
  h.step (Nat.le_refl _) (Nat.le_succ _) (.inr (List.mem_of_getElem? hx)) (fun q hq => h.sepb q hq x (at_mem_drop hx)) hlt (drop_gt hrb hx) (fun r hr => by
    rcases hr with hr | hr
    · exact .inl (.inl hr)
    · rcases mem_take_succ hx hr with h1 | rfl
      · exact .inl (.inr h1)
      · exact .inr ⟨rfl, wins_irrefl _⟩) (by omega)
theorem Mh.both {a b o : List Pt} {i k : Nat} {x y p : Pt} (h : Mh a b o i k) (hra : a.Pairwise fun a b => a.1 < b.1) (hrb : b.Pairwise fun a b => a.1 < b.1) (hx : a[i]? = some x) (hy : b[k]? = some y) (e : x.1 = y.1)
    (hp : (p = y ∧ wins y x = true) ∨ (p = x ∧ wins y x = false)) : Mh a b (o ++ [p]) (i + 1) (k + 1) := by
  have ep : p.1 = x.1 := by rcases hp with ⟨rfl, _⟩ | ⟨rfl, _⟩ <;> simp [e]
  have hwx : wins x p = false := by
    rcases hp with ⟨rfl, hw⟩ | ⟨rfl, hw⟩
    · exact wins_asymm _ _ hw
    · exact wins_irrefl _
  have hwy : wins y p = false := by
    rcases hp with ⟨rfl, hw⟩ | ⟨rfl, hw⟩
    · exact wins_irrefl _
    · exact hw
  refine h.step (Nat.le_succ _) (Nat.le_succ _) ?_ (fun q hq => by rw [ep]; exact h.sepa q hq x (at_mem_drop hx)) (fun r hr => by rw [ep]; exact drop_gt hra hx r hr) (fun r hr => by rw [ep, e]; exact drop_gt hrb hy r hr) (fun r hr => ?_) (by omega)
  · rcases hp with ⟨rfl, _⟩ | ⟨rfl, _⟩
    · exact .inr (List.mem_of_getElem? hy)
    · exact .inl (List.mem_of_getElem? hx)
  · rcases hr with hr | hr
    · rcases mem_take_succ hx hr with h1 | rfl
      · exact .inl (.inl h1)
      · exact .inr ⟨ep.symm, hwx⟩
    · rcases mem_take_succ hy hr with h1 | rfl
      · exact .inl (.inr h1)
      · exact .inr ⟨by rw [ep, e], hwy⟩
theorem Mh.done {a b o : List Pt} {i k : Nat} (h : Mh a b o i k) (hi : a.length ≤ i) (hk : b.length ≤ k) : Views (a ++ b) o :=
  ⟨h.rise, fun p hp => List.mem_append.2 (h.sub p hp), fun p hp => h.cov p (by
    rw [List.take_of_length_le hi, List.take_of_length_le hk]
    exact List.mem_append.1 hp)⟩
/-- a list made by the call so far -/
structure HS (w wr : World) (vo : Value) (o : List Pt) : Prop where
  out : Rw PE wr vo o.length o
  own : ∀ g, vo.ownBlock = some g → w.heap.size ≤ g
  bel : Below w.heap.size w wr
theorem HS.quiet {w wr w' : World} {vo : Value} {o : List Pt} (h : HS w wr vo o) (hb : Below wr.heap.size wr w') : HS w w' vo o :=
  ⟨h.out.chg (Chg.of_below hb) (fun _ _ e => e), h.own, h.bel.trans (hb.mono h.bel.size)⟩
theorem HS.app {w wr w' : World} {vo vo' : Value} {o l : List Pt} {n : Nat} (h : HS w wr vo o) (hr : Rw PE w' vo' n l) (hg : wr.grownBy w' vo.ownBlock) (hat : vo'.ownBlock = vo.ownBlock ∨ vo'.ownBlock = some wr.heap.size) : HS w w' vo' l := by
  have hc : Chg (fun k => vo.ownBlock = some k) wr w' := (Chg.refl _ _).grown hg (fun k hk _ => hk)
  have hs := h.bel.size
  refine ⟨?_, fun g hg => ?_, h.bel.trans (hc.below hs h.own)⟩
  · rw [hr.1]; exact hr
  · rcases hat with e | e
    · exact h.own g (e.symm.trans hg)
    · rw [hg] at e; injection e with e; omega
/-- a list that is the view of l, in a row of the call's own -/
def RetV (w : World) (l : List Pt) (e : Ending) (w' : World) : Prop :=
  ∃ A c o, e = .returned (.slice A o.length c) ∧ OwnP w' w.heap.size (.slice A o.length c) o ∧ Views l o ∧ o.length ≤ l.length ∧ Below w.heap.size w w'
theorem HS.ret {w wr : World} {vo : Value} {o l : List Pt} (h : HS w wr vo o) (hv : Views l o) (hl : o.length ≤ l.length) : RetV w l (.returned vo) wr := by
  obtain ⟨A, c, rfl, _⟩ := h.out.form
  exact ⟨A, c, o, rfl, ⟨h.out, h.own⟩, hv, hl, h.bel⟩
theorem Ls.keep {w w' : World} {B n : Nat} {A : Option Addr} {l : List Pt} (h : Ls PE w B A n l) (hb : Below w.heap.size w w') (hB : B ≤ w.heap.size) : Ls PE w' B A n l := h.below hb hB
set_option maxRecDepth 100000 in
set_option maxHeartbeats 8000000 in
theorem half_x (w : World) (B n c m d : Nat) (A A' : Option Addr) (a b : List Pt) (ha : Ls PE w B A n a) (hb : Ls PE w B A' m b) (hB : B ≤ w.heap.size) (hra : a.Pairwise fun a b => a.1 < b.1) (hrb : b.Pairwise fun a b => a.1 < b.1) (hnm : n + m ≤ 900000) :
    Calls Try.prog 43 #[.slice A n c, .slice A' m d] w (RetV w (a ++ b)) := by
  have HA := Lib.hid ha
  have HB := Lib.hid hb
  have RA := Lib.hid hra
  have RB := Lib.hid hrb
  have LA := Lib.hid ha.1
  have LB := Lib.hid hb.1
  have HS0 := Lib.hid (show HS w (w.alloc (.cells #[] 24)) (.slice (some ⟨w.heap.size, 0, none⟩) 0 0) [] from ⟨Rw.of_ow (Ow.lit w), fun g hg => by cases hg; exact Nat.le_refl _, (Below.refl _ _).alloc (Nat.le_refl _) _⟩)
  clear ha hb hra hrb
  go_enter Try.func43, Try.ntmps43
  go_wp2_with fail
  go_loopg [5, 6, 7, 8] (n + m) (fun gg s5 s6 s7 s8 wr => ∃ (i k : Nat) (o : List Pt), s6 = .int .i64 i ∧ s7 = .int .i64 k ∧ i ≤ n ∧ k ≤ m ∧ (n + m) - (i + k) ≤ gg ∧ Aside (HS w wr s5 o) ∧ Aside (Mh a b o i k))
  case atStart => exact ⟨0, 0, [], rfl, rfl, Nat.zero_le _, Nat.zero_le _, by omega, HS0.out, Mh.start a b⟩
  case round =>
    clear HS0
    obtain ⟨i, k, o, rfl, rfl, hi, hk, hgg, S, M⟩ := hrel
    obtain ⟨wv, rfl⟩ : ∃ wv, wv = wr := ⟨wr, rfl⟩
    obtain ⟨vo, rfl⟩ : ∃ vo, vo = u5 := ⟨u5, rfl⟩
    have hmo := M.out.len
    have hsz := S.out.bel.size
    by_cases hin : i < n
    · obtain ⟨x, hx⟩ := HA.out.get hin
      obtain ⟨ba, oa, eA, _, xa0, xa1, xa2⟩ := Ls.pt (HA.out.below S.out.bel hB) hx
      subst eA
      have i1 : (i : Int) < (n : Int) := by omega
      have i0 : (0 : Int) ≤ (i : Int) := by omega
      have i2 : ((i : Int) == (n : Int)) = false := by simp; omega
      have i3 : ¬ (i : Int) = (n : Int) := by omega
      have hbal : ba < wv.heap.size := World.block_lt_of_cell? wv _ xa0
      have p0 := Wb.at_ xa0
      have HX := Lib.hid hx
      clear hx
      by_cases hkm : k < m
      · obtain ⟨y, hy⟩ := HB.out.get hkm
        obtain ⟨bb, ob, eB, _, yb0, yb1, yb2⟩ := Ls.pt (HB.out.below S.out.bel hB) hy
        subst eB
        have k1 : (k : Int) < (m : Int) := by omega
        have k0 : (0 : Int) ≤ (k : Int) := by omega
        have k2 : ((k : Int) == (m : Int)) = false := by simp; omega
        have k3 : ¬ (k : Int) = (m : Int) := by omega
        have hbbl : bb < wv.heap.size := World.block_lt_of_cell? wv _ yb0
        have p1 := Wb.at_ yb0
        have HY := Lib.hid hy
        clear hy
        by_cases h1 : x.1 < y.1
        · have h1' : decide (x.1 < y.1) = true := by simpa using h1
          go_wp2_with fail
          refine wp_region_plan [([0, 1, 2, 3, 4, 5, 6, 7, 8, 9, 10, 11, 12, 13, 14, 15, 16, 17, 18, 19, 20, 21, 22, 23], none)] (by kernel_rfl) (by kernel_rfl) ?_
          refine seg_end _ (by dsimp only [pick, at_]) ?_
          repeat (go_big_quiet_step (fail))
          refine wpQuiet_nil ?_
          refine NoPanic.normal ?_
          clear p0 p1
          have hb2 : Below wv.heap.size wv (wv.drew.alloc (.cells #[.int .i64 x.1, .int .u64 x.2.1, .int .u64 x.2.2] 24)) := ((Below.refl _ _).drew).alloc (Nat.le_refl _) _
          have hnews : Ls PE (wv.drew.alloc (.cells #[.int .i64 x.1, .int .u64 x.2.1, .int .u64 x.2.2] 24)) (wv.drew.heap.size + 1) (some ⟨wv.drew.heap.size, 0, none⟩) 1 [x] := ls_new (E := PE) (w := wv.drew) _ x
          have S2 := Lib.hid (S.out.quiet hb2)
          have hrow2 := S2.out.out
          clear hb2
          go_wp2_with (at_builtin; refine append_q rfl (.tmp 66) (.tmp 71) rfl vo o.length o (by rfl) hrow2 _ _ 1 1 (fun e => by cases e) [x] (by rfl) hnews (by omega) ?_; intro v9 w9 hown9 hgrow9 hat9; have S9 := Lib.hid (S2.out.app hown9 hgrow9 hat9); clear hown9 hgrow9 hat9 hnews hrow2)
          go_roundg (n + m - (i + 1 + (k)))
          case measure => omega
          case rel => exact ⟨i + 1, k, o ++ [x], by first | rfl | go_num, by first | rfl | go_num, by omega, by omega, Nat.le_refl _, S9.out, M.out.left RA.out HX.out (fun r hr => Int.lt_of_lt_of_le h1 (drop_ge RB.out HY.out r hr))⟩
        · have h1' : decide (x.1 < y.1) = false := by simpa using h1
          by_cases h2 : y.1 < x.1
          · have h2' : decide (y.1 < x.1) = true := by simpa using h2
            go_wp2_with fail
            refine wp_region_plan [([0, 1, 2, 3, 4, 5, 6, 7, 8, 9, 10, 11, 12, 13, 14, 15, 16, 17, 18, 19, 20, 21, 22, 23], none)] (by kernel_rfl) (by kernel_rfl) ?_
            refine seg_end _ (by dsimp only [pick, at_]) ?_
            repeat (go_big_quiet_step (fail))
            refine wpQuiet_nil ?_
            refine NoPanic.normal ?_
            have q0 := Wb.at_ (w0 := wv.drew) xa0
            have q1 := Wb.at_ (w0 := wv.drew) yb0
            clear p0 p1
            go_wp2_with fail
            refine wp_region_plan [([0, 1, 2, 3, 4, 5, 6, 7, 8, 9, 10, 11, 12, 13, 14, 15, 16, 17], none)] (by kernel_rfl) (by kernel_rfl) ?_
            refine seg_end _ (by dsimp only [pick, at_]) ?_
            repeat (go_big_quiet_step (fail))
            refine wpQuiet_nil ?_
            refine NoPanic.normal ?_
            clear q0 q1
            have hb2 : Below wv.heap.size wv (wv.drew.drew.alloc (.cells #[.int .i64 y.1, .int .u64 y.2.1, .int .u64 y.2.2] 24)) := (((Below.refl _ _).drew).drew).alloc (Nat.le_refl _) _
            have hnews : Ls PE (wv.drew.drew.alloc (.cells #[.int .i64 y.1, .int .u64 y.2.1, .int .u64 y.2.2] 24)) (wv.drew.drew.heap.size + 1) (some ⟨wv.drew.drew.heap.size, 0, none⟩) 1 [y] := ls_new (E := PE) (w := wv.drew.drew) _ y
            have S2 := Lib.hid (S.out.quiet hb2)
            have hrow2 := S2.out.out
            clear hb2
            go_wp2_with (at_builtin; refine append_q rfl (.tmp 93) (.tmp 98) rfl vo o.length o (by rfl) hrow2 _ _ 1 1 (fun e => by cases e) [y] (by rfl) hnews (by omega) ?_; intro v9 w9 hown9 hgrow9 hat9; have S9 := Lib.hid (S2.out.app hown9 hgrow9 hat9); clear hown9 hgrow9 hat9 hnews hrow2)
            go_roundg (n + m - (i + (k + 1)))
            case measure => omega
            case rel => exact ⟨i, k + 1, o ++ [y], by first | rfl | go_num, by first | rfl | go_num, by omega, by omega, Nat.le_refl _, S9.out, M.out.right RB.out HY.out (fun r hr => Int.lt_of_lt_of_le h2 (drop_ge RA.out HX.out r hr))⟩
          · have h2' : decide (y.1 < x.1) = false := by simpa using h2
            have hxy : x.1 = y.1 := by omega
            have HXY := Lib.hid hxy
            clear hxy
            go_wp2_with fail
            refine wp_region_plan [([0, 1, 2, 3, 4, 5, 6, 7, 8, 9, 10, 11, 12, 13, 14, 15, 16, 17, 18, 19, 20, 21, 22, 23], none)] (by kernel_rfl) (by kernel_rfl) ?_
            refine seg_end _ (by dsimp only [pick, at_]) ?_
            repeat (go_big_quiet_step (fail))
            refine wpQuiet_nil ?_
            refine NoPanic.normal ?_
            have q0 := Wb.at_ (w0 := wv.drew) xa0
            have q1 := Wb.at_ (w0 := wv.drew) yb0
            clear p0 p1
            go_wp2_with fail
            refine wp_region_plan [([0, 1, 2, 3, 4, 5, 6, 7, 8, 9, 10, 11, 12, 13, 14, 15, 16, 17], none)] (by kernel_rfl) (by kernel_rfl) ?_
            refine seg_end _ (by dsimp only [pick, at_]) ?_
            repeat (go_big_quiet_step (fail))
            refine wpQuiet_nil ?_
            refine NoPanic.normal ?_
            clear q0 q1
            go_wp2_with fail
            have hba : Below wv.heap.size wv (wv.alloc (.cells #[.int .i64 x.1, .int .u64 x.2.1, .int .u64 x.2.2] 24)).drew.drew := (((Below.refl _ _).alloc (Nat.le_refl _) _).drew).drew
            have hga : IsP (wv.alloc (.cells #[.int .i64 x.1, .int .u64 x.2.1, .int .u64 x.2.2] 24)).drew.drew wv.heap.size x := alloc_new _ _
            obtain ⟨g, hg⟩ : ∃ g, wv.heap.size = g := ⟨_, rfl⟩
            obtain ⟨wa, hwa⟩ : ∃ wa, (wv.alloc (.cells #[.int .i64 x.1, .int .u64 x.2.1, .int .u64 x.2.2] 24)).drew.drew = wa := ⟨_, rfl⟩
            rw [hwa] at hba hga ⊢
            rw [hg] at hga ⊢
            have z0 := (hba.cell (p := ⟨bb, ob + k * 3, none⟩) hbbl).trans yb0
            have z1 := (hba.cell (p := ⟨bb, ob + k * 3 + 1, none⟩) hbbl).trans yb1
            have z2 := (hba.cell (p := ⟨bb, ob + k * 3 + 2, none⟩) hbbl).trans yb2
            have hbba : bb < wa.heap.size := World.block_lt_of_cell? wa _ z0
            have hgl : g < wa.heap.size := hga.lt
            obtain ⟨r0, r1, r2⟩ := hga.cells
            have q0 := Wb.at_ z0
            have q1 := Wb.at_ z1
            have q2 := Wb.at_ z2
            have q3 := Wb.at_ r0
            have q4 := Wb.at_ r1
            have q5 := Wb.at_ r2
            have HBA := Lib.hid hba
            have HGA := Lib.hid hga
            have HG := Lib.hid hg
            have HZ := Lib.hid (And.intro z0 (And.intro z1 z2))
            clear hba hga hg hwa z0 z1 z2 r0 r1 r2 xa0 xa1 xa2 yb0 yb1 yb2
            refine wp_region_plan [([0, 1, 2, 3, 4], some (5, false)), ([], none)] (by kernel_rfl) (by kernel_rfl) ?_
            refine seg_act _ (by dsimp only [pick, at_]) _ (by dsimp only [pick, at_]) ?_
            repeat (go_big_quiet_step (fail))
            refine wpQuiet_nil ?_
            intro K1 h1 h2
            clear h1
            go_wp2_with (fail)
            refine (winsr_x y x wa.drew).mono ?_
            rintro e wb ⟨rfl, hbb⟩
            have hb1 : Below wa.heap.size wa wb := (Below.refl _ _).drew.trans hbb
            have hgb : IsP wb g x := HGA.out.chg (Chg.of_below hb1) (fun e => e)
            have z0 := (hb1.cell (p := ⟨bb, ob + k * 3, none⟩) hbba).trans HZ.out.1
            have z1 := (hb1.cell (p := ⟨bb, ob + k * 3 + 1, none⟩) hbba).trans HZ.out.2.1
            have z2 := (hb1.cell (p := ⟨bb, ob + k * 3 + 2, none⟩) hbba).trans HZ.out.2.2
            obtain ⟨r0, r1, r2⟩ := hgb.cells
            obtain ⟨f0, f1, f2⟩ := hgb.fz
            have hsz2 : wv.heap.size ≤ wa.heap.size := HBA.out.size
            have hbw : Below wv.heap.size wv wb := HBA.out.trans (hb1.mono hsz2)
            have HB1 := Lib.hid hb1
            have HGB := Lib.hid hgb
            clear hb1 hbb hgb q0 q1 q2 q3 q4 q5
            cases hw : wins y x with
            | false =>
              have HBW := Lib.hid hbw
              clear hbw
              have HWW := Lib.hid hw
              clear hw
              go_wp2_with (fail)
              refine h2 _ _ HB1.out ?_
              clear h2
              refine seg_end _ (by dsimp only [pick, at_]) ?_
              refine wpQuiet_nil (NoPanic.normal ?_)
              have hbq : Below wv.heap.size wv (wb.alloc (.cells #[.int .i64 x.1, .int .u64 x.2.1, .int .u64 x.2.2] 24)) := (HBW.out).alloc (by have := HBW.out.size; omega) _
              have hnews : Ls PE (wb.alloc (.cells #[.int .i64 x.1, .int .u64 x.2.1, .int .u64 x.2.2] 24)) (wb.heap.size + 1) (some ⟨wb.heap.size, 0, none⟩) 1 [x] := ls_new (E := PE) (w := wb) _ x
              have S2 := Lib.hid (S.out.quiet hbq)
              have hrow2 := S2.out.out
              clear hbq
              go_wp2_with (at_builtin; refine append_q rfl (.tmp 34) (.tmp 36) rfl vo o.length o (by rfl) hrow2 _ _ 1 1 (fun e => by cases e) [x] (by rfl) hnews (by omega) ?_; intro v9 w9 hown9 hgrow9 hat9; have S9 := Lib.hid (S2.out.app hown9 hgrow9 hat9); clear hown9 hgrow9 hat9 hnews hrow2)
              go_roundg (n + m - (i + 1 + (k + 1)))
              case measure => omega
              case rel => exact ⟨i + 1, k + 1, o ++ [x], by first | rfl | go_num, by first | rfl | go_num, by omega, by omega, Nat.le_refl _, S9.out, M.out.both RA.out RB.out HX.out HY.out HXY.out (.inr ⟨rfl, HWW.out⟩)⟩
            | true =>
              have HBW := Lib.hid (show Below wv.heap.size wv (((wb.setCell ⟨g, 0, none⟩ (.int .i64 y.1)).setCell ⟨g, 1, none⟩ (.int .u64 y.2.1)).setCell ⟨g, 2, none⟩ (.int .u64 y.2.2)) from (((hbw.setCell (p := ⟨g, 0, none⟩) (Nat.le_of_eq HG.out) _).setCell (p := ⟨g, 1, none⟩) (Nat.le_of_eq HG.out) _).setCell (p := ⟨g, 2, none⟩) (Nat.le_of_eq HG.out) _))
              clear hbw
              have HWW := Lib.hid hw
              clear hw
              go_wp2_with (fail)
              refine h2 _ _ HB1.out ?_
              clear h2
              refine seg_end _ (by dsimp only [pick, at_]) ?_
              refine wpQuiet_nil (NoPanic.normal ?_)
              have hbq : Below wv.heap.size wv ((((wb.setCell ⟨g, 0, none⟩ (.int .i64 y.1)).setCell ⟨g, 1, none⟩ (.int .u64 y.2.1)).setCell ⟨g, 2, none⟩ (.int .u64 y.2.2)).alloc (.cells #[.int .i64 y.1, .int .u64 y.2.1, .int .u64 y.2.2] 24)) := (HBW.out).alloc (by have := HBW.out.size; omega) _
              have hnews : Ls PE ((((wb.setCell ⟨g, 0, none⟩ (.int .i64 y.1)).setCell ⟨g, 1, none⟩ (.int .u64 y.2.1)).setCell ⟨g, 2, none⟩ (.int .u64 y.2.2)).alloc (.cells #[.int .i64 y.1, .int .u64 y.2.1, .int .u64 y.2.2] 24)) ((((wb.setCell ⟨g, 0, none⟩ (.int .i64 y.1)).setCell ⟨g, 1, none⟩ (.int .u64 y.2.1)).setCell ⟨g, 2, none⟩ (.int .u64 y.2.2)).heap.size + 1) (some ⟨(((wb.setCell ⟨g, 0, none⟩ (.int .i64 y.1)).setCell ⟨g, 1, none⟩ (.int .u64 y.2.1)).setCell ⟨g, 2, none⟩ (.int .u64 y.2.2)).heap.size, 0, none⟩) 1 [y] := ls_new (E := PE) (w := (((wb.setCell ⟨g, 0, none⟩ (.int .i64 y.1)).setCell ⟨g, 1, none⟩ (.int .u64 y.2.1)).setCell ⟨g, 2, none⟩ (.int .u64 y.2.2))) _ y
              rw [show (((wb.setCell ⟨g, 0, none⟩ (.int .i64 y.1)).setCell ⟨g, 1, none⟩ (.int .u64 y.2.1)).setCell ⟨g, 2, none⟩ (.int .u64 y.2.2)).heap.size = wb.heap.size from by simp] at hnews
              have S2 := Lib.hid (S.out.quiet hbq)
              have hrow2 := S2.out.out
              clear hbq
              go_wp2_with (at_builtin; refine append_q rfl (.tmp 34) (.tmp 36) rfl vo o.length o (by rfl) hrow2 _ _ 1 1 (fun e => by cases e) [y] (by rfl) hnews (by omega) ?_; intro v9 w9 hown9 hgrow9 hat9; have S9 := Lib.hid (S2.out.app hown9 hgrow9 hat9); clear hown9 hgrow9 hat9 hnews hrow2)
              go_roundg (n + m - (i + 1 + (k + 1)))
              case measure => omega
              case rel => exact ⟨i + 1, k + 1, o ++ [y], by first | rfl | go_num, by first | rfl | go_num, by omega, by omega, Nat.le_refl _, S9.out, M.out.both RA.out RB.out HX.out HY.out HXY.out (.inl ⟨rfl, HWW.out⟩)⟩
      · have hkm' : k = m := by omega
        have k2 : ((k : Int) == (m : Int)) = true := by simp; omega
        have k3 : (k : Int) = (m : Int) := by omega
        have hnil : b.drop k = [] := List.drop_eq_nil_of_le (by rw [LB.out]; omega)
        have HNL := Lib.hid hnil
        clear hkm' hnil
        go_wp2_with fail
        refine wp_region_plan [([0, 1, 2, 3, 4, 5, 6, 7, 8, 9, 10, 11, 12, 13, 14, 15, 16, 17, 18, 19, 20, 21, 22, 23], none)] (by kernel_rfl) (by kernel_rfl) ?_
        refine seg_end _ (by dsimp only [pick, at_]) ?_
        repeat (go_big_quiet_step (fail))
        refine wpQuiet_nil ?_
        refine NoPanic.normal ?_
        clear p0
        have hb2 : Below wv.heap.size wv (wv.drew.alloc (.cells #[.int .i64 x.1, .int .u64 x.2.1, .int .u64 x.2.2] 24)) := ((Below.refl _ _).drew).alloc (Nat.le_refl _) _
        have hnews : Ls PE (wv.drew.alloc (.cells #[.int .i64 x.1, .int .u64 x.2.1, .int .u64 x.2.2] 24)) (wv.drew.heap.size + 1) (some ⟨wv.drew.heap.size, 0, none⟩) 1 [x] := ls_new (E := PE) (w := wv.drew) _ x
        have S2 := Lib.hid (S.out.quiet hb2)
        have hrow2 := S2.out.out
        clear hb2
        go_wp2_with (at_builtin; refine append_q rfl (.tmp 66) (.tmp 71) rfl vo o.length o (by rfl) hrow2 _ _ 1 1 (fun e => by cases e) [x] (by rfl) hnews (by omega) ?_; intro v9 w9 hown9 hgrow9 hat9; have S9 := Lib.hid (S2.out.app hown9 hgrow9 hat9); clear hown9 hgrow9 hat9 hnews hrow2)
        go_roundg (n + m - (i + 1 + (k)))
        case measure => omega
        case rel => exact ⟨i + 1, k, o ++ [x], by first | rfl | go_num, by first | rfl | go_num, by omega, by omega, Nat.le_refl _, S9.out, M.out.left RA.out HX.out (fun r hr => by rw [HNL.out] at hr; simp at hr)⟩
    · have i1 : ¬ (i : Int) < (n : Int) := by omega
      have i2 : ((i : Int) == (n : Int)) = true := by simp; omega
      have hnil : a.drop i = [] := List.drop_eq_nil_of_le (by rw [LA.out]; omega)
      have HNL := Lib.hid hnil
      clear hnil
      by_cases hkm : k < m
      · obtain ⟨y, hy⟩ := HB.out.get hkm
        obtain ⟨bb, ob, eB, _, yb0, yb1, yb2⟩ := Ls.pt (HB.out.below S.out.bel hB) hy
        subst eB
        have k1 : (k : Int) < (m : Int) := by omega
        have k0 : (0 : Int) ≤ (k : Int) := by omega
        have k2 : ((k : Int) == (m : Int)) = false := by simp; omega
        have k3 : ¬ (k : Int) = (m : Int) := by omega
        have hbbl : bb < wv.heap.size := World.block_lt_of_cell? wv _ yb0
        have p1 := Wb.at_ yb0
        have HY := Lib.hid hy
        clear hy
        go_wp2_with fail
        refine wp_region_plan [([0, 1, 2, 3, 4, 5, 6, 7, 8, 9, 10, 11, 12, 13, 14, 15, 16, 17, 18, 19, 20, 21, 22, 23], none)] (by kernel_rfl) (by kernel_rfl) ?_
        refine seg_end _ (by dsimp only [pick, at_]) ?_
        repeat (go_big_quiet_step (fail))
        refine wpQuiet_nil ?_
        refine NoPanic.normal ?_
        have q1 := Wb.at_ (w0 := wv.drew) yb0
        clear p1
        go_wp2_with fail
        refine wp_region_plan [([0, 1, 2, 3, 4, 5, 6, 7, 8, 9, 10, 11, 12, 13, 14, 15, 16, 17], none)] (by kernel_rfl) (by kernel_rfl) ?_
        refine seg_end _ (by dsimp only [pick, at_]) ?_
        repeat (go_big_quiet_step (fail))
        refine wpQuiet_nil ?_
        refine NoPanic.normal ?_
        clear q1
        have hb2 : Below wv.heap.size wv (wv.drew.drew.alloc (.cells #[.int .i64 y.1, .int .u64 y.2.1, .int .u64 y.2.2] 24)) := (((Below.refl _ _).drew).drew).alloc (Nat.le_refl _) _
        have hnews : Ls PE (wv.drew.drew.alloc (.cells #[.int .i64 y.1, .int .u64 y.2.1, .int .u64 y.2.2] 24)) (wv.drew.drew.heap.size + 1) (some ⟨wv.drew.drew.heap.size, 0, none⟩) 1 [y] := ls_new (E := PE) (w := wv.drew.drew) _ y
        have S2 := Lib.hid (S.out.quiet hb2)
        have hrow2 := S2.out.out
        clear hb2
        go_wp2_with (at_builtin; refine append_q rfl (.tmp 93) (.tmp 98) rfl vo o.length o (by rfl) hrow2 _ _ 1 1 (fun e => by cases e) [y] (by rfl) hnews (by omega) ?_; intro v9 w9 hown9 hgrow9 hat9; have S9 := Lib.hid (S2.out.app hown9 hgrow9 hat9); clear hown9 hgrow9 hat9 hnews hrow2)
        go_roundg (n + m - (i + (k + 1)))
        case measure => omega
        case rel => exact ⟨i, k + 1, o ++ [y], by first | rfl | go_num, by first | rfl | go_num, by omega, by omega, Nat.le_refl _, S9.out, M.out.right RB.out HY.out (fun r hr => by rw [HNL.out] at hr; simp at hr)⟩
      · have k1 : ¬ (k : Int) < (m : Int) := by omega
        go_wp2_with fail
        go_ret
        refine S.out.ret (M.out.done (by rw [LA.out]; omega) (by rw [LB.out]; omega)) ?_
        rw [List.length_append, LA.out, LB.out]
        omega
end Go.Proofs.Ytemmfcinpkfoiaa.mg
