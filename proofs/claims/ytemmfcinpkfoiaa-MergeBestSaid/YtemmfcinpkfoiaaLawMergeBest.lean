/-
  The walk of the law MergeBest.
-/
import Derived.Test.YtemmfcinpkfoiaaMgSame
import Derived.Test.YtemmfcinpkfoiaaMgSized
namespace Go.Proofs.Ytemmfcinpkfoiaa.lawMergeBest
open Go.ChangeShapes Go.WideShapes Go.ChangeAt Go.RowKit Go.Shelf plain words ord mem rg mg

theorem rise_at {o : List Pt} (h : o.Pairwise fun a b => a.1 < b.1) {i j : Nat} {x y : Pt} (hx : o[i]? = some x) (hy : o[j]? = some y) (hij : i < j) : x.1 < y.1 := by
  have h1 := lt_of_at hx
  have h2 := lt_of_at hy
  rw [List.getElem?_eq_getElem h1] at hx
  rw [List.getElem?_eq_getElem h2] at hy
  injection hx with hx
  injection hy with hy
  subst hx hy
  exact List.pairwise_iff_getElem.1 h i j h1 h2 hij
/-- where a search among rising times stands -/
structure Se (o : List Pt) (t : Int) (lo hi : Nat) : Prop where
  le : lo ≤ hi
  top : hi ≤ o.length
  low : ∀ j x, o[j]? = some x → j < lo → x.1 < t
  high : ∀ j x, o[j]? = some x → hi ≤ j → t ≤ x.1
theorem Se.start (o : List Pt) (t : Int) : Se o t 0 o.length := ⟨Nat.zero_le _, Nat.le_refl _, fun j x _ h => by omega, fun j x hx h => by have := lt_of_at hx; omega⟩
theorem Se.up {o : List Pt} {t : Int} {lo hi mid : Nat} {x : Pt} (h : Se o t lo hi) (hr : o.Pairwise fun a b => a.1 < b.1) (hx : o[mid]? = some x) (hm : mid < hi) (hlo : lo ≤ mid) (ht : x.1 < t) : Se o t (mid + 1) hi :=
  ⟨hm, h.top, fun j y hy hj => by
    rcases Nat.lt_or_ge j mid with h1 | h1
    · have := rise_at hr hy hx h1; omega
    · have : j = mid := by omega
      subst this
      rw [hx] at hy; injection hy with hy; subst hy; exact ht, h.high⟩
theorem Se.down {o : List Pt} {t : Int} {lo hi mid : Nat} {x : Pt} (h : Se o t lo hi) (hr : o.Pairwise fun a b => a.1 < b.1) (hx : o[mid]? = some x) (hm : mid < hi) (hlo : lo ≤ mid) (ht : ¬ x.1 < t) : Se o t lo mid :=
  ⟨hlo, Nat.le_trans (Nat.le_of_lt hm) h.top, h.low, fun j y hy hj => by
    rcases Nat.lt_or_ge mid j with h1 | h1
    · have := rise_at hr hx hy h1; omega
    · have : j = mid := by omega
      subst this
      rw [hx] at hy; injection hy with hy; subst hy; omega⟩
theorem Se.found {o l : List Pt} {p : Pt} {lo : Nat} (h : Se o p.1 lo lo) (hv : Views l o) (hp : p ∈ l) : ∃ q, o[lo]? = some q ∧ q.1 = p.1 ∧ wins p q = false := by
  obtain ⟨q, hq, e, hw⟩ := hv.best p hp
  obtain ⟨j, hj, rfl⟩ := List.getElem_of_mem hq
  have hqj : o[j]? = some o[j] := List.getElem?_eq_getElem hj
  have h1 : ¬ j < lo := fun hlt => by have := h.low j _ hqj hlt; omega
  have h2 : ¬ lo < j := fun hlt => by
    have hl : o[lo]? = some o[lo] := List.getElem?_eq_getElem (by omega)
    have := h.high lo _ hl (Nat.le_refl _)
    have := rise_at hv.rise hl hqj hlt
    omega
  have : lo = j := by omega
  subst this
  exact ⟨_, hqj, e, hw⟩
set_option maxHeartbeats 8000000 in
set_option maxRecDepth 100000 in
theorem walk_ok (A : Option Addr) (n c : Nat) (w : World) (h0 : IsListsS w A n c) :
    Calls Try.prog 8 #[.slice A n c] w fun e w' => e = .returned (.bool true) ∧ Below w.heap.size w w' := by
  obtain ⟨ls, h, hn, hx⟩ := h0
  have HV := Lib.hid (heavy_x w w.heap.size n c A ls h.row hn hx)
  have H := Lib.hid h
  have HLN := Lib.hid h.row.row.1
  clear h hn hx
  go_enter Try.func8, Try.ntmps8
  go_wp2_with fail
  refine HV.out.mono ?_
  rintro e w1 ⟨bb, rfl, hb, rfl⟩
  clear HV
  cases bb with
  | true =>
    go_wp2_with fail
    go_ret
    exact ⟨rfl, Below.refl _ _⟩
  | false =>
    have hb8 := hb rfl
    rw [HLN.out] at hb8
    clear hb
    have HM := Lib.hid (merge_x w w.heap.size n c A ls H.out.row (Nat.le_refl _) (by omega) (by omega))
    go_wp2_with fail
    refine HM.out.mono ?_
    rintro e w1 ⟨A1, c1, o, rfl, ho, hv, hl, hb1⟩
    obtain ⟨m, hm⟩ : ∃ m, o.length = m := ⟨_, rfl⟩
    have hm8 : m ≤ 8192 := by omega
    have hL0 : Ls PE w1 w1.heap.size A1 m o := by have := ho.row.ls; rwa [hm] at this
    rw [hm]
    have L := Lib.hid hL0
    have V := Lib.hid hv
    have B1 := Lib.hid hb1
    have HMM := Lib.hid hm
    have LS := Lib.hid (H.out.row.below hb1 (Nat.le_refl _))
    have hsz := hb1.size
    clear hL0 hv hb1 hm ho hl HM
    go_wp2_with fail
    go_loopg [4] (m + 1) (fun gg s4 wr => ∃ (i : Nat), s4 = .int .i64 i ∧ 1 ≤ i ∧ m + 1 - i ≤ gg ∧ i ≤ m + 1 ∧ Aside (Below w1.heap.size w1 wr))
    case atStart => exact ⟨1, rfl, Nat.le_refl _, by omega, by omega, Below.refl _ _⟩
    case round =>
      obtain ⟨i, rfl, hi1, hg, him, W⟩ := hrel
      obtain ⟨wv, rfl⟩ : ∃ wv, wv = wr := ⟨wr, rfl⟩
      by_cases hlt : i < m
      · obtain ⟨x, hx⟩ := L.out.get hlt
        obtain ⟨y, hy⟩ := L.out.get (show i - 1 < m by omega)
        obtain ⟨ba, oa, eA, _, xa0, _, _⟩ := Ls.pt (L.out.below W.out (Nat.le_refl _)) hx
        obtain ⟨bb, ob, eB, _, ya0, _, _⟩ := Ls.pt (L.out.below W.out (Nat.le_refl _)) hy
        have hr := rise_at V.out.rise hy hx (by omega)
        subst eA
        cases eB
        have hle : decide (x.1 ≤ y.1) = false := by simp; omega
        have hle' : ¬ x.1 ≤ y.1 := by omega
        have i1 : (i : Int) < (m : Int) := by omega
        have i0 : (0 : Int) ≤ (i : Int) := by omega
        obtain ⟨i', hi'⟩ : ∃ i', i = i' + 1 := ⟨i - 1, by omega⟩
        subst hi'
        have j0 : ((i' + 1 : Nat) : Int) - 1 = (i' : Int) := by omega
        have j1 : (0 : Int) ≤ (i' : Int) := by omega
        have j2 : (i' : Int) < (m : Int) := by omega
        simp only [Nat.add_sub_cancel] at ya0
        have hbl : ba < wv.heap.size := World.block_lt_of_cell? wv _ xa0
        have p0 := Wb.at_ xa0
        have p1 := Wb.at_ ya0
        clear hx hy xa0 ya0
        go_wp2_with fail
        refine wp_region_plan [([0, 1, 2, 3, 4, 5, 6, 7, 8, 9, 10, 11], none)] (by kernel_rfl) (by kernel_rfl) ?_
        refine seg_end _ (by dsimp only [pick, at_]) ?_
        repeat (go_big_quiet_step (fail))
        refine wpQuiet_nil ?_
        refine NoPanic.normal ?_
        clear p0 p1
        go_wp2_with fail
        go_roundg (m + 1 - (i' + 1 + 1))
        case measure => omega
        case rel => exact ⟨i' + 1 + 1, by go_num, by omega, by omega, by omega, W.out.drew⟩
      · have i1 : ¬ (i : Int) < (m : Int) := by omega
        go_wp2_with fail
        have BW := Lib.hid W.out
        clear W
        go_loopg [5] n (fun gg s5 wr => ∃ (i : Nat), s5 = .int .i64 i ∧ n - i ≤ gg ∧ i ≤ n ∧ Aside (Below w1.heap.size w1 wr))
        case atStart => exact ⟨0, rfl, by omega, by omega, BW.out⟩
        case round =>
          clear BW
          obtain ⟨i, rfl, hg, hin, W⟩ := hrel
          obtain ⟨wy, rfl⟩ : ∃ wy, wy = wr := ⟨wr, rfl⟩
          by_cases hlt : i < n
          · obtain ⟨x, hx⟩ := LS.out.row.get hlt
            have i1 : (i : Int) < (n : Int) := by omega
            have i0 : (0 : Int) ≤ (i : Int) := by omega
            have hxn := pts_at hx
            have HX := Lib.hid hx
            clear hx
            go_wp2_with fail
            obtain ⟨K, hK⟩ : ∃ K, x.l.length = K := ⟨_, rfl⟩
            have hK8 : K ≤ 8192 := by omega
            have KL := Lib.hid hK
            have BW := Lib.hid W.out
            clear hK W hxn
            go_loopg [6] K (fun gg s6 wr => ∃ (k : Nat), s6 = .int .i64 k ∧ K - k ≤ gg ∧ k ≤ K ∧ Aside (Below w1.heap.size w1 wr))
            case atStart => exact ⟨0, rfl, by omega, by omega, BW.out⟩
            case round =>
              clear BW
              obtain ⟨k, rfl, hg3, hkK, W⟩ := hrel
              obtain ⟨wz, rfl⟩ : ∃ wz, wz = wr := ⟨wr, rfl⟩
              have hLz := LS.out.below W.out hsz
              obtain ⟨b, off, hA, hbB, hc⟩ := hLz.row.at_ HX.out
              have hx0 := hc 0 (by decide)
              simp only [HE, Nat.mul_one, Nat.add_zero, itE, It.val, List.getElem?_cons_zero, KL.out] at hx0
              have hxi := (hLz.ok x (List.mem_of_getElem? HX.out)).ls
              rw [KL.out] at hxi
              subst hA
              have hbl : b < wz.heap.size := World.block_lt_of_cell? wz _ hx0
              clear hLz hc
              by_cases hk : k < K
              · obtain ⟨p, hp⟩ := hxi.get hk
                obtain ⟨bp, op, eP, _, p0, p1, p2⟩ := Ls.pt hxi hp
                have k1 : (k : Int) < (K : Int) := by omega
                have k0 : (0 : Int) ≤ (k : Int) := by omega
                have hpin : p ∈ pts ls := List.mem_flatMap.2 ⟨x, List.mem_of_getElem? HX.out, List.mem_of_getElem? hp⟩
                have hbpl : bp < wz.heap.size := World.block_lt_of_cell? wz _ p0
                rw [eP] at hx0
                have PIN := Lib.hid hpin
                have hb4 : Below wz.heap.size wz (wz.alloc (.cells #[.int .i64 p.1, .int .u64 p.2.1, .int .u64 p.2.2] 24)) := (Below.refl _ _).alloc (Nat.le_refl _) _
                have hg4 : IsP (wz.alloc (.cells #[.int .i64 p.1, .int .u64 p.2.1, .int .u64 p.2.2] 24)) wz.heap.size p := alloc_new _ _
                have hwb : Below w1.heap.size w1 (wz.alloc (.cells #[.int .i64 p.1, .int .u64 p.2.1, .int .u64 p.2.2] 24)) := W.out.trans (hb4.mono W.out.size)
                have BW4 := Lib.hid hwb
                have G4 := Lib.hid hg4
                have hgz : w1.heap.size ≤ wz.heap.size := W.out.size
                clear hp hpin hb4 hg4 hwb hxi eP
                go_wp2_with fail
                obtain ⟨g, hgg⟩ : ∃ g, wz.heap.size = g := ⟨_, rfl⟩
                obtain ⟨w4, hw4⟩ : ∃ w4, wz.alloc (.cells #[.int .i64 p.1, .int .u64 p.2.1, .int .u64 p.2.2] 24) = w4 := ⟨_, rfl⟩
                have BW5 := BW4.out
                have G5 := G4.out
                rw [hw4] at BW5 G5 ⊢
                rw [hgg] at G5 hgz ⊢
                have BW6 := Lib.hid BW5
                have G6 := Lib.hid G5
                clear BW5 G5 BW4 G4 hw4 hgg hx0 p0 p1 p2 W
                go_loopg [8, 9] m (fun gg s8 s9 wr => ∃ (lo hi : Nat), s8 = .int .i64 lo ∧ s9 = .int .i64 hi ∧ hi - lo ≤ gg ∧ Aside (Se o p.1 lo hi) ∧ Aside (Below w1.heap.size w1 wr) ∧ Aside (IsP wr g p))
                case atStart => exact ⟨0, m, rfl, rfl, by omega, (by have := Se.start o p.1; rwa [HMM.out] at this), BW6.out, G6.out⟩
                case round =>
                  clear BW6 G6
                  obtain ⟨lo, hi, rfl, rfl, hg9, SE, W, G⟩ := hrel
                  obtain ⟨wq, rfl⟩ : ∃ wq, wq = wr := ⟨wr, rfl⟩
                  have htop := SE.out.top
                  have hle := SE.out.le
                  rw [HMM.out] at htop
                  obtain ⟨g0, g1, g2⟩ := G.out.cells
                  have hgl := G.out.lt
                  by_cases hlh : lo < hi
                  · obtain ⟨mid, hmid⟩ : ∃ mid, (lo + hi) / 2 = mid := ⟨_, rfl⟩
                    have hm1 : lo ≤ mid := by omega
                    have hm2 : mid < hi := by omega
                    obtain ⟨y, hy⟩ := L.out.get (show mid < m by omega)
                    obtain ⟨ba, oa, eA, _, ya0, _, _⟩ := Ls.pt (L.out.below W.out (Nat.le_refl _)) hy
                    subst eA
                    have l1 : (lo : Int) < (hi : Int) := by omega
                    have l2 : IntKind.i64.wrap ((lo : Int) + (hi : Int)) = (lo : Int) + (hi : Int) := by go_arith
                    have l3 : Int.tdiv ((lo : Int) + (hi : Int)) 2 = (mid : Int) := by rw [Int.tdiv_eq_ediv_of_nonneg (by omega)]; omega
                    have l3' : ((lo : Int) + (hi : Int)) / 2 = (mid : Int) := by omega
                    have l4 : IntKind.i64.wrap (mid : Int) = (mid : Int) := by go_arith
                    have l5 : (0 : Int) ≤ (mid : Int) := by omega
                    have l6 : (mid : Int) < (m : Int) := by omega
                    have hbal : ba < wq.heap.size := World.block_lt_of_cell? wq _ ya0
                    have q0 := Wb.at_ ya0
                    have q1 := Wb.at_ g0
                    have HY := Lib.hid hy
                    clear hy hmid ya0 g0 g1 g2
                    by_cases ht : y.1 < p.1
                    · have ht' : decide (y.1 < p.1) = true := by simpa using ht
                      have SE2 := Lib.hid (SE.out.up V.out.rise HY.out hm2 hm1 ht)
                      go_wp2_with fail
                      refine wp_region_plan [([0, 1, 2, 3, 4, 5, 6, 7], none)] (by kernel_rfl) (by kernel_rfl) ?_
                      refine seg_end _ (by dsimp only [pick, at_]) ?_
                      repeat (go_big_quiet_step (fail))
                      refine wpQuiet_nil ?_
                      refine NoPanic.normal ?_
                      clear q0 q1
                      go_wp2_with fail
                      go_roundg (hi - (mid + 1))
                      case measure => omega
                      case rel => exact ⟨mid + 1, hi, by go_num, rfl, by omega, SE2.out, W.out.drew, G.out⟩
                    · have ht' : decide (y.1 < p.1) = false := by simpa using ht
                      have SE2 := Lib.hid (SE.out.down V.out.rise HY.out hm2 hm1 ht)
                      go_wp2_with fail
                      refine wp_region_plan [([0, 1, 2, 3, 4, 5, 6, 7], none)] (by kernel_rfl) (by kernel_rfl) ?_
                      refine seg_end _ (by dsimp only [pick, at_]) ?_
                      repeat (go_big_quiet_step (fail))
                      refine wpQuiet_nil ?_
                      refine NoPanic.normal ?_
                      clear q0 q1
                      go_wp2_with fail
                      go_roundg (mid - lo)
                      case measure => omega
                      case rel => exact ⟨lo, mid, rfl, rfl, by omega, SE2.out, W.out.drew, G.out⟩
                  · have l1 : ¬ (lo : Int) < (hi : Int) := by omega
                    obtain rfl : lo = hi := by omega
                    obtain ⟨q, hq, e1, hw⟩ := SE.out.found V.out PIN.out
                    have hlm : lo < m := by have := lt_of_at hq; rw [HMM.out] at this; exact this
                    obtain ⟨ba, oa, eA, _, ya0, ya1, ya2⟩ := Ls.pt (L.out.below W.out (Nat.le_refl _)) hq
                    subst eA
                    have l2 : ((lo : Int) == (m : Int)) = false := by simp; omega
                    have l3 : ¬ (lo : Int) = (m : Int) := by omega
                    have l5 : (0 : Int) ≤ (lo : Int) := by omega
                    have l6 : (lo : Int) < (m : Int) := by omega
                    have l7 : (q.1 == p.1) = true := by simpa using e1
                    have l8 : (q.1 != p.1) = false := by simp [e1]
                    have hbal : ba < wq.heap.size := World.block_lt_of_cell? wq _ ya0
                    have q0 := Wb.at_ ya0
                    have q1 := Wb.at_ ya1
                    have q2 := Wb.at_ ya2
                    have q3 := Wb.at_ g0
                    have q4 := Wb.at_ g1
                    have q5 := Wb.at_ g2
                    have HW := Lib.hid hw
                    clear hq ya0 ya1 ya2 g0 g1 g2 hw
                    go_wp2_with fail
                    refine wp_region_plan [([0, 1, 2, 3, 4, 5, 6, 7, 8, 9, 10, 11, 12, 13, 14, 15, 16, 17, 18, 19], some (20, false)), ([21], none)] (by kernel_rfl) (by kernel_rfl) ?_
                    refine seg_act _ (by dsimp only [pick, at_]) _ (by dsimp only [pick, at_]) ?_
                    repeat (go_big_quiet_step (fail))
                    refine wpQuiet_nil ?_
                    intro K1 f1 f2
                    clear f1 q0 q1 q2 q3 q4 q5
                    go_wp2_with (fail)
                    have HW2 : wins p (p.1, q.2.1, q.2.2) = false := HW.out
                    refine (winsr_x p (p.1, q.2.1, q.2.2) wq.drew).mono ?_
                    rintro e w7 ⟨rfl, hb7⟩
                    rw [HW2]
                    have hb77 : Below wq.heap.size wq w7 := (Below.refl _ _).drew.trans hb7
                    have B7 := Lib.hid hb77
                    have W7 := Lib.hid (W.out.trans (hb77.mono W.out.size))
                    clear hb7 hb77 HW2
                    go_wp2_with (fail)
                    refine f2 _ _ B7.out ?_
                    clear f2
                    refine seg_end _ (by dsimp only [pick, at_]) ?_
                    repeat (go_big_quiet_step (fail))
                    refine wpQuiet_nil (NoPanic.normal ?_)
                    go_wp2_with (fail)
                    go_roundg (K - (k + 1))
                    case measure => omega
                    case rel => exact ⟨k + 1, by go_num, by omega, by omega, W7.out⟩
              · have k1 : ¬ (k : Int) < (K : Int) := by omega
                go_wp2_with fail
                go_roundg (n - (i + 1))
                case measure => omega
                case rel => exact ⟨i + 1, by go_num, by omega, by omega, W.out⟩
          · have i1 : ¬ (i : Int) < (n : Int) := by omega
            go_wp2_with fail
            go_ret
            exact ⟨rfl, B1.out.trans (W.out.mono hsz)⟩
end Go.Proofs.Ytemmfcinpkfoiaa.lawMergeBest
