/-
  Points: slices.CompactFunc, the call.
-/
import Derived.Test.YtemmfcinpkfoiaaMgComp
namespace Go.Proofs.Ytemmfcinpkfoiaa.mg
open Go.ChangeShapes Go.WideShapes Go.ChangeAt Go.RowKit Go.Shelf plain words ord mem rg

/-- a point's cells in a row that begins at off -/
theorem Ls.pt {w : World} {B n i : Nat} {A : Option Addr} {l : List Pt} (h : Ls PE w B A n l) {x : Pt} (hx : l[i]? = some x) : ∃ b off, A = some ⟨b, off, none⟩ ∧ b < B ∧ w.cell? ⟨b, off + i * 3, none⟩ = some (.int .i64 x.1) ∧ w.cell? ⟨b, off + i * 3 + 1, none⟩ = some (.int .u64 x.2.1) ∧ w.cell? ⟨b, off + i * 3 + 2, none⟩ = some (.int .u64 x.2.2) := by
  obtain ⟨b, off, e, hb, hc⟩ := h.at_ hx
  exact ⟨b, off, e, hb, hc 0 (by decide), hc 1 (by decide), hc 2 (by decide)⟩
/-- the row cut to the first of each run -/
def RetCmp (w : World) (B g cap : Nat) (l : List Pt) (e : Ending) (w' : World) : Prop :=
  ∃ m, e = .returned (.slice (some ⟨g, 0, none⟩) m cap) ∧ Ow PE w' B (.slice (some ⟨g, 0, none⟩) m cap) m (comp l) ∧ Below B w w'
/-- where the inner loop stands: what is kept of the first j are the first k *-/
structure Cmp (l d : List Pt) (k j : Nat) : Prop where
  len : d.length = l.length
  lt : k < j
  low : d.take k = comp (l.take j)
  high : d.drop k = l.drop k
theorem Cmp.start {l : List Pt} {k : Nat} {a b : Pt} (hp : comp (l.take (k + 1)) = l.take (k + 1)) (ha : l[k]? = some a) (hb : l[k + 1]? = some b) (e : b.1 = a.1) : Cmp l l (k + 1) (k + 2) :=
  ⟨rfl, by omega, by rw [comp_eq l k a b ha hb e, hp], rfl⟩
theorem Cmp.at_ {l d : List Pt} {k j i : Nat} (h : Cmp l d k j) (hi : k ≤ i) : d[i]? = l[i]? := by
  have := congrArg (fun x => x[i - k]?) h.high
  simp only [List.getElem?_drop] at this
  rwa [show k + (i - k) = i from by omega] at this
theorem Cmp.skip {l d : List Pt} {k j : Nat} (h : Cmp l d k (j + 1)) {a b : Pt} (ha : l[j]? = some a) (hb : l[j + 1]? = some b) (e : b.1 = a.1) : Cmp l d k (j + 2) :=
  ⟨h.len, by have := h.lt; omega, by rw [h.low, comp_eq l j a b ha hb e], h.high⟩
theorem Cmp.keep {l d : List Pt} {k j : Nat} (h : Cmp l d k (j + 1)) {a b : Pt} (ha : l[j]? = some a) (hb : l[j + 1]? = some b) (e : b.1 ≠ a.1) : Cmp l (d.set k b) (k + 1) (j + 2) := by
  have hl : j + 1 < l.length := by
    rcases Nat.lt_or_ge (j + 1) l.length with h | h
    · exact h
    · rw [List.getElem?_eq_none h] at hb; cases hb
  have hk : k < d.length := by have := h.lt; rw [h.len]; omega
  have hk' : k < (d.set k b).length := by rw [List.length_set]; exact hk
  refine ⟨by rw [List.length_set]; exact h.len, by have := h.lt; omega, ?_, ?_⟩
  · rw [List.take_succ_eq_append_getElem hk', List.take_set_of_le (Nat.le_refl _), h.low, comp_ne l j a b ha hb e]
    simp
  · rw [List.drop_set_of_lt (by omega)]
    have e := congrArg (List.drop 1) h.high
    rw [List.drop_drop, List.drop_drop] at e
    exact e
set_option maxHeartbeats 4000000 in
set_option maxRecDepth 100000 in
theorem compact_x (w : World) (B g n cap : Nat) (l : List Pt) (h : Ow PE w B (.slice (some ⟨g, 0, none⟩) n cap) n l) (hB : B ≤ g) (hn : n ≤ 1000000) :
    Calls Try.prog 59 #[.slice (some ⟨g, 0, none⟩) n cap, .func (.func 60) #[] #[]] w (RetCmp w B g cap l) := by
  have eg : ∀ args w, (callFunc 60 args).run Try.prog w = .ok (.enter 60 args) w := enters_of Try.func60 (by kernel_rfl) rfl
  have hl := h.1
  have hg : g < w.heap.size := own_lt h.2 rfl
  obtain ⟨_, c0, hce, _, hcap1, hcap2⟩ := h.form
  cases hce
  have HO := Lib.hid h
  have HL := Lib.hid hl
  clear h hl
  by_cases hn2 : n < 2
  · have i0 : (n : Int) < 2 := by omega
    go_enter Try.func59, Try.ntmps59
    go_wp2_with fail
    go_ret
    refine ⟨n, rfl, ?_, Below.refl _ _⟩
    have hc : comp l = l := by
      match l, HL.out with
      | [], _ => rfl
      | [a], _ => rfl
      | a :: b :: t, e => simp at e; omega
    rw [hc]
    exact HO.out
  · have i0 : ¬ (n : Int) < 2 := by omega
    go_enter Try.func59, Try.ntmps59
    go_wp2_with fail
    go_loopg [5] n (fun gg s5 wr => ∃ k : Nat, s5 = .int .i64 ((k : Int) + 1) ∧ k < n ∧ n - k ≤ gg ∧ Aside (comp (l.take (k + 1)) = l.take (k + 1)) ∧ Aside (Below w.heap.size w wr))
    case atStart =>
      refine ⟨0, rfl, by omega, by omega, ?_, Below.refl _ _⟩
      show comp (l.take 1) = l.take 1
      cases l <;> rfl
    case round =>
      obtain ⟨k, rfl, hk, hg2, HC, HB⟩ := hrel
      by_cases hlt : k + 1 < n
      · have j0 : (k : Int) + 1 < (n : Int) := by omega
        have OW := Lib.hid (HO.out.below HB.out (Nat.le_refl _))
        obtain ⟨a, ha⟩ := OW.out.ls.get (show k < n by omega)
        obtain ⟨b, hb⟩ := OW.out.ls.get hlt
        obtain ⟨_, _, e1, hgl, a0, a1, a2⟩ := Ls.pt OW.out.ls ha
        cases e1
        obtain ⟨_, _, e1, _, b0, b1, b2⟩ := Ls.pt OW.out.ls hb
        cases e1
        simp only [Nat.zero_add] at a0 a1 a2 b0 b1 b2
        have HAB := Lib.hid (And.intro ha hb)
        have HS := Lib.hid (same_x b a wr.drew)
        have p0 := Wb.at_ a0
        have p1 := Wb.at_ a1
        have p2 := Wb.at_ a2
        have p3 := Wb.at_ b0
        have p4 := Wb.at_ b1
        have p5 := Wb.at_ b2
        have t0 : ((k : Int) + 1).toNat = k + 1 := by omega
        have t1 : (0 : Int) ≤ (k : Int) + 1 := by omega
        have t2 : (k : Int) < (n : Int) := by omega
        clear ha hb a0 a1 a2 b0 b1 b2
        go_wp2_with fail
        refine wp_region_plan [([0, 1, 2, 3, 4, 5, 6, 7, 8, 9], some (10, false)), ([], none)] (by kernel_rfl) (by kernel_rfl) ?_
        refine seg_act _ (by dsimp only [pick, at_]) _ (by dsimp only [pick, at_]) ?_
        repeat (go_big_quiet_step (fail))
        refine wpQuiet_nil ?_
        intro K1 h1 h2
        clear h1 p0 p1 p2 p3 p4 p5
        go_wp2_with fail
        refine HS.out.mono ?_
        rintro e w2 ⟨rfl, hb2⟩
        have hb2w : Below wr.heap.size wr w2 := (Below.refl _ _).drew.trans hb2
        have HB2 := Lib.hid hb2w
        have B2 := Lib.hid (HB.out.trans (hb2w.mono HB.out.size))
        clear hb2 hb2w HS
        by_cases hab : b.1 = a.1
        · have hbe : (b.1 == a.1) = true := by simpa using hab
          have O2 := Lib.hid (OW.out.below HB2.out (Nat.le_refl _))
          have CS := Lib.hid (Cmp.start HC.out HAB.out.1 HAB.out.2 hab)
          have hle1 : (k : Int) + 1 ≤ (n : Int) := by omega
          have hle2 : (k : Int) + 1 ≤ (cap : Int) := by omega
          have hgl2 : g < w2.heap.size := by have := HB2.out.size; omega
          have hcne : cap ≠ k + 1 := by omega
          have hcne' : k + 1 ≠ cap := by omega
          clear HAB OW HC hab HB
          go_wp2_with fail
          refine h2 _ _ HB2.out ?_
          clear h2
          refine seg_end _ (by dsimp only [pick, at_]) ?_
          refine wpQuiet_nil (NoPanic.normal ?_)
          go_wp2_with fail
          obtain ⟨M, hM⟩ : ∃ M, n - (k + 1) = M := ⟨_, rfl⟩
          have HM := Lib.hid hM
          rw [hM]
          clear hM
          go_loopg [5, 7] n (fun gg s5 s7 wr => ∃ (K q : Nat) (d : List Pt), s5 = .int .i64 K ∧ s7 = .int .i64 ((q : Int) + 1) ∧ q < M ∧ n - q ≤ gg ∧ Aside (Cmp l d K (k + q + 1 + 1)) ∧ Aside (Ow PE wr B (.slice (some ⟨g, 0, none⟩) n cap) n d) ∧ Aside (Below B w wr) ∧ w.heap.size ≤ wr.heap.size)
          case atStart => exact ⟨k + 1, 0, l, by go_num, rfl, (by have := HM.out; omega), by omega, CS.out, O2.out, B2.out.mono (by omega), B2.out.size⟩
          case round =>
            clear CS O2 B2 HB2
            obtain ⟨K, q, d, rfl, rfl, hq, hg3, D, OW, BW, hsw⟩ := hrel
            have hqn : k + q + 1 < n := by have := HM.out; omega
            have hK := D.out.lt
            obtain ⟨wv, rfl⟩ : ∃ wv, wv = wr := ⟨wr, rfl⟩
            by_cases hlt2 : q + 1 < M
            · have j1 : (q : Int) + 1 < (M : Int) := by omega
              have hjn : k + q + 1 + 1 < n := by have := HM.out; omega
              obtain ⟨a', ha⟩ := OW.out.ls.get (show k + q + 1 < n by omega)
              obtain ⟨b', hb⟩ := OW.out.ls.get hjn
              obtain ⟨_, _, e1, hgl3, a0, a1, a2⟩ := Ls.pt OW.out.ls ha
              cases e1
              obtain ⟨_, _, e1, _, b0, b1, b2⟩ := Ls.pt OW.out.ls hb
              cases e1
              have ha' := (D.out.at_ (i := k + q + 1) (by omega)).symm.trans ha
              have hb' := (D.out.at_ (i := k + q + 1 + 1) (by omega)).symm.trans hb
              have HAB := Lib.hid (And.intro ha' hb')
              have ea : 0 + (k + q + 1) * 3 = (k + 1) * 3 + q * 3 := by omega
              have eb : 0 + (k + q + 1 + 1) * 3 = (k + 1) * 3 + (q + 1) * 3 := by omega
              rw [ea] at a0 a1 a2
              rw [eb] at b0 b1 b2
              have HS := Lib.hid (same_x b' a' wv.drew)
              have p0 := Wb.at_ a0
              have p1 := Wb.at_ a1
              have p2 := Wb.at_ a2
              have p3 := Wb.at_ b0
              have p4 := Wb.at_ b1
              have p5 := Wb.at_ b2
              have u0 : ((q : Int) + 1).toNat = q + 1 := by omega
              have u1 : (0 : Int) ≤ (q : Int) + 1 := by omega
              have u2 : (q : Int) < (M : Int) := by omega
              have HB012 := Lib.hid (And.intro b0 (And.intro b1 b2))
              clear ha hb ha' hb' a0 a1 a2 b0 b1 b2 ea eb
              go_wp2_with fail
              refine wp_region_plan [([0, 1, 2, 3, 4, 5, 6, 7, 8, 9], some (10, false)), ([11], none)] (by kernel_rfl) (by kernel_rfl) ?_
              refine seg_act _ (by dsimp only [pick, at_]) _ (by dsimp only [pick, at_]) ?_
              repeat (go_big_quiet_step (fail))
              refine wpQuiet_nil ?_
              intro K2 h1 h2
              clear h1 p0 p1 p2 p3 p4 p5
              go_wp2_with fail
              refine HS.out.mono ?_
              rintro e w4 ⟨rfl, hb4⟩
              have hb4w : Below wv.heap.size wv w4 := (Below.refl _ _).drew.trans hb4
              have HB4 := Lib.hid hb4w
              have O4 := Lib.hid (OW.out.below hb4w (Nat.le_refl _))
              have BW4 := Lib.hid (BW.out.trans (hb4w.mono (by omega)))
              have hs4 := hb4w.size
              clear hb4 hb4w HS OW BW
              by_cases hab2 : b'.1 = a'.1
              · have hbe2 : (b'.1 == a'.1) = true := by simpa using hab2
                go_wp2_with fail
                refine h2 _ _ HB4.out ?_
                clear h2
                refine seg_end _ (by dsimp only [pick, at_]) ?_
                repeat (go_big_quiet_step (fail))
                refine wpQuiet_nil (NoPanic.normal ?_)
                go_wp2_with fail
                go_roundg (n - (q + 1))
                case measure => omega
                case rel => exact ⟨K, q + 1, d, rfl, by go_num, by omega, by omega, D.out.skip HAB.out.1 HAB.out.2 hab2, O4.out, BW4.out, by omega⟩
              · have hbe2 : (b'.1 == a'.1) = false := by simpa using hab2
                obtain ⟨cur, hcur⟩ := own_blk O4.out.2
                have f0 : w4.frozen? ⟨g, K * 3, none⟩ = false := frozen_of_row _ _ _ _ _ hcur
                have f1 : w4.frozen? ⟨g, K * 3 + 1, none⟩ = false := frozen_of_row _ _ _ _ _ hcur
                have f2 : w4.frozen? ⟨g, K * 3 + 2, none⟩ = false := frozen_of_row _ _ _ _ _ hcur
                obtain ⟨x', hx'⟩ := O4.out.ls.get (show K < n by omega)
                obtain ⟨_, _, e1, hgl4, n0, n1, n2⟩ := Ls.pt O4.out.ls hx'
                cases e1
                simp only [Nat.zero_add] at n0 n1 n2
                obtain ⟨o0, m0⟩ : ∃ o, w4.cell? ⟨g, K * 3, none⟩ = some (.int .i64 o) := ⟨_, n0⟩
                obtain ⟨o1, m1⟩ : ∃ o, w4.cell? ⟨g, K * 3 + 1, none⟩ = some (.int .u64 o) := ⟨_, n1⟩
                obtain ⟨o2, m2⟩ : ∃ o, w4.cell? ⟨g, K * 3 + 2, none⟩ = some (.int .u64 o) := ⟨_, n2⟩
                clear n0 n1 n2 hx'
                have r0 := (HB4.out.cell (p := ⟨g, (k + 1) * 3 + (q + 1) * 3, none⟩) hgl3).trans HB012.out.1
                have r1 := (HB4.out.cell (p := ⟨g, (k + 1) * 3 + (q + 1) * 3 + 1, none⟩) hgl3).trans HB012.out.2.1
                have r2 := (HB4.out.cell (p := ⟨g, (k + 1) * 3 + (q + 1) * 3 + 2, none⟩) hgl3).trans HB012.out.2.2
                have hKn : (K : Int) < (n : Int) := by omega
                clear hcur
                go_wp2_with fail
                refine h2 _ _ HB4.out ?_
                clear h2
                refine seg_end _ (by dsimp only [pick, at_]) ?_
                repeat (go_big_quiet_step (fail))
                refine wpQuiet_nil (NoPanic.normal ?_)
                go_wp2_with fail
                go_roundg (n - (q + 1))
                case measure => omega
                case rel => exact ⟨K + 1, q + 1, d.set K b', by go_num, by go_num, by omega, by omega, D.out.keep HAB.out.1 HAB.out.2 hab2, ow_setp O4.out b', (BW4.out.trans (below_set hB _)).trans ((below_set hB _).trans (below_set hB _)), by simp [World.setCell]; omega⟩
            · have j1 : ¬ (q : Int) + 1 < (M : Int) := by omega
              have hend : k + q + 1 + 1 = n := by have := HM.out; omega
              have HD := Lib.hid (show Cmp l d K l.length by rw [HL.out, ← hend]; exact D.out)
              obtain ⟨zs, hcl⟩ := clear_p wv B g n K cap d OW.out (by omega)
              have hk1 : (K : Int) ≤ (n : Int) := by omega
              have hk2 : (K : Int) ≤ (cap : Int) := by omega
              have hk3 : cap ≠ K := by omega
              have hKn : K ≤ n := by omega
              clear hend D
              go_wp2_with fail
              go_ret
              obtain ⟨h3, h4⟩ := ow_cells zs wv (K * 3) (Nat.le_refl _) hB (ow_cut OW.out hKn)
              refine ⟨K, rfl, ?_, BW.out.trans h4⟩
              have e := HD.out.low
              rw [take_all (Nat.le_refl _)] at e
              rw [← e]
              exact h3
        · have hbe : (b.1 == a.1) = false := by simpa using hab
          have HC2 := Lib.hid (show comp (l.take (k + 1 + 1)) = l.take (k + 1 + 1) by
            rw [show k + 1 + 1 = k + 2 from rfl, comp_ne l k a b HAB.out.1 HAB.out.2 hab, HC.out, show k + 2 = k + 1 + 1 from rfl, take_succ_of HAB.out.2])
          clear HAB OW HC hab
          go_wp2_with fail
          refine h2 _ _ HB2.out ?_
          clear h2
          refine seg_end _ (by dsimp only [pick, at_]) ?_
          refine wpQuiet_nil (NoPanic.normal ?_)
          go_wp2_with fail
          go_roundg (n - (k + 1))
          case measure => omega
          case rel => exact ⟨k + 1, by go_num, by omega, by omega, HC2.out, B2.out⟩
      · have hkn : k + 1 = n := by omega
        have j0 : ¬ (k : Int) + 1 < (n : Int) := by omega
        go_wp2_with fail
        go_ret
        refine ⟨n, rfl, ?_, HB.out.mono (by omega)⟩
        have := HC.out
        rw [hkn, take_all (by rw [HL.out]; exact Nat.le_refl _)] at this
        rw [this]
        exact HO.out.below HB.out (Nat.le_refl _)
end Go.Proofs.Ytemmfcinpkfoiaa.mg
