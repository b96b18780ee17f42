/-
  A list of numbers of the call's own without one of them.
-/
import Derived.Test.YtnpkhkhchimcnaaPmB
import Derived.Test.YtnpkhkhchimcnaaPmA
namespace Go.Proofs.Ytnpkhkhchimcnaa.pm
open Go.ChangeShapes Go.WideShapes Go.ChangeAt Go.RowKit Go.Shelf plain words ord mem

def PredN (g : Nat) (lb : Array Value) (p : Int → Bool) (w : World) : Prop :=
  ∀ (W : World) (x : Int), Below w.heap.size w W → Calls Try.prog g (#[.int .i64 x] ++ lb) W fun e w' => e = .returned (.bool (p x)) ∧ Below W.heap.size W w'
def IxN (p : Int → Bool) (l : List Int) (z : Int) : Prop := (z = -1 ∧ ∀ (j : Nat) (x : Int), l[j]? = some x → p x = false) ∨ ∃ k : Nat, z = k ∧ ∃ x, l[k]? = some x ∧ p x = true ∧ ∀ (j : Nat) (y : Int), j < k → l[j]? = some y → p y = false
set_option maxHeartbeats 1000000 in
theorem indexN_x (w : World) (B n c : Nat) (A : Option Addr) (l : List Int) (h : Ls NE w B A n l) (hB : B ≤ w.heap.size) (hn : n ≤ 9223372036854775807) (g : Nat) (lb : Array Value) (p : Int → Bool)
    (eg : ∀ args w, (callFunc g args).run Try.prog w = .ok (.enter g args) w) (hp : PredN g lb p w) :
    Calls Try.prog 91 #[.slice A n c, .func (.func g) #[] lb] w fun e w' => (∃ z : Int, e = .returned (.int .i64 z) ∧ IxN p l z) ∧ Below w.heap.size w w' := by
  have HH := Lib.hid h
  have HP := Lib.hid hp
  have HL := Lib.hid h.1
  clear h hp
  go_enter Try.func91, Try.ntmps91
  go_wp2_with (fail)
  go_loopg [4, 5, 8] n (fun gg s4 s5 s8 wr => ∃ i : Nat, s8 = .int .i64 i ∧ i ≤ n ∧ n - i ≤ gg ∧ s4 = .int .i64 0 ∧ Aside (∀ (j : Nat) (y : Int), j < i → l[j]? = some y → p y = false) ∧ Aside (Below w.heap.size w wr))
  case atStart => exact ⟨0, rfl, by omega, by omega, rfl, fun j y hj => by omega, Below.refl _ _⟩
  case round =>
    obtain ⟨i, rfl, hi, hg, rfl, HN, HB⟩ := hrel
    have hs := HB.out.size
    by_cases hlt : i < n
    · have hltz : (i : Int) < (n : Int) := by omega
      obtain ⟨x, hx⟩ := HH.out.get hlt
      obtain ⟨b, off, rfl, hb, l0⟩ := num_at (HH.out.below HB.out hB) hx
      have hbw : b < wr.heap.size := by omega
      have HC := Lib.hid (HP.out wr x HB.out)
      have HX := Lib.hid hx
      clear hx
      go_wp2_with (fail)
      refine HC.out.mono ?_
      rintro e w2 ⟨rfl, hb2⟩
      have HB2 := Lib.hid (HB.out.trans (hb2.mono hs))
      clear hb2 HC
      cases hq : p x with
      | true =>
        go_wp2_with (fail)
        go_ret
        exact ⟨⟨i, rfl, .inr ⟨i, rfl, x, HX.out, hq, HN.out⟩⟩, HB2.out⟩
      | false =>
        go_wp2_with (fail)
        go_roundg (n - (i + 1))
        case measure => omega
        case rel => exact ⟨i + 1, by go_num, by omega, by omega, rfl, below_step HX.out hq HN.out, HB2.out⟩
    · obtain rfl : i = n := by omega
      have hltz : ¬ (i : Int) < (i : Int) := by omega
      go_wp2_with (fail)
      go_ret
      refine ⟨⟨-1, rfl, .inl ⟨rfl, fun j x hx => HN.out j x ?_ hx⟩⟩, HB.out⟩
      have := (List.getElem?_eq_some_iff.1 hx).1
      rw [HL.out] at this; exact this
theorem without1_x (W : World) (g : Nat) (n : Int) (o : Int) (hc : W.cell? ⟨g, 0, none⟩ = some (.int .i64 n)) :
    Calls Try.prog 74 #[.int .i64 o, .pointer (some ⟨g, 0, none⟩)] W fun e w' => e = .returned (.bool (o == n)) ∧ Below W.heap.size W w' := by
  go_enter Try.func74, Try.ntmps74
  go_wp2_with (fail)
  all_goals (go_ret; exact ⟨by simp_all, Below.refl _ _⟩)
theorem cs_num (l : List Int) : cs NE.enc l = l.map (Value.int .i64) := by
  induction l with
  | nil => rfl
  | cons x l ih => rw [cs_cons, ih]; rfl
theorem ow_setn {w : World} {B g n c i : Nat} {l : List Int} (h : Ow NE w B (.slice (some ⟨g, 0, none⟩) n c) n l) (x : Int) : Ow NE (w.setCell ⟨g, i, none⟩ (.int .i64 x)) B (.slice (some ⟨g, 0, none⟩) n c) n (l.set i x) := by
  refine ⟨by rw [List.length_set]; exact h.1, ?_⟩
  have e : cs NE.enc (l.set i x) = (cs NE.enc l).set i (.int .i64 x) := by rw [cs_num, cs_num, List.map_set]
  rw [e]
  exact own_setc h.2 _
theorem own_cutn {w : World} {B g n cap i : Nat} {l : List Int} (h : Ow NE w B (.slice (some ⟨g, 0, none⟩) n cap) n l) (hi : i ≤ n) : Ow NE w B (.slice (some ⟨g, 0, none⟩) i cap) i (l.take i) := by
  refine ⟨by rw [List.length_take, h.1]; omega, ?_⟩
  rcases h.2.2 with ⟨h0, _⟩ | ⟨g', cap', cur, h0, hb, hg, h1, h2, h3, h4⟩
  · cases h0
  · cases h0
    refine ⟨by rw [cs_len NE.len, List.length_take, h.1]; show _ * 1 = _ * 1; omega, .inr ⟨g, cap, cur, rfl, hb, hg, by omega, h2, h3, ?_⟩⟩
    rw [← cs_take NE.len, ← h4, List.take_take, Nat.min_eq_left (Nat.mul_le_mul_right _ hi)]
theorem own_cellsn {B g cap i : Nat} {l : List Int} (vs : List Value) (w : World) (o : Nat) (ho : i ≤ o) (h : Ow NE w B (.slice (some ⟨g, 0, none⟩) i cap) i l) :
    Ow NE (w.setCells g o vs) B (.slice (some ⟨g, 0, none⟩) i cap) i l ∧ Chg (fun k => k = g) w (w.setCells g o vs) := by
  induction vs generalizing w o with
  | nil => exact ⟨h, Chg.refl _ _⟩
  | cons v vs ih =>
    have h1 : Ow NE (w.setCell ⟨g, o, none⟩ v) B (.slice (some ⟨g, 0, none⟩) i cap) i l := by
      have := own_setc (j := o) h.2 v
      rw [List.set_eq_of_length_le (by rw [h.2.1]; show i * 1 ≤ o; omega)] at this
      exact ⟨h.1, this⟩
    have h2 : Chg (fun k => k = g) w (w.setCell ⟨g, o, none⟩ v) := chg_set1 v
    obtain ⟨h3, h4⟩ := ih (w.setCell ⟨g, o, none⟩ v) (o + 1) (by omega) h1
    exact ⟨h3, h2.trans h4 (fun _ _ e => e)⟩
theorem clearn_x (w : World) (B g n i cap : Nat) (l : List Int) (h : Ow NE w B (.slice (some ⟨g, 0, none⟩) n cap) n l) (hi : i < n) :
    ∃ zs : List Value, ∀ ty, (Builtin.clear_ #[22] ty #[.slice (some ⟨g, i, none⟩) (n - i) (cap - i)]).run Try.prog w = .ok (.tuple #[]) (w.setCells g i zs) := by
  obtain ⟨m, hm⟩ : ∃ m, n - i = m + 1 := ⟨n - i - 1, by omega⟩
  refine ⟨(Builtin.zeroCells (Value.int .i64 0).cells (m + 1)).toList, fun ty => ?_⟩
  obtain ⟨cur, hc⟩ := own_blk h.2
  have hsz : (Builtin.zeroCells (Value.int .i64 0).cells (m + 1)).toList.length = n - i := by
    simp [Builtin.zeroCells, hm, Value.cells]
  have hst := run_storeCells_cells (P := Try.prog) g i (Builtin.zeroCells (Value.int .i64 0).cells (m + 1)).toList 0 w
    (fun j hj => by
      rw [hsz] at hj
      have hlt : i + 0 + j < n * 1 := by omega
      rw [h.2.cellAt _ hlt, List.getElem?_eq_getElem (by rw [h.2.1]; exact hlt)]; rfl)
    (fun j _ => frozen_of_row _ _ _ _ _ hc)
    (fun v hv => by
      simp only [Builtin.zeroCells, Array.toList_map, List.mem_map] at hv
      obtain ⟨q, _, rfl⟩ := hv
      have e : q % 1 = 0 := Nat.mod_one q
      simp only [Value.cells, List.size_toArray, List.length_cons, List.length_nil, Nat.zero_add, e]
      rfl)
  simp only [Nat.add_zero] at hst
  rw [hm]
  have hz := Try.zeroValue3
  simp [Builtin.clear_, run_underlying Try.underlying22, hz, hst]
def RetDelN (w : World) (B g cap : Nat) (l : List Int) (e : Ending) (w' : World) : Prop :=
  ∃ m, e = .returned (.slice (some ⟨g, 0, none⟩) m cap) ∧ Ow NE w' B (.slice (some ⟨g, 0, none⟩) m cap) m l ∧ Chg (fun k => k = g) w w'
set_option maxHeartbeats 2000000 in
theorem deln_x (w : World) (B g n cap : Nat) (l : List Int) (h : Ow NE w B (.slice (some ⟨g, 0, none⟩) n cap) n l) (hn : n ≤ 1000000) (nb : Nat) (x0 : Int) (hnb : nb < w.heap.size) (hne : nb ≠ g) (hcx : w.cell? ⟨nb, 0, none⟩ = some (.int .i64 x0)) :
    Calls Try.prog 73 #[.slice (some ⟨g, 0, none⟩) n cap, .func (.func 74) #[] #[.pointer (some ⟨nb, 0, none⟩)]] w (RetDelN w B g cap (l.filter fun x => !(x == x0))) := by
  have eg : ∀ args w, (callFunc 74 args).run Try.prog w = .ok (.enter 74 args) w := enters_of Try.func74 (by kernel_rfl) rfl
  have hix := indexN_x w w.heap.size n cap (some ⟨g, 0, none⟩) l h.ls (Nat.le_refl _) (by omega) 74 #[.pointer (some ⟨nb, 0, none⟩)] (fun x => x == x0) eg
    (fun W o hW => without1_x W nb x0 o ((hW.cell (p := ⟨nb, 0, none⟩) hnb).trans hcx))
  have hl := h.1
  have hg : g < w.heap.size := own_lt h.2 rfl
  obtain ⟨_, c0, hce, _, hcap1, hcap2⟩ := h.form
  cases hce
  obtain ⟨p, hp⟩ : ∃ p : Int → Bool, (fun x => x == x0) = p := ⟨_, rfl⟩
  have hpx : ∀ x, (x == x0) = p x := fun x => congrFun hp x
  have HPX := Lib.hid hpx
  rw [hp] at hix
  simp only [hpx]
  have HO := Lib.hid h
  have HIX := Lib.hid hix
  have HL := Lib.hid hl
  have HCX := Lib.hid hcx
  clear h hix hl hcx hp hpx
  go_enter Try.func73, Try.ntmps73
  go_wp2_with (fail)
  refine HIX.out.mono ?_
  rintro e w1 ⟨⟨z, rfl, hz⟩, hb1⟩
  have HC1 := Lib.hid (show Chg (fun k => k = g) w w1 from (Chg.of_below hb1).mono (fun _ _ e => e.elim))
  have HO1 := Lib.hid (HO.out.below hb1 (Nat.le_refl _))
  have hs1 := hb1.size
  clear hb1 HO HIX
  rcases hz with ⟨rfl, hall⟩ | ⟨k0, rfl, x, hx, ht, hall⟩
  · have HF := Lib.hid (show (l.filter fun x => !(p x)) = l from 
      List.filter_eq_self.2 fun r hr => by
        obtain ⟨j, hj, rfl⟩ := List.mem_iff_getElem.1 hr
        rw [hall j _ (List.getElem?_eq_getElem hj)]; rfl)
    clear hall
    go_wp2_with (fail)
    go_ret
    exact ⟨n, rfl, by rw [HF.out]; exact HO1.out, HC1.out⟩
  · obtain ⟨hk0, hxe⟩ := List.getElem?_eq_some_iff.1 hx
    have HD := Lib.hid (Del.start (p := p) hk0 (by rw [hxe]; exact ht) (fun j hj => hall j _ hj (List.getElem?_eq_getElem (by omega))))
    have hk1 : k0 < n := by rw [← HL.out]; exact hk0
    have hne0 : ((k0 : Int) == -1) = false := by simp
    clear hx hxe ht hall hk0
    go_wp2_with (fail)
    go_loopg [5, 6, 7] n (fun gg s5 s6 s7 wr => ∃ (i j : Nat) (d : List Int), s5 = .int .i64 i ∧ s6 = .int .i64 j ∧ j ≤ n ∧ n - j ≤ gg ∧ Aside (Del p l d i j) ∧ Aside (Ow NE wr B (.slice (some ⟨g, 0, none⟩) n cap) n d) ∧ Aside (Chg (fun k => k = g) w wr) ∧ w.heap.size ≤ wr.heap.size)
    case atStart => exact ⟨k0, k0 + 1, l, rfl, by go_num, by omega, by omega, HD.out, HO1.out, HC1.out, hs1⟩
    case round =>
      obtain ⟨i, j, d, rfl, rfl, hj, hg2, D, OW, CW, hsw⟩ := hrel
      clear HD HO1 HC1
      have hij := D.out.lt
      by_cases hlt : j < n
      · have hltz : (j : Int) < (n : Int) := by omega
        have hjl : j < l.length := by rw [HL.out]; exact hlt
        have hdx := D.out.at_ hjl
        obtain ⟨x, hx⟩ : ∃ x, l[j] = x := ⟨_, rfl⟩
        have hdj : d[j]? = some x := by rw [List.getElem?_eq_getElem (by rw [D.out.len]; exact hjl), hdx, hx]
        obtain ⟨b, off, hbe, hb, l0⟩ := num_at OW.out.ls hdj
        cases hbe
        simp only [Nat.zero_add] at l0
        have HX := Lib.hid hx
        have HJL := Lib.hid hjl
        have hnc : wr.cell? ⟨nb, 0, none⟩ = some (.int .i64 x0) := by
          have e : wr.cell? ⟨nb, 0, none⟩ = w.cell? ⟨nb, 0, none⟩ := by simp only [World.cell?, CW.out.block nb hnb hne]
          rw [e]; exact HCX.out
        have hc := without1_x wr nb x0 x hnc
        rw [HPX.out] at hc
        have HC := Lib.hid hc
        have HSW := Lib.hid hsw
        clear hdx hdj hx hnc hc
        go_wp2_with (fail)
        refine HC.out.mono ?_
        rintro e w2 ⟨rfl, hb2⟩
        have hs2 := hb2.size
        have HB2 := Lib.hid hb2
        have OW2 := Lib.hid (OW.out.below HB2.out (Nat.le_refl _))
        obtain ⟨cur, hcur⟩ := own_blk OW2.out.2
        have f0 : w2.frozen? ⟨g, i, none⟩ = false := frozen_of_row _ _ _ _ _ hcur
        obtain ⟨y, hy⟩ := OW2.out.ls.get (show i < n by omega)
        obtain ⟨_, _, hbe, _, n0⟩ := num_at OW2.out.ls hy
        cases hbe
        simp only [Nat.zero_add] at n0
        have hin : (i : Int) < (n : Int) := by omega
        have hgw2 : g < w2.heap.size := blk_lt hcur
        have CW2 := Lib.hid (CW.out.then_below HB2.out)
        clear hb2 hcur hy HC l0
        cases hq : p x with
        | true =>
          go_wp2_with (fail)
          go_roundg (n - (j + 1))
          case measure => omega
          case rel => exact ⟨i, j + 1, d, rfl, by go_num, by omega, by omega, D.out.skip HJL.out HX.out hq, OW2.out, CW2.out, by have := HSW.out; omega⟩
        | false =>
          go_wp2_with (fail)
          go_roundg (n - (j + 1))
          case measure => omega
          case rel => exact ⟨i + 1, j + 1, d.set i x, by go_num, by go_num, by omega, by omega, D.out.keep HJL.out HX.out hq, ow_setn OW2.out x, CW2.out.trans (chg_set1 _) (fun _ _ e => e), by have := HSW.out; simp [World.setCell]; omega⟩
      · obtain rfl : j = n := by omega
        have hltz : ¬ (j : Int) < (j : Int) := by omega
        have hlt' : (i : Int) < (j : Int) := by omega
        obtain ⟨zs, hcl⟩ := clearn_x wr B g j i cap d OW.out hij
        have hi1 : (i : Int) ≤ (j : Int) := by omega
        have hi2 : (i : Int) ≤ (cap : Int) := by omega
        have hne2 : cap ≠ i := by omega
        clear hlt'
        go_wp2_with (fail)
        go_ret
        obtain ⟨h1, h2⟩ := own_cellsn zs wr i (Nat.le_refl _) (own_cutn OW.out (by omega))
        have e := (show Del p l d i l.length from by rw [HL.out]; exact D.out).done
        refine ⟨i, rfl, ?_, CW.out.trans h2 (fun _ _ e => e)⟩
        rw [← e]
        exact h1
theorem without_x (w : World) (B g n cap : Nat) (l : List Int) (h : Ow NE w B (.slice (some ⟨g, 0, none⟩) n cap) n l) (hn : n ≤ 1000000) (x : Int) :
    Calls Try.prog 51 #[.slice (some ⟨g, 0, none⟩) n cap, .int .i64 x] w (RetDelN w B g cap (without l x)) := by
  have hg : g < w.heap.size := own_lt h.2 rfl
  obtain ⟨wa, hwa⟩ : ∃ wa, w.alloc (.cells #[.int .i64 x] 3) = wa := ⟨_, rfl⟩
  have hba : Below w.heap.size w wa := by rw [← hwa]; exact below_al _ _
  have hca : wa.cell? ⟨w.heap.size, 0, none⟩ = some (.int .i64 x) := by rw [← hwa, cell_of_row _ _ _ _ _ _ (alloc_new w _)]; rfl
  have hsa : w.heap.size < wa.heap.size := by rw [← hwa, World.size_alloc]; omega
  have HD := Lib.hid (deln_x wa B g n cap l (h.below hba (Nat.le_refl _)) hn w.heap.size x hsa (by omega) hca)
  have HWA := Lib.hid hwa
  have HBA := Lib.hid hba
  clear h hwa hba hca
  go_enter Try.func51, Try.ntmps51
  go_wp2_with (fail)
  rw [HWA.out]
  refine HD.out.mono ?_
  rintro e w2 ⟨m, rfl, ho, hc⟩
  have HO := Lib.hid ho
  have HC := Lib.hid hc
  clear ho hc
  go_wp2_with (fail)
  go_ret
  exact ⟨m, rfl, HO.out, ((Chg.of_below HBA.out).mono (fun _ _ e => e.elim)).trans HC.out (fun _ _ e => e)⟩
end Go.Proofs.Ytnpkhkhchimcnaa.pm
