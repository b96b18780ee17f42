/-
  Placements: the program's Init.
-/
import Derived.Test.YtnpkhkhchimcnaaPmWp
import Derived.Test.YtnpkhkhchimcnaaPmLeast
import Derived.Test.YtnpkhkhchimcnaaPmCheck
import Derived.Test.YtnpkhkhchimcnaaPmSort
namespace Go.Proofs.Ytnpkhkhchimcnaa.pm
open Go.ChangeShapes Go.WideShapes Go.ChangeAt Go.RowKit Go.Shelf plain words ord mem

def at_ (ss : List (List O)) (i : Nat) : List O := (ss[i]?).getD []
def stepO (nodes : List Int) (ss : List (List O)) (i : Nat) : List (List O) := ss.set i (own (at_ ss i) (least nodes ss (at_ ss i), 2, -1))
def steps (nodes : List Int) (i : Nat) : Nat → List (List O) → List (List O)
  | 0, ss => ss
  | j + 1, ss => stepO nodes (steps nodes i j ss) i
def initAt (nodes : List Int) (S : Nat) : Nat → List (List O)
  | 0 => List.replicate S []
  | i + 1 => steps nodes i 3 (initAt nodes S i)
theorem stepO_len (nodes : List Int) (ss : List (List O)) (i : Nat) : (stepO nodes ss i).length = ss.length := by simp [stepO]
theorem steps_len (nodes : List Int) (i j : Nat) (ss : List (List O)) : (steps nodes i j ss).length = ss.length := by
  induction j with
  | zero => rfl
  | succ j ih => rw [steps, stepO_len, ih]
theorem initAt_len (nodes : List Int) (S i : Nat) : (initAt nodes S i).length = S := by
  induction i with
  | zero => simp [initAt]
  | succ i ih => rw [initAt, steps_len, ih]
noncomputable def initErr (l : List Int) (s : Int) : Int := if tb (NodesOk (srt l)) = true then (if s < 1 ∨ 8 < s then 1 else 0) else 140
noncomputable def initPl (l : List Int) (s : Int) : Pl := if initErr l s = 0 then ⟨1, srt l, initAt (srt l) s.toNat s.toNat⟩ else ⟨0, [], []⟩
/-- a placement and an error behind a call -/
def RetPl (w : World) (p : Pl) (er : Int) (e : Ending) (w' : World) : Prop := ∃ v : PV, e = .returned (.tuple #[v.val, .int .i64 er]) ∧ v.pl = p ∧ PVok w' w'.heap.size v ∧ Below w.heap.size w w'
def noPV : PV := ⟨0, none, 0, [], none, 0, []⟩
theorem noPV_ok (w : World) : PVok w w.heap.size noPV := ⟨Ls.nil _ _ _, Nat.le_refl _, by simp [noPV], fun _ => rfl, ⟨Ls.nil _ _ _, fun r hr => by simp [noPV] at hr⟩, Nat.le_refl _, by simp [noPV], fun _ => rfl⟩
theorem sizeP : (Try.prog.info? 25).map (·.size) = some 3 := by kernel_rfl
theorem RetPl.none {w w' : World} {er : Int} (hb : Below w.heap.size w w') : RetPl w ⟨0, [], []⟩ er (.returned (.tuple #[.agg #[.int .i64 0, .slice none 0 0, .slice none 0 0], .int .i64 er])) w' := ⟨noPV, rfl, rfl, noPV_ok _, hb⟩
theorem stepO_small {nodes : List Int} {X : List (List O)} {i K : Nat} (h : ∀ l ∈ X, l.length ≤ K) : ∀ l ∈ stepO nodes X i, l.length ≤ K + 1 := fun l hl => by
  unfold stepO at hl
  rcases List.mem_or_eq_of_mem_set hl with hl | rfl
  · have := h l hl; omega
  · rw [own_len]
    unfold at_
    cases hx : X[i]? with
    | none => simp
    | some q => have := h q (List.mem_of_getElem? hx); simp; omega
theorem steps_small {nodes : List Int} {X : List (List O)} {i K : Nat} (h : ∀ l ∈ X, l.length ≤ K) (j : Nat) : ∀ l ∈ steps nodes i j X, l.length ≤ K + j := by
  induction j with
  | zero => exact h
  | succ j ih => exact stepO_small ih
theorem initAt_small (nodes : List Int) (S i : Nat) : ∀ l ∈ initAt nodes S i, l.length ≤ 3 * i := by
  induction i with
  | zero => intro l hl; simp [initAt] at hl; simp [hl.2]
  | succ i ih => intro l hl; have := steps_small (nodes := nodes) (i := i) ih 3 l hl; omega
theorem chg_set3 {w : World} {g : Nat} (v0 v1 v2 : Value) : Chg (fun k => k = g) w (((w.setCell ⟨g, 0, none⟩ v0).setCell ⟨g, 1, none⟩ v1).setCell ⟨g, 2, none⟩ v2) :=
  (((Chg.refl (fun k => k = g) w).setCell (p := ⟨g, 0, none⟩) (fun _ => rfl) v0).setCell (p := ⟨g, 1, none⟩) (fun _ => rfl) v1).setCell (p := ⟨g, 2, none⟩) (fun _ => rfl) v2
/-- a variable of another placement may change -/
theorem WP.apart {w w' : World} {B pb g : Nat} {v : PV} {cur : Array Value} (h : WP w B pb v) (hc : Chg (fun k => k = g) w w') (hg : w.heap[g]? = some (.cells cur 25 (0, 0))) (hne : g ≠ pb) : WP w' B pb v :=
  ⟨h.le, hc.blk h.var (fun e => hne e.symm), ow_other h.n hc hg (by decide), ow_other h.s hc hg (by decide), fun r hr => ow_other (h.each r hr) hc hg (by decide)⟩
theorem nils_cs (S : Nat) : cs SE.enc (List.replicate S (⟨none, 0, []⟩ : Rw3)) = List.replicate S (Value.slice none 0 0) := by
  induction S with
  | zero => rfl
  | succ k ih => rw [List.replicate_succ, cs_cons, ih]; rfl
/-- how Init stands: what is laid so far -/
structure PI (w wr : World) (pb sb : Nat) (nodes : List Int) (X : List (List O)) (v : PV) : Prop where
  wp : WP wr w.heap.size pb v
  ver : v.ver = 1
  nodes : v.nodes = nodes
  sA : v.sA = some ⟨sb, 0, none⟩
  ss : v.pl.ss = X
  bel : Below w.heap.size w wr
  res : IsV3 25 wr w.heap.size (.int .i64 0) (.slice none 0 0) (.slice none 0 0)
theorem PI.len {w wr : World} {pb sb : Nat} {nodes : List Int} {X : List (List O)} {v : PV} (h : PI w wr pb sb nodes X v) : v.rs.length = X.length := by rw [← h.ss]; simp [PV.pl]
theorem PI.step {w wr w7 w8 : World} {pb sb : Nat} {nodes : List Int} {X : List (List O)} {v : PV} {i : Nat} {e : Ending} {q : List O} {x : Int} (h : PI w wr pb sb nodes X v) (hsb : w.heap.size < sb) (hb7 : Below wr.heap.size wr w7) (hq : at_ X i = q) (hx : least nodes X q = x) (hr : RetOwn w7 w.heap.size pb i v sb (own q (x, 2, -1)) e w8) :
    e = .returned (.tuple #[]) ∧ ∃ v', PI w w8 pb sb nodes (stepO nodes X i) v' := by
  obtain ⟨he, r', hl, hwp, hch⟩ := hr
  refine ⟨he, { v with rs := v.rs.set i r' }, hwp, h.ver, h.nodes, h.sA, ?_, ?_, ?_⟩
  · unfold stepO
    rw [hq, hx, ← h.ss, ← hl]
    simp [PV.pl, List.map_set]
  · exact (h.bel.trans (hb7.mono h.bel.size)).trans (hch.below (Nat.le_trans h.bel.size hb7.size) (fun k e => by omega))
  · exact hch.blk (blk_below hb7 h.res (blk_lt h.res)) (by omega)
set_option maxHeartbeats 4000000 in
theorem pinit_x (w : World) (B n c : Nat) (A : Option Addr) (l : List Int) (h : Ls NE w B A n l) (hB : B ≤ w.heap.size) (hn : n ≤ 1000000) (s : Int) :
    Calls Try.prog 11 #[.slice A n c, .int .i64 s] w (RetPl w (initPl l s) (initErr l s)) := by
  obtain ⟨w1, hw1⟩ : ∃ w1, w.alloc (.cells #[.int .i64 0, .slice none 0 0, .slice none 0 0] 25) = w1 := ⟨_, rfl⟩
  have hb1 : Below w.heap.size w w1 := by rw [← hw1]; exact below_al _ _
  have g1 : IsV3 25 w1 w.heap.size (.int .i64 0) (.slice none 0 0) (.slice none 0 0) := by rw [← hw1]; exact alloc_new _ _
  have hs1 : w.heap.size < w1.heap.size := blk_lt g1
  obtain ⟨w2, hw2⟩ : ∃ w2, w1.alloc (.cells #[.slice A n c] 22) = w2 := ⟨_, rfl⟩
  have hb2 : Below w1.heap.size w1 w2 := by rw [← hw2]; exact below_al _ _
  have g2 : w2.heap[w1.heap.size]? = some (.cells #[.slice A n c] 22 (0, 0)) := by rw [← hw2]; exact alloc_new _ _
  have hs2 : w1.heap.size < w2.heap.size := blk_lt g2
  have HV := Lib.hid (values_x w1 n c A)
  have HSO := Lib.hid (sorted_x w2 w1.heap.size n c A l hs2 (by rw [cell_of_row _ _ _ _ _ _ g2]; rfl) (((h.below hb1 hB).below hb2 (by omega)).more (by omega)) hn)
  have HW1 := Lib.hid hw1
  have HW2 := Lib.hid hw2
  have HB2 := Lib.hid (hb1.trans (hb2.mono (by omega)))
  have G2 := Lib.hid (blk_below hb2 g1 hs1)
  have HLN := Lib.hid h.1
  clear hw1 hw2 hb1 hb2 g1 g2 h
  go_enter Try.func11, Try.ntmps11
  go_wp2_with (fail)
  rw [HW1.out]
  refine HV.out.mono ?_
  rintro e w0 ⟨rfl, rfl⟩
  go_wp2_with (fail)
  rw [HW2.out]
  refine HSO.out.mono ?_
  rintro e w3 ⟨A3, c3, rfl, how3, hb3⟩
  have e3 : (srt l).length = n := by rw [srt_len, HLN.out]
  rw [e3] at how3 ⊢
  have HO3 := Lib.hid how3
  have G3 := Lib.hid (blk_below hb3 G2.out (by omega))
  have HB3 := Lib.hid (HB2.out.trans (hb3.mono (by omega)))
  have HNV := Lib.hid (nodesValid_x w3 w3.heap.size n c3 A3 (srt l) how3.ls (Nat.le_refl _) (by omega))
  have hs3 := HB3.out.size
  have E3 := Lib.hid e3
  clear how3 hb3 HSO HV e3
  go_wp2_with (fail)
  refine HNV.out.mono ?_
  rintro e w4 ⟨rfl, hb4⟩
  have HO4 := Lib.hid (HO3.out.below hb4 (Nat.le_refl _))
  have G4 := Lib.hid (blk_below hb4 G3.out (blk_lt G3.out))
  have HB4 := Lib.hid (HB3.out.trans (hb4.mono hs3))
  have hs4 := HB4.out.size
  have hg4 : w.heap.size < w4.heap.size := blk_lt G4.out
  obtain ⟨⟨d0, d1, d2⟩, f0, f1, f2⟩ := isv3_cells G4.out
  clear hb4 HNV
  by_cases hno : NodesOk (srt l)
  · rw [tb_true hno]
    have hie : initErr l s = if s < 1 ∨ 8 < s then 1 else 0 := by unfold initErr; rw [tb_true hno, if_pos rfl]
    by_cases q1 : s < 1
    · have t1 : decide (s < 1) = true := decide_eq_true q1
      have HE := Lib.hid (show initErr l s = 1 by rw [hie, if_pos (.inl q1)])
      have HP := Lib.hid (show initPl l s = ⟨0, [], []⟩ by unfold initPl; rw [HE.out]; rfl)
      clear hie
      go_wp2_with (fail)
      (try simp only [Exit.inBlock, Exit.then])
      refine bodyPost_ret (ret_cell rfl _ _ w.heap.size 25 _ _ _ rfl (set3 G4.out) Try.underlying25 rfl sizeP) rfl ?_
      rw [HE.out, HP.out]
      exact RetPl.none (below_set3 HB4.out (Nat.le_refl _) _ _ _)
    · have t1 : decide (s < 1) = false := decide_eq_false q1
      by_cases q2 : (8 : Int) < s
      · have t2 : decide ((8 : Int) < s) = true := decide_eq_true q2
        have HE := Lib.hid (show initErr l s = 1 by rw [hie, if_pos (.inr q2)])
        have HP := Lib.hid (show initPl l s = ⟨0, [], []⟩ by unfold initPl; rw [HE.out]; rfl)
        clear hie
        go_wp2_with (fail)
        (try simp only [Exit.inBlock, Exit.then])
        refine bodyPost_ret (ret_cell rfl _ _ w.heap.size 25 _ _ _ rfl (set3 G4.out) Try.underlying25 rfl sizeP) rfl ?_
        rw [HE.out, HP.out]
        exact RetPl.none (below_set3 HB4.out (Nat.le_refl _) _ _ _)
      · have t2 : decide ((8 : Int) < s) = false := decide_eq_false q2
        obtain ⟨S, rfl⟩ : ∃ S : Nat, s = (S : Int) := ⟨s.toNat, by omega⟩
        have HE := Lib.hid (show initErr l (S : Int) = 0 by rw [hie, if_neg (by omega)])
        have HP := Lib.hid (show initPl l (S : Int) = ⟨1, srt l, initAt (srt l) S S⟩ by unfold initPl; rw [HE.out]; rfl)
        clear hie
        have hS8 : S ≤ 8 := by omega
        obtain ⟨i0, hi, hz0, hz1, hz2⟩ := info_of infoS
        have hmk : (Instr.makeSlice 23 (.int .i64 (S : Int)) (.int .i64 (S : Int))).run Try.prog w4 = .ok (.slice (some ⟨w4.heap.size, 0, none⟩) S S) (w4.alloc (.cells (List.replicate S (Value.slice none 0 0)).toArray 42)) := by
          have h := run_make (P := Try.prog) w4 23 42 i0 (.slice none 0 0) Try.underlying23 hi hz0 .i64 .i64 (S : Int) (S : Int) (by omega) (by omega) (by rw [hz2]; omega) (by omega)
          rw [show ((S : Int)).toNat = S from by omega, hz1, Nat.mul_one] at h
          have e : madeCells (Value.slice none 0 0).cells S = (List.replicate S (Value.slice none 0 0)).toArray := by
            apply Array.ext'
            rw [show (Value.slice none 0 0).cells = #[Value.slice none 0 0] from rfl, toList_madeCells_one]
          rw [h, e]
        obtain ⟨w5, hw5⟩ : ∃ w5, w4.alloc (.cells (List.replicate S (Value.slice none 0 0)).toArray 42) = w5 := ⟨_, rfl⟩
        have hb5 : Below w4.heap.size w4 w5 := by rw [← hw5]; exact below_al _ _
        have how5 : Ow SE w5 w.heap.size (.slice (some ⟨w4.heap.size, 0, none⟩) S S) S (List.replicate S ⟨none, 0, []⟩) := by
          have e5 := nils_cs S
          refine ⟨by simp, ?_⟩
          rw [e5, ← hw5]
          change World.ownsRow _ w.heap.size 42 1 _ S _
          have := World.ownsRow_lit (w := w4) (base := w.heap.size) (e := 42) (size := 1) (List.replicate S (Value.slice none 0 0)).toArray S hs4 (by unfold maxLen; omega) (by simp)
          simpa using this
        obtain ⟨w6, hw6⟩ : ∃ w6, w5.alloc (.cells #[.int .i64 1, .slice A3 n c3, .slice (some ⟨w4.heap.size, 0, none⟩) S S] 25) = w6 := ⟨_, rfl⟩
        have hb6 : Below w5.heap.size w5 w6 := by rw [← hw6]; exact below_al _ _
        have hs5 : w5.heap.size = w4.heap.size + 1 := by rw [← hw5]; simp
        have gp6 : IsV3 25 w6 w5.heap.size (.int .i64 1) (.slice A3 n c3) (.slice (some ⟨w4.heap.size, 0, none⟩) S S) := by rw [← hw6]; exact alloc_new _ _
        have HPI := Lib.hid (show PI w w6 w5.heap.size w4.heap.size (srt l) (initAt (srt l) S 0) ⟨1, A3, c3, srt l, some ⟨w4.heap.size, 0, none⟩, S, List.replicate S ⟨none, 0, []⟩⟩ from by
          refine ⟨⟨by omega, ?_, ?_, ?_, ?_⟩, rfl, rfl, rfl, by simp [PV.pl, initAt], HB4.out.trans ((hb5.trans (hb6.mono (by omega))).mono hs4), blk_below hb6 (blk_below hb5 G4.out hg4) (by omega)⟩
          · simp only [Boxed, List.length_replicate, E3.out]; exact gp6
          · simp only [E3.out]; exact ((HO4.out.below hb5 (Nat.le_refl _)).below hb6 (Nat.le_refl _)).base (by have := HB2.out.size; omega)
          · simp only [List.length_replicate]; exact how5.below hb6 (Nat.le_refl _)
          · intro r hr
            rw [List.mem_replicate] at hr
            rw [hr.2]
            exact Ow.nil _ _)
        have HW5 := Lib.hid hw5
        have HW6 := Lib.hid hw6
        rw [hw5] at hmk
        obtain ⟨P0, hP0⟩ : ∃ P0, w4.heap.size = P0 := ⟨_, rfl⟩
        have HP0 := Lib.hid hP0
        clear hw5 hw6 hb5 hb6 how5 gp6 d0 d1 d2 f0 f1 f2 hi hz0 hz1 hz2
        rw [hP0] at HPI hmk HW6
        have hg5 : w.heap.size < P0 := by omega
        have hg6 : w.heap.size < w5.heap.size := by omega
        clear hs5
        go_wp2_with (fail)
        rw [HW6.out]
        clear hmk
        go_loopg [8, 30, 33] S (fun gg s8 s30 s33 wr => ∃ i : Nat, s30 = .int .i64 i ∧ i ≤ S ∧ S - i ≤ gg ∧ Aside (∃ v, PI w wr w5.heap.size P0 (srt l) (initAt (srt l) S i) v))
        case atStart => exact ⟨0, rfl, by omega, by omega, ⟨_, HPI.out⟩⟩
        case round =>
          obtain ⟨i, rfl, hi, hg, HV0⟩ := hrel
          clear HPI
          by_cases hlt : i < S
          · have hltz : (i : Int) < (S : Int) := by omega
            go_wp2_with (fail)
            go_loopg [33] 3 (fun gg2 s33 wr => ∃ j : Nat, s33 = .int .i64 j ∧ j ≤ 3 ∧ 3 - j ≤ gg2 ∧ Aside (∃ v, PI w wr w5.heap.size P0 (srt l) (steps (srt l) i j (initAt (srt l) S i)) v))
            case atStart => exact ⟨0, rfl, by omega, by omega, HV0.out⟩
            case round =>
              obtain ⟨j, rfl, hj, hg2, HV1⟩ := hrel
              clear HV0
              by_cases hlt2 : j < 3
              · have hltz2 : (j : Int) < 3 := by omega
                obtain ⟨v, hv⟩ := HV1.out
                have hsm := steps_small (nodes := srt l) (i := i) (initAt_small (srt l) S i) j
                obtain ⟨X, hX⟩ : ∃ X, steps (srt l) i j (initAt (srt l) S i) = X := ⟨_, rfl⟩
                have hXl : X.length = S := by rw [← hX, steps_len, initAt_len]
                rw [hX] at hv hsm
                obtain ⟨q, hq⟩ : ∃ q, X[i]? = some q := ⟨_, List.getElem?_eq_getElem (by omega)⟩
                have hqs : v.pl.ss[i]? = some q := by rw [hv.ss]; exact hq
                obtain ⟨r, hr⟩ : ∃ r, v.rs[i]? = some r := ⟨_, List.getElem?_eq_getElem (by rw [hv.len]; omega)⟩
                have hrq : r.l = q := by have := pl_at hr; rw [hqs] at this; exact (Option.some.inj this).symm
                have hql := hsm q (List.mem_of_getElem? hq)
                have hat : at_ X i = q := by unfold at_; rw [hq]; rfl
                obtain ⟨x, hx⟩ : ∃ x, least (srt l) X q = x := ⟨_, rfl⟩
                have hle := pleast_x wr wr.heap.size v hv.wp.ok (Nat.le_refl _) i q hqs
                rw [hv.nodes, hv.ss, hx] at hle
                have HLE := Lib.hid hle
                have HOW := Lib.hid (fun (u : World) (hu : Below wr.heap.size wr u) => own_x u w.heap.size w5.heap.size P0 v (hv.wp.below hu (Nat.le_refl _)) hv.sA i r hr (by rw [hrq]; omega) (x, 2, -1))
                rw [hrq] at HOW
                obtain ⟨⟨c0, c1, c2⟩, _⟩ := isv3_cells hv.wp.var
                have hpl := hv.wp.lt
                have HVV := Lib.hid hv
                have HX := Lib.hid (show steps (srt l) i (j + 1) (initAt (srt l) S i) = stepO (srt l) X i by rw [← hX]; rfl)
                have HXX := Lib.hid (And.intro hat hx)
                clear hv hsm hX hq hqs hr hat hx hle HV1
                go_wp2_with (fail)
                refine HLE.out.mono ?_
                rintro e w7 ⟨rfl, hb7⟩
                have HB7 := Lib.hid hb7
                clear hb7 c0 c1 c2
                go_wp2_with (fail)
                refine (HOW.out w7 HB7.out).mono ?_
                rintro e w8 hret
                obtain ⟨rfl, v', hv'⟩ := HVV.out.step hg5 HB7.out HXX.out.1 HXX.out.2 hret
                rw [← HX.out] at hv'
                have HV2 := Lib.hid hv'
                clear hret hv' HOW HLE
                go_wp2_with (fail)
                go_roundg (3 - (j + 1))
                case measure => omega
                case rel => exact ⟨j + 1, by go_num, by omega, by omega, ⟨v', HV2.out⟩⟩
              · obtain rfl : j = 3 := by omega
                have hltz2 : ¬ ((3 : Nat) : Int) < 3 := by omega
                go_wp2_with (fail)
                go_roundg (S - (i + 1))
                case measure => omega
                case rel => exact ⟨i + 1, by go_num, by omega, by omega, HV1.out⟩
          · obtain rfl : i = S := by omega
            have hltz : ¬ (i : Int) < (i : Int) := by omega
            obtain ⟨v, hv⟩ := HV0.out
            obtain ⟨⟨c0, c1, c2⟩, _⟩ := isv3_cells hv.wp.var
            obtain ⟨⟨d0, d1, d2⟩, f0, f1, f2⟩ := isv3_cells hv.res
            have hpl := hv.wp.lt
            have hrl := blk_lt hv.res
            have HVV := Lib.hid hv
            clear hv HV0
            go_wp2_with (fail)
            (try simp only [Exit.inBlock, Exit.then])
            refine bodyPost_ret (ret_cell rfl _ _ w.heap.size 25 _ _ _ rfl (set3 HVV.out.res) Try.underlying25 rfl sizeP) rfl ?_
            rw [HE.out, HP.out]
            refine ⟨v, rfl, ?_, ?_, ?_⟩
            · have h9 := HVV.out.ss
              unfold PV.pl at h9 ⊢
              simp only at h9
              rw [HVV.out.ver, HVV.out.nodes, h9]
            · exact (HVV.out.wp.apart (chg_set3 _ _ _) HVV.out.res (by omega)).ok
            · exact below_set3 HVV.out.bel (Nat.le_refl _) _ _ _
  · rw [tb_false hno]
    have HE := Lib.hid (show initErr l s = 140 by unfold initErr; rw [tb_false hno]; rfl)
    have HP := Lib.hid (show initPl l s = ⟨0, [], []⟩ by unfold initPl; rw [HE.out]; rfl)
    clear hno
    go_wp2_with (fail)
    (try simp only [Exit.inBlock, Exit.then])
    refine bodyPost_ret (ret_cell rfl _ _ w.heap.size 25 _ _ _ rfl (set3 G4.out) Try.underlying25 rfl sizeP) rfl ?_
    rw [HE.out, HP.out]
    exact RetPl.none (below_set3 HB4.out (Nat.le_refl _) _ _ _)
end Go.Proofs.Ytnpkhkhchimcnaa.pm
