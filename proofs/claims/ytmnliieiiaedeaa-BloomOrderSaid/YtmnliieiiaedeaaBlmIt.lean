/-
  Bloom: the program's iterator over a name's positions, as a contract for whatever loop.
-/
import Derived.Test.YtmnliieiiaedeaaBlmY
import Derived.Test.YtmnliieiiaedeaaRound
import Derived.RangeFuncBox
namespace Go.Proofs.Ytmnliieiiaedeaa.blm
open Go.ChangeShapes Go.WideShapes Go.ChangeAt Go.RowKit Go.Shelf plain words ord mem murmur
attribute [local go_sem] Oper.semAt_some

/-- all cells but those of block g stay -/
structure Kg (g : Nat) (A B : World) : Prop where
  size : A.heap.size ≤ B.heap.size
  same : ∀ k o, A.heap[k]? = some o → o.isCells = true → k ≠ g → B.heap[k]? = some o
theorem Kg.refl (g : Nat) (A : World) : Kg g A A := ⟨Nat.le_refl _, fun _ _ h _ _ => h⟩
theorem Kg.tr {g : Nat} {A B C : World} (h : Kg g A B) (k : Kg g B C) : Kg g A C := ⟨Nat.le_trans h.size k.size, fun i o hi hc hg => k.same i o (h.same i o hi hc hg) hc hg⟩
theorem Kg.put {g : Nat} {w : World} (W : World) (l : Nat) (o o' : Obj) (_ : w.heap.size ≤ l) (h : W.heap[l]? = some o) (hc : o.isCells = false) (_ : o.isWalk = false) : Kg g W (W.putObj l o') :=
  ⟨by simp, fun k q hk hq _ => by rw [World.putObj_heap_other (fun e => by subst e; rw [h] at hk; cases hk; rw [hc] at hq; cases hq)]; exact hk⟩
theorem Kg.of_chg {g : Nat} {A B : World} (h : Chg (fun b => b = g) A B) : Kg g A B := ⟨h.size, fun k _ hk _ hg => h.blk hk hg⟩
theorem grown_below {w w' : World} (h : Below w.heap.size w w') : w.grownBy w' none := ⟨h.os, h.tape, h.output, h.size, fun k hk _ => h.block k hk⟩
theorem blk_kept {W W' : World} {row : Option Nat} {k : Nat} {c : Array Value} {t : TypeId} {f : Nat × Nat} (h : W.heap[k]? = some (.cells c t f)) (hg : W.grownBy W' row) (hrow : ∀ r, row = some r → ∃ o : Obj, W.heap[r]? = some o ∧ o.isCells = false) : W'.heap[k]? = some (.cells c t f) := by
  rw [hg.block k (blk_lt h) (fun e => by obtain ⟨o, ho, hc⟩ := hrow k e.symm; rw [h] at ho; cases ho; cases hc)]
  exact h
abbrev Pos (n : Nat) := { x : Nat // x < 8 * n }
def pls (n : Nat) (s : ByteArray) (hn : 0 < n) : List (Pos n) := (List.range 4).map fun k => ⟨pl n s k, pl_lt n s k hn⟩
theorem pls_take (n : Nat) (s : ByteArray) (hn : 0 < n) (k : Nat) (hk : k < 4) : (pls n s hn).take (k + 1) = (pls n s hn).take k ++ [⟨pl n s k, pl_lt n s k hn⟩] := by
  refine take_succ_of ?_
  unfold pls
  rw [List.getElem?_map, List.getElem?_range hk]
  rfl
theorem pls_len (n : Nat) (s : ByteArray) (hn : 0 < n) : (pls n s hn).length = 4 := by simp [pls]
theorem positions_x (w : World) (pa : Option Addr) (s : ByteArray) :
    Calls Try.prog 65 #[.pointer pa, .string s] w fun e w' => e = .returned (.func (.func 80) #[] #[.pointer (some ⟨w.heap.size + 1, 0, none⟩), .pointer (some ⟨w.heap.size, 0, none⟩)]) ∧ w' = (w.alloc (.cells #[.pointer pa] 54)).alloc (.cells #[.string s] 9) := by
  go_enter Try.func65, Try.ntmps65
  go_wp2_with (fail)
  go_ret
  exact ⟨rfl, rfl⟩
set_option maxHeartbeats 2000000 in
set_option maxRecDepth 100000 in
theorem seq_x (m p g n c bf bs : Nat) (s : ByteArray) (w : World) (hs : s.size ≤ 65536) (hn : 0 < n) (hn' : n ≤ 65536) (hp : p ≠ g) (hbf : bf ≠ g) (hbs : bs ≠ g)
    (h1 : w.heap[p]? = some (.cells #[.slice (some ⟨g, 0, none⟩) n c] 95 (0, 0))) (h2 : w.heap[bf]? = some (.cells #[.pointer (some ⟨p, 0, none⟩)] 54 (0, 0))) (h3 : w.heap[bs]? = some (.cells #[.string s] 9 (0, 0))) :
    SeqStopsK Fence.wide m Try.prog 80 #[.pointer (some ⟨bs, 0, none⟩), .pointer (some ⟨bf, 0, none⟩)] (fun x : Pos n => #[Value.int .i64 (x.1 : Int)]) (Kg g) (fun ys => ys = pls n s hn) (fun pre => pre <+: pls n s hn) 4 w := by
  intro l J Jx W hW hJ hJx hY h0
  refine callsIn_wide.2 ?_
  show Calls Try.prog 80 #[.func (.yield l) #[] #[], .pointer (some ⟨bs, 0, none⟩), .pointer (some ⟨bf, 0, none⟩)] W _
  have k1 := blk_below hW h1 (blk_lt h1)
  have k2 := blk_below hW h2 (blk_lt h2)
  have k3 := blk_below hW h3 (blk_lt h3)
  have HJ := Lib.hid hJ
  have HY := Lib.hid hY
  have H0 := Lib.hid h0
  have HK := Lib.hid (And.intro k1 (And.intro k2 k3))
  have HNE := Lib.hid (And.intro hp (And.intro hbf hbs))
  obtain ⟨M, hM⟩ : ∃ M, M = 8 * n := ⟨_, rfl⟩
  have hM8 : (8 : Int) * (n : Int) = (M : Int) := by omega
  have hM0 : (1 : Int) ≤ (M : Int) := by omega
  have hM1 : (M : Int) ≤ 524288 := by omega
  have HM := Lib.hid hM
  clear h1 h2 h3 k1 k2 k3 hJ hJx hY h0 hW hp hbf hbs hM
  go_enter Try.func80, Try.ntmps80
  go_wp2_with (fail)
  go_loopw [6] (fun i wr => ∃ (k : Nat), k ≤ 4 ∧ i = .int .u32 k ∧ Aside (W.heap.size ≤ wr.heap.size) ∧ J ((pls n s hn).take k) wr ∧ wr.heap[p]? = some (.cells #[.slice (some ⟨g, 0, none⟩) n c] 95 (0, 0)) ∧ wr.heap[bf]? = some (.cells #[.pointer (some ⟨p, 0, none⟩)] 54 (0, 0)) ∧ wr.heap[bs]? = some (.cells #[.string s] 9 (0, 0))) (fun i _ => 4 - (intOf i).toNat)
  case atStart => exact ⟨0, by omega, rfl, Nat.le_refl _, H0.out, HK.out⟩
  case round =>
    obtain ⟨k, hk, rfl, HSZ, hJk, b1, b2, b3⟩ := hrel
    have hpr := blk_lt b1
    have hbfr := blk_lt b2
    have hbsr := blk_lt b3
    have JK := Lib.hid hJk
    have BK := Lib.hid (And.intro b1 (And.intro b2 b3))
    by_cases hlt : k < 4
    · have i1 : (k : Int) < 4 := by omega
      have c1 : wr.cell? ⟨p, 0, none⟩ = some (.slice (some ⟨g, 0, none⟩) n c) := by rw [cell_of_row _ _ _ _ _ _ b1]; rfl
      have c2 : wr.cell? ⟨bf, 0, none⟩ = some (.pointer (some ⟨p, 0, none⟩)) := by rw [cell_of_row _ _ _ _ _ _ b2]; rfl
      have c3 : wr.cell? ⟨bs, 0, none⟩ = some (.string s) := by rw [cell_of_row _ _ _ _ _ _ b3]; rfl
      obtain ⟨w1, C, hconv, hbs1, hb1, hs1, hcap, hcap'⟩ : ∃ w1 C, (convert 9 57 (.string s)).run Try.prog wr.drew = .ok (.slice (some ⟨wr.heap.size, 0, none⟩) s.size C) w1 ∧ Bs w1 (wr.heap.size + 1) (some ⟨wr.heap.size, 0, none⟩) s.size s.data.toList ∧ Below wr.heap.size wr w1 ∧ w1.heap.size = wr.heap.size + 1 ∧ s.size ≤ C ∧ C ≤ maxLen :=
        ⟨_, _, run_bytes_of_string (P := Try.prog) wr.drew 9 57 5 s Try.underlying9 Try.underlying57 Try.underlying5, bs_string wr.drew s _ _ _, ((Below.refl _ wr).drew.drew.alloc (Nat.le_refl _) _), World.size_alloc _ _, grownCap_ge _ _ _ _, grownCap_le_maxLen _ _ _ _ (by unfold maxLen; omega)⟩
      unfold maxLen at hcap'
      have hmb := mur_bd (k : Int) s.data.toList
      have hpi := pl_int n s k M HM.out
      have HPI := Lib.hid hpi
      clear hJk b1 b2 b3 hpi
      go_wp2_with (fail)
      have q1 := Wb.at_ c1
      have q2 := Wb.at_ c2
      have q3 := Wb.at_ c3
      refine wp_region_plan [([0, 2, 5, 6, 7, 8, 9, 10], some (1, false)), ([], some (3, false)), ([4, 11, 12], none)] (by kernel_rfl) (by kernel_rfl) ?_
      refine seg_act _ (by dsimp only [pick, at_]) _ (by dsimp only [pick, at_]) ?_
      repeat (go_big_quiet_step (fail))
      refine wpQuiet_nil ?_
      intro K1 g1 g2
      clear g2
      go_wp2_with (fail)
      refine g1 _ _ hb1 ?_
      clear g1
      refine seg_act _ (by dsimp only [pick, at_]) _ (by dsimp only [pick, at_]) ?_
      repeat (go_big_quiet_step (fail))
      refine wpQuiet_nil ?_
      intro K1 g1 g2
      clear g2
      go_wp2_with (fail)
      refine (murmur_x w1 (wr.heap.size + 1) _ _ _ s.data.toList (k : Int) (by omega) hbs1 (by omega) (by omega) hcap (by omega)).mono ?_
      rintro e w3 ⟨rfl, hb3⟩
      have hB3 : Below wr.heap.size wr w3 := hb1.trans (hb3.mono (by omega))
      have hw3 : wr.heap.size ≤ w3.heap.size := hB3.size
      have JK3 := Lib.hid (HJ.out _ _ _ none JK.out (grown_below hB3) (fun r e => by cases e))
      have BK3 := Lib.hid (And.intro (blk_below hB3 BK.out.1 hpr) (And.intro (blk_below hB3 BK.out.2.1 hbfr) (blk_below hB3 BK.out.2.2 hbsr)))
      go_wp2_with (fail)
      refine g1 _ _ hB3 ?_
      clear g1 hb3 hB3 hb1 hbs1 hconv
      refine seg_end _ (by dsimp only [pick, at_]) ?_
      repeat (go_big_quiet_step (fail))
      refine wpQuiet_nil ?_
      refine NoPanic.normal ?_
      rw [HPI.out]
      obtain ⟨P, hP⟩ : ∃ P : Pos n, P = ⟨pl n s k, pl_lt n s k hn⟩ := ⟨_, rfl⟩
      have hPv : pl n s k = P.1 := by rw [hP]
      rw [hPv]
      have hlen : ((pls n s hn).take k).length < 4 := by rw [List.length_take, pls_len]; omega
      obtain ⟨fn, tmps, assign, body, hy, hR⟩ := HY.out _ P w3 JK3.out hlen
      rw [hP, ← pls_take n s hn k hlt] at hR
      have HR := Lib.hid hR
      clear hR hP c1 c2 c3 q1 q2 q3
      dsimp only [Exit.then]
      apply_assumption
      refine (wpIn_wide (n := m)).1 ?_
      gi_wp2
      refine ⟨fun e => (by cases e), HR.out.mono ?_⟩
      rintro e W4 (⟨rfl, hJ4, hk4⟩ | ⟨rfl, hJx4⟩)
      · have r1 := hk4.same _ _ BK3.out.1 rfl HNE.out.1
        have r2 := hk4.same _ _ BK3.out.2.1 rfl HNE.out.2.1
        have r3 := hk4.same _ _ BK3.out.2.2 rfl HNE.out.2.2
        have R := Lib.hid (And.intro r1 (And.intro r2 r3))
        have hs4 := hk4.size
        have J4 := Lib.hid hJ4
        clear hk4 r1 r2 r3 hJ4 hy HR
        gi_wp2
        go_wp2_with (fail)
        go_roundw
        case rel => exact ⟨k + 1, by omega, by go_num, Nat.le_trans HSZ.out (Nat.le_trans hw3 hs4), J4.out, R.out⟩
        case measure => simp [intOf]; omega
      · clear hy HR
        gi_wp2
        refine bodyPost_ret (results_none rfl _ _ _) rfl ?_
        exact ⟨⟨_, rfl⟩, .inr ⟨_, List.take_prefix _ _, hJx4⟩⟩
    · obtain rfl : k = 4 := by omega
      have i1 : ¬ ((4 : Nat) : Int) < 4 := by omega
      clear hJk b1 b2 b3
      go_wp2_with (fail)
      go_end0
      exact ⟨⟨_, rfl⟩, .inl (by have h := JK.out; rwa [take_all (by rw [pls_len]; exact Nat.le_refl _)] at h)⟩
end Go.Proofs.Ytmnliieiiaedeaa.blm
