/-
  The document's disk: change.
-/
import Derived.Test.YtmnliieiiaedeaaRd7
namespace Go.Proofs.Ytmnliieiiaedeaa.dk
open Go.ChangeShapes Go.WideShapes Go.ChangeAt Go.RowKit Go.Maps Go.Sort Go.Shelf plain words ord mem al

theorem infoCH : (Try.prog.info? 90).map (fun i => (i.zero, i.size, i.bytes)) = some (some (.agg #[.int .i64 0, .string ByteArray.empty, .string ByteArray.empty]), 3, 40) := by kernel_rfl
/-- 'append(v, x...)' of changes in a walk -/
theorem append_h {w : World} {ops : Array Oper} {rest : List Oper} {o : Oper} {a : Act} {Q : Exit → Act → World → Prop} (hgd : o.guard = none) (s x : Operand)
    (ho : o.op = .call { callee := .builtin .append, args := #[s, x], argTypes := #[85, 85] })
    (base : Nat) (v : Value) (n : Nat) (l : List Chn) (hs : a.eval s = v) (hown : Ow CHE w base v n l)
    (B : Nat) (A : Option Addr) (m c : Nat) (hA : A = none → c = 0) (news : List Chn) (hx : a.eval x = .slice A m c) (hr : Ls CHE w B A m news)
    (hn : n + m ≤ 1099511627776) (hbase : base ≤ w.heap.size)
    (h : ∀ A' c' w', Ow CHE w' base (.slice A' (n + m) c') (n + m) (l ++ news) → w.grownBy w' v.ownBlock → (A' = none → c' = 0) → n + m ≤ c' → c' ≤ 9223372036854775807 → w.heap.size ≤ w'.heap.size → wpList Try.prog ops Q rest (a.put o.dst (.slice A' (n + m) c')) w') : wpList Try.prog ops Q (o :: rest) a w := by
  obtain ⟨i0, hi, hz0, hz1, hz2⟩ := info_parts infoCH
  exact wpList_append_ow CHE (P := Try.prog) Try.underlying85 hi hz0 hz1 hz2 rfl (by decide) hgd s x ho base v n l hs hown B A m c hA news hx hr hn hbase h
set_option maxHeartbeats 2000000 in
set_option maxRecDepth 100000 in
theorem change_y (w : World) (r : Nat) (room : Int) (A : Option Addr) (c : Nat) (ls : AL Nm) (A2 : Option Addr) (c2 : Nat) (pd : List Chn) (N : Int) (x : Chn) (h : Rk w r room A c ls A2 c2 pd N) (hA : ∀ a, A = some a → a.block ≠ r) (hA2 : ∀ a, A2 = some a → a.block ≠ r) (h0 : 0 ≤ N) (h1 : N < 4611686018427387904) (hn : pd.length ≤ 1000000000) :
    Calls Try.prog 74 #[ptr r, .agg #[.int .i64 (chK x), .string (bs (chA x)), .string (bs (chB x))]] w fun e w' => ∃ A3 c3, e = .returned (.int .i64 0) ∧ Rk w' r room A c ls A3 c3 (pd ++ [x]) (N + 1) ∧ Chg (fun k => k = r) w w' ∧ ∀ a, A3 = some a → w.heap.size ≤ a.block := by
  obtain ⟨w1, hw1⟩ : ∃ w1, w.alloc (.cells #[.int .i64 (chK x), .string (bs (chA x)), .string (bs (chB x))] 90) = w1 := ⟨_, rfl⟩
  have hb1 : Below w.heap.size w w1 := by rw [← hw1]; exact (Below.refl _ _).alloc (Nat.le_refl _) _
  have g1 : w1.heap[w.heap.size]? = some (.cells #[.int .i64 (chK x), .string (bs (chA x)), .string (bs (chB x))] 90 (0, 0)) := by rw [← hw1]; exact alloc_new _ _
  have lr0 := blk_lt h.blk
  have hk1 := h.below hb1
  have HRAW := Lib.hid (raw_y w1 r room A c ls A2 c2 pd N hk1 h0 h1)
  obtain ⟨w2, hw2⟩ : ∃ w2, w1.setCell ⟨r, 3, none⟩ (.int .i64 (N + 1)) = w2 := ⟨_, rfl⟩
  rw [hw2] at HRAW
  have hc2 : Chg (fun k => k = r) w1 w2 := by rw [← hw2]; exact chg_set _ _ _ _
  obtain ⟨M, hM⟩ : ∃ M, pd.length = M := ⟨_, rfl⟩
  obtain ⟨n, hnn⟩ : ∃ n, ls.length = n := ⟨_, rfl⟩
  have gr2 : w2.heap[r]? = some (.cells #[.int .i64 room, .slice A n c, .slice A2 M c2, .int .i64 (N + 1), .bool false, .int .i64 0, .int .i64 0, .int .i64 0, .bool false] 87 (0, 0)) := by
    rw [← hw2, setp_obj hk1.blk, hM, hnn]
    simp
  have g2 := hc2.blk g1 (by omega)
  have hls2 := (ls_chg hk1.ch (Nat.le_refl _) hc2 hA2).more hc2.size
  rw [hM] at hls2
  have hfr2 := hk1.fr.chg hc2 hA
  have q2 : w2.cell? ⟨r, 2, none⟩ = some (.slice A2 M c2) := by rw [cell_of_row _ _ _ _ _ _ gr2]; rfl
  have lr2 := blk_lt gr2
  have hbl : Below w2.heap.size w2 (w2.alloc (.cells #[] 90)) := (Below.refl _ _).alloc (Nat.le_refl _) _
  have hown : Ow CHE (w2.alloc (.cells #[] 90)) w2.heap.size (.slice (some ⟨w2.heap.size, 0, none⟩) 0 0) 0 [] := Ow.lit w2
  have hlsl := hls2.below hbl (Nat.le_refl _)
  have hM9 : M ≤ 1000000000 := by rw [← hM]; exact hn
  have hnil := h.nil
  have hle := h.le
  have hcap := h.cap
  rw [hM] at hle
  have HH := Lib.hid h
  have HB1 := Lib.hid hb1
  have HC2 := Lib.hid hc2
  have HA := Lib.hid hA
  have HFR2 := Lib.hid hfr2
  have HML := Lib.hid (And.intro hM hnn)
  have W1 := Lib.hid hw1
  have hs1 : w1.heap.size = w.heap.size + 1 := by rw [← hw1]; simp
  have hs2 := hc2.size
  clear h hA hA2 hk1 hw1 hw2 hM hnn hb1 g1 hc2 hfr2 hls2 hn
  go_enter Try.func74, Try.ntmps74
  go_wp2_with fail
  rw [W1.out]
  refine HRAW.out.mono ?_
  rintro e w2' ⟨rfl, hw22⟩
  subst hw22
  clear HRAW
  go_wp2_with (first | (at_builtin; refine append_h rfl (.tmp 12) (.tmp 16) rfl _ _ 0 [] rfl hown _ A2 M c2 hnil pd rfl hlsl (by omega) (by simp) ?_; intro A4 c4 w4 hown4 hg4 hA4 hc41 hc42 hs4; simp only [Nat.zero_add, List.nil_append] at hown4; have hb4 := hown.below_grown hbl hg4 (by simp); have g4 := blk_below hb4 g2 (blk_lt g2); have gr4 := blk_below hb4 gr2 lr2; have d0 : w4.cell? ⟨w.heap.size, 0, none⟩ = some (.int .i64 (chK x)) := by { rw [cell_of_row _ _ _ _ _ _ g4]; rfl }; have d1 : w4.cell? ⟨w.heap.size, 1, none⟩ = some (.string (bs (chA x))) := by { rw [cell_of_row _ _ _ _ _ _ g4]; rfl }; have d2 : w4.cell? ⟨w.heap.size, 2, none⟩ = some (.string (bs (chB x))) := by { rw [cell_of_row _ _ _ _ _ _ g4]; rfl }; have l4 := blk_lt g4; clear hg4 g4 hlsl) | (at_builtin; refine append_h rfl (.tmp 19) (.tmp 21) rfl _ _ M pd rfl (hown4.below ((Below.refl _ _).alloc (Nat.le_refl _) _) (Nat.le_refl _)) (w4.heap.size + 1) _ 1 _ (fun e => by cases e) [x] rfl (ls_new (E := CHE) _ x) (by omega) (by have := hb4.size; simp; omega) ?_; intro A5 c5 w5 hown5 hg5 hA5 hc51 hc52 hs5; have hb5 := (hown4.below ((Below.refl _ _).alloc (Nat.le_refl _) _) (Nat.le_refl _)).below_grown (hb4.alloc hb4.size _) hg5 (by have := hb4.size; simp; omega); have gr5 := blk_below hb5 gr2 lr2; have q5 : w5.cell? ⟨r, 2, none⟩ = some (.slice A2 M c2) := by { rw [cell_of_row _ _ _ _ _ _ gr5]; rfl }; have fz5 := frozen_of_row _ _ 2 _ _ gr5; have lr5 := blk_lt gr5; have GR5 := Lib.hid gr5; clear hg5 gr5))
  go_ret
  have hb5w := hb5.size
  have hc6 := chg_set w5 r 2 (.slice A5 (M + 1) c5)
  have hnr : ∀ a, A5 = some a → w2'.heap.size ≤ a.block := fun a e => by subst e; exact (hown5.lt a.block rfl).1
  refine ⟨A5, c5, rfl, ⟨?_, ?_, ?_, hA5, ?_, hc52, HH.out.srt⟩, ?_, fun a e => Nat.le_trans (by omega) (hnr a e)⟩
  · rw [setp_obj GR5.out, List.length_append, HML.out.1, HML.out.2]
    simp
  · exact (HFR2.out.below hb5).chg hc6 HA.out
  · have h9 := ls_chg hown5.ls (Nat.le_refl _) hc6 (fun a e => by have := hnr a e; omega)
    rw [List.length_append, HML.out.1]
    exact h9.more hc6.size
  · rw [List.length_append, HML.out.1]; exact hc51
  · exact ((((Chg.of_below HB1.out).mono (S' := fun k => k = r) (fun _ _ e => e.elim)).trans HC2.out (fun _ _ e => e)).trans ((Chg.of_below hb5).mono (S' := fun k => k = r) (fun _ _ e => e.elim)) (fun _ _ e => e)).trans hc6 (fun _ _ e => e)
end Go.Proofs.Ytmnliieiiaedeaa.dk
