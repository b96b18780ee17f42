/-
  Bloom: the program's Build.
-/
import Derived.Test.YtmnliieiiaedeaaBlmX
namespace Go.Proofs.Ytmnliieiiaedeaa.blm
open Go.ChangeShapes Go.WideShapes Go.ChangeAt Go.RowKit Go.Shelf plain words ord mem murmur
attribute [local go_sem] Oper.semAt_some

def setAll (ps : List Nat) (bs : List UInt8) : List UInt8 := ps.foldl set1 bs
theorem setAll_snoc (ps : List Nat) (p : Nat) (bs : List UInt8) : setAll (ps ++ [p]) bs = set1 (setAll ps bs) p := by simp [setAll]
theorem setAll_len (ps : List Nat) (bs : List UInt8) : (setAll ps bs).length = bs.length := by
  induction ps generalizing bs with
  | nil => rfl
  | cons p ps ih =>
    show (setAll ps (set1 bs p)).length = _
    rw [ih, set1_len]
theorem setAll_fn {n : Nat} (f : Nat → Pos n) (l : List Nat) : ∀ bs : List UInt8, setAll ((l.map f).map Subtype.val) bs = l.foldl (fun b j => set1 b (f j).1) bs := by
  induction l with
  | nil => intro bs; rfl
  | cons k l ih =>
    intro bs
    simp only [List.map_cons, setAll, List.foldl_cons] at ih ⊢
    exact ih _
theorem fold_congr {f g : List UInt8 → Nat → List UInt8} (h : ∀ b j, f b j = g b j) (l : List Nat) (bs : List UInt8) : l.foldl f bs = l.foldl g bs := by
  rw [show f = g from funext fun b => funext fun j => h b j]
theorem setAll_pls (n : Nat) (s : ByteArray) (hn : 0 < n) (bs : List UInt8) : setAll ((pls n s hn).map Subtype.val) bs = addK n s bs 4 := by
  unfold pls addK
  rw [setAll_fn]
/-- what the loop keeps -/
structure BLoop (w : World) (S0 N : Nat) (X : List UInt8) (Ds : List Nat) (W : World) : Prop where
  head : W.heap[S0 + 1]? = some (.cells #[.slice (some ⟨S0, 0, none⟩) N N] 95 (0, 0))
  box : W.heap[S0 + 2]? = some (.cells #[.pointer (some ⟨S0 + 1, 0, none⟩)] 54 (0, 0))
  own : W.ownsRow S0 5 1 (.slice (some ⟨S0, 0, none⟩) N N) N (u8s X)
  ds : ∀ D ∈ Ds, W.heap[D]? = some (.deferred (some []))
  bel : Below S0 w W
theorem BLoop.chg {w : World} {S0 N : Nat} {X : List UInt8} {Ds : List Nat} {A B : World} (h : BLoop w S0 N X Ds A) (hb : Below A.heap.size A B) : BLoop w S0 N X Ds B :=
  ⟨blk_below hb h.head (blk_lt h.head), blk_below hb h.box (blk_lt h.box), own_keep h.own hb (Nat.le_refl _), fun D hD => blk_below hb (h.ds D hD) (blk_lt (h.ds D hD)), h.bel.trans (hb.mono (by have := blk_lt h.head; omega))⟩
theorem BLoop.kept {w : World} {S0 N B : Nat} {X : List UInt8} {Ds : List Nat} {W W' : World} {row : Option Nat} (h : BLoop w S0 N X Ds W) (hg : W.grownBy W' row) (hr : ∀ r, row = some r → B ≤ r ∧ ∃ o : Obj, W.heap[r]? = some o ∧ o.isCells = false) (hB : ∀ D ∈ Ds, D < B) (hS : S0 ≤ B) (hw : S0 ≤ w.heap.size) : BLoop w S0 N X Ds W' := by
  refine ⟨blk_kept h.head hg (fun r e => (hr r e).2), blk_kept h.box hg (fun r e => (hr r e).2), ?_, fun D hD => ?_, h.bel.grown hg (Nat.le_trans hw h.bel.size) (fun k e => Nat.le_trans hS (hr k e).1)⟩
  · have h1 := h.own
    refine h1.kept hg ?_
    refine .inr fun e => ?_
    obtain ⟨cu, hcu⟩ := own_type h1 (g := S0) rfl
    obtain ⟨_, o, ho, hc⟩ := hr S0 e.symm
    rw [hcu] at ho
    cases ho
    cases hc
  · rw [hg.block D (blk_lt (h.ds D hD)) (fun e => by have := (hr D e.symm).1; have := hB D hD; omega)]
    exact h.ds D hD
theorem BLoop.set {w : World} {S0 N : Nat} {X : List UInt8} {Ds : List Nat} {W : World} (h : BLoop w S0 N X Ds W) (P : Nat) (hP : P < 8 * N) (hX : X.length = N) (ch c2 : UInt8) (hch : X[P / 8]? = some ch) (hc : or1 ch (P % 8) = c2) : BLoop w S0 N (set1 X P) Ds (W.setCell ⟨S0, P / 8, none⟩ (.int .u8 (c2.toNat : Int))) := by
  have hst := (h.own.stored (P / 8) (.int .u8 (c2.toNat : Int))).1
  rw [u8s_set, set1_at hch hc] at hst
  have hcc := (Chg.refl (fun b => b = S0) W).setCell (p := ⟨S0, P / 8, none⟩) (fun _ => rfl) (.int .u8 (c2.toNat : Int))
  refine ⟨hcc.blk h.head (by omega), hcc.blk h.box (by omega), hst, fun D hD => hcc.blk (h.ds D hD) (fun e => ?_), h.bel.setCell (p := ⟨S0, P / 8, none⟩) (Nat.le_refl _) _⟩
  obtain ⟨cu, hcu⟩ := own_type h.own (g := S0) rfl
  have := h.ds D hD
  subst e
  rw [hcu] at this
  cases this
set_option maxHeartbeats 8000000 in
set_option maxRecDepth 100000 in
theorem build_x (w : World) (B n c : Nat) (A : Option Addr) (ss : List ByteArray) (h : Strs w B A n ss) (hB : B ≤ w.heap.size) (hn : n ≤ 2048) (hs : ∀ s ∈ ss, s.size ≤ 65536) :
    Calls Try.prog 34 #[.slice A n c] w (RetF 95 w (built ss)) := by
  obtain ⟨i0, hi, hz0, hz1, hz2⟩ := info_parts infoB
  have hlen := h.len_
  obtain ⟨N, hN⟩ : ∃ N, N = bytesOf n := ⟨_, rfl⟩
  have hN8 : 8 ≤ N := by unfold bytesOf at hN; omega
  have hNm : N ≤ 4096 := by unfold bytesOf at hN; omega
  obtain ⟨N8, hN8e⟩ : ∃ N8, N8 = 8 * N := ⟨_, rfl⟩
  have hif : (if (64 : Int) < 16 * (n : Int) then 16 * (n : Int) else 64) = (N8 : Int) := by split <;> (unfold bytesOf at hN; omega)
  have hdv : (N8 : Int) / 8 = (N : Int) := by omega
  have hmk : (Instr.makeSlice 57 (.int .i64 (N : Int)) (.int .i64 (N : Int))).run Try.prog w = .ok (.slice (some ⟨w.heap.size, 0, none⟩) N N) (w.alloc (.cells (List.replicate N (Value.int .u8 0)).toArray 5)) := by
    have h := run_make (P := Try.prog) w 57 5 i0 (.int .u8 0) Try.underlying57 hi hz0 .i64 .i64 (N : Int) (N : Int) (by omega) (by omega) (by rw [hz2]; omega) (by omega)
    rw [show ((N : Int)).toNat = N from by omega, hz1, Nat.mul_one] at h
    have e : madeCells (Value.int .u8 0).cells N = (List.replicate N (Value.int .u8 0)).toArray := by
      apply Array.ext'
      rw [show (Value.int .u8 0).cells = #[Value.int .u8 0] from rfl, toList_madeCells_one]
    rw [h, e]
  obtain ⟨S0, hS0⟩ : ∃ S0, w.heap.size = S0 := ⟨_, rfl⟩
  obtain ⟨w1, hw1⟩ : ∃ w1, w.alloc (.cells (List.replicate N (Value.int .u8 0)).toArray 5) = w1 := ⟨_, rfl⟩
  have hs1 : w1.heap.size = S0 + 1 := by rw [← hw1, World.size_alloc, hS0]
  have hown1 : w1.ownsRow S0 5 1 (.slice (some ⟨S0, 0, none⟩) N N) N (u8s (List.replicate N 0)) := by
    have := World.ownsRow_lit (w := w) (base := w.heap.size) (e := 5) (size := 1) (List.replicate N (Value.int .u8 0)).toArray N (Nat.le_refl _) (by unfold maxLen; omega) (by simp)
    rw [hw1, hS0] at this
    rw [← zeros]
    simpa using this
  have hb1 : Below w.heap.size w w1 := by rw [← hw1]; exact (Below.refl _ _).alloc (Nat.le_refl _) _
  obtain ⟨w2, hw2⟩ : ∃ w2, w1.alloc (.cells #[.slice (some ⟨S0, 0, none⟩) N N] 95) = w2 := ⟨_, rfl⟩
  have hb2 : Below w1.heap.size w1 w2 := by rw [← hw2]; exact (Below.refl _ _).alloc (Nat.le_refl _) _
  have g2 : w2.heap[S0 + 1]? = some (.cells #[.slice (some ⟨S0, 0, none⟩) N N] 95 (0, 0)) := by rw [← hw2, ← hs1]; exact alloc_new _ _
  have hs2 : w2.heap.size = S0 + 2 := by rw [← hw2, World.size_alloc, hs1]
  obtain ⟨w3, hw3⟩ : ∃ w3, w2.alloc (.cells #[.pointer (some ⟨S0 + 1, 0, none⟩)] 54) = w3 := ⟨_, rfl⟩
  have hb3 : Below w2.heap.size w2 w3 := by rw [← hw3]; exact (Below.refl _ _).alloc (Nat.le_refl _) _
  have g3 : w3.heap[S0 + 2]? = some (.cells #[.pointer (some ⟨S0 + 1, 0, none⟩)] 54 (0, 0)) := by rw [← hw3, ← hs2]; exact alloc_new _ _
  have hBL : BLoop w S0 N (List.replicate N 0) [] w3 := ⟨blk_below hb3 g2 (by omega), g3, own_keep (own_keep hown1 hb2 (Nat.le_refl _)) hb3 (Nat.le_refl _), (fun _ h => by cases h), (hS0 ▸ hb1).trans ((hb2.mono (by omega)).trans (hb3.mono (by omega)))⟩
  have BL := Lib.hid hBL
  have HST := Lib.hid h
  have HSS := Lib.hid hs
  have HLEN := Lib.hid hlen
  rw [hw1, hS0] at hmk
  have HW := Lib.hid (And.intro hs1 (And.intro hw2 (And.intro hs2 hw3)))
  have HS := Lib.hid hS0
  have HN := Lib.hid hN
  have hn2 : ¬ (2048 : Int) < (n : Int) := by omega
  have HE := Lib.hid hN8e
  clear hown1 hb1 hb2 hb3 hw1 hw2 hw3 g2 g3 h hs hlen hs1 hs2 hS0 hN hBL hN8e
  refine (callsIn_wide (n := 3)).1 (callsIn_of_wp_marks Try.func34 rfl trivial ?_ rfl)
  simp only [Try.ntmps34, List.size_toArray, List.length_cons, List.length_nil, Nat.reduceAdd, Nat.reduceSub, Array.replicate_succ, Array.replicate_zero, List.push_toArray, List.append_toArray, List.nil_append, List.cons_append]
  gi_wp2_with (first | (rw [HW.out.1, HW.out.2.1]) | (rw [HW.out.2.2.1, HW.out.2.2.2]))
  clear hmk hif hdv
  refine wpIn_loop (fun a' W' => ∃ (k : Nat) (Ds : List Nat) (u6 u7 u22 u23 u24 u25 u26 u27 u28 u29 u30 u31 u32 u33 u34 u35 u36 u37 u38 u39 u40 u41 u42 : Value), k ≤ n ∧ BLoop w S0 N (addAll N (ss.take k) (List.replicate N 0)) Ds W' ∧ Ds.Nodup ∧ (∀ D ∈ Ds, S0 ≤ D) ∧ a' = { tmps := #[.slice A n c, undef, .pointer none, .int .i64 0, .pointer (some ⟨S0 + 2, 0, none⟩), undef, u6, u7, .slice A n c, .int .i64 (n : Int), .bool false, .slice A n c, .int .i64 (n : Int), .int .i64 (16 * (n : Int)), .int .i64 (N8 : Int), .int .i64 (N : Int), .slice (some ⟨S0, 0, none⟩) N N, .agg #[.slice (some ⟨S0, 0, none⟩) N N], .pointer (some ⟨S0 + 1, 0, none⟩), .slice A n c, .int .i64 (n : Int), .int .i64 (k : Int), u22, u23, u24, u25, u26, u27, u28, u29, u30, u31, u32, u33, u34, u35, u36, u37, u38, u39, u40, u41, u42, undef], defers := Ds.map mark_ }) (fun a' _ => n - (intOf (a'.tmps.getD 21 undef)).toNat) ?start ?round
  case start => exact ⟨0, [], undef, undef, undef, undef, undef, undef, undef, undef, undef, undef, undef, undef, undef, undef, undef, undef, undef, undef, undef, undef, undef, undef, undef, Nat.zero_le _, BL.out, List.nodup_nil, (fun _ h => by cases h), rfl⟩
  case round =>
    rintro a' W' ⟨k, Ds, u6, u7, u22, u23, u24, u25, u26, u27, u28, u29, u30, u31, u32, u33, u34, u35, u36, u37, u38, u39, u40, u41, u42, hk, hBL, hnd, hds, rfl⟩
    by_cases hlt : k < n
    · obtain ⟨b, off, s, rfl, hbB, hsk, hcs⟩ := HST.out.get hlt
      have hsz : s.size ≤ 65536 := HSS.out s (List.mem_of_getElem? hsk)
      have i1 : (k : Int) < (n : Int) := by omega
      have i2 : (0 : Int) ≤ (k : Int) := by omega
      have c0 : W'.cell? ⟨b, off + k, none⟩ = some (.string s) := (hBL.bel.cell (p := ⟨b, off + k, none⟩) (by have := HS.out; show b < S0; omega)).trans hcs
      have l0 : b < W'.heap.size := World.block_lt_of_cell? W' _ c0
      have c1 : W'.cell? ⟨S0 + 2, 0, none⟩ = some (.pointer (some ⟨S0 + 1, 0, none⟩)) := by rw [cell_of_row _ _ _ _ _ _ hBL.box]; rfl
      have l1 := blk_lt hBL.box
      obtain ⟨E0, hE0⟩ : ∃ E0, W'.heap.size = E0 := ⟨_, rfl⟩
      obtain ⟨W1, hW1⟩ : ∃ W1, (W'.alloc (.cells #[.pointer (some ⟨S0 + 1, 0, none⟩)] 54)).alloc (.cells #[.string s] 9) = W1 := ⟨_, rfl⟩
      have f0 : W1.heap[E0]? = some (.cells #[.pointer (some ⟨S0 + 1, 0, none⟩)] 54 (0, 0)) := by rw [← hW1, ← hE0]; exact alloc_old _ (alloc_new _ _)
      have f1 : W1.heap[E0 + 1]? = some (.cells #[.string s] 9 (0, 0)) := by
        rw [← hW1, ← hE0]
        have := alloc_new (W'.alloc (.cells #[.pointer (some ⟨S0 + 1, 0, none⟩)] 54)) (.cells #[.string s] 9)
        rwa [World.size_alloc] at this
      have hE1 : W1.heap.size = E0 + 2 := by rw [← hW1, ← hE0]; simp
      have hb1 : Below W'.heap.size W' W1 := by rw [← hW1]; exact ((Below.refl _ _).alloc (Nat.le_refl _) _).alloc (by simp) _
      have BL1 := Lib.hid (hBL.chg hb1)
      have HE0 := Lib.hid hE0
      have HW1 := Lib.hid hW1
      have HF := Lib.hid (And.intro f0 f1)
      have HSK := Lib.hid hsk
      have HND := Lib.hid hnd
      have HDS := Lib.hid hds
      have HLT := Lib.hid (show ∀ D ∈ Ds, D < W1.heap.size from fun D hD => by have := blk_lt (hBL.ds D hD); have := hb1.size; omega)
      clear hsk hcs hE0 hW1 f0 f1 hb1 hBL hnd hds
      gi_wp2
      refine ⟨trivial, (callsIn_wide.2 (positions_x _ _ _)).mono ?_⟩
      rintro e w' ⟨rfl, rfl⟩
      clear c0 c1
      gi_wp2
      rw [HE0.out, HW1.out]
      obtain ⟨X, hX⟩ : ∃ X, addAll N (ss.take k) (List.replicate N 0) = X := ⟨_, rfl⟩
      have hXl : X.length = N := by rw [← hX, addAll_len, List.length_replicate]
      have HXE := Lib.hid hX
      have HXL := Lib.hid hXl
      rw [hX] at BL1
      clear hX hXl
      have hSE : S0 + 2 < E0 := by have := HE0.out; omega
      have hcw : S0 ≤ w.heap.size := by have := HS.out; omega
      refine wpIn_rangeFunc_ownF rfl (by omega) (gf := 80) (lb := #[.pointer (some ⟨E0 + 1, 0, none⟩), .pointer (some ⟨E0, 0, none⟩)]) (by rfl) trivial (enters_of Try.func80 (by kernel_rfl) rfl)
        (seq_x (3 - 1) (S0 + 1) S0 N N E0 (E0 + 1) s W1 hsz (by omega) (by omega) (by omega) (by omega) (by omega) BL1.out.head HF.out.1 HF.out.2) Kg.tr Kg.put (Below.refl _ _) (fun _ => rfl)
        (fun pre W => BLoop w S0 N (setAll (pre.map Subtype.val) X) Ds W)
        (fun _ _ _ => False)
        (fun x A B row hs hg hr => hs.kept hg hr HLT.out (by omega) hcw)
        (fun _ _ _ _ _ hs _ _ => hs)
        BL1.out
        (fun x => { tmps := #[.slice (some ⟨b, off, none⟩) n c, undef, .pointer none, .int .i64 0, .pointer (some ⟨S0 + 2, 0, none⟩), undef, .string s, .int .i64 (x.1 : Int), .slice (some ⟨b, off, none⟩) n c, .int .i64 (n : Int), .bool false, .slice (some ⟨b, off, none⟩) n c, .int .i64 (n : Int), .int .i64 (16 * (n : Int)), .int .i64 (N8 : Int), .int .i64 (N : Int), .slice (some ⟨S0, 0, none⟩) N N, .agg #[.slice (some ⟨S0, 0, none⟩) N N], .pointer (some ⟨S0 + 1, 0, none⟩), .slice (some ⟨b, off, none⟩) n c, .int .i64 (n : Int), .int .i64 (k : Int), .bool true, .pointer (some ⟨b, off + k, none⟩), .string s, .pointer (some ⟨S0 + 1, 0, none⟩), .string s, .func (.func 80) #[] #[.pointer (some ⟨E0 + 1, 0, none⟩), .pointer (some ⟨E0, 0, none⟩)], .int .i64 (x.1 : Int), u29, u30, u31, u32, u33, u34, u35, u36, u37, u38, u39, u40, u41, u42, undef], defers := [] }) ?assign ?body ?done ?stop
      case assign =>
        intro l x W K hK
        gi_wp2
        exact hK
      case body =>
        rintro l pre x W hW _
        have HWW := Lib.hid hW
        have hYl : (setAll (pre.map Subtype.val) X).length = N := by rw [setAll_len, HXL.out]
        have c0 : W.cell? ⟨S0 + 2, 0, none⟩ = some (.pointer (some ⟨S0 + 1, 0, none⟩)) := by rw [cell_of_row _ _ _ _ _ _ hW.box]; rfl
        have c1 : W.cell? ⟨S0 + 1, 0, none⟩ = some (.slice (some ⟨S0, 0, none⟩) N N) := by rw [cell_of_row _ _ _ _ _ _ hW.head]; rfl
        have l0 := blk_lt hW.box
        have l2 : S0 < W.heap.size := by omega
        have l1 : S0 + 1 < W.heap.size := by omega
        obtain ⟨P, hP⟩ := x
        have hc2 := hW.own.cellAt (P / 8) (by omega)
        obtain ⟨ch, hch⟩ : ∃ ch, (setAll (pre.map Subtype.val) X)[P / 8]? = some ch := ⟨_, List.getElem?_eq_getElem (by omega)⟩
        rw [show (u8s (setAll (pre.map Subtype.val) X))[P / 8]? = some (.int .u8 (ch.toNat : Int)) from by simp only [u8s, List.getElem?_map, hch]; rfl] at hc2
        have hfr := hW.own.frozenAt (P / 8)
        have hcl := ch.toNat_lt
        have j0 : (0 : Int) ≤ (P : Int) / 8 := by omega
        have j1 : (P : Int) / 8 < (N : Int) := by omega
        have j2 : ((P : Int) / 8).toNat = P / 8 := by omega
        have j3 : 0 ≤ (P : Int) % 8 := by omega
        have j4 : (P : Int) % 8 < 8 := by omega
        obtain ⟨c2, hc2e⟩ : ∃ c2, or1 ch (P % 8) = c2 := ⟨_, rfl⟩
        have hor := or_code8 ch (P % 8) (Nat.mod_lt _ (by omega))
        rw [hc2e] at hor
        have HB2 := Lib.hid (hW.set P hP hYl ch c2 hch hc2e)
        have q0 := Wb.at_ c0
        have q1 := Wb.at_ c1
        have q2 := Wb.at_ hc2
        clear hch hc2e hW hYl
        dsimp only
        refine wpIn_block ?_
        refine wpIn_region_plan [([0, 1, 2, 3, 4, 5, 6, 7, 8, 9, 10, 11, 12], some (13, true)), ([], none)] (by kernel_rfl) (by kernel_rfl) (by kernel_rfl) ?_
        refine seg_write _ (by dsimp only [pick, at_]) _ (by dsimp only [pick, at_]) ?_
        repeat (go_big_quiet_step (fail))
        refine wpQuiet_nil ?_
        intro K4 h4
        go_wp2_with (fail)
        refine seg_end _ (by dsimp only [pick, at_]) ?_
        refine wpQuiet_nil ⟨rfl, ?_⟩
        clear q0 q1 q2
        show Exit.inBlock _ _ _ _ _
        dsimp only [Exit.inBlock]
        exact ⟨(KeepsOthers.setCell _ _ _).trans (KeepsOthers.drew _), Kg.of_chg (((Chg.refl (fun b => b = S0) W).setCell (p := ⟨S0, P / 8, none⟩) (fun _ => rfl) _).drew), by show BLoop _ _ _ _ _ _; rw [List.map_append, List.map_cons, List.map_nil, setAll_snoc]; exact HB2.out.chg (Below.refl _ _).drew⟩
      case done =>
        rintro D ys W hD rfl hW hK
        rw [setAll_pls, ← HXE.out, ← addAll_take N ss (List.replicate N 0) k s HSK.out] at hW
        have HWD := Lib.hid hW
        have HKD := Lib.hid hK
        clear hW hK
        show Exit.inBlock _ _ _ _ _
        dsimp only [Exit.inBlock, Exit.then]
        gi_wp2
        refine ⟨⟨k + 1, D :: Ds, _, _, _, _, _, _, _, _, _, _, _, _, _, _, _, _, _, _, _, _, _, _, _, by omega, ⟨HWD.out.head, HWD.out.box, HWD.out.own, fun D' hD' => (List.mem_cons.1 hD').elim (fun e => by rw [e]; exact HKD.out) (HWD.out.ds D'), HWD.out.bel⟩, ?_, ?_, rfl⟩, ?_⟩
        · exact List.nodup_cons.2 ⟨fun e => by have := HLT.out D e; omega, HND.out⟩
        · intro D' hD'
          rcases List.mem_cons.1 hD' with e | e
          · omega
          · exact HDS.out D' e
        · simp [intOf]; omega
      case stop =>
        rintro D c pre W _ _ h _
        exact h.elim
    · have hkn : k = n := by omega
      subst hkn
      have i1 : ¬ (k : Int) < (k : Int) := by omega
      have c1 : W'.cell? ⟨S0 + 2, 0, none⟩ = some (.pointer (some ⟨S0 + 1, 0, none⟩)) := by rw [cell_of_row _ _ _ _ _ _ hBL.box]; rfl
      have l1 := blk_lt hBL.box
      rw [take_all (by rw [HLEN.out]; exact Nat.le_refl _)] at hBL
      rw [show addAll N ss (List.replicate N 0) = built ss by unfold built; rw [HLEN.out, ← HN.out]] at hBL
      have HBL := Lib.hid hBL
      have HND := Lib.hid hnd
      have HDS := Lib.hid hds
      clear hBL hnd hds
      gi_wp2
      refine leaves_marks Ds W' HND.out HBL.out.ds (fun w' hc => ⟨_, results_tmp2 rfl _ _ _, ?_⟩)
      have hne : ∀ D ∈ Ds, D ≠ S0 ∧ D ≠ S0 + 1 := fun D hD => by
        have h1 := HBL.out.ds D hD
        obtain ⟨cu, hcu⟩ := own_type HBL.out.own (g := S0) rfl
        have h2 := HBL.out.head
        refine ⟨fun e => ?_, fun e => ?_⟩
        · subst e; rw [hcu] at h1; cases h1
        · subst e; rw [h2] at h1; cases h1
      refine ⟨S0 + 1, S0, rfl, ⟨N, N, ?_, hc.blk HBL.out.head (fun e => (hne _ e).2 rfl), own_base (own_chg HBL.out.own hc (fun g hg e => by cases hg; exact (hne _ e).1 rfl)) (Nat.zero_le _)⟩, by have := HS.out; omega, by have := HS.out; omega, ?_⟩
      · rw [built_len, HLEN.out, HN.out]
      · rw [HS.out]
        exact HBL.out.bel.trans (hc.below (by omega) (fun b hb => HDS.out b hb))
end Go.Proofs.Ytmnliieiiaedeaa.blm
