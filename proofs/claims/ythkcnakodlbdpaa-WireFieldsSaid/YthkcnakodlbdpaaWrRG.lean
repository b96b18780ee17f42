/-
  Messages: the document's reader.
-/
import Derived.Test.YthkcnakodlbdpaaWrDA
import Derived.Test.YthkcnakodlbdpaaWrYM
import Derived.Laws.ResultCell
namespace Go.Proofs.Ythkcnakodlbdpaa.wr
open Go.ChangeShapes Go.WideShapes Go.ChangeAt Go.RowKit plain words ord mem uvs uvc

/-- what is left, and whether there were too few bytes -/
abbrev St := By × Bool
def nY (st : St) : Nat × St := match cl.num 2199023255552 st.1 with
  | some (n, s') => (n, (s', st.2))
  | none => (0, (st.1, true))
def tY (n : Nat) (st : St) : By × St := if st.1.length < n then (List.replicate n 0, (st.1, true)) else (st.1.take n, (st.1.drop n, st.2))
def idY (st : St) : By × St := if 16 < (nY st).1 then ([], ((nY st).2.1, true)) else tY (nY st).1 (nY st).2
def wY (n : Nat) (st : St) : Nat × St := (cl.fix (tY n st).1, (tY n st).2)
/-- the reader as memory -/
def InY (w : World) (g B : Nat) (st : St) : Prop :=
  ∃ b o c, w.heap[g]? = some (.cells #[.slice (some ⟨b, o, none⟩) st.1.length c, .bool st.2] 65 (0, 0)) ∧ Bs w B (some ⟨b, o, none⟩) st.1.length st.1 ∧ st.1.length ≤ c ∧ c ≤ 9223372036854775807 ∧ B ≤ g ∧ B ≤ w.heap.size ∧ st.1.length ≤ 1000000000
theorem InY.lt {w : World} {g B : Nat} {st : St} (h : InY w g B st) : g < w.heap.size := by obtain ⟨b, o, c, hg, _⟩ := h; exact blk_lt hg
theorem InY.ge {w : World} {g B : Nat} {st : St} (h : InY w g B st) : B ≤ g := by obtain ⟨b, o, c, _, _, _, _, h, _⟩ := h; exact h
theorem InY.few {w : World} {g B : Nat} {st : St} (h : InY w g B st) : st.1.length ≤ 1000000000 := by obtain ⟨b, o, c, _, _, _, _, _, _, h⟩ := h; exact h
theorem InY.chg {S : Nat → Prop} {w w' : World} {g B : Nat} {st : St} (h : InY w g B st) (hc : Chg S w w') (hg : ¬ S g) (hS : ∀ b, b < B → ¬ S b) : InY w' g B st := by
  obtain ⟨b, o, c, h1, h2, h3, h4, h5, h6, h7⟩ := h
  exact ⟨b, o, c, hc.blk h1 hg, h2.below (hc.below h6 (fun k e => by
    rcases Nat.lt_or_ge k B with hk | hk
    · exact absurd e (hS k hk)
    · exact hk)) (Nat.le_refl _), h3, h4, h5, Nat.le_trans h6 hc.size, h7⟩
theorem InY.below {w w' : World} {g B C : Nat} {st : St} (h : InY w g B st) (hb : Below C w w') (hC : w.heap.size ≤ C) : InY w' g B st := by
  obtain ⟨b, o, c, h1, h2, h3, h4, h5, h6, h7⟩ := h
  have hl := blk_lt h1
  exact ⟨b, o, c, blk_below hb h1 (by omega), h2.below hb (by omega), h3, h4, h5, by have := hb.size; omega, h7⟩
theorem in_left {w : World} {g B b o n c : Nat} {v0 : Value} {q : Bool} {r : By} (hg : w.heap[g]? = some (.cells #[v0, .bool q] 65 (0, 0))) (hb : Bs w B (some ⟨b, o, none⟩) n r) (h1 : n ≤ c) (h2 : c ≤ 9223372036854775807) (hgB : B ≤ g) (hB : B ≤ w.heap.size) (hn : n ≤ 1000000000) :
    InY (w.setCell ⟨g, 0, none⟩ (.slice (some ⟨b, o, none⟩) n c)) g B (r, q) := by
  obtain rfl := hb.len_
  have hc := cset1 w g 0 (.slice (some ⟨b, o, none⟩) r.length c)
  refine ⟨b, o, c, ?_, hb.below (hc.below hB (fun k e => by omega)) (Nat.le_refl _), h1, h2, hgB, Nat.le_trans hB hc.size, hn⟩
  have := heap_setCell_same w g 0 _ _ (.slice (some ⟨b, o, none⟩) r.length c) hg
  simpa using this
theorem in_flag {w : World} {g B : Nat} {st : St} (h : InY w g B st) : InY (w.setCell ⟨g, 1, none⟩ (.bool true)) g B (st.1, true) := by
  obtain ⟨b, o, c, h1, h2, h3, h4, h5, h6, h7⟩ := h
  have hc := cset1 w g 1 (.bool true)
  refine ⟨b, o, c, ?_, h2.below (hc.below h6 (fun k e => by omega)) (Nat.le_refl _), h3, h4, h5, Nat.le_trans h6 hc.size, h7⟩
  have := heap_setCell_same w g 1 _ _ (.bool true) h1
  simpa using this
theorem chg_b1 {w w1 : World} {g : Nat} (h : Below w.heap.size w w1) (o : Nat) (x : Value) : Chg (fun k => k = g) w (w1.setCell ⟨g, o, none⟩ x) := Chg.setCell ((Chg.of_below h).mono (S' := fun k => k = g) (fun _ _ e => e.elim)) (p := ⟨g, o, none⟩) (fun _ => rfl) x
def RetI (w : World) (g B : Nat) (x : Value) (st' : St) (e : Ending) (w' : World) : Prop := e = .returned x ∧ InY w' g B st' ∧ Chg (fun k => k = g) w w'
set_option maxHeartbeats 2000000 in
set_option maxRecDepth 100000 in
theorem number_r (w : World) (g B : Nat) (st : St) (h : InY w g B st) :
    Calls Try.prog 20 #[.pointer (some ⟨g, 0, none⟩)] w (RetI w g B (.int .i64 ((nY st).1 : Nat)) (nY st).2) := by
  have HI := Lib.hid h
  have hI := h
  obtain ⟨b, o, c, hg, hb, hlc, hcm, hgg, hBs, hn⟩ := h
  have hgl := blk_lt hg
  obtain ⟨N, K, hNK⟩ : ∃ N K, ru st.1 0 0 = (N, K) := ⟨_, _, rfl⟩
  have hru := readuv_y w B st.1.length c (some ⟨b, o, none⟩) st.1 hb hBs hlc hcm (by omega)
  rw [hNK] at hru
  have hnum : nY st = if K = 0 ∨ 2199023255552 < N then (0, (st.1, true)) else (N, (st.1.drop K, st.2)) := by
    unfold nY cl.num
    rw [hNK]
    by_cases hh : K = 0 ∨ 2199023255552 < N
    · rw [if_pos hh, if_pos hh]
    · rw [if_neg hh, if_neg hh]
  have hKl : K ≠ 0 → K ≤ st.1.length := fun e => (ru_back0 st.1 N K hNK e).2.1
  have c0 : w.cell? ⟨g, 0, none⟩ = some (.slice (some ⟨b, o, none⟩) st.1.length c) := by rw [cell_of_row _ _ _ _ _ _ hg]; rfl
  have HRU := Lib.hid hru
  have HG := Lib.hid hg
  have HB := Lib.hid hb
  have HNUM := Lib.hid hnum
  obtain ⟨L, hL⟩ : ∃ L, st.1.length = L := ⟨_, rfl⟩
  rw [hL] at HRU HB HG c0 hlc hn hKl
  have HL := Lib.hid hL
  clear hru hg hb hnum hL hNK hI
  have HGO := Lib.hid (fun (w1 : World) (hb1 : Below w.heap.size w w1) => (show w1.heap[g]? = some (.cells #[.slice (some ⟨b, o, none⟩) L c, .bool st.2] 65 (0, 0)) ∧ Bs w1 B (some ⟨b, o, none⟩) L st.1 ∧ InY w1 g B st from ⟨blk_below hb1 HG.out hgl, HB.out.below hb1 hBs, HI.out.below hb1 (Nat.le_refl _)⟩))
  by_cases hz : K = 0
  · have hk0 : ((K : Int) == 0) = true := by simp; omega
    have HR := Lib.hid (show nY st = (0, (st.1, true)) by rw [HNUM.out, if_pos (.inl hz)])
    clear hz HNUM hKl
    go_enter Try.func20, Try.ntmps20
    go_wp2_with (fail)
    refine HRU.out.mono ?_
    rintro e w1 ⟨rfl, hb1⟩
    obtain ⟨hg1, _, hi1⟩ := HGO.out w1 hb1
    have HF := Lib.hid (in_flag hi1)
    have HC := Lib.hid (show Chg (fun k => k = g) w (w1.setCell ⟨g, 1, none⟩ (.bool true)) from chg_b1 hb1 1 _)
    have c2 : w1.cell? ⟨g, 1, none⟩ = some (.bool st.2) := by rw [cell_of_row _ _ _ _ _ _ hg1]; rfl
    have f2 := frozen_of_row w1 g 1 _ _ hg1
    have hl1 := blk_lt hg1
    clear hb1 hg1 hi1 c0
    go_wp2_with (fail)
    go_ret
    exact ⟨by rw [HR.out]; rfl, by rw [HR.out]; exact HF.out, HC.out⟩
  · have hk0 : ((K : Int) == 0) = false := by simp; omega
    by_cases hbig : 2199023255552 < N
    · have HR := Lib.hid (show nY st = (0, (st.1, true)) by rw [HNUM.out, if_pos (.inr hbig)])
      have hi : (2199023255552 : Int) < (N : Int) := by omega
      clear hz HNUM hKl
      go_enter Try.func20, Try.ntmps20
      go_wp2_with (fail)
      refine HRU.out.mono ?_
      rintro e w1 ⟨rfl, hb1⟩
      obtain ⟨hg1, _, hi1⟩ := HGO.out w1 hb1
      have HF := Lib.hid (in_flag hi1)
      have HC := Lib.hid (show Chg (fun k => k = g) w (w1.setCell ⟨g, 1, none⟩ (.bool true)) from chg_b1 hb1 1 _)
      have c2 : w1.cell? ⟨g, 1, none⟩ = some (.bool st.2) := by rw [cell_of_row _ _ _ _ _ _ hg1]; rfl
      have f2 := frozen_of_row w1 g 1 _ _ hg1
      have hl1 := blk_lt hg1
      clear hb1 hg1 hi1 c0
      go_wp2_with (fail)
      go_ret
      exact ⟨by rw [HR.out]; rfl, by rw [HR.out]; exact HF.out, HC.out⟩
    · have hi : ¬ (2199023255552 : Int) < (N : Int) := by omega
      have hK := hKl hz
      have HR := Lib.hid (show nY st = (N, (st.1.drop K, st.2)) by rw [HNUM.out, if_neg (by omega)])
      have wN : IntKind.i64.wrap (N : Int) = (N : Int) := by rw [IntWalk.i64_in _ (by omega)]
      have i1 : (0 : Int) ≤ (K : Int) := by omega
      have i2 : (K : Int) ≤ (L : Int) := by omega
      clear hz HNUM hKl
      go_enter Try.func20, Try.ntmps20
      go_wp2_with (fail)
      refine HRU.out.mono ?_
      rintro e w1 ⟨rfl, hb1⟩
      obtain ⟨hg1, hbs1, hi1⟩ := HGO.out w1 hb1
      have hs1 := hb1.size
      have HCUT := Lib.hid (bs_cut hbs1 hK hlc)
      have HFIN := Lib.hid (show ∀ b' o' c', Bs w1 B (some ⟨b', o', none⟩) (L - K) (st.1.drop K) → L - K ≤ c' → c' ≤ 9223372036854775807 → RetI w g B (.int .i64 ((nY st).1 : Nat)) (nY st).2 (.returned (.int .i64 (N : Int))) (w1.setCell ⟨g, 0, none⟩ (.slice (some ⟨b', o', none⟩) (L - K) c')) from fun b' o' c' h1 h2 h3 => by
        rw [HR.out]
        exact ⟨rfl, in_left hg1 h1 h2 h3 hgg (by omega) (by omega), chg_b1 hb1 0 _⟩)
      have c2 : w1.cell? ⟨g, 0, none⟩ = some (.slice (some ⟨b, o, none⟩) L c) := by rw [cell_of_row _ _ _ _ _ _ hg1]; rfl
      have f2 := frozen_of_row w1 g 0 _ _ hg1
      have hl1 := blk_lt hg1
      clear hb1 hg1 hi1 hbs1 c0
      go_wp2_with (fail)
      all_goals
        have h3 := HCUT.out
        first | rw [if_pos rfl] at h3 | rw [if_pos (by assumption)] at h3 | rw [if_neg (by assumption)] at h3
        go_ret
        exact HFIN.out _ _ _ h3 (by omega) (by omega)
theorem made_bytes (n : Nat) : madeCells (Value.cells (.int .u8 0)) (n * 1) = (u8s (List.replicate n 0)).toArray := by
  have h := made_cs (enc := fun _ : Nat => [Value.int .u8 0]) (k := 1) (fun _ => rfl) (by decide) 0 n
  rw [show (Value.cells (.int .u8 0)) = [Value.int .u8 0].toArray from rfl, h]
  congr 1
  induction n with
  | zero => rfl
  | succ n ih => rw [List.replicate_succ, cs_cons, ih (made_cs (fun _ => rfl) (by decide) 0 n), List.replicate_succ]; rfl
/-- bytes taken -/
def RetTkY (w : World) (g B : Nat) (r : By × St) (e : Ending) (w' : World) : Prop :=
  ∃ b o c, e = .returned (.slice (some ⟨b, o, none⟩) r.1.length c) ∧ Bs w' w'.heap.size (some ⟨b, o, none⟩) r.1.length r.1 ∧ InY w' g B r.2 ∧ Chg (fun k => k = g) w w'
theorem rd_lit2 {w : World} (bs : By) : Bs (w.alloc (.cells (u8s bs).toArray 5)) (w.heap.size + 1) (some ⟨w.heap.size, 0, none⟩) bs.length bs := rd_lit 5 (u8s bs) (by rw [u8s_length])
set_option maxHeartbeats 2000000 in
set_option maxRecDepth 100000 in
theorem take_r (w : World) (g B n : Nat) (st : St) (h : InY w g B st) (hn16 : n ≤ 16) :
    Calls Try.prog 40 #[.pointer (some ⟨g, 0, none⟩), .int .i64 n] w (RetTkY w g B (tY n st)) := by
  obtain ⟨i0, hi, hz0, hz1, hz2⟩ := info_parts mem.infoB
  have HI := Lib.hid h
  obtain ⟨b, o, c, hg, hb, hlc, hcm, hgg, hBs, hn⟩ := h
  have hgl := blk_lt hg
  have c0 : w.cell? ⟨g, 0, none⟩ = some (.slice (some ⟨b, o, none⟩) st.1.length c) := by rw [cell_of_row _ _ _ _ _ _ hg]; rfl
  have c1 : w.cell? ⟨g, 1, none⟩ = some (.bool st.2) := by rw [cell_of_row _ _ _ _ _ _ hg]; rfl
  have f0 := frozen_of_row w g 0 _ _ hg
  have f1 := frozen_of_row w g 1 _ _ hg
  have HG := Lib.hid hg
  have HB := Lib.hid hb
  obtain ⟨L, hL⟩ : ∃ L, st.1.length = L := ⟨_, rfl⟩
  rw [hL] at HB HG c0 hlc hn
  have HL := Lib.hid hL
  clear hg hb hL
  by_cases hs : L < n
  · have hi1 : (L : Int) < (n : Int) := by omega
    obtain ⟨w1, hw1⟩ : ∃ w1, w.setCell ⟨g, 1, none⟩ (.bool true) = w1 := ⟨_, rfl⟩
    have hI1 : InY w1 g B (st.1, true) := by rw [← hw1]; exact in_flag HI.out
    have hc1 : Chg (fun k => k = g) w w1 := by rw [← hw1]; exact cset1 w g 1 _
    have hmk : (Instr.makeSlice 33 (.int .i64 (n : Int)) (.int .i64 (n : Int))).run Try.prog w1 = .ok (.slice (some ⟨w1.heap.size, 0, none⟩) n n) (w1.alloc (.cells (u8s (List.replicate n 0)).toArray 5)) := by
      have h1 := run_make (P := Try.prog) w1 33 5 i0 (.int .u8 0) Try.underlying33 hi hz0 .i64 .i64 n n (by omega) (by omega) (by rw [hz2]; omega) (by omega)
      rw [h1, hz1]
      simp only [Int.toNat_natCast]
      rw [made_bytes]
    have HR := Lib.hid (show tY n st = (List.replicate n 0, (st.1, true)) by unfold tY; rw [if_pos (by rw [HL.out]; exact hs)])
    have HF := Lib.hid (show RetTkY w g B (tY n st) (.returned (.slice (some ⟨w1.heap.size, 0, none⟩) n n)) (w1.alloc (.cells (u8s (List.replicate n 0)).toArray 5)) from by
      rw [HR.out]
      refine ⟨w1.heap.size, 0, n, by simp, ?_, hI1.below (below_al _ _) (Nat.le_refl _), hc1.alloc _⟩
      have := rd_lit2 (w := w1) (List.replicate n 0)
      rw [List.length_replicate] at this
      simpa using this)
    clear hs hI1 hc1 HR
    go_enter Try.func40, Try.ntmps40
    go_wp2_with (fail)
    go_ret
    exact HF.out
  · have hi1 : ¬ (L : Int) < (n : Int) := by omega
    have hK : n ≤ L := by omega
    have HCUT := Lib.hid (bs_cut HB.out hK hlc)
    have HLES := Lib.hid (show Bs w B (some ⟨b, o, none⟩) n (st.1.take n) from by have := Rd.less HB.out hK; rwa [show (u8s st.1).take n = u8s (st.1.take n) by simp [u8s]] at this)
    have i1 : (0 : Int) ≤ (n : Int) := by omega
    have i2 : (n : Int) ≤ (L : Int) := by omega
    have i3 : (n : Int) ≤ (c : Int) := by omega
    have i4 : (L : Int) ≤ (c : Int) := by omega
    have HR := Lib.hid (show tY n st = (st.1.take n, (st.1.drop n, st.2)) by unfold tY; rw [if_neg (by rw [HL.out]; exact hs)])
    have HFIN := Lib.hid (show ∀ b' o' c', Bs w B (some ⟨b', o', none⟩) (L - n) (st.1.drop n) → L - n ≤ c' → c' ≤ 9223372036854775807 → RetTkY w g B (tY n st) (.returned (.slice (some ⟨b, o, none⟩) n c)) (w.setCell ⟨g, 0, none⟩ (.slice (some ⟨b', o', none⟩) (L - n) c')) from fun b' o' c' h1 h2 h3 => by
      have hS := in_left HG.out h1 h2 h3 hgg hBs (by omega)
      have hc := cset1 w g 0 (.slice (some ⟨b', o', none⟩) (L - n) c')
      rw [HR.out]
      have hln : (st.1.take n).length = n := HLES.out.len_
      exact ⟨b, o, c, by rw [hln], by rw [hln]; exact (HLES.out.below (hc.below hBs (fun k e => by omega)) (Nat.le_refl _)).more (Nat.le_trans hBs hc.size), hS, hc⟩)
    clear hs HR
    go_enter Try.func40, Try.ntmps40
    go_wp2_with (fail)
    · have h3 := HCUT.out
      have hcn : c = n := by assumption
      rw [if_pos hcn] at h3
      have h4 := HFIN.out b o 0 h3 (by omega) (by omega)
      rw [hcn] at h4
      go_ret
      exact h4
    · have h3 := HCUT.out
      rw [if_neg (by assumption)] at h3
      go_ret
      exact HFIN.out _ _ _ h3 (by omega) (by omega)
end Go.Proofs.Ythkcnakodlbdpaa.wr
/-
  Messages: the document's reader: names, wide numbers, points, metas.
-/
namespace Go.Proofs.Ythkcnakodlbdpaa.wr
open Go.ChangeShapes Go.WideShapes Go.ChangeAt Go.RowKit plain words ord mem uvs uvc

/-- how much may be read yet -/
def mu (st : St) : Nat := if st.2 then 0 else st.1.length + 1
theorem nY_mu {st : St} (h : st.2 = false) : mu (nY st).2 < mu st := by
  unfold nY
  split
  · rename_i n s' e
    obtain ⟨_, _, e2⟩ := cl.num_back e
    have := (uv_len n).1
    have e3 := congrArg List.length e2
    rw [List.length_append] at e3
    unfold mu
    rw [h]
    simp
    omega
  · unfold mu; rw [h]; simp
theorem nY_le (st : St) : mu (nY st).2 ≤ mu st := by
  cases h : st.2 with
  | false => exact Nat.le_of_lt (nY_mu h)
  | true =>
    unfold nY
    split
    · unfold mu; rw [h]; simp
    · unfold mu; simp
theorem tY_le (n : Nat) (st : St) : mu (tY n st).2 ≤ mu st := by
  unfold tY
  split
  · unfold mu; simp
  · unfold mu
    cases st.2 <;> simp
theorem tY_len (n : Nat) (st : St) : (tY n st).1.length = n := by
  unfold tY
  split
  · simp
  · rename_i h; simp; omega
theorem idY_le (st : St) : mu (idY st).2 ≤ mu st := by
  unfold idY
  split
  · unfold mu; simp
  · exact Nat.le_trans (tY_le _ _) (nY_le _)
theorem wY_le (n : Nat) (st : St) : mu (wY n st).2 ≤ mu st := tY_le _ _
theorem wY_lt (n : Nat) (st : St) : (wY n st).1 < 256 ^ n := by
  have := cl.fix_lt (tY n st).1
  rw [tY_len] at this
  exact this
theorem nY_rng (st : St) : (nY st).1 ≤ 2199023255552 := by
  unfold nY
  split
  · rename_i n s' e; exact (cl.num_back e).1
  · simp
def ptY (st : St) : Pt × St := ((((nY st).1 : Nat), ((wY 8 (nY st).2).1 : Nat), ((wY 8 (wY 8 (nY st).2).2).1 : Nat)), (wY 8 (wY 8 (nY st).2).2).2)
theorem ptY_mu {st : St} (h : st.2 = false) : mu (ptY st).2 < mu st := Nat.lt_of_le_of_lt (Nat.le_trans (wY_le _ _) (wY_le _ _)) (nY_mu h)
theorem ptY_ok (st : St) : PtOk (ptY st).1 := by
  have h1 := wY_lt 8 (nY st).2
  have h2 := wY_lt 8 (wY 8 (nY st).2).2
  have e : (256 : Nat) ^ 8 = 18446744073709551616 := by decide
  rw [e] at h1 h2
  exact ⟨⟨by simp only [ptY]; omega, by simp only [ptY]; omega⟩, ⟨by simp only [ptY]; omega, by simp only [ptY]; omega⟩⟩
def mtY (st : St) : Mt × St := (((idY st).1, ((nY (idY st).2).1 : Nat), ((nY (nY (idY st).2).2).1 : Nat), ((wY 4 (nY (nY (idY st).2).2).2).1 : Nat)), (wY 4 (nY (nY (idY st).2).2).2).2)
theorem idY_16 (st : St) : (idY st).1.length ≤ 16 := by
  unfold idY
  split
  · simp
  · rw [tY_len]; omega
theorem mtY_ok (st : St) : MtOk (mtY st).1 := by
  have h1 := wY_lt 4 (nY (nY (idY st).2).2).2
  have e : (256 : Nat) ^ 4 = 4294967296 := by decide
  rw [e] at h1
  refine ⟨?_, ?_, ?_⟩
  · have := idY_16 st; simp only [mtY]; omega
  · simp only [mtY]; omega
  · simp only [mtY]; omega
theorem idY_mu {st : St} (h : st.2 = false) : mu (idY st).2 < mu st := by
  unfold idY
  split
  · unfold mu; rw [h]; simp
  · exact Nat.lt_of_le_of_lt (tY_le _ _) (nY_mu h)
theorem mtY_mu {st : St} (h : st.2 = false) : mu (mtY st).2 < mu st := Nat.lt_of_le_of_lt (Nat.le_trans (wY_le _ _) (Nat.le_trans (nY_le _) (nY_le _))) (idY_mu h)
/-- so many of a sort, as long as there are bytes -/
def lpY {α : Type} (item : St → α × St) : Nat → St → List α × St
  | 0, st => ([], st)
  | n + 1, st => if st.2 then ([], st) else ((item st).1 :: (lpY item n (item st).2).1, (lpY item n (item st).2).2)
theorem lpY_bad {α : Type} (item : St → α × St) (n : Nat) {st : St} (h : st.2 = true) : lpY item n st = ([], st) := by cases n <;> simp [lpY, h]
def lsY {α : Type} (item : St → α × St) (st : St) : List α × St := lpY item (nY st).1 (nY st).2
/-- how far a list has come -/
def LA {α : Type} (item : St → α × St) (N : Nat) (s0 : St) (i : Nat) (dn : List α) (st : St) : Prop := dn.length = i ∧ lpY item N s0 = (dn ++ (lpY item (N - i) st).1, (lpY item (N - i) st).2)
theorem LA.zero {α : Type} (item : St → α × St) (N : Nat) (s0 : St) : LA item N s0 0 [] s0 := ⟨rfl, rfl⟩
theorem LA.step {α : Type} {item : St → α × St} {N i : Nat} {s0 st : St} {dn : List α} (h : LA item N s0 i dn st) (hi : i < N) (hb : st.2 = false) : LA item N s0 (i + 1) (dn ++ [(item st).1]) (item st).2 := by
  obtain ⟨h1, h2⟩ := h
  refine ⟨by simp [h1], ?_⟩
  rw [h2, show N - i = (N - (i + 1)) + 1 by omega]
  simp [lpY, hb]
theorem LA.stop {α : Type} {item : St → α × St} {N i : Nat} {s0 st : St} {dn : List α} (h : LA item N s0 i dn st) (hs : N ≤ i ∨ st.2 = true) : lpY item N s0 = (dn, st) := by
  rw [h.2]
  rcases hs with hs | hs
  · rw [show N - i = 0 by omega]; simp [lpY]
  · rw [lpY_bad item _ hs]; simp
theorem mem_lpY {α : Type} {item : St → α × St} {p : α → Prop} (hp : ∀ st, p (item st).1) : ∀ (n : Nat) (st : St), ∀ x ∈ (lpY item n st).1, p x
  | 0, st => fun x hx => by cases hx
  | n + 1, st => fun x hx => by
    by_cases hb : st.2 = true
    · rw [lpY_bad item _ hb] at hx; cases hx
    · simp [lpY, hb] at hx
      rcases hx with rfl | hx
      · exact hp st
      · exact mem_lpY hp n _ x hx
set_option maxHeartbeats 2000000 in
set_option maxRecDepth 100000 in
theorem name_r (w : World) (g B : Nat) (st : St) (h : InY w g B st) :
    Calls Try.prog 34 #[.pointer (some ⟨g, 0, none⟩)] w (RetI w g B (.string (cl.tx (idY st).1)) (idY st).2) := by
  have HN := Lib.hid (number_r w g B st h)
  have hrng := nY_rng st
  obtain ⟨a, ha⟩ : ∃ a, nY st = a := ⟨_, rfl⟩
  have HID := Lib.hid (show idY st = if 16 < a.1 then ([], (a.2.1, true)) else tY a.1 a.2 by unfold idY; rw [ha])
  rw [ha] at HN hrng
  obtain ⟨n, s1⟩ := a
  simp only at hrng
  clear h ha
  go_enter Try.func34, Try.ntmps34
  go_wp2_with (fail)
  refine HN.out.mono ?_
  rintro e w1 ⟨rfl, hi1, hc1⟩
  by_cases hb : 16 < n
  · have hbi : (16 : Int) < (n : Int) := by omega
    have HR := Lib.hid (show idY st = ([], (s1.1, true)) by rw [HID.out, if_pos hb])
    have HF := Lib.hid (in_flag hi1)
    have HC := Lib.hid (hc1.setCell (p := ⟨g, 1, none⟩) (fun _ => rfl) (.bool true))
    obtain ⟨b, o, c, hg1, _⟩ := hi1
    have c2 : w1.cell? ⟨g, 1, none⟩ = some (.bool s1.2) := by rw [cell_of_row _ _ _ _ _ _ hg1]; rfl
    have f2 := frozen_of_row w1 g 1 _ _ hg1
    have hl1 := blk_lt hg1
    clear hg1 hc1 HN
    go_wp2_with (fail)
    go_ret
    exact ⟨by rw [HR.out]; rfl, by rw [HR.out]; exact HF.out, HC.out⟩
  · have hbi : ¬ (16 : Int) < (n : Int) := by omega
    have HR := Lib.hid (show idY st = tY n s1 by rw [HID.out, if_neg hb])
    have HT := Lib.hid (take_r w1 g B n s1 hi1 (by omega))
    have HC := Lib.hid hc1
    clear hi1 hc1 HN
    go_wp2_with (fail)
    refine HT.out.mono ?_
    rintro e w2 ⟨b, o, c, rfl, hbs, hi2, hc2⟩
    have k0 := conv_string (P := Try.prog) (c := c) hbs 33 9 5 Try.underlying33 Try.underlying9 Try.underlying5
    have HF := Lib.hid (show RetI w g B (.string (cl.tx (idY st).1)) (idY st).2 (.returned (.string (cl.tx (tY n s1).1))) w2 from by rw [HR.out]; exact ⟨rfl, hi2, HC.out.trans hc2 (fun _ _ e => e)⟩)
    obtain ⟨T, hT⟩ : ∃ T, (tY n s1).1 = T := ⟨_, rfl⟩
    rw [hT] at k0 HF
    obtain ⟨TL, hTL⟩ : ∃ TL, T.length = TL := ⟨_, rfl⟩
    rw [hT, hTL]
    rw [hTL] at k0
    clear hbs hi2 hc2 HT hT hTL
    go_wp2_with (fail)
    go_ret
    exact HF.out
set_option maxHeartbeats 2000000 in
set_option maxRecDepth 100000 in
theorem wide_r (w : World) (g B k : Nat) (st : St) (h : InY w g B st) (hk : k ≤ 8) :
    Calls Try.prog 41 #[.pointer (some ⟨g, 0, none⟩), .int .i64 k] w (RetI w g B (.int .u64 ((wY k st).1 : Nat)) (wY k st).2) := by
  have HT := Lib.hid (take_r w g B k st h (by omega))
  have htl := tY_len k st
  have HW := Lib.hid (show wY k st = (cl.fix (tY k st).1, (tY k st).2) from rfl)
  obtain ⟨r, hr⟩ : ∃ r, tY k st = r := ⟨_, rfl⟩
  rw [hr] at HT htl HW
  obtain ⟨X, s1⟩ := r
  simp only at htl HW
  have HTL := Lib.hid htl
  clear h hr
  go_enter Try.func41, Try.ntmps41
  go_wp2_with (fail)
  refine HT.out.mono ?_
  rintro e w1 ⟨b, o, c, rfl, hbs, hi1, hc1⟩
  simp only at hbs hi1
  rw [htl] at hbs
  simp only [htl]
  have HB := Lib.hid hbs
  have HI := Lib.hid hi1
  have HC := Lib.hid hc1
  clear hbs hi1 hc1 HT htl
  go_wp2_with (fail)
  go_loopg [5, 7] k (fun gg s5 s7 wr => ∃ (j v : Nat), s7 = .int .i64 j ∧ s5 = .int .u64 v ∧ Aside (cl.fix (X.take j) = v) ∧ j ≤ k ∧ k - j ≤ gg ∧ wr = w1)
  case atStart => exact ⟨0, 0, rfl, rfl, rfl, Nat.zero_le _, by omega, rfl⟩
  case round =>
    obtain ⟨j, v, rfl, rfl, HV, hj, hg, rfl⟩ := hrel
    by_cases hlt : j < k
    · obtain ⟨b', o', ch, eA, hb, hg2, hcc⟩ := HB.out.get hlt
      obtain ⟨e1, e2⟩ : b = b' ∧ o = o' := by injection eA with eA; injection eA with e1 e2; exact ⟨e1, e2⟩
      subst e1
      subst e2
      clear eA
      have hv := cl.fix_take_lt X (j + 1) (by rw [HTL.out]; exact hk)
      rw [cl.fix_take X j hg2, HV.out] at hv
      have hch := ch.toNat_lt
      have i1 : (j : Int) < (k : Int) := by omega
      have i0 : (0 : Int) ≤ (j : Int) := by omega
      have HT := Lib.hid (cl.fix_take X j hg2)
      obtain ⟨z, hz⟩ : ∃ z, ch.toNat = z := ⟨_, rfl⟩
      rw [hz] at hcc hv hch
      have HZ := Lib.hid hz
      have w1 : IntKind.u64.wrap ((v : Int) * 256) = (v : Int) * 256 := by rw [IntKind.wrap_u64]; omega
      have w2 := cl.or_byte v z hch (by omega)
      clear hz hg2
      go_wp2_with fail
      go_roundg (k - (j + 1))
      case measure => omega
      case rel =>
        refine ⟨j + 1, v * 256 + z, by go_num, rfl, ?_, by omega, by omega, rfl⟩
        show cl.fix _ = _
        rw [HT.out, HV.out, HZ.out]
    · have i1 : ¬ (j : Int) < (k : Int) := by omega
      have hjk : j = k := by omega
      subst hjk
      have hv : cl.fix X = v := by rw [← HV.out, List.take_of_length_le (by rw [HTL.out]; omega)]
      have HV2 := Lib.hid hv
      clear hv
      go_wp2_with fail
      go_ret
      exact ⟨by rw [HW.out, HV2.out]; rfl, by rw [HW.out]; exact HI.out, HC.out⟩
end Go.Proofs.Ythkcnakodlbdpaa.wr
/-
  Messages: the document's reader: a point, lists.
-/
namespace Go.Proofs.Ythkcnakodlbdpaa.wr
open Go.ChangeShapes Go.WideShapes Go.ChangeAt Go.RowKit plain words ord mem uvs uvc

theorem set3 {w : World} {g : Nat} {t : TypeId} {u0 u1 u2 : Value} (h : w.heap[g]? = some (.cells #[u0, u1, u2] t (0, 0))) (v0 v1 v2 : Value) : (((w.setCell ⟨g, 0, none⟩ v0).setCell ⟨g, 1, none⟩ v1).setCell ⟨g, 2, none⟩ v2).heap[g]? = some (.cells #[v0, v1, v2] t (0, 0)) := by
  have h0 := heap_setCell_same w g 0 _ _ v0 h
  have h1 := heap_setCell_same _ g 1 _ _ v1 h0
  have h2 := heap_setCell_same _ g 2 _ _ v2 h1
  simpa using h2
theorem set4 {w : World} {g : Nat} {t : TypeId} {u0 u1 u2 u3 : Value} (h : w.heap[g]? = some (.cells #[u0, u1, u2, u3] t (0, 0))) (v0 v1 v2 v3 : Value) : ((((w.setCell ⟨g, 0, none⟩ v0).setCell ⟨g, 1, none⟩ v1).setCell ⟨g, 2, none⟩ v2).setCell ⟨g, 3, none⟩ v3).heap[g]? = some (.cells #[v0, v1, v2, v3] t (0, 0)) := by
  have h0 := heap_setCell_same w g 0 _ _ v0 h
  have h1 := heap_setCell_same _ g 1 _ _ v1 h0
  have h2 := heap_setCell_same _ g 2 _ _ v2 h1
  have h3 := heap_setCell_same _ g 3 _ _ v3 h2
  simpa using h3
theorem chg_new {a w : World} {S : Nat → Prop} (h : Chg S a w) {g : Nat} (hg : a.heap.size ≤ g) (o : Nat) (x : Value) : Chg S a (w.setCell ⟨g, o, none⟩ x) := h.setCell (p := ⟨g, o, none⟩) (fun e => absurd e (by show ¬ g < _; omega)) x
theorem InY.other {w : World} {g B q o : Nat} {st : St} (h : InY w g B st) (hne : q ≠ g) (hB : B ≤ q) (x : Value) : InY (w.setCell ⟨q, o, none⟩ x) g B st := h.chg (cset1 w q o x) (fun e => hne e.symm) (fun b hb e => by omega)
theorem info3 : (Try.prog.info? 26).map (·.size) = some 3 := by kernel_rfl
theorem vcells3 {w : World} {g : Nat} {t : TypeId} {u0 u1 u2 : Value} (h : V w g #[u0, u1, u2] t) : (w.cell? ⟨g, 0, none⟩ = some u0 ∧ w.cell? ⟨g, 1, none⟩ = some u1 ∧ w.cell? ⟨g, 2, none⟩ = some u2) ∧ (w.frozen? ⟨g, 0, none⟩ = false ∧ w.frozen? ⟨g, 1, none⟩ = false ∧ w.frozen? ⟨g, 2, none⟩ = false) ∧ g < w.heap.size :=
  ⟨⟨by rw [cell_of_row _ _ _ _ _ _ h]; rfl, by rw [cell_of_row _ _ _ _ _ _ h]; rfl, by rw [cell_of_row _ _ _ _ _ _ h]; rfl⟩, ⟨frozen_of_row _ _ 0 _ _ h, frozen_of_row _ _ 1 _ _ h, frozen_of_row _ _ 2 _ _ h⟩, blk_lt h⟩
set_option maxHeartbeats 2000000 in
set_option maxRecDepth 100000 in
theorem point_r (w : World) (g B : Nat) (st : St) (h : InY w g B st) :
    Calls Try.prog 35 #[.pointer (some ⟨g, 0, none⟩)] w (RetI w g B (.agg #[.int .i64 (ptY st).1.1, .int .u64 (ptY st).1.2.1, .int .u64 (ptY st).1.2.2]) (ptY st).2) := by
  have hgl := h.lt
  have hge := h.ge
  obtain ⟨R, hR⟩ : ∃ R, w.heap.size = R := ⟨_, rfl⟩
  obtain ⟨w0, hw0⟩ : ∃ w0, w.alloc (.cells #[.int .i64 0, .int .u64 0, .int .u64 0] 26) = w0 := ⟨_, rfl⟩
  have hb0 : Below w.heap.size w w0 := by rw [← hw0]; exact below_al _ _
  have hz0 : w0.heap.size = R + 1 := by rw [← hw0, World.size_alloc, hR]
  have vR0 : V w0 R #[.int .i64 0, .int .u64 0, .int .u64 0] 26 := by rw [← hw0, ← hR]; exact alloc_new _ _
  have hi0 := h.below hb0 (Nat.le_refl _)
  have HC0 := Lib.hid ((Chg.of_below hb0).mono (S' := fun k => k = g) (fun _ _ e => e.elim))
  have VR0 := Lib.hid vR0
  have HN := Lib.hid (number_r w0 g B st hi0)
  have HPT := Lib.hid (show ptY st = ((((nY st).1 : Int), ((wY 8 (nY st).2).1 : Int), ((wY 8 (wY 8 (nY st).2).2).1 : Int)), (wY 8 (wY 8 (nY st).2).2).2) from rfl)
  obtain ⟨r1, hr1⟩ : ∃ r, nY st = r := ⟨_, rfl⟩
  rw [hr1] at HN HPT
  obtain ⟨a1, s1⟩ := r1
  have HR := Lib.hid hR
  have hgR : g < R := by omega
  have hwR : w.heap.size ≤ R := by omega
  clear h hb0 vR0 hi0 hr1
  go_enter Try.func35, Try.ntmps35
  go_wp2_with (fail)
  refine HN.out.mono ?_
  clear hw0 hR
  rintro e w1 ⟨rfl, hi1, hc1⟩
  replace hi1 : InY w1 g B s1 := hi1
  have hs1 := hc1.size
  obtain ⟨p, hp⟩ : ∃ p, w1.heap.size = p := ⟨_, rfl⟩
  have vR1 : V w1 R #[.int .i64 0, .int .u64 0, .int .u64 0] 26 := hc1.blk VR0.out (by have := HR.out; omega)
  obtain ⟨wa, hwa⟩ : ∃ wa, w1.alloc (.cells #[.int .i64 0, .int .u64 0, .int .u64 0] 26) = wa := ⟨_, rfl⟩
  have hba : Below w1.heap.size w1 wa := by rw [← hwa]; exact below_al _ _
  have hza : wa.heap.size = p + 1 := by rw [← hwa, World.size_alloc, hp]
  have vPa : V wa p #[.int .i64 0, .int .u64 0, .int .u64 0] 26 := by rw [← hwa, ← hp]; exact alloc_new _ _
  obtain ⟨⟨ca0, ca1, ca2⟩, ⟨fa0, fa1, fa2⟩, hal⟩ := vcells3 vPa
  obtain ⟨w2, hw2⟩ : ∃ w2, ((wa.setCell ⟨p, 0, none⟩ (.int .i64 (a1 : Nat))).setCell ⟨p, 1, none⟩ (.int .u64 0)).setCell ⟨p, 2, none⟩ (.int .u64 0) = w2 := ⟨_, rfl⟩
  have hgp : g < p := by have := HR.out; omega
  have hRp : R < p := by omega
  have hi2 : InY w2 g B s1 := by rw [← hw2]; exact (((hi1.below hba (Nat.le_refl _)).other (by omega) (by omega) _).other (by omega) (by omega) _).other (by omega) (by omega) _
  have vP2 : V w2 p #[.int .i64 (a1 : Nat), .int .u64 0, .int .u64 0] 26 := by rw [← hw2]; exact set3 vPa _ _ _
  have vR2 : V w2 R #[.int .i64 0, .int .u64 0, .int .u64 0] 26 := by rw [← hw2]; exact ((V.other (blk_below hba vR1 (by omega)) (by omega) _).other (by omega) _).other (by omega) _
  have hc2 : Chg (fun k => k = g) w w2 := by rw [← hw2]; exact chg_new (chg_new (chg_new ((HC0.out.trans hc1 (fun _ _ e => e)).then_below hba) (by omega) _ _) (by omega) _ _) (by omega) _ _
  have HC2 := Lib.hid hc2
  have VP2 := Lib.hid vP2
  have VR2 := Lib.hid vR2
  have HW := Lib.hid (wide_r w2 g B 8 s1 hi2 (by omega))
  obtain ⟨r2, hr2⟩ : ∃ r, wY 8 s1 = r := ⟨_, rfl⟩
  rw [show (wY 8 (a1, s1).2) = wY 8 s1 from rfl, hr2] at HPT
  rw [hr2] at HW
  obtain ⟨b1, s2⟩ := r2
  clear hi1 hc1 hba vPa hi2 vP2 vR2 vR1 hc2 HN HC0 VR0 hr2 hs1
  go_wp2_with (fail)
  refine HW.out.mono ?_
  clear hw2 hwa hp ca0 ca1 ca2 fa0 fa1 fa2
  rintro e w3 ⟨rfl, hi3, hc3⟩
  replace hi3 : InY w3 g B s2 := hi3
  have vP3 : V w3 p #[.int .i64 (a1 : Nat), .int .u64 0, .int .u64 0] 26 := hc3.blk VP2.out (by omega)
  obtain ⟨⟨_, cb1, _⟩, ⟨_, fb1, _⟩, hbl⟩ := vcells3 vP3
  obtain ⟨w4, hw4⟩ : ∃ w4, w3.setCell ⟨p, 1, none⟩ (.int .u64 (b1 : Nat)) = w4 := ⟨_, rfl⟩
  have hi4 : InY w4 g B s2 := by rw [← hw4]; exact hi3.other (by omega) (by omega) _
  have vP4 : V w4 p #[.int .i64 (a1 : Nat), .int .u64 (b1 : Nat), .int .u64 0] 26 := by rw [← hw4]; exact vP3.set _
  have vR4 : V w4 R #[.int .i64 0, .int .u64 0, .int .u64 0] 26 := by rw [← hw4]; exact (V.other (hc3.blk VR2.out (by omega)) (by omega) _)
  have hc4 : Chg (fun k => k = g) w w4 := by rw [← hw4]; exact chg_new (HC2.out.trans hc3 (fun _ _ e => e)) (by have := HR.out; omega) _ _
  have HC4 := Lib.hid hc4
  have VP4 := Lib.hid vP4
  have VR4 := Lib.hid vR4
  have HW2 := Lib.hid (wide_r w4 g B 8 s2 hi4 (by omega))
  obtain ⟨r3, hr3⟩ : ∃ r, wY 8 s2 = r := ⟨_, rfl⟩
  rw [show (wY 8 (b1, s2).2) = wY 8 s2 from rfl, hr3] at HPT
  rw [hr3] at HW2
  obtain ⟨c1, s3⟩ := r3
  clear hi3 hc3 vP3 hi4 vP4 vR4 hc4 HW hr3
  go_wp2_with (fail)
  refine HW2.out.mono ?_
  clear hw4 cb1 fb1 hbl
  rintro e w5 ⟨rfl, hi5, hc5⟩
  replace hi5 : InY w5 g B s3 := hi5
  have vP5 : V w5 p #[.int .i64 (a1 : Nat), .int .u64 (b1 : Nat), .int .u64 0] 26 := hc5.blk VP4.out (by omega)
  obtain ⟨⟨_, _, cb2⟩, ⟨_, _, fb2⟩, hbl⟩ := vcells3 vP5
  obtain ⟨w6, hw6⟩ : ∃ w6, w5.setCell ⟨p, 2, none⟩ (.int .u64 (c1 : Nat)) = w6 := ⟨_, rfl⟩
  have hi6 : InY w6 g B s3 := by rw [← hw6]; exact hi5.other (by omega) (by omega) _
  have vP6 : V w6 p #[.int .i64 (a1 : Nat), .int .u64 (b1 : Nat), .int .u64 (c1 : Nat)] 26 := by rw [← hw6]; exact vP5.set _
  have vR6 : V w6 R #[.int .i64 0, .int .u64 0, .int .u64 0] 26 := by rw [← hw6]; exact (V.other (hc5.blk VR4.out (by omega)) (by omega) _)
  have hc6 : Chg (fun k => k = g) w w6 := by rw [← hw6]; exact chg_new (HC4.out.trans hc5 (fun _ _ e => e)) (by have := HR.out; omega) _ _
  obtain ⟨⟨d0, d1, d2⟩, _, hdl⟩ := vcells3 vP6
  obtain ⟨⟨e0, e1, e2⟩, ⟨g0, g1, g2⟩, hel⟩ := vcells3 vR6
  have HI6 := Lib.hid hi6
  have VR6 := Lib.hid vR6
  have HC6 := Lib.hid hc6
  have HF := Lib.hid (show RetI w g B (.agg #[.int .i64 (ptY st).1.1, .int .u64 (ptY st).1.2.1, .int .u64 (ptY st).1.2.2]) (ptY st).2 (.returned (.agg #[.int .i64 (a1 : Nat), .int .u64 (b1 : Nat), .int .u64 (c1 : Nat)])) (((w6.setCell ⟨R, 0, none⟩ (.int .i64 (a1 : Nat))).setCell ⟨R, 1, none⟩ (.int .u64 (b1 : Nat))).setCell ⟨R, 2, none⟩ (.int .u64 (c1 : Nat))) from by
    rw [HPT.out]
    exact ⟨rfl, ((hi6.other (by omega) (by omega) _).other (by omega) (by omega) _).other (by omega) (by omega) _, chg_new (chg_new (chg_new hc6 (by have := HR.out; omega) _ _) (by have := HR.out; omega) _ _) (by have := HR.out; omega) _ _⟩)
  clear hi5 hc5 vP5 hi6 vP6 vR6 hc6 HW2
  go_wp2_with (fail)
  refine bodyPost_ret (results_cell_row rfl _ _ R 26 _ _ _ rfl (set3 VR6.out _ _ _) Try.underlying26 rfl info3) rfl ?_
  exact HF.out
end Go.Proofs.Ythkcnakodlbdpaa.wr
/-
  Messages: the document's reader: lists.
-/
namespace Go.Proofs.Ythkcnakodlbdpaa.wr
open Go.ChangeShapes Go.WideShapes Go.ChangeAt Go.RowKit plain words ord mem uvs uvc

theorem InY.flagged {w : World} {g B : Nat} {st : St} (h : InY w g B st) : w.cell? ⟨g, 1, none⟩ = some (.bool st.2) ∧ g < w.heap.size := by
  obtain ⟨b, o, c, h1, _⟩ := h
  exact ⟨by rw [cell_of_row _ _ _ _ _ _ h1]; rfl, blk_lt h1⟩
theorem mu_few {st : St} (h : st.1.length ≤ 1000000000) : mu st ≤ 1000000001 := by unfold mu; split <;> omega
def RetLY {α : Type} (E : El α) (w : World) (g B : Nat) (r : List α × St) (e : Ending) (w' : World) : Prop :=
  ∃ A c, e = .returned (.slice A r.1.length c) ∧ Ow E w' w.heap.size (.slice A r.1.length c) r.1.length r.1 ∧ InY w' g B r.2 ∧ Chg (fun k => k = g) w w'
theorem ow_g {α : Type} {E : El α} {w w' : World} {g a n : Nat} {v : Value} {l : List α} (h : Ow E w a v n l) (hc : Chg (fun k => k = g) w w') (hg : g < a) : Ow E w' a v n l := mem.Ow.chg h hc (fun k hk e => by have := (mem.Ow.lt h k hk).1; omega)
set_option maxHeartbeats 4000000 in
set_option maxRecDepth 100000 in
theorem points_r (w : World) (g B : Nat) (st : St) (h : InY w g B st) :
    Calls Try.prog 36 #[.pointer (some ⟨g, 0, none⟩)] w (RetLY PE w g B (lsY ptY st)) := by
  obtain ⟨i0, hi, hz0, hz1, hz2⟩ := info_of mg.infoP
  have hgl := h.lt
  have hge := h.ge
  have HN := Lib.hid (number_r w g B st h)
  have hmu := Nat.le_trans (nY_le st) (mu_few h.few)
  have hrng := nY_rng st
  have HLS := Lib.hid (show lsY ptY st = lpY ptY (nY st).1 (nY st).2 from rfl)
  obtain ⟨r1, hr1⟩ : ∃ r, nY st = r := ⟨_, rfl⟩
  rw [hr1] at HN HLS hmu hrng
  obtain ⟨N, s1⟩ := r1
  replace hmu : mu s1 ≤ 1000000001 := hmu
  replace hrng : N ≤ 2199023255552 := hrng
  clear h hr1
  go_enter Try.func36, Try.ntmps36
  go_wp2_with (fail)
  refine HN.out.mono ?_
  rintro e w1 ⟨rfl, hi1, hc1⟩
  replace hi1 : InY w1 g B s1 := hi1
  have hs1 := hc1.size
  obtain ⟨w2, hw2⟩ : ∃ w2, w1.alloc (.cells #[] 26) = w2 := ⟨_, rfl⟩
  have hb2 : Below w1.heap.size w1 w2 := by rw [← hw2]; exact below_al _ _
  have HI2 := Lib.hid (hi1.below hb2 (Nat.le_refl _))
  have HC2 := Lib.hid (hc1.then_below hb2)
  have HO2 := Lib.hid (show Ow PE w2 w.heap.size (.slice (some ⟨w1.heap.size, 0, none⟩) 0 0) 0 [] from by rw [← hw2]; exact mem.Ow.base (mem.Ow.lit (E := PE) w1) hs1)
  clear hi1 hc1 hb2 HN
  go_wp2_with (fail)
  clear hw2
  go_loopg [4, 5] (mu s1) (fun gg s4 s5 wr => ∃ (i c : Nat) (A : Option Addr) (dn : List Pt) (sc : St), s4 = .slice A i c ∧ s5 = .int .i64 i ∧ mu sc ≤ gg ∧ i + mu sc ≤ mu s1 ∧ Aside (LA ptY N s1 i dn sc) ∧ Aside (Ow PE wr w.heap.size (.slice A i c) i dn) ∧ Aside (InY wr g B sc) ∧ Aside (Chg (fun k => k = g) w wr))
  case atStart => exact ⟨0, 0, _, [], s1, rfl, rfl, Nat.le_refl _, by omega, LA.zero _ _ _, HO2.out, HI2.out, HC2.out⟩
  case round =>
    obtain ⟨i, c, A, dn, sc, rfl, rfl, hgk, hmi, HLA, HOW, HIN, HCH⟩ := hrel
    obtain ⟨wv, hwv⟩ : ∃ wv, wv = wr := ⟨wr, rfl⟩
    obtain rfl := hwv
    obtain ⟨cf, hgv⟩ := HIN.out.flagged
    have hsv := HCH.out.size
    have HEND := Lib.hid (fun (hs : N ≤ i ∨ sc.2 = true) => (show RetLY PE w g B (lsY ptY st) (.returned (.slice A i c)) wv from by
      have e := HLA.out.stop hs
      have hl := HLA.out.1
      rw [HLS.out, e]
      subst hl
      exact ⟨A, c, rfl, HOW.out, HIN.out, HCH.out⟩))
    by_cases hlt : i < N
    · have i1 : (i : Int) < (N : Int) := by omega
      obtain ⟨q, hq⟩ : ∃ q, sc.2 = q := ⟨_, rfl⟩
      cases q with
      | true =>
        rw [hq] at cf
        have HE := Lib.hid (HEND.out (.inr hq))
        clear hq HEND
        go_wp2_with (fail)
        go_ret
        exact HE.out
      | false =>
        rw [hq] at cf
        have hmm := ptY_mu hq
        have HPT := Lib.hid (point_r wv g B sc HIN.out)
        have HLA2 := Lib.hid (HLA.out.step hlt hq)
        obtain ⟨r2, hr2⟩ : ∃ r, ptY sc = r := ⟨_, rfl⟩
        rw [hr2] at HPT HLA2 hmm
        obtain ⟨x, s2⟩ := r2
        obtain ⟨x1, x2, x3⟩ := x
        replace hmm : mu s2 < mu sc := hmm
        clear hq HEND hr2
        go_wp2_with (fail)
        refine HPT.out.mono ?_
        rintro e w5 ⟨rfl, hi5, hc5⟩
        replace hi5 : InY w5 g B s2 := hi5
        have ho5 := ow_g HOW.out hc5 hgl
        have hs5 := hc5.size
        obtain ⟨w6, hw6⟩ : ∃ w6, w5.alloc (.cells #[.int .i64 x1, .int .u64 x2, .int .u64 x3] 26) = w6 := ⟨_, rfl⟩
        have hb6 : Below w5.heap.size w5 w6 := by rw [← hw6]; exact below_al _ _
        have hs6 := hb6.size
        have HLN := Lib.hid (show Ls PE w6 (w5.heap.size + 1) (some ⟨w5.heap.size, 0, none⟩) 1 [(x1, x2, x3)] from by rw [← hw6]; exact ls_new (E := PE) _ (x1, x2, x3))
        have HO6 := Lib.hid (ho5.below hb6 (Nat.le_refl _))
        have HI6 := Lib.hid (hi5.below hb6 (Nat.le_refl _))
        have HC6 := Lib.hid ((HCH.out.trans hc5 (fun _ _ e => e)).then_below hb6)
        clear hi5 hc5 ho5 hb6 HPT
        go_wp2_with (at_builtin; (refine wpList_append_ow PE (P := Try.prog) Try.underlying28 hi hz0 hz1 hz2 rfl (by decide) rfl (.tmp 21) (.tmp 24) rfl w.heap.size (.slice A i c) i dn rfl HO6.out (w5.heap.size + 1) (some ⟨w5.heap.size, 0, none⟩) 1 1 (fun e => by cases e) [(x1, x2, x3)] rfl HLN.out (by omega) (by omega) ?_; intro A' c' w7 ho7 hg7 _ _ _ hs7; have HO7 := Lib.hid ho7; have HG7 := Lib.hid hg7; clear ho7 hg7))
        clear hw6
        have HC7 := Lib.hid (HC6.out.grown HG7.out (fun k hk hlt => by have := (mem.Ow.lt HO6.out k hk).1; omega))
        have HI7 := Lib.hid (show InY w7 g B s2 from HI6.out.chg (S := fun k => some k = (Value.slice A i c).ownBlock) ((Chg.refl _ _).grown HG7.out (fun k hk _ => hk.symm)) (fun e => by have := (mem.Ow.lt HO6.out g e.symm).1; omega) (fun b hb e => by have := (mem.Ow.lt HO6.out b e.symm).1; omega))
        go_roundg (mu s2)
        case measure => omega
        case rel => exact ⟨i + 1, c', A', dn ++ [(x1, x2, x3)], s2, rfl, by go_num, Nat.le_refl _, by omega, HLA2.out, HO7.out, HI7.out, HC7.out⟩
    · have i1 : ¬ (i : Int) < (N : Int) := by omega
      have HE := Lib.hid (HEND.out (.inl (by omega)))
      clear HEND
      go_wp2_with (fail)
      go_ret
      exact HE.out
theorem vcells4 {w : World} {g : Nat} {t : TypeId} {u0 u1 u2 u3 : Value} (h : V w g #[u0, u1, u2, u3] t) : (w.cell? ⟨g, 0, none⟩ = some u0 ∧ w.cell? ⟨g, 1, none⟩ = some u1 ∧ w.cell? ⟨g, 2, none⟩ = some u2 ∧ w.cell? ⟨g, 3, none⟩ = some u3) ∧ (w.frozen? ⟨g, 0, none⟩ = false ∧ w.frozen? ⟨g, 1, none⟩ = false ∧ w.frozen? ⟨g, 2, none⟩ = false ∧ w.frozen? ⟨g, 3, none⟩ = false) ∧ g < w.heap.size :=
  ⟨⟨by rw [cell_of_row _ _ _ _ _ _ h]; rfl, by rw [cell_of_row _ _ _ _ _ _ h]; rfl, by rw [cell_of_row _ _ _ _ _ _ h]; rfl, by rw [cell_of_row _ _ _ _ _ _ h]; rfl⟩, ⟨frozen_of_row _ _ 0 _ _ h, frozen_of_row _ _ 1 _ _ h, frozen_of_row _ _ 2 _ _ h, frozen_of_row _ _ 3 _ _ h⟩, blk_lt h⟩
theorem ow_new {α : Type} {E : El α} {w : World} {a n q o : Nat} {v x : Value} {l : List α} {cur : Array Value} {t : TypeId} (h : Ow E w a v n l) (hV : V w q cur t) (ht : t ≠ E.e) : Ow E (w.setCell ⟨q, o, none⟩ x) a v n l := Ow.set h hV ht
set_option maxHeartbeats 8000000 in
set_option maxRecDepth 100000 in
theorem metas_r (w : World) (g B : Nat) (st : St) (h : InY w g B st) :
    Calls Try.prog 37 #[.pointer (some ⟨g, 0, none⟩)] w (RetLY ME w g B (lsY mtY st)) := by
  obtain ⟨i0, hi, hz0, hz1, hz2⟩ := info_of infoM
  have hgl := h.lt
  have hge := h.ge
  have HN := Lib.hid (number_r w g B st h)
  have hmu := Nat.le_trans (nY_le st) (mu_few h.few)
  have hrng := nY_rng st
  have HLS := Lib.hid (show lsY mtY st = lpY mtY (nY st).1 (nY st).2 from rfl)
  obtain ⟨r1, hr1⟩ : ∃ r, nY st = r := ⟨_, rfl⟩
  rw [hr1] at HN HLS hmu hrng
  obtain ⟨N, s1⟩ := r1
  replace hmu : mu s1 ≤ 1000000001 := hmu
  replace hrng : N ≤ 2199023255552 := hrng
  clear h hr1
  go_enter Try.func37, Try.ntmps37
  go_wp2_with (fail)
  refine HN.out.mono ?_
  rintro e w1 ⟨rfl, hi1, hc1⟩
  replace hi1 : InY w1 g B s1 := hi1
  have hs1 := hc1.size
  obtain ⟨w2, hw2⟩ : ∃ w2, w1.alloc (.cells #[] 49) = w2 := ⟨_, rfl⟩
  have hb2 : Below w1.heap.size w1 w2 := by rw [← hw2]; exact below_al _ _
  have HI2 := Lib.hid (hi1.below hb2 (Nat.le_refl _))
  have HC2 := Lib.hid (hc1.then_below hb2)
  have HO2 := Lib.hid (show Ow ME w2 w.heap.size (.slice (some ⟨w1.heap.size, 0, none⟩) 0 0) 0 [] from by rw [← hw2]; exact mem.Ow.base (mem.Ow.lit (E := ME) w1) hs1)
  clear hi1 hc1 hb2 HN
  go_wp2_with (fail)
  clear hw2
  go_loopg [4, 5, 6] (mu s1) (fun gg s4 s5 s6 wr => ∃ (i c : Nat) (A : Option Addr) (dn : List Mt) (sc : St), s4 = .slice A i c ∧ s5 = .int .i64 i ∧ mu sc ≤ gg ∧ i + mu sc ≤ mu s1 ∧ Aside (LA mtY N s1 i dn sc) ∧ Aside (Ow ME wr w.heap.size (.slice A i c) i dn) ∧ Aside (InY wr g B sc) ∧ Aside (Chg (fun k => k = g) w wr))
  case atStart => exact ⟨0, 0, _, [], s1, rfl, rfl, Nat.le_refl _, by omega, LA.zero _ _ _, HO2.out, HI2.out, HC2.out⟩
  case round =>
    obtain ⟨i, c, A, dn, sc, rfl, rfl, hgk, hmi, HLA, HOW, HIN, HCH⟩ := hrel
    obtain ⟨wv, hwv⟩ : ∃ wv, wv = wr := ⟨wr, rfl⟩
    obtain rfl := hwv
    obtain ⟨cf, hgv⟩ := HIN.out.flagged
    have hsv := HCH.out.size
    have HEND := Lib.hid (fun (hs : N ≤ i ∨ sc.2 = true) => (show RetLY ME w g B (lsY mtY st) (.returned (.slice A i c)) wv from by
      have e := HLA.out.stop hs
      have hl := HLA.out.1
      rw [HLS.out, e]
      subst hl
      exact ⟨A, c, rfl, HOW.out, HIN.out, HCH.out⟩))
    by_cases hlt : i < N
    · have i1 : (i : Int) < (N : Int) := by omega
      obtain ⟨q, hq⟩ : ∃ q, sc.2 = q := ⟨_, rfl⟩
      cases q with
      | true =>
        rw [hq] at cf
        have HE := Lib.hid (HEND.out (.inr hq))
        clear hq HEND
        go_wp2_with (fail)
        go_ret
        exact HE.out
      | false =>
        rw [hq] at cf
        have hmm := mtY_mu hq
        have HNM := Lib.hid (name_r wv g B sc HIN.out)
        have HMT := Lib.hid (show mtY sc = (((idY sc).1, ((nY (idY sc).2).1 : Int), ((nY (nY (idY sc).2).2).1 : Int), ((wY 4 (nY (nY (idY sc).2).2).2).1 : Int)), (wY 4 (nY (nY (idY sc).2).2).2).2) from rfl)
        have HLA2 := Lib.hid (HLA.out.step hlt hq)
        obtain ⟨r2, hr2⟩ : ∃ r, idY sc = r := ⟨_, rfl⟩
        rw [hr2] at HNM HMT
        obtain ⟨id, s2⟩ := r2
        clear hq HEND hr2
        go_wp2_with (fail)
        refine HNM.out.mono ?_
        rintro e w5 ⟨rfl, hi5, hc5⟩
        replace hi5 : InY w5 g B s2 := hi5
        have ho5 := ow_g HOW.out hc5 hgl
        have hs5 := hc5.size
        obtain ⟨p, hp⟩ : ∃ p, w5.heap.size = p := ⟨_, rfl⟩
        obtain ⟨wa, hwa⟩ : ∃ wa, w5.alloc (.cells #[.string ⟨#[]⟩, .int .i64 0, .int .i64 0, .int .u32 0] 49) = wa := ⟨_, rfl⟩
        have hba : Below w5.heap.size w5 wa := by rw [← hwa]; exact below_al _ _
        have hza : wa.heap.size = p + 1 := by rw [← hwa, World.size_alloc, hp]
        have vPa : V wa p #[.string ⟨#[]⟩, .int .i64 0, .int .i64 0, .int .u32 0] 49 := by rw [← hwa, ← hp]; exact alloc_new _ _
        obtain ⟨⟨ca0, ca1, ca2, ca3⟩, ⟨fa0, fa1, fa2, fa3⟩, hal⟩ := vcells4 vPa
        obtain ⟨w6, hw6⟩ : ∃ w6, (((wa.setCell ⟨p, 0, none⟩ (.string (cl.tx id))).setCell ⟨p, 1, none⟩ (.int .i64 0)).setCell ⟨p, 2, none⟩ (.int .i64 0)).setCell ⟨p, 3, none⟩ (.int .u32 0) = w6 := ⟨_, rfl⟩
        have hgp : g < p := by omega
        have hwp : w.heap.size ≤ p := by omega
        have hvp : wv.heap.size ≤ p := by omega
        have hi6 : InY w6 g B s2 := by rw [← hw6]; exact ((((hi5.below hba (Nat.le_refl _)).other (by omega) (by omega) _).other (by omega) (by omega) _).other (by omega) (by omega) _).other (by omega) (by omega) _
        have vP6 : V w6 p #[.string (cl.tx id), .int .i64 0, .int .i64 0, .int .u32 0] 49 := by rw [← hw6]; exact set4 vPa _ _ _ _
        have hc6 : Chg (fun k => k = g) wv w6 := by rw [← hw6]; exact chg_new (chg_new (chg_new (chg_new (hc5.then_below hba) (by omega) _ _) (by omega) _ _) (by omega) _ _) (by omega) _ _
        have HC6 := Lib.hid hc6
        have VP6 := Lib.hid vP6
        have HN6 := Lib.hid (number_r w6 g B s2 hi6)
        obtain ⟨r3, hr3⟩ : ∃ r, nY s2 = r := ⟨_, rfl⟩
        rw [show (nY (id, s2).2) = nY s2 from rfl, hr3] at HMT
        rw [hr3] at HN6
        obtain ⟨b1, s3⟩ := r3
        clear hi5 hc5 hba vPa hi6 vP6 hc6 hr3 HNM ho5
        go_wp2_with (fail)
        refine HN6.out.mono ?_
        clear hw6 hwa hp ca0 ca1 ca2 ca3 fa0 fa1 fa2 fa3
        rintro e w7 ⟨rfl, hi7, hc7⟩
        replace hi7 : InY w7 g B s3 := hi7
        have vP7 : V w7 p #[.string (cl.tx id), .int .i64 0, .int .i64 0, .int .u32 0] 49 := hc7.blk VP6.out (by omega)
        obtain ⟨⟨_, cb1, _⟩, ⟨_, fb1, _⟩, hbl⟩ := vcells4 vP7
        obtain ⟨w8, hw8⟩ : ∃ w8, w7.setCell ⟨p, 1, none⟩ (.int .i64 (b1 : Nat)) = w8 := ⟨_, rfl⟩
        have hi8 : InY w8 g B s3 := by rw [← hw8]; exact hi7.other (by omega) (by omega) _
        have vP8 : V w8 p #[.string (cl.tx id), .int .i64 (b1 : Nat), .int .i64 0, .int .u32 0] 49 := by rw [← hw8]; exact vP7.set _
        have hc8 : Chg (fun k => k = g) wv w8 := by rw [← hw8]; exact chg_new (HC6.out.trans hc7 (fun _ _ e => e)) (by omega) _ _
        have HC8 := Lib.hid hc8
        have VP8 := Lib.hid vP8
        have HN8 := Lib.hid (number_r w8 g B s3 hi8)
        obtain ⟨r4, hr4⟩ : ∃ r, nY s3 = r := ⟨_, rfl⟩
        rw [show (nY (b1, s3).2) = nY s3 from rfl, hr4] at HMT
        rw [hr4] at HN8
        obtain ⟨c1, s4⟩ := r4
        clear hi7 hc7 vP7 hi8 vP8 hc8 hr4 HN6
        go_wp2_with (fail)
        refine HN8.out.mono ?_
        clear hw8 cb1 fb1 hbl
        rintro e w9 ⟨rfl, hi9, hc9⟩
        replace hi9 : InY w9 g B s4 := hi9
        have vP9 : V w9 p #[.string (cl.tx id), .int .i64 (b1 : Nat), .int .i64 0, .int .u32 0] 49 := hc9.blk VP8.out (by omega)
        obtain ⟨⟨_, _, cb2, _⟩, ⟨_, _, fb2, _⟩, hbl⟩ := vcells4 vP9
        obtain ⟨w10, hw10⟩ : ∃ w10, w9.setCell ⟨p, 2, none⟩ (.int .i64 (c1 : Nat)) = w10 := ⟨_, rfl⟩
        have hi10 : InY w10 g B s4 := by rw [← hw10]; exact hi9.other (by omega) (by omega) _
        have vP10 : V w10 p #[.string (cl.tx id), .int .i64 (b1 : Nat), .int .i64 (c1 : Nat), .int .u32 0] 49 := by rw [← hw10]; exact vP9.set _
        have hc10 : Chg (fun k => k = g) wv w10 := by rw [← hw10]; exact chg_new (HC8.out.trans hc9 (fun _ _ e => e)) (by omega) _ _
        have HC10 := Lib.hid hc10
        have VP10 := Lib.hid vP10
        have HW10 := Lib.hid (wide_r w10 g B 4 s4 hi10 (by omega))
        have hlt4 := wY_lt 4 s4
        rw [show (256 : Nat) ^ 4 = 4294967296 by decide] at hlt4
        obtain ⟨r5, hr5⟩ : ∃ r, wY 4 s4 = r := ⟨_, rfl⟩
        rw [show (wY 4 (c1, s4).2) = wY 4 s4 from rfl, hr5] at HMT
        rw [hr5] at HW10 hlt4
        obtain ⟨d1, s5⟩ := r5
        replace hlt4 : d1 < 4294967296 := hlt4
        have wd : IntKind.u32.wrap (d1 : Int) = (d1 : Int) := by rw [IntKind.wrap_u32]; omega
        have wd2 : (d1 : Int) % 4294967296 = (d1 : Int) := by omega
        rw [HMT.out] at hmm HLA2
        replace hmm : mu s5 < mu sc := hmm
        clear hi9 hc9 vP9 hi10 vP10 hc10 hr5 HN8 HMT
        go_wp2_with (fail)
        refine HW10.out.mono ?_
        clear hw10 cb2 fb2 hbl
        rintro e w11 ⟨rfl, hi11, hc11⟩
        replace hi11 : InY w11 g B s5 := hi11
        have vP11 : V w11 p #[.string (cl.tx id), .int .i64 (b1 : Nat), .int .i64 (c1 : Nat), .int .u32 0] 49 := hc11.blk VP10.out (by omega)
        obtain ⟨⟨_, _, _, cb3⟩, ⟨_, _, _, fb3⟩, hbl⟩ := vcells4 vP11
        obtain ⟨w12, hw12⟩ : ∃ w12, w11.setCell ⟨p, 3, none⟩ (.int .u32 (d1 : Nat)) = w12 := ⟨_, rfl⟩
        have hi12 : InY w12 g B s5 := by rw [← hw12]; exact hi11.other (by omega) (by omega) _
        have vP12 : V w12 p #[.string (cl.tx id), .int .i64 (b1 : Nat), .int .i64 (c1 : Nat), .int .u32 (d1 : Nat)] 49 := by rw [← hw12]; exact vP11.set _
        have hc12 : Chg (fun k => k = g) wv w12 := by rw [← hw12]; exact chg_new (HC10.out.trans hc11 (fun _ _ e => e)) (by omega) _ _
        have hs12 := hc12.size
        obtain ⟨⟨d0, d1', d2, d3⟩, _, hdl⟩ := vcells4 vP12
        obtain ⟨w13, hw13⟩ : ∃ w13, w12.alloc (.cells #[.string (cl.tx id), .int .i64 (b1 : Nat), .int .i64 (c1 : Nat), .int .u32 (d1 : Nat)] 49) = w13 := ⟨_, rfl⟩
        have hb13 : Below w12.heap.size w12 w13 := by rw [← hw13]; exact below_al _ _
        have hs13 := hb13.size
        have HLN := Lib.hid (show Ls ME w13 (w12.heap.size + 1) (some ⟨w12.heap.size, 0, none⟩) 1 [(id, (b1 : Int), (c1 : Int), (d1 : Int))] from by rw [← hw13]; exact ls_new (E := ME) _ (id, (b1 : Int), (c1 : Int), (d1 : Int)))
        have HO13 := Lib.hid ((ow_g HOW.out hc12 hgl).below hb13 (Nat.le_refl _))
        have HI13 := Lib.hid (hi12.below hb13 (Nat.le_refl _))
        have HC13 := Lib.hid ((HCH.out.trans hc12 (fun _ _ e => e)).then_below hb13)
        clear hi11 hc11 vP11 hi12 vP12 hc12 hb13 HW10
        go_wp2_with (at_builtin; (refine wpList_append_ow ME (P := Try.prog) Try.underlying29 hi hz0 hz1 hz2 rfl (by decide) rfl (.tmp 35) (.tmp 37) rfl w.heap.size (.slice A i c) i dn rfl HO13.out (w12.heap.size + 1) (some ⟨w12.heap.size, 0, none⟩) 1 1 (fun e => by cases e) [(id, (b1 : Int), (c1 : Int), (d1 : Int))] rfl HLN.out (by omega) (by omega) ?_; intro A' c' w14 ho14 hg14 _ _ _ hs14; have HO14 := Lib.hid ho14; have HG14 := Lib.hid hg14; clear ho14 hg14))
        clear hw13 hw12
        have HC14 := Lib.hid (HC13.out.grown HG14.out (fun k hk hlt => by have := (mem.Ow.lt HO13.out k hk).1; omega))
        have HI14 := Lib.hid (show InY w14 g B s5 from HI13.out.chg (S := fun k => some k = (Value.slice A i c).ownBlock) ((Chg.refl _ _).grown HG14.out (fun k hk _ => hk.symm)) (fun e => by have := (mem.Ow.lt HO13.out g e.symm).1; omega) (fun b hb e => by have := (mem.Ow.lt HO13.out b e.symm).1; omega))
        go_roundg (mu s5)
        case measure => omega
        case rel => exact ⟨i + 1, c', A', dn ++ [(id, (b1 : Int), (c1 : Int), (d1 : Int))], s5, rfl, by go_num, Nat.le_refl _, by omega, HLA2.out, HO14.out, HI14.out, HC14.out⟩
    · have i1 : ¬ (i : Int) < (N : Int) := by omega
      have HE := Lib.hid (HEND.out (.inl (by omega)))
      clear HEND
      go_wp2_with (fail)
      go_ret
      exact HE.out
end Go.Proofs.Ythkcnakodlbdpaa.wr
/-
  Messages: the document's reader: a message's fields.
-/
namespace Go.Proofs.Ythkcnakodlbdpaa.wr
open Go.ChangeShapes Go.WideShapes Go.ChangeAt Go.RowKit plain words ord mem uvs uvc

def andY {α β : Type} (r : α × St) (k : α → St → β) : β := k r.1 r.2
theorem andY_step {α β : Type} {F : β} {r : α × St} {k : α → St → β} {a : α} {s : St} (h : F = andY r k) (hr : r = (a, s)) : F = k a s := by rw [h, hr]; rfl
def f1Y (s : St) (m : Msg) : Msg × St := andY (nY s) fun a1 s => andY (idY s) fun a2 s => andY (ptY s) fun a3 s => ({ m with space := (a1 : Int), id := a2, p := a3 }, s)
def f2Y (s : St) (m : Msg) : Msg × St := andY (nY s) fun a1 s => ({ m with err := (a1 : Int) }, s)
def f3Y (s : St) (m : Msg) : Msg × St := andY (nY s) fun a1 s => andY (idY s) fun a2 s => andY (nY s) fun a3 s => andY (nY s) fun a4 s => ({ m with space := (a1 : Int), id := a2, rf := (a3 : Int), rt := (a4 : Int) }, s)
def f4Y (s : St) (m : Msg) : Msg × St := andY (nY s) fun a1 s => andY (lsY ptY s) fun a2 s => ({ m with err := (a1 : Int), pts := a2 }, s)
def f5Y (s : St) (m : Msg) : Msg × St := andY (nY s) fun a1 s => andY (nY s) fun a2 s => andY (nY s) fun a3 s => andY (nY s) fun a4 s => andY (nY s) fun a5 s => andY (idY s) fun a6 s => ({ m with space := (a1 : Int), shard := (a2 : Int), rf := (a3 : Int), rt := (a4 : Int), block := (a5 : Int), id := a6 }, s)
def f6Y (s : St) (m : Msg) : Msg × St := andY (nY s) fun a1 s => andY (nY s) fun a2 s => andY (lsY mtY s) fun a3 s => ({ m with err := (a1 : Int), more := decide (a2 = 1), mts := a3 }, s)
def f7Y (s : St) (m : Msg) : Msg × St := andY (nY s) fun a1 s => andY (nY s) fun a2 s => andY (nY s) fun a3 s => andY (idY s) fun a4 s => ({ m with space := (a1 : Int), shard := (a2 : Int), block := (a3 : Int), id := a4 }, s)
def fY (s : St) (m : Msg) : Msg × St :=
  if m.kind = 1 then f1Y s m else if m.kind = 2 then f2Y s m else if m.kind = 3 then f3Y s m else if m.kind = 4 ∨ m.kind = 8 then f4Y s m else if m.kind = 5 then f5Y s m else if m.kind = 6 then f6Y s m else if m.kind = 7 then f7Y s m else (m, s)
def RetFY (w : World) (g B mb : Nat) (P0 M0 : Value) (m : Msg) (r : Msg × St) (e : Ending) (w' : World) : Prop :=
  e = .returned (.tuple #[]) ∧ InY w' g B r.2 ∧ Chg (fun k => k = g ∨ k = mb) w w' ∧ ∃ P M, V w' mb (mcells r.1 P M) 37 ∧ LO PE w' w.heap.size P0 P m.pts r.1.pts ∧ LO ME w' w.heap.size M0 M m.mts r.1.mts
theorem InY.setm {w : World} {g B q o : Nat} {st : St} (h : InY w g B st) (hne : q ≠ g) (hB : B ≤ q) (x : Value) : InY (w.setCell ⟨q, o, none⟩ x) g B st := h.other hne hB x
theorem chg_m {a w : World} {g mb : Nat} (h : Chg (fun k => k = g ∨ k = mb) a w) (o : Nat) (x : Value) : Chg (fun k => k = g ∨ k = mb) a (w.setCell ⟨mb, o, none⟩ x) := h.setCell (p := ⟨mb, o, none⟩) (fun _ => .inr rfl) x
theorem chg_gm {a w v : World} {g mb : Nat} (h : Chg (fun k => k = g ∨ k = mb) a w) (k : Chg (fun k => k = g) w v) : Chg (fun k => k = g ∨ k = mb) a v := h.trans k (fun _ _ e => .inl e)
set_option maxHeartbeats 16000000 in
set_option maxRecDepth 100000 in
theorem fields_r (w : World) (g B mb : Nat) (st : St) (m : Msg) (P M : Value) (h : InY w g B st) (hV : V w mb (mcells m P M) 37) (hne : mb ≠ g) (hgB : B ≤ mb) :
    Calls Try.prog 21 #[.pointer (some ⟨g, 0, none⟩), .pointer (some ⟨mb, 0, none⟩)] w (RetFY w g B mb P M m (fY st m)) := by
  have c0 : w.cell? ⟨mb, 0, none⟩ = some (.int .i64 m.kind) := by rw [cell_of_row _ _ _ _ _ _ hV]; rfl
  have hml := blk_lt hV
  have hgl := h.lt
  have HI1 := Lib.hid h
  have VV1 := Lib.hid hV
  have HC1 := Lib.hid (Chg.refl (fun k => k = g ∨ k = mb) w)
  clear h hV
  have hkk : m.kind = 1 ∨ m.kind = 2 ∨ m.kind = 3 ∨ m.kind = 4 ∨ m.kind = 8 ∨ m.kind = 5 ∨ m.kind = 6 ∨ m.kind = 7 ∨ (m.kind ≠ 1 ∧ m.kind ≠ 2 ∧ m.kind ≠ 3 ∧ m.kind ≠ 4 ∧ m.kind ≠ 8 ∧ m.kind ≠ 5 ∧ m.kind ≠ 6 ∧ m.kind ≠ 7) := by omega
  rcases hkk with hk | hk | hk | hk | hk | hk | hk | hk | hk
  · have kb1 : (m.kind == 1) = true := by rw [hk]; rfl
    have kb2 : (m.kind == 2) = false := by rw [hk]; rfl
    have kb3 : (m.kind == 3) = false := by rw [hk]; rfl
    have kb4 : (m.kind == 4) = false := by rw [hk]; rfl
    have kb8 : (m.kind == 8) = false := by rw [hk]; rfl
    have kb5 : (m.kind == 5) = false := by rw [hk]; rfl
    have kb6 : (m.kind == 6) = false := by rw [hk]; rfl
    have kb7 : (m.kind == 7) = false := by rw [hk]; rfl
    have HQ0 := Lib.hid (show fY st m = _ from (by unfold fY; simp [hk] : fY st m = f1Y st m))
    clear hk
    go_enter Try.func21, Try.ntmps21
    have HN1 := Lib.hid (number_r w g B st HI1.out)
    obtain ⟨r1, hr1⟩ : ∃ r, nY st = r := ⟨_, rfl⟩
    rw [hr1] at HN1
    obtain ⟨a1, s1⟩ := r1
    have HQ1 := Lib.hid (andY_step HQ0.out hr1)
    clear hr1
    go_wp2_with (fail)
    refine HN1.out.mono ?_
    rintro e v1 ⟨rfl, hi1, hc1⟩
    replace hi1 : InY v1 g B s1 := hi1
    have vv1 : V v1 mb (mcells m P M) 37 := hc1.blk VV1.out hne
    have hml1 := blk_lt vv1
    obtain ⟨cv1, cc1⟩ : ∃ x, v1.cell? ⟨mb, 3, none⟩ = some x := ⟨_, by rw [cell_of_row _ _ _ _ _ _ vv1]; rfl⟩
    have ff1 := frozen_of_row v1 mb 3 _ _ vv1
    obtain ⟨w2, hw2⟩ : ∃ x, v1.setCell ⟨mb, 3, none⟩ (.int .i64 (a1 : Nat)) = x := ⟨_, rfl⟩
    have HI2 := Lib.hid (show InY w2 g B s1 by rw [← hw2]; exact hi1.setm hne hgB _)
    have HC2 := Lib.hid (show Chg (fun k => k = g ∨ k = mb) w w2 by rw [← hw2]; exact chg_m (chg_gm HC1.out hc1) 3 _)
    have VV2 := Lib.hid (show V w2 mb (mcells ({ m with space := (a1 : Int) } : Msg) P M) 37 by rw [← hw2]; exact vv1.set _)
    clear hi1 hc1 vv1
    have HN2 := Lib.hid (name_r w2 g B s1 HI2.out)
    obtain ⟨r2, hr2⟩ : ∃ r, idY s1 = r := ⟨_, rfl⟩
    rw [hr2] at HN2
    obtain ⟨a2, s2⟩ := r2
    have HQ2 := Lib.hid (andY_step HQ1.out hr2)
    clear hr2
    go_wp2_with (fail)
    refine HN2.out.mono ?_
    clear hw2 HN2 cc1 ff1 hml1
    rintro e v2 ⟨rfl, hi2, hc2⟩
    replace hi2 : InY v2 g B s2 := hi2
    have vv2 : V v2 mb (mcells ({ m with space := (a1 : Int) } : Msg) P M) 37 := hc2.blk VV2.out hne
    have hml2 := blk_lt vv2
    obtain ⟨cv2, cc2⟩ : ∃ x, v2.cell? ⟨mb, 5, none⟩ = some x := ⟨_, by rw [cell_of_row _ _ _ _ _ _ vv2]; rfl⟩
    have ff2 := frozen_of_row v2 mb 5 _ _ vv2
    obtain ⟨w3, hw3⟩ : ∃ x, v2.setCell ⟨mb, 5, none⟩ (.string (cl.tx a2)) = x := ⟨_, rfl⟩
    have HI3 := Lib.hid (show InY w3 g B s2 by rw [← hw3]; exact hi2.setm hne hgB _)
    have HC3 := Lib.hid (show Chg (fun k => k = g ∨ k = mb) w w3 by rw [← hw3]; exact chg_m (chg_gm HC2.out hc2) 5 _)
    have VV3 := Lib.hid (show V w3 mb (mcells ({ ({ m with space := (a1 : Int) } : Msg) with id := a2 } : Msg) P M) 37 by rw [← hw3]; exact vv2.set _)
    clear hi2 hc2 vv2
    have HN3 := Lib.hid (point_r w3 g B s2 HI3.out)
    obtain ⟨r3, hr3⟩ : ∃ r, ptY s2 = r := ⟨_, rfl⟩
    rw [hr3] at HN3
    obtain ⟨a3, s3⟩ := r3
    have HQ3 := Lib.hid (andY_step HQ2.out hr3)
    clear hr3
    obtain ⟨x1, x2, x3⟩ := a3
    go_wp2_with (fail)
    refine HN3.out.mono ?_
    clear hw3 HN3 cc2 ff2 hml2
    rintro e v3 ⟨rfl, hi3, hc3⟩
    replace hi3 : InY v3 g B s3 := hi3
    have vv3 : V v3 mb (mcells ({ ({ m with space := (a1 : Int) } : Msg) with id := a2 } : Msg) P M) 37 := hc3.blk VV3.out hne
    have hml3 := blk_lt vv3
    have c9 : v3.cell? ⟨mb, 9, none⟩ = some (.int .i64 m.p.1) := by rw [cell_of_row _ _ _ _ _ _ vv3]; rfl
    have c10 : v3.cell? ⟨mb, 10, none⟩ = some (.int .u64 m.p.2.1) := by rw [cell_of_row _ _ _ _ _ _ vv3]; rfl
    have c11 : v3.cell? ⟨mb, 11, none⟩ = some (.int .u64 m.p.2.2) := by rw [cell_of_row _ _ _ _ _ _ vv3]; rfl
    have f9 := frozen_of_row v3 mb 9 _ _ vv3
    have f10 := frozen_of_row v3 mb 10 _ _ vv3
    have f11 := frozen_of_row v3 mb 11 _ _ vv3
    obtain ⟨w4, hw4⟩ : ∃ x, ((v3.setCell ⟨mb, 9, none⟩ (.int .i64 x1)).setCell ⟨mb, 10, none⟩ (.int .u64 x2)).setCell ⟨mb, 11, none⟩ (.int .u64 x3) = x := ⟨_, rfl⟩
    have HI4 := Lib.hid (show InY w4 g B s3 by rw [← hw4]; exact ((hi3.setm hne hgB _).setm hne hgB _).setm hne hgB _)
    have HC4 := Lib.hid (show Chg (fun k => k = g ∨ k = mb) w w4 by rw [← hw4]; exact chg_m (chg_m (chg_m (chg_gm HC3.out hc3) 9 _) 10 _) 11 _)
    have VV4 := Lib.hid (show V w4 mb (mcells ({ ({ ({ m with space := (a1 : Int) } : Msg) with id := a2 } : Msg) with p := (x1, x2, x3) } : Msg) P M) 37 by rw [← hw4]; exact ((vv3.set _).set _).set _)
    clear hi3 hc3 vv3
    go_wp2_with (fail)
    go_end0
    exact ⟨rfl, by rw [HQ3.out]; exact HI4.out, HC4.out, P, M, by rw [HQ3.out]; exact VV4.out, .inl ⟨rfl, by rw [HQ3.out]⟩, .inl ⟨rfl, by rw [HQ3.out]⟩⟩
  · have kb1 : (m.kind == 1) = false := by rw [hk]; rfl
    have kb2 : (m.kind == 2) = true := by rw [hk]; rfl
    have kb3 : (m.kind == 3) = false := by rw [hk]; rfl
    have kb4 : (m.kind == 4) = false := by rw [hk]; rfl
    have kb8 : (m.kind == 8) = false := by rw [hk]; rfl
    have kb5 : (m.kind == 5) = false := by rw [hk]; rfl
    have kb6 : (m.kind == 6) = false := by rw [hk]; rfl
    have kb7 : (m.kind == 7) = false := by rw [hk]; rfl
    have HQ0 := Lib.hid (show fY st m = _ from (by unfold fY; simp [hk] : fY st m = f2Y st m))
    clear hk
    go_enter Try.func21, Try.ntmps21
    have HN1 := Lib.hid (number_r w g B st HI1.out)
    obtain ⟨r1, hr1⟩ : ∃ r, nY st = r := ⟨_, rfl⟩
    rw [hr1] at HN1
    obtain ⟨a1, s1⟩ := r1
    have HQ1 := Lib.hid (andY_step HQ0.out hr1)
    clear hr1
    go_wp2_with (fail)
    refine HN1.out.mono ?_
    rintro e v1 ⟨rfl, hi1, hc1⟩
    replace hi1 : InY v1 g B s1 := hi1
    have vv1 : V v1 mb (mcells m P M) 37 := hc1.blk VV1.out hne
    have hml1 := blk_lt vv1
    obtain ⟨cv1, cc1⟩ : ∃ x, v1.cell? ⟨mb, 12, none⟩ = some x := ⟨_, by rw [cell_of_row _ _ _ _ _ _ vv1]; rfl⟩
    have ff1 := frozen_of_row v1 mb 12 _ _ vv1
    obtain ⟨w2, hw2⟩ : ∃ x, v1.setCell ⟨mb, 12, none⟩ (.int .i64 (a1 : Nat)) = x := ⟨_, rfl⟩
    have HI2 := Lib.hid (show InY w2 g B s1 by rw [← hw2]; exact hi1.setm hne hgB _)
    have HC2 := Lib.hid (show Chg (fun k => k = g ∨ k = mb) w w2 by rw [← hw2]; exact chg_m (chg_gm HC1.out hc1) 12 _)
    have VV2 := Lib.hid (show V w2 mb (mcells ({ m with err := (a1 : Int) } : Msg) P M) 37 by rw [← hw2]; exact vv1.set _)
    clear hi1 hc1 vv1
    go_wp2_with (fail)
    go_end0
    exact ⟨rfl, by rw [HQ1.out]; exact HI2.out, HC2.out, P, M, by rw [HQ1.out]; exact VV2.out, .inl ⟨rfl, by rw [HQ1.out]⟩, .inl ⟨rfl, by rw [HQ1.out]⟩⟩
  · have kb1 : (m.kind == 1) = false := by rw [hk]; rfl
    have kb2 : (m.kind == 2) = false := by rw [hk]; rfl
    have kb3 : (m.kind == 3) = true := by rw [hk]; rfl
    have kb4 : (m.kind == 4) = false := by rw [hk]; rfl
    have kb8 : (m.kind == 8) = false := by rw [hk]; rfl
    have kb5 : (m.kind == 5) = false := by rw [hk]; rfl
    have kb6 : (m.kind == 6) = false := by rw [hk]; rfl
    have kb7 : (m.kind == 7) = false := by rw [hk]; rfl
    have HQ0 := Lib.hid (show fY st m = _ from (by unfold fY; simp [hk] : fY st m = f3Y st m))
    clear hk
    go_enter Try.func21, Try.ntmps21
    have HN1 := Lib.hid (number_r w g B st HI1.out)
    obtain ⟨r1, hr1⟩ : ∃ r, nY st = r := ⟨_, rfl⟩
    rw [hr1] at HN1
    obtain ⟨a1, s1⟩ := r1
    have HQ1 := Lib.hid (andY_step HQ0.out hr1)
    clear hr1
    go_wp2_with (fail)
    refine HN1.out.mono ?_
    rintro e v1 ⟨rfl, hi1, hc1⟩
    replace hi1 : InY v1 g B s1 := hi1
    have vv1 : V v1 mb (mcells m P M) 37 := hc1.blk VV1.out hne
    have hml1 := blk_lt vv1
    obtain ⟨cv1, cc1⟩ : ∃ x, v1.cell? ⟨mb, 3, none⟩ = some x := ⟨_, by rw [cell_of_row _ _ _ _ _ _ vv1]; rfl⟩
    have ff1 := frozen_of_row v1 mb 3 _ _ vv1
    obtain ⟨w2, hw2⟩ : ∃ x, v1.setCell ⟨mb, 3, none⟩ (.int .i64 (a1 : Nat)) = x := ⟨_, rfl⟩
    have HI2 := Lib.hid (show InY w2 g B s1 by rw [← hw2]; exact hi1.setm hne hgB _)
    have HC2 := Lib.hid (show Chg (fun k => k = g ∨ k = mb) w w2 by rw [← hw2]; exact chg_m (chg_gm HC1.out hc1) 3 _)
    have VV2 := Lib.hid (show V w2 mb (mcells ({ m with space := (a1 : Int) } : Msg) P M) 37 by rw [← hw2]; exact vv1.set _)
    clear hi1 hc1 vv1
    have HN2 := Lib.hid (name_r w2 g B s1 HI2.out)
    obtain ⟨r2, hr2⟩ : ∃ r, idY s1 = r := ⟨_, rfl⟩
    rw [hr2] at HN2
    obtain ⟨a2, s2⟩ := r2
    have HQ2 := Lib.hid (andY_step HQ1.out hr2)
    clear hr2
    go_wp2_with (fail)
    refine HN2.out.mono ?_
    clear hw2 HN2 cc1 ff1 hml1
    rintro e v2 ⟨rfl, hi2, hc2⟩
    replace hi2 : InY v2 g B s2 := hi2
    have vv2 : V v2 mb (mcells ({ m with space := (a1 : Int) } : Msg) P M) 37 := hc2.blk VV2.out hne
    have hml2 := blk_lt vv2
    obtain ⟨cv2, cc2⟩ : ∃ x, v2.cell? ⟨mb, 5, none⟩ = some x := ⟨_, by rw [cell_of_row _ _ _ _ _ _ vv2]; rfl⟩
    have ff2 := frozen_of_row v2 mb 5 _ _ vv2
    obtain ⟨w3, hw3⟩ : ∃ x, v2.setCell ⟨mb, 5, none⟩ (.string (cl.tx a2)) = x := ⟨_, rfl⟩
    have HI3 := Lib.hid (show InY w3 g B s2 by rw [← hw3]; exact hi2.setm hne hgB _)
    have HC3 := Lib.hid (show Chg (fun k => k = g ∨ k = mb) w w3 by rw [← hw3]; exact chg_m (chg_gm HC2.out hc2) 5 _)
    have VV3 := Lib.hid (show V w3 mb (mcells ({ ({ m with space := (a1 : Int) } : Msg) with id := a2 } : Msg) P M) 37 by rw [← hw3]; exact vv2.set _)
    clear hi2 hc2 vv2
    have HN3 := Lib.hid (number_r w3 g B s2 HI3.out)
    obtain ⟨r3, hr3⟩ : ∃ r, nY s2 = r := ⟨_, rfl⟩
    rw [hr3] at HN3
    obtain ⟨a3, s3⟩ := r3
    have HQ3 := Lib.hid (andY_step HQ2.out hr3)
    clear hr3
    go_wp2_with (fail)
    refine HN3.out.mono ?_
    clear hw3 HN3 cc2 ff2 hml2
    rintro e v3 ⟨rfl, hi3, hc3⟩
    replace hi3 : InY v3 g B s3 := hi3
    have vv3 : V v3 mb (mcells ({ ({ m with space := (a1 : Int) } : Msg) with id := a2 } : Msg) P M) 37 := hc3.blk VV3.out hne
    have hml3 := blk_lt vv3
    obtain ⟨cv3, cc3⟩ : ∃ x, v3.cell? ⟨mb, 7, none⟩ = some x := ⟨_, by rw [cell_of_row _ _ _ _ _ _ vv3]; rfl⟩
    have ff3 := frozen_of_row v3 mb 7 _ _ vv3
    obtain ⟨w4, hw4⟩ : ∃ x, v3.setCell ⟨mb, 7, none⟩ (.int .i64 (a3 : Nat)) = x := ⟨_, rfl⟩
    have HI4 := Lib.hid (show InY w4 g B s3 by rw [← hw4]; exact hi3.setm hne hgB _)
    have HC4 := Lib.hid (show Chg (fun k => k = g ∨ k = mb) w w4 by rw [← hw4]; exact chg_m (chg_gm HC3.out hc3) 7 _)
    have VV4 := Lib.hid (show V w4 mb (mcells ({ ({ ({ m with space := (a1 : Int) } : Msg) with id := a2 } : Msg) with rf := (a3 : Int) } : Msg) P M) 37 by rw [← hw4]; exact vv3.set _)
    clear hi3 hc3 vv3
    have HN4 := Lib.hid (number_r w4 g B s3 HI4.out)
    obtain ⟨r4, hr4⟩ : ∃ r, nY s3 = r := ⟨_, rfl⟩
    rw [hr4] at HN4
    obtain ⟨a4, s4⟩ := r4
    have HQ4 := Lib.hid (andY_step HQ3.out hr4)
    clear hr4
    go_wp2_with (fail)
    refine HN4.out.mono ?_
    clear hw4 HN4 cc3 ff3 hml3
    rintro e v4 ⟨rfl, hi4, hc4⟩
    replace hi4 : InY v4 g B s4 := hi4
    have vv4 : V v4 mb (mcells ({ ({ ({ m with space := (a1 : Int) } : Msg) with id := a2 } : Msg) with rf := (a3 : Int) } : Msg) P M) 37 := hc4.blk VV4.out hne
    have hml4 := blk_lt vv4
    obtain ⟨cv4, cc4⟩ : ∃ x, v4.cell? ⟨mb, 8, none⟩ = some x := ⟨_, by rw [cell_of_row _ _ _ _ _ _ vv4]; rfl⟩
    have ff4 := frozen_of_row v4 mb 8 _ _ vv4
    obtain ⟨w5, hw5⟩ : ∃ x, v4.setCell ⟨mb, 8, none⟩ (.int .i64 (a4 : Nat)) = x := ⟨_, rfl⟩
    have HI5 := Lib.hid (show InY w5 g B s4 by rw [← hw5]; exact hi4.setm hne hgB _)
    have HC5 := Lib.hid (show Chg (fun k => k = g ∨ k = mb) w w5 by rw [← hw5]; exact chg_m (chg_gm HC4.out hc4) 8 _)
    have VV5 := Lib.hid (show V w5 mb (mcells ({ ({ ({ ({ m with space := (a1 : Int) } : Msg) with id := a2 } : Msg) with rf := (a3 : Int) } : Msg) with rt := (a4 : Int) } : Msg) P M) 37 by rw [← hw5]; exact vv4.set _)
    clear hi4 hc4 vv4
    go_wp2_with (fail)
    go_end0
    exact ⟨rfl, by rw [HQ4.out]; exact HI5.out, HC5.out, P, M, by rw [HQ4.out]; exact VV5.out, .inl ⟨rfl, by rw [HQ4.out]⟩, .inl ⟨rfl, by rw [HQ4.out]⟩⟩
  · have kb1 : (m.kind == 1) = false := by rw [hk]; rfl
    have kb2 : (m.kind == 2) = false := by rw [hk]; rfl
    have kb3 : (m.kind == 3) = false := by rw [hk]; rfl
    have kb4 : (m.kind == 4) = true := by rw [hk]; rfl
    have kb8 : (m.kind == 8) = false := by rw [hk]; rfl
    have kb5 : (m.kind == 5) = false := by rw [hk]; rfl
    have kb6 : (m.kind == 6) = false := by rw [hk]; rfl
    have kb7 : (m.kind == 7) = false := by rw [hk]; rfl
    have HQ0 := Lib.hid (show fY st m = _ from (by unfold fY; simp [hk] : fY st m = f4Y st m))
    clear hk
    go_enter Try.func21, Try.ntmps21
    have HN1 := Lib.hid (number_r w g B st HI1.out)
    obtain ⟨r1, hr1⟩ : ∃ r, nY st = r := ⟨_, rfl⟩
    rw [hr1] at HN1
    obtain ⟨a1, s1⟩ := r1
    have HQ1 := Lib.hid (andY_step HQ0.out hr1)
    clear hr1
    go_wp2_with (fail)
    refine HN1.out.mono ?_
    rintro e v1 ⟨rfl, hi1, hc1⟩
    replace hi1 : InY v1 g B s1 := hi1
    have vv1 : V v1 mb (mcells m P M) 37 := hc1.blk VV1.out hne
    have hml1 := blk_lt vv1
    obtain ⟨cv1, cc1⟩ : ∃ x, v1.cell? ⟨mb, 12, none⟩ = some x := ⟨_, by rw [cell_of_row _ _ _ _ _ _ vv1]; rfl⟩
    have ff1 := frozen_of_row v1 mb 12 _ _ vv1
    obtain ⟨w2, hw2⟩ : ∃ x, v1.setCell ⟨mb, 12, none⟩ (.int .i64 (a1 : Nat)) = x := ⟨_, rfl⟩
    have HI2 := Lib.hid (show InY w2 g B s1 by rw [← hw2]; exact hi1.setm hne hgB _)
    have HC2 := Lib.hid (show Chg (fun k => k = g ∨ k = mb) w w2 by rw [← hw2]; exact chg_m (chg_gm HC1.out hc1) 12 _)
    have VV2 := Lib.hid (show V w2 mb (mcells ({ m with err := (a1 : Int) } : Msg) P M) 37 by rw [← hw2]; exact vv1.set _)
    clear hi1 hc1 vv1
    have HN2 := Lib.hid (points_r w2 g B s1 HI2.out)
    obtain ⟨r2, hr2⟩ : ∃ r, lsY ptY s1 = r := ⟨_, rfl⟩
    rw [hr2] at HN2
    obtain ⟨a2, s2⟩ := r2
    have HQ2 := Lib.hid (andY_step HQ1.out hr2)
    clear hr2
    go_wp2_with (fail)
    refine HN2.out.mono ?_
    clear hw2 HN2 cc1 ff1 hml1
    rintro e v2 ⟨A9, c9, rfl, ho9, hi2, hc2⟩
    replace ho9 : Ow PE v2 w2.heap.size (.slice A9 a2.length c9) a2.length a2 := ho9
    replace hi2 : InY v2 g B s2 := hi2
    have vv2 : V v2 mb (mcells ({ m with err := (a1 : Int) } : Msg) P M) 37 := hc2.blk VV2.out hne
    have hml2 := blk_lt vv2
    obtain ⟨cv2, cc2⟩ : ∃ x, v2.cell? ⟨mb, 14, none⟩ = some x := ⟨_, by rw [cell_of_row _ _ _ _ _ _ vv2]; rfl⟩
    have ff2 := frozen_of_row v2 mb 14 _ _ vv2
    obtain ⟨w3, hw3⟩ : ∃ x, v2.setCell ⟨mb, 14, none⟩ (.slice A9 a2.length c9) = x := ⟨_, rfl⟩
    have HI3 := Lib.hid (show InY w3 g B s2 by rw [← hw3]; exact hi2.setm hne hgB _)
    have HC3 := Lib.hid (show Chg (fun k => k = g ∨ k = mb) w w3 by rw [← hw3]; exact chg_m (chg_gm HC2.out hc2) 14 _)
    have HO9 := Lib.hid (show Ow PE w3 w.heap.size (.slice A9 a2.length c9) a2.length a2 by rw [← hw3]; exact mem.Ow.base (Ow.set ho9 vv2 (by decide)) HC2.out.size)
    have VV3 := Lib.hid (show V w3 mb (mcells ({ ({ m with err := (a1 : Int) } : Msg) with pts := a2 } : Msg) (.slice A9 a2.length c9) M) 37 by rw [← hw3]; exact vv2.set _)
    clear ho9
    clear hi2 hc2 vv2
    go_wp2_with (fail)
    go_end0
    exact ⟨rfl, by rw [HQ2.out]; exact HI3.out, HC3.out, (.slice A9 a2.length c9), M, by rw [HQ2.out]; exact VV3.out, .inr (by rw [HQ2.out]; exact HO9.out), .inl ⟨rfl, by rw [HQ2.out]⟩⟩
  · have kb1 : (m.kind == 1) = false := by rw [hk]; rfl
    have kb2 : (m.kind == 2) = false := by rw [hk]; rfl
    have kb3 : (m.kind == 3) = false := by rw [hk]; rfl
    have kb4 : (m.kind == 4) = false := by rw [hk]; rfl
    have kb8 : (m.kind == 8) = true := by rw [hk]; rfl
    have kb5 : (m.kind == 5) = false := by rw [hk]; rfl
    have kb6 : (m.kind == 6) = false := by rw [hk]; rfl
    have kb7 : (m.kind == 7) = false := by rw [hk]; rfl
    have HQ0 := Lib.hid (show fY st m = _ from (by unfold fY; simp [hk] : fY st m = f4Y st m))
    clear hk
    go_enter Try.func21, Try.ntmps21
    have HN1 := Lib.hid (number_r w g B st HI1.out)
    obtain ⟨r1, hr1⟩ : ∃ r, nY st = r := ⟨_, rfl⟩
    rw [hr1] at HN1
    obtain ⟨a1, s1⟩ := r1
    have HQ1 := Lib.hid (andY_step HQ0.out hr1)
    clear hr1
    go_wp2_with (fail)
    refine HN1.out.mono ?_
    rintro e v1 ⟨rfl, hi1, hc1⟩
    replace hi1 : InY v1 g B s1 := hi1
    have vv1 : V v1 mb (mcells m P M) 37 := hc1.blk VV1.out hne
    have hml1 := blk_lt vv1
    obtain ⟨cv1, cc1⟩ : ∃ x, v1.cell? ⟨mb, 12, none⟩ = some x := ⟨_, by rw [cell_of_row _ _ _ _ _ _ vv1]; rfl⟩
    have ff1 := frozen_of_row v1 mb 12 _ _ vv1
    obtain ⟨w2, hw2⟩ : ∃ x, v1.setCell ⟨mb, 12, none⟩ (.int .i64 (a1 : Nat)) = x := ⟨_, rfl⟩
    have HI2 := Lib.hid (show InY w2 g B s1 by rw [← hw2]; exact hi1.setm hne hgB _)
    have HC2 := Lib.hid (show Chg (fun k => k = g ∨ k = mb) w w2 by rw [← hw2]; exact chg_m (chg_gm HC1.out hc1) 12 _)
    have VV2 := Lib.hid (show V w2 mb (mcells ({ m with err := (a1 : Int) } : Msg) P M) 37 by rw [← hw2]; exact vv1.set _)
    clear hi1 hc1 vv1
    have HN2 := Lib.hid (points_r w2 g B s1 HI2.out)
    obtain ⟨r2, hr2⟩ : ∃ r, lsY ptY s1 = r := ⟨_, rfl⟩
    rw [hr2] at HN2
    obtain ⟨a2, s2⟩ := r2
    have HQ2 := Lib.hid (andY_step HQ1.out hr2)
    clear hr2
    go_wp2_with (fail)
    refine HN2.out.mono ?_
    clear hw2 HN2 cc1 ff1 hml1
    rintro e v2 ⟨A9, c9, rfl, ho9, hi2, hc2⟩
    replace ho9 : Ow PE v2 w2.heap.size (.slice A9 a2.length c9) a2.length a2 := ho9
    replace hi2 : InY v2 g B s2 := hi2
    have vv2 : V v2 mb (mcells ({ m with err := (a1 : Int) } : Msg) P M) 37 := hc2.blk VV2.out hne
    have hml2 := blk_lt vv2
    obtain ⟨cv2, cc2⟩ : ∃ x, v2.cell? ⟨mb, 14, none⟩ = some x := ⟨_, by rw [cell_of_row _ _ _ _ _ _ vv2]; rfl⟩
    have ff2 := frozen_of_row v2 mb 14 _ _ vv2
    obtain ⟨w3, hw3⟩ : ∃ x, v2.setCell ⟨mb, 14, none⟩ (.slice A9 a2.length c9) = x := ⟨_, rfl⟩
    have HI3 := Lib.hid (show InY w3 g B s2 by rw [← hw3]; exact hi2.setm hne hgB _)
    have HC3 := Lib.hid (show Chg (fun k => k = g ∨ k = mb) w w3 by rw [← hw3]; exact chg_m (chg_gm HC2.out hc2) 14 _)
    have HO9 := Lib.hid (show Ow PE w3 w.heap.size (.slice A9 a2.length c9) a2.length a2 by rw [← hw3]; exact mem.Ow.base (Ow.set ho9 vv2 (by decide)) HC2.out.size)
    have VV3 := Lib.hid (show V w3 mb (mcells ({ ({ m with err := (a1 : Int) } : Msg) with pts := a2 } : Msg) (.slice A9 a2.length c9) M) 37 by rw [← hw3]; exact vv2.set _)
    clear ho9
    clear hi2 hc2 vv2
    go_wp2_with (fail)
    go_end0
    exact ⟨rfl, by rw [HQ2.out]; exact HI3.out, HC3.out, (.slice A9 a2.length c9), M, by rw [HQ2.out]; exact VV3.out, .inr (by rw [HQ2.out]; exact HO9.out), .inl ⟨rfl, by rw [HQ2.out]⟩⟩
  · have kb1 : (m.kind == 1) = false := by rw [hk]; rfl
    have kb2 : (m.kind == 2) = false := by rw [hk]; rfl
    have kb3 : (m.kind == 3) = false := by rw [hk]; rfl
    have kb4 : (m.kind == 4) = false := by rw [hk]; rfl
    have kb8 : (m.kind == 8) = false := by rw [hk]; rfl
    have kb5 : (m.kind == 5) = true := by rw [hk]; rfl
    have kb6 : (m.kind == 6) = false := by rw [hk]; rfl
    have kb7 : (m.kind == 7) = false := by rw [hk]; rfl
    have HQ0 := Lib.hid (show fY st m = _ from (by unfold fY; simp [hk] : fY st m = f5Y st m))
    clear hk
    go_enter Try.func21, Try.ntmps21
    have HN1 := Lib.hid (number_r w g B st HI1.out)
    obtain ⟨r1, hr1⟩ : ∃ r, nY st = r := ⟨_, rfl⟩
    rw [hr1] at HN1
    obtain ⟨a1, s1⟩ := r1
    have HQ1 := Lib.hid (andY_step HQ0.out hr1)
    clear hr1
    go_wp2_with (fail)
    refine HN1.out.mono ?_
    rintro e v1 ⟨rfl, hi1, hc1⟩
    replace hi1 : InY v1 g B s1 := hi1
    have vv1 : V v1 mb (mcells m P M) 37 := hc1.blk VV1.out hne
    have hml1 := blk_lt vv1
    obtain ⟨cv1, cc1⟩ : ∃ x, v1.cell? ⟨mb, 3, none⟩ = some x := ⟨_, by rw [cell_of_row _ _ _ _ _ _ vv1]; rfl⟩
    have ff1 := frozen_of_row v1 mb 3 _ _ vv1
    obtain ⟨w2, hw2⟩ : ∃ x, v1.setCell ⟨mb, 3, none⟩ (.int .i64 (a1 : Nat)) = x := ⟨_, rfl⟩
    have HI2 := Lib.hid (show InY w2 g B s1 by rw [← hw2]; exact hi1.setm hne hgB _)
    have HC2 := Lib.hid (show Chg (fun k => k = g ∨ k = mb) w w2 by rw [← hw2]; exact chg_m (chg_gm HC1.out hc1) 3 _)
    have VV2 := Lib.hid (show V w2 mb (mcells ({ m with space := (a1 : Int) } : Msg) P M) 37 by rw [← hw2]; exact vv1.set _)
    clear hi1 hc1 vv1
    have HN2 := Lib.hid (number_r w2 g B s1 HI2.out)
    obtain ⟨r2, hr2⟩ : ∃ r, nY s1 = r := ⟨_, rfl⟩
    rw [hr2] at HN2
    obtain ⟨a2, s2⟩ := r2
    have HQ2 := Lib.hid (andY_step HQ1.out hr2)
    clear hr2
    go_wp2_with (fail)
    refine HN2.out.mono ?_
    clear hw2 HN2 cc1 ff1 hml1
    rintro e v2 ⟨rfl, hi2, hc2⟩
    replace hi2 : InY v2 g B s2 := hi2
    have vv2 : V v2 mb (mcells ({ m with space := (a1 : Int) } : Msg) P M) 37 := hc2.blk VV2.out hne
    have hml2 := blk_lt vv2
    obtain ⟨cv2, cc2⟩ : ∃ x, v2.cell? ⟨mb, 4, none⟩ = some x := ⟨_, by rw [cell_of_row _ _ _ _ _ _ vv2]; rfl⟩
    have ff2 := frozen_of_row v2 mb 4 _ _ vv2
    obtain ⟨w3, hw3⟩ : ∃ x, v2.setCell ⟨mb, 4, none⟩ (.int .i64 (a2 : Nat)) = x := ⟨_, rfl⟩
    have HI3 := Lib.hid (show InY w3 g B s2 by rw [← hw3]; exact hi2.setm hne hgB _)
    have HC3 := Lib.hid (show Chg (fun k => k = g ∨ k = mb) w w3 by rw [← hw3]; exact chg_m (chg_gm HC2.out hc2) 4 _)
    have VV3 := Lib.hid (show V w3 mb (mcells ({ ({ m with space := (a1 : Int) } : Msg) with shard := (a2 : Int) } : Msg) P M) 37 by rw [← hw3]; exact vv2.set _)
    clear hi2 hc2 vv2
    have HN3 := Lib.hid (number_r w3 g B s2 HI3.out)
    obtain ⟨r3, hr3⟩ : ∃ r, nY s2 = r := ⟨_, rfl⟩
    rw [hr3] at HN3
    obtain ⟨a3, s3⟩ := r3
    have HQ3 := Lib.hid (andY_step HQ2.out hr3)
    clear hr3
    go_wp2_with (fail)
    refine HN3.out.mono ?_
    clear hw3 HN3 cc2 ff2 hml2
    rintro e v3 ⟨rfl, hi3, hc3⟩
    replace hi3 : InY v3 g B s3 := hi3
    have vv3 : V v3 mb (mcells ({ ({ m with space := (a1 : Int) } : Msg) with shard := (a2 : Int) } : Msg) P M) 37 := hc3.blk VV3.out hne
    have hml3 := blk_lt vv3
    obtain ⟨cv3, cc3⟩ : ∃ x, v3.cell? ⟨mb, 7, none⟩ = some x := ⟨_, by rw [cell_of_row _ _ _ _ _ _ vv3]; rfl⟩
    have ff3 := frozen_of_row v3 mb 7 _ _ vv3
    obtain ⟨w4, hw4⟩ : ∃ x, v3.setCell ⟨mb, 7, none⟩ (.int .i64 (a3 : Nat)) = x := ⟨_, rfl⟩
    have HI4 := Lib.hid (show InY w4 g B s3 by rw [← hw4]; exact hi3.setm hne hgB _)
    have HC4 := Lib.hid (show Chg (fun k => k = g ∨ k = mb) w w4 by rw [← hw4]; exact chg_m (chg_gm HC3.out hc3) 7 _)
    have VV4 := Lib.hid (show V w4 mb (mcells ({ ({ ({ m with space := (a1 : Int) } : Msg) with shard := (a2 : Int) } : Msg) with rf := (a3 : Int) } : Msg) P M) 37 by rw [← hw4]; exact vv3.set _)
    clear hi3 hc3 vv3
    have HN4 := Lib.hid (number_r w4 g B s3 HI4.out)
    obtain ⟨r4, hr4⟩ : ∃ r, nY s3 = r := ⟨_, rfl⟩
    rw [hr4] at HN4
    obtain ⟨a4, s4⟩ := r4
    have HQ4 := Lib.hid (andY_step HQ3.out hr4)
    clear hr4
    go_wp2_with (fail)
    refine HN4.out.mono ?_
    clear hw4 HN4 cc3 ff3 hml3
    rintro e v4 ⟨rfl, hi4, hc4⟩
    replace hi4 : InY v4 g B s4 := hi4
    have vv4 : V v4 mb (mcells ({ ({ ({ m with space := (a1 : Int) } : Msg) with shard := (a2 : Int) } : Msg) with rf := (a3 : Int) } : Msg) P M) 37 := hc4.blk VV4.out hne
    have hml4 := blk_lt vv4
    obtain ⟨cv4, cc4⟩ : ∃ x, v4.cell? ⟨mb, 8, none⟩ = some x := ⟨_, by rw [cell_of_row _ _ _ _ _ _ vv4]; rfl⟩
    have ff4 := frozen_of_row v4 mb 8 _ _ vv4
    obtain ⟨w5, hw5⟩ : ∃ x, v4.setCell ⟨mb, 8, none⟩ (.int .i64 (a4 : Nat)) = x := ⟨_, rfl⟩
    have HI5 := Lib.hid (show InY w5 g B s4 by rw [← hw5]; exact hi4.setm hne hgB _)
    have HC5 := Lib.hid (show Chg (fun k => k = g ∨ k = mb) w w5 by rw [← hw5]; exact chg_m (chg_gm HC4.out hc4) 8 _)
    have VV5 := Lib.hid (show V w5 mb (mcells ({ ({ ({ ({ m with space := (a1 : Int) } : Msg) with shard := (a2 : Int) } : Msg) with rf := (a3 : Int) } : Msg) with rt := (a4 : Int) } : Msg) P M) 37 by rw [← hw5]; exact vv4.set _)
    clear hi4 hc4 vv4
    have HN5 := Lib.hid (number_r w5 g B s4 HI5.out)
    obtain ⟨r5, hr5⟩ : ∃ r, nY s4 = r := ⟨_, rfl⟩
    rw [hr5] at HN5
    obtain ⟨a5, s5⟩ := r5
    have HQ5 := Lib.hid (andY_step HQ4.out hr5)
    clear hr5
    go_wp2_with (fail)
    refine HN5.out.mono ?_
    clear hw5 HN5 cc4 ff4 hml4
    rintro e v5 ⟨rfl, hi5, hc5⟩
    replace hi5 : InY v5 g B s5 := hi5
    have vv5 : V v5 mb (mcells ({ ({ ({ ({ m with space := (a1 : Int) } : Msg) with shard := (a2 : Int) } : Msg) with rf := (a3 : Int) } : Msg) with rt := (a4 : Int) } : Msg) P M) 37 := hc5.blk VV5.out hne
    have hml5 := blk_lt vv5
    obtain ⟨cv5, cc5⟩ : ∃ x, v5.cell? ⟨mb, 6, none⟩ = some x := ⟨_, by rw [cell_of_row _ _ _ _ _ _ vv5]; rfl⟩
    have ff5 := frozen_of_row v5 mb 6 _ _ vv5
    obtain ⟨w6, hw6⟩ : ∃ x, v5.setCell ⟨mb, 6, none⟩ (.int .i64 (a5 : Nat)) = x := ⟨_, rfl⟩
    have HI6 := Lib.hid (show InY w6 g B s5 by rw [← hw6]; exact hi5.setm hne hgB _)
    have HC6 := Lib.hid (show Chg (fun k => k = g ∨ k = mb) w w6 by rw [← hw6]; exact chg_m (chg_gm HC5.out hc5) 6 _)
    have VV6 := Lib.hid (show V w6 mb (mcells ({ ({ ({ ({ ({ m with space := (a1 : Int) } : Msg) with shard := (a2 : Int) } : Msg) with rf := (a3 : Int) } : Msg) with rt := (a4 : Int) } : Msg) with block := (a5 : Int) } : Msg) P M) 37 by rw [← hw6]; exact vv5.set _)
    clear hi5 hc5 vv5
    have HN6 := Lib.hid (name_r w6 g B s5 HI6.out)
    obtain ⟨r6, hr6⟩ : ∃ r, idY s5 = r := ⟨_, rfl⟩
    rw [hr6] at HN6
    obtain ⟨a6, s6⟩ := r6
    have HQ6 := Lib.hid (andY_step HQ5.out hr6)
    clear hr6
    go_wp2_with (fail)
    refine HN6.out.mono ?_
    clear hw6 HN6 cc5 ff5 hml5
    rintro e v6 ⟨rfl, hi6, hc6⟩
    replace hi6 : InY v6 g B s6 := hi6
    have vv6 : V v6 mb (mcells ({ ({ ({ ({ ({ m with space := (a1 : Int) } : Msg) with shard := (a2 : Int) } : Msg) with rf := (a3 : Int) } : Msg) with rt := (a4 : Int) } : Msg) with block := (a5 : Int) } : Msg) P M) 37 := hc6.blk VV6.out hne
    have hml6 := blk_lt vv6
    obtain ⟨cv6, cc6⟩ : ∃ x, v6.cell? ⟨mb, 5, none⟩ = some x := ⟨_, by rw [cell_of_row _ _ _ _ _ _ vv6]; rfl⟩
    have ff6 := frozen_of_row v6 mb 5 _ _ vv6
    obtain ⟨w7, hw7⟩ : ∃ x, v6.setCell ⟨mb, 5, none⟩ (.string (cl.tx a6)) = x := ⟨_, rfl⟩
    have HI7 := Lib.hid (show InY w7 g B s6 by rw [← hw7]; exact hi6.setm hne hgB _)
    have HC7 := Lib.hid (show Chg (fun k => k = g ∨ k = mb) w w7 by rw [← hw7]; exact chg_m (chg_gm HC6.out hc6) 5 _)
    have VV7 := Lib.hid (show V w7 mb (mcells ({ ({ ({ ({ ({ ({ m with space := (a1 : Int) } : Msg) with shard := (a2 : Int) } : Msg) with rf := (a3 : Int) } : Msg) with rt := (a4 : Int) } : Msg) with block := (a5 : Int) } : Msg) with id := a6 } : Msg) P M) 37 by rw [← hw7]; exact vv6.set _)
    clear hi6 hc6 vv6
    go_wp2_with (fail)
    go_end0
    exact ⟨rfl, by rw [HQ6.out]; exact HI7.out, HC7.out, P, M, by rw [HQ6.out]; exact VV7.out, .inl ⟨rfl, by rw [HQ6.out]⟩, .inl ⟨rfl, by rw [HQ6.out]⟩⟩
  · have kb1 : (m.kind == 1) = false := by rw [hk]; rfl
    have kb2 : (m.kind == 2) = false := by rw [hk]; rfl
    have kb3 : (m.kind == 3) = false := by rw [hk]; rfl
    have kb4 : (m.kind == 4) = false := by rw [hk]; rfl
    have kb8 : (m.kind == 8) = false := by rw [hk]; rfl
    have kb5 : (m.kind == 5) = false := by rw [hk]; rfl
    have kb6 : (m.kind == 6) = true := by rw [hk]; rfl
    have kb7 : (m.kind == 7) = false := by rw [hk]; rfl
    have HQ0 := Lib.hid (show fY st m = _ from (by unfold fY; simp [hk] : fY st m = f6Y st m))
    clear hk
    go_enter Try.func21, Try.ntmps21
    have HN1 := Lib.hid (number_r w g B st HI1.out)
    obtain ⟨r1, hr1⟩ : ∃ r, nY st = r := ⟨_, rfl⟩
    rw [hr1] at HN1
    obtain ⟨a1, s1⟩ := r1
    have HQ1 := Lib.hid (andY_step HQ0.out hr1)
    clear hr1
    go_wp2_with (fail)
    refine HN1.out.mono ?_
    rintro e v1 ⟨rfl, hi1, hc1⟩
    replace hi1 : InY v1 g B s1 := hi1
    have vv1 : V v1 mb (mcells m P M) 37 := hc1.blk VV1.out hne
    have hml1 := blk_lt vv1
    obtain ⟨cv1, cc1⟩ : ∃ x, v1.cell? ⟨mb, 12, none⟩ = some x := ⟨_, by rw [cell_of_row _ _ _ _ _ _ vv1]; rfl⟩
    have ff1 := frozen_of_row v1 mb 12 _ _ vv1
    obtain ⟨w2, hw2⟩ : ∃ x, v1.setCell ⟨mb, 12, none⟩ (.int .i64 (a1 : Nat)) = x := ⟨_, rfl⟩
    have HI2 := Lib.hid (show InY w2 g B s1 by rw [← hw2]; exact hi1.setm hne hgB _)
    have HC2 := Lib.hid (show Chg (fun k => k = g ∨ k = mb) w w2 by rw [← hw2]; exact chg_m (chg_gm HC1.out hc1) 12 _)
    have VV2 := Lib.hid (show V w2 mb (mcells ({ m with err := (a1 : Int) } : Msg) P M) 37 by rw [← hw2]; exact vv1.set _)
    clear hi1 hc1 vv1
    have HN2 := Lib.hid (number_r w2 g B s1 HI2.out)
    obtain ⟨r2, hr2⟩ : ∃ r, nY s1 = r := ⟨_, rfl⟩
    rw [hr2] at HN2
    obtain ⟨a2, s2⟩ := r2
    have HQ2 := Lib.hid (andY_step HQ1.out hr2)
    clear hr2
    go_wp2_with (fail)
    refine HN2.out.mono ?_
    clear hw2 HN2 cc1 ff1 hml1
    rintro e v2 ⟨rfl, hi2, hc2⟩
    replace hi2 : InY v2 g B s2 := hi2
    have vv2 : V v2 mb (mcells ({ m with err := (a1 : Int) } : Msg) P M) 37 := hc2.blk VV2.out hne
    have hml2 := blk_lt vv2
    obtain ⟨cv2, cc2⟩ : ∃ x, v2.cell? ⟨mb, 13, none⟩ = some x := ⟨_, by rw [cell_of_row _ _ _ _ _ _ vv2]; rfl⟩
    have ff2 := frozen_of_row v2 mb 13 _ _ vv2
    obtain ⟨w3, hw3⟩ : ∃ x, v2.setCell ⟨mb, 13, none⟩ (.bool (decide (a2 = 1))) = x := ⟨_, rfl⟩
    have HI3 := Lib.hid (show InY w3 g B s2 by rw [← hw3]; exact hi2.setm hne hgB _)
    have HC3 := Lib.hid (show Chg (fun k => k = g ∨ k = mb) w w3 by rw [← hw3]; exact chg_m (chg_gm HC2.out hc2) 13 _)
    have hfl2 : ((a2 : Int) == 1) = decide (a2 = 1) := by rw [Bool.eq_iff_iff]; simp; omega
    have VV3 := Lib.hid (show V w3 mb (mcells ({ ({ m with err := (a1 : Int) } : Msg) with more := decide (a2 = 1) } : Msg) P M) 37 by rw [← hw3]; exact vv2.set _)
    clear hi2 hc2 vv2
    have HN3 := Lib.hid (metas_r w3 g B s2 HI3.out)
    obtain ⟨r3, hr3⟩ : ∃ r, lsY mtY s2 = r := ⟨_, rfl⟩
    rw [hr3] at HN3
    obtain ⟨a3, s3⟩ := r3
    have HQ3 := Lib.hid (andY_step HQ2.out hr3)
    clear hr3
    go_wp2_with (fail)
    refine HN3.out.mono ?_
    clear hw3 HN3 cc2 ff2 hml2
    rintro e v3 ⟨A9, c9, rfl, ho9, hi3, hc3⟩
    replace ho9 : Ow ME v3 w3.heap.size (.slice A9 a3.length c9) a3.length a3 := ho9
    replace hi3 : InY v3 g B s3 := hi3
    have vv3 : V v3 mb (mcells ({ ({ m with err := (a1 : Int) } : Msg) with more := decide (a2 = 1) } : Msg) P M) 37 := hc3.blk VV3.out hne
    have hml3 := blk_lt vv3
    obtain ⟨cv3, cc3⟩ : ∃ x, v3.cell? ⟨mb, 15, none⟩ = some x := ⟨_, by rw [cell_of_row _ _ _ _ _ _ vv3]; rfl⟩
    have ff3 := frozen_of_row v3 mb 15 _ _ vv3
    obtain ⟨w4, hw4⟩ : ∃ x, v3.setCell ⟨mb, 15, none⟩ (.slice A9 a3.length c9) = x := ⟨_, rfl⟩
    have HI4 := Lib.hid (show InY w4 g B s3 by rw [← hw4]; exact hi3.setm hne hgB _)
    have HC4 := Lib.hid (show Chg (fun k => k = g ∨ k = mb) w w4 by rw [← hw4]; exact chg_m (chg_gm HC3.out hc3) 15 _)
    have HO9 := Lib.hid (show Ow ME w4 w.heap.size (.slice A9 a3.length c9) a3.length a3 by rw [← hw4]; exact mem.Ow.base (Ow.set ho9 vv3 (by decide)) HC3.out.size)
    have VV4 := Lib.hid (show V w4 mb (mcells ({ ({ ({ m with err := (a1 : Int) } : Msg) with more := decide (a2 = 1) } : Msg) with mts := a3 } : Msg) P (.slice A9 a3.length c9)) 37 by rw [← hw4]; exact vv3.set _)
    clear ho9
    clear hi3 hc3 vv3
    go_wp2_with (fail)
    go_end0
    exact ⟨rfl, by rw [HQ3.out]; exact HI4.out, HC4.out, P, (.slice A9 a3.length c9), by rw [HQ3.out]; exact VV4.out, .inl ⟨rfl, by rw [HQ3.out]⟩, .inr (by rw [HQ3.out]; exact HO9.out)⟩
  · have kb1 : (m.kind == 1) = false := by rw [hk]; rfl
    have kb2 : (m.kind == 2) = false := by rw [hk]; rfl
    have kb3 : (m.kind == 3) = false := by rw [hk]; rfl
    have kb4 : (m.kind == 4) = false := by rw [hk]; rfl
    have kb8 : (m.kind == 8) = false := by rw [hk]; rfl
    have kb5 : (m.kind == 5) = false := by rw [hk]; rfl
    have kb6 : (m.kind == 6) = false := by rw [hk]; rfl
    have kb7 : (m.kind == 7) = true := by rw [hk]; rfl
    have HQ0 := Lib.hid (show fY st m = _ from (by unfold fY; simp [hk] : fY st m = f7Y st m))
    clear hk
    go_enter Try.func21, Try.ntmps21
    have HN1 := Lib.hid (number_r w g B st HI1.out)
    obtain ⟨r1, hr1⟩ : ∃ r, nY st = r := ⟨_, rfl⟩
    rw [hr1] at HN1
    obtain ⟨a1, s1⟩ := r1
    have HQ1 := Lib.hid (andY_step HQ0.out hr1)
    clear hr1
    go_wp2_with (fail)
    refine HN1.out.mono ?_
    rintro e v1 ⟨rfl, hi1, hc1⟩
    replace hi1 : InY v1 g B s1 := hi1
    have vv1 : V v1 mb (mcells m P M) 37 := hc1.blk VV1.out hne
    have hml1 := blk_lt vv1
    obtain ⟨cv1, cc1⟩ : ∃ x, v1.cell? ⟨mb, 3, none⟩ = some x := ⟨_, by rw [cell_of_row _ _ _ _ _ _ vv1]; rfl⟩
    have ff1 := frozen_of_row v1 mb 3 _ _ vv1
    obtain ⟨w2, hw2⟩ : ∃ x, v1.setCell ⟨mb, 3, none⟩ (.int .i64 (a1 : Nat)) = x := ⟨_, rfl⟩
    have HI2 := Lib.hid (show InY w2 g B s1 by rw [← hw2]; exact hi1.setm hne hgB _)
    have HC2 := Lib.hid (show Chg (fun k => k = g ∨ k = mb) w w2 by rw [← hw2]; exact chg_m (chg_gm HC1.out hc1) 3 _)
    have VV2 := Lib.hid (show V w2 mb (mcells ({ m with space := (a1 : Int) } : Msg) P M) 37 by rw [← hw2]; exact vv1.set _)
    clear hi1 hc1 vv1
    have HN2 := Lib.hid (number_r w2 g B s1 HI2.out)
    obtain ⟨r2, hr2⟩ : ∃ r, nY s1 = r := ⟨_, rfl⟩
    rw [hr2] at HN2
    obtain ⟨a2, s2⟩ := r2
    have HQ2 := Lib.hid (andY_step HQ1.out hr2)
    clear hr2
    go_wp2_with (fail)
    refine HN2.out.mono ?_
    clear hw2 HN2 cc1 ff1 hml1
    rintro e v2 ⟨rfl, hi2, hc2⟩
    replace hi2 : InY v2 g B s2 := hi2
    have vv2 : V v2 mb (mcells ({ m with space := (a1 : Int) } : Msg) P M) 37 := hc2.blk VV2.out hne
    have hml2 := blk_lt vv2
    obtain ⟨cv2, cc2⟩ : ∃ x, v2.cell? ⟨mb, 4, none⟩ = some x := ⟨_, by rw [cell_of_row _ _ _ _ _ _ vv2]; rfl⟩
    have ff2 := frozen_of_row v2 mb 4 _ _ vv2
    obtain ⟨w3, hw3⟩ : ∃ x, v2.setCell ⟨mb, 4, none⟩ (.int .i64 (a2 : Nat)) = x := ⟨_, rfl⟩
    have HI3 := Lib.hid (show InY w3 g B s2 by rw [← hw3]; exact hi2.setm hne hgB _)
    have HC3 := Lib.hid (show Chg (fun k => k = g ∨ k = mb) w w3 by rw [← hw3]; exact chg_m (chg_gm HC2.out hc2) 4 _)
    have VV3 := Lib.hid (show V w3 mb (mcells ({ ({ m with space := (a1 : Int) } : Msg) with shard := (a2 : Int) } : Msg) P M) 37 by rw [← hw3]; exact vv2.set _)
    clear hi2 hc2 vv2
    have HN3 := Lib.hid (number_r w3 g B s2 HI3.out)
    obtain ⟨r3, hr3⟩ : ∃ r, nY s2 = r := ⟨_, rfl⟩
    rw [hr3] at HN3
    obtain ⟨a3, s3⟩ := r3
    have HQ3 := Lib.hid (andY_step HQ2.out hr3)
    clear hr3
    go_wp2_with (fail)
    refine HN3.out.mono ?_
    clear hw3 HN3 cc2 ff2 hml2
    rintro e v3 ⟨rfl, hi3, hc3⟩
    replace hi3 : InY v3 g B s3 := hi3
    have vv3 : V v3 mb (mcells ({ ({ m with space := (a1 : Int) } : Msg) with shard := (a2 : Int) } : Msg) P M) 37 := hc3.blk VV3.out hne
    have hml3 := blk_lt vv3
    obtain ⟨cv3, cc3⟩ : ∃ x, v3.cell? ⟨mb, 6, none⟩ = some x := ⟨_, by rw [cell_of_row _ _ _ _ _ _ vv3]; rfl⟩
    have ff3 := frozen_of_row v3 mb 6 _ _ vv3
    obtain ⟨w4, hw4⟩ : ∃ x, v3.setCell ⟨mb, 6, none⟩ (.int .i64 (a3 : Nat)) = x := ⟨_, rfl⟩
    have HI4 := Lib.hid (show InY w4 g B s3 by rw [← hw4]; exact hi3.setm hne hgB _)
    have HC4 := Lib.hid (show Chg (fun k => k = g ∨ k = mb) w w4 by rw [← hw4]; exact chg_m (chg_gm HC3.out hc3) 6 _)
    have VV4 := Lib.hid (show V w4 mb (mcells ({ ({ ({ m with space := (a1 : Int) } : Msg) with shard := (a2 : Int) } : Msg) with block := (a3 : Int) } : Msg) P M) 37 by rw [← hw4]; exact vv3.set _)
    clear hi3 hc3 vv3
    have HN4 := Lib.hid (name_r w4 g B s3 HI4.out)
    obtain ⟨r4, hr4⟩ : ∃ r, idY s3 = r := ⟨_, rfl⟩
    rw [hr4] at HN4
    obtain ⟨a4, s4⟩ := r4
    have HQ4 := Lib.hid (andY_step HQ3.out hr4)
    clear hr4
    go_wp2_with (fail)
    refine HN4.out.mono ?_
    clear hw4 HN4 cc3 ff3 hml3
    rintro e v4 ⟨rfl, hi4, hc4⟩
    replace hi4 : InY v4 g B s4 := hi4
    have vv4 : V v4 mb (mcells ({ ({ ({ m with space := (a1 : Int) } : Msg) with shard := (a2 : Int) } : Msg) with block := (a3 : Int) } : Msg) P M) 37 := hc4.blk VV4.out hne
    have hml4 := blk_lt vv4
    obtain ⟨cv4, cc4⟩ : ∃ x, v4.cell? ⟨mb, 5, none⟩ = some x := ⟨_, by rw [cell_of_row _ _ _ _ _ _ vv4]; rfl⟩
    have ff4 := frozen_of_row v4 mb 5 _ _ vv4
    obtain ⟨w5, hw5⟩ : ∃ x, v4.setCell ⟨mb, 5, none⟩ (.string (cl.tx a4)) = x := ⟨_, rfl⟩
    have HI5 := Lib.hid (show InY w5 g B s4 by rw [← hw5]; exact hi4.setm hne hgB _)
    have HC5 := Lib.hid (show Chg (fun k => k = g ∨ k = mb) w w5 by rw [← hw5]; exact chg_m (chg_gm HC4.out hc4) 5 _)
    have VV5 := Lib.hid (show V w5 mb (mcells ({ ({ ({ ({ m with space := (a1 : Int) } : Msg) with shard := (a2 : Int) } : Msg) with block := (a3 : Int) } : Msg) with id := a4 } : Msg) P M) 37 by rw [← hw5]; exact vv4.set _)
    clear hi4 hc4 vv4
    go_wp2_with (fail)
    go_end0
    exact ⟨rfl, by rw [HQ4.out]; exact HI5.out, HC5.out, P, M, by rw [HQ4.out]; exact VV5.out, .inl ⟨rfl, by rw [HQ4.out]⟩, .inl ⟨rfl, by rw [HQ4.out]⟩⟩
  · have kb1 : (m.kind == 1) = false := by simp; omega
    have kb2 : (m.kind == 2) = false := by simp; omega
    have kb3 : (m.kind == 3) = false := by simp; omega
    have kb4 : (m.kind == 4) = false := by simp; omega
    have kb8 : (m.kind == 8) = false := by simp; omega
    have kb5 : (m.kind == 5) = false := by simp; omega
    have kb6 : (m.kind == 6) = false := by simp; omega
    have kb7 : (m.kind == 7) = false := by simp; omega
    have HQ0 := Lib.hid (show fY st m = (m, st) by unfold fY; simp [hk])
    clear hk
    go_enter Try.func21, Try.ntmps21
    go_wp2_with (fail)
    go_end0
    exact ⟨rfl, by rw [HQ0.out]; exact HI1.out, HC1.out, P, M, by rw [HQ0.out]; exact VV1.out, .inl ⟨rfl, by rw [HQ0.out]⟩, .inl ⟨rfl, by rw [HQ0.out]⟩⟩
end Go.Proofs.Ythkcnakodlbdpaa.wr
