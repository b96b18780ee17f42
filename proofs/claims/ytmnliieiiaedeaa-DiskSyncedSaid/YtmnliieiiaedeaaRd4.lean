/-
  The document's disk: done.
-/
import Derived.Test.YtmnliieiiaedeaaRd3
import Derived.Laws.Concat
namespace Go.Proofs.Ytmnliieiiaedeaa.dk
open Go.ChangeShapes Go.WideShapes Go.ChangeAt Go.RowKit Go.Maps Go.Sort Go.Shelf plain words ord mem al

theorem bs_append (a b : Nm) : bs a ++ bs b = bs (a ++ b) := by
  obtain ⟨c, hc⟩ := ba_bs (bs a ++ bs b)
  rw [hc]
  congr 1
  have h1 := congrArg (fun x : ByteArray => x.data.toList) hc
  simp only [bs_list] at h1
  rw [← h1]
  simp [bs]
theorem add_s {a b : Nm} (h : a.length + b.length ≤ 1125899906842624) (w : World) : (Op.stringOp .add (bs a) (bs b)).run Try.prog w = .ok (.string (bs (a ++ b))) w := by
  rw [run_string_add_sum w _ _ (by rw [bs_size, bs_size]; omega), bs_append]
theorem Fr.at_ {w : World} {A : Option Addr} {c : Nat} {l : AL Nm} (h : Fr w A c l) {i : Nat} {x : Nm × Nm} (hx : l[i]? = some x) :
    ∃ b off, A = some ⟨b, off, none⟩ ∧ b < w.heap.size ∧ w.cell? ⟨b, off + i * 2, none⟩ = some (.string (bs x.1)) ∧ w.cell? ⟨b, off + i * 2 + 1, none⟩ = some (.string (bs x.2)) := fls_at h.ls hx
theorem get_at {ls : AL Nm} (hs : Srt ls) {q y : Nm} (h : al.get ls q = some y) : ls[pos ls q]? = some (q, y) := by
  rw [get_pos hs] at h
  cases hp : ls[pos ls q]? with
  | none => rw [hp] at h; cases h
  | some p =>
    rw [hp] at h
    simp only at h
    split at h
    · rename_i e
      injection h with h
      obtain ⟨k, z⟩ := p
      simp only at e h
      rw [e, h]
    · cases h
def chV : Chn → Value
  | .app a b => .agg #[.int .i64 0, .string (bs a), .string (bs b)]
  | .ren a b => .agg #[.int .i64 1, .string (bs a), .string (bs b)]
  | .rem a => .agg #[.int .i64 2, .string (bs a), .string ⟨#[]⟩]
set_option maxHeartbeats 2000000 in
set_option maxRecDepth 100000 in
theorem app_y (w : World) (n c : Nat) (A : Option Addr) (ls : AL Nm) (a b : Nm) (h : Fr w A c ls) (hl : ls.length = n) (hs : Srt ls) (hn : n ≤ 1000000000) (hz : ((al.get ls a).getD []).length + b.length ≤ 1125899906842624) :
    Calls Try.prog 59 #[.slice A n c, .agg #[.int .i64 0, .string (bs a), .string (bs b)]] w (RetF w (done ls (.app a b))) := by
  show Calls Try.prog _ _ w (RetF w (al.put ls a ((al.get ls a).getD [] ++ b)))
  obtain ⟨wb, hwb⟩ : ∃ wb, w.alloc (.cells #[.int .i64 0, .string (bs a), .string (bs b)] 90) = wb := ⟨_, rfl⟩
  have hbb : Below w.heap.size w wb := by rw [← hwb]; exact (Below.refl _ _).alloc (Nat.le_refl _) _
  have gb : wb.heap[w.heap.size]? = some (.cells #[.int .i64 0, .string (bs a), .string (bs b)] 90 (0, 0)) := by rw [← hwb]; exact alloc_new _ _
  have hlb : w.heap.size < wb.heap.size := blk_lt gb
  have c0 : wb.cell? ⟨w.heap.size, 1, none⟩ = some (.string (bs a)) := by rw [cell_of_row _ _ _ _ _ _ gb]; rfl
  have hfr := h.below hbb
  have hfls := hfr.ls
  rw [hl] at hfls
  have HF := Lib.hid (find_y wb wb.heap.size n c A ls a hfls (Nat.le_refl _) hs (by omega))
  have HFR := Lib.hid hfr
  have HB := Lib.hid hbb
  have GB := Lib.hid gb
  have HL := Lib.hid hl
  have HS := Lib.hid hs
  have hpl := pos_le ls a
  rw [hl] at hpl
  cases hg : al.get ls a with
  | none =>
    rw [hg] at HF hz
    obtain ⟨P, hP⟩ : ∃ P, pos ls a = P := ⟨_, rfl⟩
    rw [hP] at HF
    clear h hbb gb hfr hfls hl hs hP hg hpl
    go_enter Try.func59, Try.ntmps59
    go_wp2_with fail
    refine HF.out.mono ?_
    rintro e w1 ⟨rfl, hb1⟩
    have g1 := blk_below hb1 GB.out hlb
    have d0 : w1.cell? ⟨w.heap.size, 0, none⟩ = some (.int .i64 0) := by rw [cell_of_row _ _ _ _ _ _ g1]; rfl
    have d1 : w1.cell? ⟨w.heap.size, 1, none⟩ = some (.string (bs a)) := by rw [cell_of_row _ _ _ _ _ _ g1]; rfl
    have d2 : w1.cell? ⟨w.heap.size, 2, none⟩ = some (.string (bs b)) := by rw [cell_of_row _ _ _ _ _ _ g1]; rfl
    have HW := Lib.hid (with_y w1 n c A ls a b (HFR.out.below hb1) HL.out HS.out hn)
    have HB1 := Lib.hid (HB.out.trans (hb1.mono HB.out.size))
    have hap : ∀ w : World, (Op.stringOp .add ⟨#[]⟩ (bs b)).run Try.prog w = .ok (.string (bs b)) w := fun w => add_s (a := []) hz w
    clear hb1 g1 HF c0
    go_wp2_with fail
    refine HW.out.mono ?_
    rintro e w2 ⟨A', c', rfl, hfr, hb2, hat2⟩
    have HR := Lib.hid (And.intro hfr (And.intro hb2 hat2))
    clear hfr hb2 hat2 HW
    go_wp2_with fail
    go_ret
    exact ⟨A', c', rfl, HR.out.1, HB1.out.trans (HR.out.2.1.mono HB1.out.size), fun a e => ⟨Nat.le_trans HB1.out.size (HR.out.2.2 a e).1, (HR.out.2.2 a e).2⟩⟩
  | some y =>
    rw [hg] at HF hz
    have hx := get_at hs hg
    obtain ⟨b0, off, eA, hb0, e0, e1⟩ := hfr.at_ hx
    simp only at e0 e1
    subst eA
    have hPn : pos ls a < n := by
      rcases Nat.lt_or_ge (pos ls a) n with h9 | h9
      · exact h9
      · rw [List.getElem?_eq_none (by omega)] at hx; cases hx
    obtain ⟨P, hP⟩ : ∃ P, pos ls a = P := ⟨_, rfl⟩
    rw [hP] at HF e0 e1 hPn
    have E1 := Lib.hid e1
    clear h hbb gb hfr hfls hl hs hP hg hpl hx e0 e1
    go_enter Try.func59, Try.ntmps59
    go_wp2_with fail
    refine HF.out.mono ?_
    rintro e w1 ⟨rfl, hb1⟩
    have g1 := blk_below hb1 GB.out hlb
    have d0 : w1.cell? ⟨w.heap.size, 0, none⟩ = some (.int .i64 0) := by rw [cell_of_row _ _ _ _ _ _ g1]; rfl
    have d1 : w1.cell? ⟨w.heap.size, 1, none⟩ = some (.string (bs a)) := by rw [cell_of_row _ _ _ _ _ _ g1]; rfl
    have d2 : w1.cell? ⟨w.heap.size, 2, none⟩ = some (.string (bs b)) := by rw [cell_of_row _ _ _ _ _ _ g1]; rfl
    have d3 : w1.cell? ⟨b0, off + P * 2 + 1, none⟩ = some (.string (bs y)) := (hb1.cell (p := ⟨b0, off + P * 2 + 1, none⟩) hb0).trans E1.out
    have hb01 : b0 < w1.heap.size := World.block_lt_of_cell? w1 _ d3
    have p0 : (0 : Int) ≤ (P : Int) := by omega
    have p1 : (P : Int) < (n : Int) := by omega
    have HW := Lib.hid (with_y w1 n c _ ls a (y ++ b) (HFR.out.below hb1) HL.out HS.out hn)
    have HB1 := Lib.hid (HB.out.trans (hb1.mono HB.out.size))
    have hap : ∀ w : World, (Op.stringOp .add (bs y) (bs b)).run Try.prog w = .ok (.string (bs (y ++ b))) w := fun w => add_s (a := y) hz w
    clear hb1 g1 HF c0 hb0
    go_wp2_with fail
    refine HW.out.mono ?_
    rintro e w2 ⟨A', c', rfl, hfr, hb2, hat2⟩
    have HR := Lib.hid (And.intro hfr (And.intro hb2 hat2))
    clear hfr hb2 hat2 HW
    go_wp2_with fail
    go_ret
    exact ⟨A', c', rfl, HR.out.1, HB1.out.trans (HR.out.2.1.mono HB1.out.size), fun a e => ⟨Nat.le_trans HB1.out.size (HR.out.2.2 a e).1, (HR.out.2.2 a e).2⟩⟩
end Go.Proofs.Ytmnliieiiaedeaa.dk
