/-
  The document's disk: done, of whatever change.
-/
import Derived.Test.YtmnliieiiaedeaaRd4
namespace Go.Proofs.Ytmnliieiiaedeaa.dk
open Go.ChangeShapes Go.WideShapes Go.ChangeAt Go.RowKit Go.Maps Go.Sort Go.Shelf plain words ord mem al

set_option maxHeartbeats 2000000 in
set_option maxRecDepth 100000 in
theorem rem_y (w : World) (n c : Nat) (A : Option Addr) (ls : AL Nm) (a : Nm) (h : Fr w A c ls) (hl : ls.length = n) (hs : Srt ls) (hn : n ≤ 1000000000) :
    Calls Try.prog 59 #[.slice A n c, .agg #[.int .i64 2, .string (bs a), .string ⟨#[]⟩]] w (RetD w A (done ls (.rem a))) := by
  show Calls Try.prog _ _ w (RetD w A (al.del ls a))
  obtain ⟨wb, hwb⟩ : ∃ wb, w.alloc (.cells #[.int .i64 2, .string (bs a), .string ⟨#[]⟩] 90) = wb := ⟨_, rfl⟩
  have hbb : Below w.heap.size w wb := by rw [← hwb]; exact (Below.refl _ _).alloc (Nat.le_refl _) _
  have gb : wb.heap[w.heap.size]? = some (.cells #[.int .i64 2, .string (bs a), .string ⟨#[]⟩] 90 (0, 0)) := by rw [← hwb]; exact alloc_new _ _
  have hlb : w.heap.size < wb.heap.size := blk_lt gb
  have c0 : wb.cell? ⟨w.heap.size, 1, none⟩ = some (.string (bs a)) := by rw [cell_of_row _ _ _ _ _ _ gb]; rfl
  have hfr := h.below hbb
  have hfls := hfr.ls
  rw [hl] at hfls
  have HF := Lib.hid (find_y wb wb.heap.size n c A ls a hfls (Nat.le_refl _) hs (by omega))
  have HFR := Lib.hid hfr
  have HB := Lib.hid hbb
  have GB := Lib.hid gb
  have HL := Lib.hid hl
  have hps := fun hg => pos_some hs (q := a) hg
  have HDP := Lib.hid (fun hg => del_pos hs (q := a) hg)
  have HDA := Lib.hid (fun hg => @del_absent _ ls a hg)
  cases hg : al.get ls a with
  | none =>
    have hd := HDA.out hg
    rw [hd]
    rw [hg] at HF
    obtain ⟨P, hP⟩ : ∃ P, pos ls a = P := ⟨_, rfl⟩
    rw [hP] at HF
    clear h hbb gb hfr hfls hl hs hP hg hps HDP HDA hd
    go_enter Try.func59, Try.ntmps59
    go_wp2_with fail
    refine HF.out.mono ?_
    rintro e w1 ⟨rfl, hb1⟩
    have g1 := blk_below hb1 GB.out hlb
    have d0 : w1.cell? ⟨w.heap.size, 0, none⟩ = some (.int .i64 2) := by rw [cell_of_row _ _ _ _ _ _ g1]; rfl
    have FR1 := Lib.hid (HFR.out.below hb1)
    have HB1 := Lib.hid (HB.out.trans (hb1.mono HB.out.size))
    clear hb1 g1 HF c0
    go_wp2_with fail
    go_ret
    exact ⟨A, c, by rw [HL.out]; rfl, FR1.out, HB1.out, .inl rfl⟩
  | some y =>
    have hgs : (al.get ls a).isSome = true := by rw [hg]; rfl
    have hd := HDP.out hgs
    have hPn := hps hgs
    rw [hd]
    rw [hg] at HF
    rw [hl] at hPn
    obtain ⟨P, hP⟩ : ∃ P, pos ls a = P := ⟨_, rfl⟩
    rw [hP] at HF hPn ⊢
    obtain ⟨l', hl'⟩ : ∃ l', ls.take P ++ ls.drop (P + 1) = l' := ⟨_, rfl⟩
    rw [hl']
    have HLE := Lib.hid hl'
    clear h hbb gb hfr hfls hl hs hP hg hps HDP HDA hd hgs hl'
    go_enter Try.func59, Try.ntmps59
    go_wp2_with fail
    refine HF.out.mono ?_
    rintro e w1 ⟨rfl, hb1⟩
    have g1 := blk_below hb1 GB.out hlb
    have d0 : w1.cell? ⟨w.heap.size, 0, none⟩ = some (.int .i64 2) := by rw [cell_of_row _ _ _ _ _ _ g1]; rfl
    have HW := Lib.hid (without_y w1 n c A ls P (HFR.out.below hb1) hPn HL.out hn)
    rw [HLE.out] at HW
    have HB1 := Lib.hid (HB.out.trans (hb1.mono HB.out.size))
    clear hb1 g1 HF c0
    go_wp2_with fail
    refine HW.out.mono ?_
    rintro e w2 ⟨A', c', rfl, hfr, hb2, hat2⟩
    have HR := Lib.hid (And.intro hfr (And.intro hb2 hat2))
    clear hfr hb2 hat2 HW
    go_wp2_with fail
    go_ret
    exact ⟨A', c', rfl, HR.out.1, HB1.out.trans (HR.out.2.1.mono HB1.out.size), .inr fun a e => ⟨Nat.le_trans HB1.out.size (HR.out.2.2 a e).1, (HR.out.2.2 a e).2⟩⟩
set_option maxHeartbeats 2000000 in
set_option maxRecDepth 100000 in
theorem ren_y (w : World) (n c : Nat) (A : Option Addr) (ls : AL Nm) (a b : Nm) (h : Fr w A c ls) (hl : ls.length = n) (hs : Srt ls) (hn : n ≤ 1000000000) :
    Calls Try.prog 59 #[.slice A n c, .agg #[.int .i64 1, .string (bs a), .string (bs b)]] w (RetD w A (done ls (.ren a b))) := by
  show Calls Try.prog _ _ w (RetD w A (mv ls a b))
  obtain ⟨wb, hwb⟩ : ∃ wb, w.alloc (.cells #[.int .i64 1, .string (bs a), .string (bs b)] 90) = wb := ⟨_, rfl⟩
  have hbb : Below w.heap.size w wb := by rw [← hwb]; exact (Below.refl _ _).alloc (Nat.le_refl _) _
  have gb : wb.heap[w.heap.size]? = some (.cells #[.int .i64 1, .string (bs a), .string (bs b)] 90 (0, 0)) := by rw [← hwb]; exact alloc_new _ _
  have hlb : w.heap.size < wb.heap.size := blk_lt gb
  have c0 : wb.cell? ⟨w.heap.size, 1, none⟩ = some (.string (bs a)) := by rw [cell_of_row _ _ _ _ _ _ gb]; rfl
  have hfr := h.below hbb
  have hfls := hfr.ls
  rw [hl] at hfls
  have HF := Lib.hid (find_y wb wb.heap.size n c A ls a hfls (Nat.le_refl _) hs (by omega))
  have HFR := Lib.hid hfr
  have HB := Lib.hid hbb
  have GB := Lib.hid gb
  have HL := Lib.hid hl
  have HS := Lib.hid hs
  have hps := fun hg => pos_some hs (q := a) hg
  have HDP := Lib.hid (fun hg => del_pos hs (q := a) hg)
  have hed := eq_dec a b
  cases hg : al.get ls a with
  | none =>
    have hd : mv ls a b = ls := by unfold mv; split; rfl; rw [hg]
    rw [hd]
    rw [hg] at HF
    obtain ⟨P, hP⟩ : ∃ P, pos ls a = P := ⟨_, rfl⟩
    rw [hP] at HF
    clear h hbb gb hfr hfls hl hs hP hg hps HDP hd hed
    go_enter Try.func59, Try.ntmps59
    go_wp2_with fail
    refine HF.out.mono ?_
    rintro e w1 ⟨rfl, hb1⟩
    have g1 := blk_below hb1 GB.out hlb
    have d0 : w1.cell? ⟨w.heap.size, 0, none⟩ = some (.int .i64 1) := by rw [cell_of_row _ _ _ _ _ _ g1]; rfl
    have FR1 := Lib.hid (HFR.out.below hb1)
    have HB1 := Lib.hid (HB.out.trans (hb1.mono HB.out.size))
    clear hb1 g1 HF c0
    go_wp2_with fail
    go_ret
    exact ⟨A, c, by rw [HL.out]; rfl, FR1.out, HB1.out, .inl rfl⟩
  | some y =>
    by_cases hab : a = b
    · have hd : mv ls a b = ls := by unfold mv; rw [if_pos hab]
      rw [hd]
      rw [hg] at HF
      rw [decide_eq_true hab] at hed
      obtain ⟨P, hP⟩ : ∃ P, pos ls a = P := ⟨_, rfl⟩
      rw [hP] at HF
      clear h hbb gb hfr hfls hl hs hP hg hps HDP hd hab
      go_enter Try.func59, Try.ntmps59
      go_wp2_with fail
      refine HF.out.mono ?_
      rintro e w1 ⟨rfl, hb1⟩
      have g1 := blk_below hb1 GB.out hlb
      have d0 : w1.cell? ⟨w.heap.size, 0, none⟩ = some (.int .i64 1) := by rw [cell_of_row _ _ _ _ _ _ g1]; rfl
      have d1 : w1.cell? ⟨w.heap.size, 1, none⟩ = some (.string (bs a)) := by rw [cell_of_row _ _ _ _ _ _ g1]; rfl
      have d2 : w1.cell? ⟨w.heap.size, 2, none⟩ = some (.string (bs b)) := by rw [cell_of_row _ _ _ _ _ _ g1]; rfl
      have FR1 := Lib.hid (HFR.out.below hb1)
      have HB1 := Lib.hid (HB.out.trans (hb1.mono HB.out.size))
      clear hb1 g1 HF c0
      go_wp2_with fail
      go_ret
      exact ⟨A, c, by rw [HL.out]; rfl, FR1.out, HB1.out, .inl rfl⟩
    · have hgs : (al.get ls a).isSome = true := by rw [hg]; rfl
      have hmv : mv ls a b = al.put (al.del ls a) b y := by unfold mv; rw [if_neg hab, hg]
      have hd := HDP.out hgs
      have hPn := hps hgs
      have hsd : Srt (al.del ls a) := srt_del hs _
      have hx := get_at hs hg
      obtain ⟨b0, off, eA, hb0, e0, e1⟩ := hfr.at_ hx
      simp only at e0 e1
      subst eA
      rw [hd] at hmv hsd
      rw [hmv]
      rw [hg] at HF
      rw [hl] at hPn
      rw [decide_eq_false hab] at hed
      obtain ⟨P, hP⟩ : ∃ P, pos ls a = P := ⟨_, rfl⟩
      rw [hP] at HF hPn hsd e0 e1 ⊢
      obtain ⟨l', hl'⟩ : ∃ l', ls.take P ++ ls.drop (P + 1) = l' := ⟨_, rfl⟩
      rw [hl'] at hsd ⊢
      have hln : l'.length ≤ 1000000000 := by rw [← hl', List.length_append, List.length_take, List.length_drop]; omega
      obtain ⟨n', hn'⟩ : ∃ n', l'.length = n' := ⟨_, rfl⟩
      rw [hn'] at hln
      have HLE := Lib.hid (And.intro hl' hn')
      have E1 := Lib.hid e1
      have SD := Lib.hid hsd
      clear h hbb gb hfr hfls hl hs hP hg hps HDP hd hab hmv hgs hsd hx e0 e1 hl' hn'
      go_enter Try.func59, Try.ntmps59
      go_wp2_with fail
      refine HF.out.mono ?_
      rintro e w1 ⟨rfl, hb1⟩
      have g1 := blk_below hb1 GB.out hlb
      have d0 : w1.cell? ⟨w.heap.size, 0, none⟩ = some (.int .i64 1) := by rw [cell_of_row _ _ _ _ _ _ g1]; rfl
      have d1 : w1.cell? ⟨w.heap.size, 1, none⟩ = some (.string (bs a)) := by rw [cell_of_row _ _ _ _ _ _ g1]; rfl
      have d2 : w1.cell? ⟨w.heap.size, 2, none⟩ = some (.string (bs b)) := by rw [cell_of_row _ _ _ _ _ _ g1]; rfl
      have d3 : w1.cell? ⟨b0, off + P * 2 + 1, none⟩ = some (.string (bs y)) := (hb1.cell (p := ⟨b0, off + P * 2 + 1, none⟩) hb0).trans E1.out
      have hb01 : b0 < w1.heap.size := World.block_lt_of_cell? w1 _ d3
      have lw1 : w.heap.size < w1.heap.size := blk_lt g1
      have p0 : (0 : Int) ≤ (P : Int) := by omega
      have p1 : (P : Int) < (n : Int) := by omega
      have HB1 := Lib.hid (HB.out.trans (hb1.mono HB.out.size))
      have HWO := Lib.hid (without_y w1.drew n c _ ls P ((HFR.out.below hb1).below (Below.refl _ _).drew) hPn HL.out hn)
      have G1 := Lib.hid g1
      rw [HLE.out.1] at HWO
      unfold RetF at HWO
      rw [HLE.out.2] at HWO
      have z2 := Wb.at_ d2
      clear hb1 g1 HF c0 hb0
      go_wp2_with fail
      refine wp_region_plan [([0, 1, 3, 4, 5, 6], some (2, false)), ([], some (7, false)), ([8], none)] (by kernel_rfl) (by kernel_rfl) ?_
      refine seg_act _ (by dsimp only [pick, at_]) _ (by dsimp only [pick, at_]) ?_
      repeat (go_big_quiet_step (fail))
      refine wpQuiet_nil ?_
      intro K1 h1 h2
      clear h1 z2
      go_wp2_with (fail)
      refine HWO.out.mono ?_
      rintro e w2 ⟨A', c', rfl, hfr2, hb2, _⟩
      have HW2 := Lib.hid (with_y w2 n' c' A' l' b y hfr2 HLE.out.2 SD.out hln)
      have b12 : Below w1.heap.size w1 w2 := ((Below.refl _ w1).drew).trans hb2
      have HB2 := Lib.hid (HB1.out.trans (b12.mono HB1.out.size))
      clear hfr2 hb2 HWO
      go_wp2_with (fail)
      refine h2 _ _ b12 ?_
      clear h2 b12
      refine seg_act _ (by dsimp only [pick, at_]) _ (by dsimp only [pick, at_]) ?_
      repeat (go_big_quiet_step (fail))
      refine wpQuiet_nil ?_
      intro K3 h1 h2
      clear h1
      go_wp2_with (fail)
      refine HW2.out.mono ?_
      rintro e w3 ⟨A3, c3, rfl, hfr3, hb3, hat3⟩
      have HR := Lib.hid (And.intro hfr3 (And.intro (HB2.out.trans (hb3.mono HB2.out.size)) (fun a (e : A3 = some a) => And.intro (Nat.le_trans HB2.out.size (hat3 a e).1) (hat3 a e).2)))
      clear hat3
      clear HW2 hfr3
      go_wp2_with (fail)
      refine h2 _ _ hb3 ?_
      clear h2 hb3
      refine seg_end _ (by dsimp only [pick, at_]) ?_
      repeat (go_big_quiet_step (fail))
      refine wpQuiet_nil (NoPanic.normal ?_)
      go_wp2_with fail
      go_ret
      exact ⟨A3, c3, rfl, HR.out.1, HR.out.2.1, .inr HR.out.2.2⟩
end Go.Proofs.Ytmnliieiiaedeaa.dk
