/-
  The disk's changes settle.
-/
import Derived.Test.YtmnliieiiaedeaaDkOp
namespace Go.Proofs.Ytmnliieiiaedeaa.dk
open Go.ChangeShapes Go.WideShapes Go.ChangeAt Go.RowKit Go.Maps Go.Sort Go.Shelf plain words ord mem al

theorem store_fn (w : World) (fid : FuncId) (caps : Array Value) : (store ⟨w.heap.size, 0, none⟩ (.func (.func fid) #[] caps)).run Try.prog (w.alloc (.cells #[.nilFunc, .bool false] 83)) = .ok () ((w.alloc (.cells #[.nilFunc, .bool false] 83)).setCell ⟨w.heap.size, 0, none⟩ (.func (.func fid) #[] caps)) := by
  rw [run_store Try.prog _ ⟨w.heap.size, 0, none⟩ (.func (.func fid) #[] caps) .plain rfl]
  have h1 := alloc_new w (.cells #[.nilFunc, .bool false] 83)
  have hc : (w.alloc (.cells #[.nilFunc, .bool false] 83)).cell? ⟨w.heap.size, 0, none⟩ = some .nilFunc := by rw [cell_of_row _ _ _ _ _ _ h1]; rfl
  have hf : (w.alloc (.cells #[.nilFunc, .bool false] 83)).frozen? ⟨w.heap.size, 0, none⟩ = false := by unfold World.frozen?; rw [h1]; rfl
  simp only [stored, hc, hf]
  rfl
theorem enters_q (q : Pd) : ∀ (args : Array Value) (w : World), (callFunc q.fid args).run Try.prog w = .ok (.enter q.fid args) w := by
  obtain ⟨c, ba, bb⟩ := q
  cases c with
  | app a b => exact enters_of Try.func44 (by kernel_rfl) rfl
  | ren a b => exact enters_of Try.func63 (by kernel_rfl) rfl
  | rem a => exact enters_of Try.func61 (by kernel_rfl) rfl
def RetSettle (w : World) (p fs fh : Nat) (Fs Fh Fo : Nat → Prop) (ls sh : AL Nm) (v : Value) (ps : List Pd) (due : Due) (dv : Option Nat) (e : Ending) (w' : World) : Prop :=
  e = .returned (.tuple #[]) ∧ ∃ Fs', Parts w' p fs fh Fs' Fh Fo ls sh v ps due dv ∧ Chg Fs w w' ∧ ∀ k, Fs' k → Fs k ∨ w.heap.size ≤ k
set_option maxRecDepth 100000 in
set_option maxHeartbeats 2000000 in
theorem settle_p (w : World) (p : Nat) (room : Int) (fs fh : Nat) (Fs Fh Fo : Nat → Prop) (ls sh : AL Nm) (v : Value) (ps : List Pd) (due : Due) (dv : Option Nat) (dead : Bool) (ops : Int) (n : Nat)
    (hb : w.heap[p]? = some (diskO room fs fh v dv dead ops)) (hP : Parts w p fs fh Fs Fh Fo ls sh v ps due dv) (hn : n ≤ ps.length) (hleg : legal ls (ps.map (·.c)))
    (hpot : fsum ls + sumc (ps.map (·.c)) ≤ 1073741824) (hpl : ls.length + ps.length ≤ 1073741824) :
    Calls Try.prog 47 #[ptr p, .int .i64 (n : Nat)] w (RetSettle w p fs fh Fs Fh Fo (fold ls ((ps.map (·.c)).take n)) sh v ps due dv) := by
  obtain ⟨c0, c1, c2, c3, c4, c5, c6⟩ := disk_cell hb
  obtain ⟨A, c, e1, hA, hNc, hcm⟩ := hP.row.form
  subst e1
  have hp := blk_lt hb
  obtain ⟨N, hN⟩ : ∃ N, ps.length = N := ⟨_, rfl⟩
  rw [hN] at c3 hNc hn hpl
  have n0 : (0 : Int) ≤ (n : Int) := by omega
  have n1 : (n : Int) ≤ (N : Int) := by omega
  have n2 : (n : Int) ≤ (c : Int) := by omega
  have HB := Lib.hid hb
  have HP := Lib.hid hP
  have HN := Lib.hid hN
  have HLEG := Lib.hid hleg
  have HSRT := Lib.hid hP.hs.srt
  clear hb hP hN hleg c0 c1 c2 c4 c5 c6
  go_enter Try.func47, Try.ntmps47
  go_wp2_with fail
  go_loopg [5, 13] n (fun gg s5 s13 wr => ∃ (i : Nat) (Fs' : Nat → Prop), s13 = .int .i64 i ∧ i ≤ n ∧ n - i ≤ gg ∧ Aside (Parts wr p fs fh Fs' Fh Fo (fold ls ((ps.map (·.c)).take i)) sh (.slice A ps.length c) ps due dv) ∧ Aside (Chg Fs w wr) ∧ Aside (∀ k, Fs' k → Fs k ∨ w.heap.size ≤ k))
  case atStart => exact ⟨0, Fs, rfl, Nat.zero_le _, by omega, HP.out, Chg.refl _ _, fun k hk => .inl hk⟩
  case round =>
    obtain ⟨i, Fs', rfl, hi, hg, PT, CH, NW⟩ := hrel
    obtain ⟨wv, rfl⟩ : ∃ wv, wv = wr := ⟨wr, rfl⟩
    by_cases hlt : i < n
    · have hrow := PT.out.row.ls
      obtain ⟨q, hq⟩ := hrow.get (show i < ps.length by rw [HN.out]; omega)
      obtain ⟨b, off, eA, hbl, hcell⟩ := hrow.at_ hq
      have x0 := hcell 0 (by decide)
      have x1 := hcell 1 (by decide)
      have hCE : CE.k = 2 := rfl
      rw [hCE] at x0 x1
      simp only [CE, pdE, Nat.add_zero, List.getElem?_cons_zero, List.getElem?_cons_succ] at x0 x1
      subst eA
      rw [← Nat.add_assoc] at x1
      have i1 : (i : Int) < (n : Int) := by omega
      have i0 : (0 : Int) ≤ (i : Int) := by omega
      have hbp := CH.out.blk HB.out (fun e => HP.out.ap2 p e HP.out.po)
      have d1 := (disk_cell hbp).2.1
      have hpl2 := blk_lt hbp
      have hqc : (ps.map (·.c))[i]? = some q.c := by rw [List.getElem?_map, hq]; rfl
      obtain ⟨fid, hfid⟩ : ∃ fid, q.fid = fid := ⟨_, rfl⟩
      obtain ⟨caps, hcaps⟩ : ∃ caps, q.caps = caps := ⟨_, rfl⟩
      obtain ⟨isA, hisA⟩ : ∃ isA, q.isApp = isA := ⟨_, rfl⟩
      rw [hfid, hcaps] at x0
      rw [hisA] at x1
      have HQ := Lib.hid hq
      have HQC := Lib.hid hqc
      have HF := Lib.hid (And.intro hfid hcaps)
      have hent := enters_q q
      rw [hfid] at hent
      clear hrow hcell hq hqc hfid hcaps hisA hbp
      have hsf := store_fn wv fid caps
      have x0a : (wv.alloc (.cells #[.nilFunc, .bool false] 83)).cell? ⟨wv.heap.size, 0, none⟩ = some .nilFunc := by rw [cell_of_row _ _ _ _ _ _ (alloc_new _ _)]; rfl
      go_wp2_with fail
      obtain ⟨w4, hw4⟩ : ∃ w4, wv.alloc (.cells #[.func (.func fid) #[] caps, .bool isA] 83) = w4 := ⟨_, rfl⟩
      have hb4 : Below wv.heap.size wv w4 := by rw [← hw4]; exact (Below.refl _ _).alloc (Nat.le_refl _) _
      have hal : w4.heap[wv.heap.size]? = some (.cells #[.func (.func fid) #[] caps, .bool isA] 83 (0, 0)) := by rw [← hw4]; exact alloc_new _ _
      have y0 : w4.cell? ⟨wv.heap.size, 0, none⟩ = some (.func (.func fid) #[] caps) := by rw [cell_of_row _ _ _ _ _ _ hal]; rfl
      have y1 : w4.cell? ⟨p, 1, none⟩ = some (ptr fs) := (hb4.cell (p := ⟨p, 1, none⟩) hpl2).trans d1
      have l1 : wv.heap.size < w4.heap.size := blk_lt hal
      have l2 : p < w4.heap.size := by omega
      have z0 := Wb.at_ y0
      have z1 := Wb.at_ y1
      have hP4 := PT.out.quiet hb4
      have hsum1 := fold_sum HSRT.out ((ps.map (·.c)).take i)
      have hsum2 := sumc_at HQC.out
      have hlen1 := fold_len ls ((ps.map (·.c)).take i)
      have hlen2 : ((ps.map (·.c)).take i).length ≤ i := by rw [List.length_take]; omega
      have hP5 := hP4.quiet (w' := w4.drew) (Below.refl _ _).drew
      have HW := Lib.hid (whole_x w4.drew fs Fs' (fold ls ((ps.map (·.c)).take i)) q hP5.hs (hP5.box q (List.mem_of_getElem? HQ.out)) (legal_at HLEG.out HQC.out) (by omega) (by omega))
      rw [HF.out.1, HF.out.2, show whole = 9223372036854775807 from rfl] at HW
      have W4 := Lib.hid hw4
      have B4 := Lib.hid hb4
      have P4 := Lib.hid hP4
      rw [hw4]
      clear hw4 hb4 hal hP4 hP5 hsum1 hsum2 hlen1 hlen2 hsf x0a x0 x1 d1
      refine wp_region_plan [([0, 1, 2, 3, 4, 5], some (6, true)), ([], none)] (by kernel_rfl) (by kernel_rfl) ?_
      refine seg_write _ (by dsimp only [pick, at_]) _ (by dsimp only [pick, at_]) ?_
      repeat (go_big_quiet_step (fail))
      refine wpQuiet_nil ?_
      intro K2 g1
      clear z0 z1
      go_wp2_with (fail)
      refine HW.out.mono ?_
      rintro e w5 hr
      obtain ⟨rfl, hf5, hc5⟩ := RetFil.drew hr
      have hP6 := P4.out.fils hc5 hf5 (fun k hk => hk.new)
      have hs4 : wv.heap.size ≤ w4.heap.size := B4.out.size
      have hch := (CH.out.then_below B4.out).trans hc5 (fun k hk e => (NW.out k e).resolve_right (by omega))
      have P6 := Lib.hid hP6
      have CH6 := Lib.hid hch
      have FT := Lib.hid (fold_take (ls := ls) HQC.out)
      have hwv := CH.out.size
      have NW6 := Lib.hid (show ∀ k, Ext Fs' w4 w5 k → Fs k ∨ w.heap.size ≤ k from fun k hk => by
        rcases hk with e | e
        · exact NW.out k e
        · exact .inr (by omega))
      clear hr hf5 hc5 hP6 hch hent HW
      go_wp2_with (fail)
      refine seg_end _ (by dsimp only [pick, at_]) ?_
      repeat (go_big_quiet_step (fail))
      refine wpQuiet_nil (NoPanic.normal ?_)
      go_wp2_with (fail)
      go_roundg (n - (i + 1))
      case measure => omega
      case rel =>
        refine ⟨i + 1, _, by go_num, by omega, by omega, ?_, CH6.out, NW6.out⟩
        show Parts _ _ _ _ _ _ _ _ _ _ _ _ _
        rw [FT.out]
        exact P6.out
    · have i1 : ¬ (i : Int) < (n : Int) := by omega
      have hin : i = n := by omega
      subst hin
      go_wp2_with fail
      go_end0
      exact ⟨rfl, Fs', PT.out, CH.out, NW.out⟩
end Go.Proofs.Ytmnliieiiaedeaa.dk
