/-
  The power goes.
-/
import Derived.Test.YtmnliieiiaedeaaDkSt
namespace Go.Proofs.Ytmnliieiiaedeaa.dk
open Go.ChangeShapes Go.WideShapes Go.ChangeAt Go.RowKit Go.Maps Go.Sort Go.Shelf plain words ord mem al

/-- what of a change is kept of which only a part is -/
def partOf (ls : AL Nm) (c : Option Chn) (part : Int) : AL Nm := match c with
  | some (.app a b) => if 0 < part then done ls (.app a (b.take (min part (b.length : Int)).toNat)) else ls
  | _ => ls
def keptN (keep : Int) (n : Nat) : Nat := (min (max keep 0) (n : Int)).toNat
def crashSt (st : St) (keep part : Int) : St := if st.dead then st else
  { st with last := partOf (fold st.last (st.pend.take (keptN keep st.pend.length))) st.pend[keptN keep st.pend.length]? part, pend := [], due := none, dead := true }
theorem setp_obj {w : World} {p o : Nat} {c : Array Value} {t : TypeId} {f : Nat × Nat} {u : Value} (h : w.heap[p]? = some (.cells c t f)) : (w.setCell ⟨p, o, none⟩ u).heap[p]? = some (.cells (c.setIfInBounds o u) t f) := by
  simp [World.setCell, Array.getElem?_modify, h]
theorem sumc_take (l : List Chn) (n : Nat) : sumc (l.take n) ≤ sumc l := by
  induction l generalizing n with
  | nil => simp [sumc]
  | cons c r ih =>
    cases n with
    | zero => simp [sumc]
    | succ n =>
      have := ih n
      simp only [sumc, List.take_succ_cons, List.map_cons, List.sum_cons] at this ⊢
      omega
theorem crash_end {w wt w5 : World} {due : Due} {p fs fh c5 : Nat} {Fs Ft Fh Fo F : Nat → Prop} {lt sh : AL Nm} {v : Value} {ps : List Pd} {st : St} {dv : Option Nat} {room : Int} {ops : Int} {dead : Bool}
    (hst : st = { room := room, last := lt, pend := [], due := none, dead := true, ops := ops })
    (hb : wt.heap[p]? = some (diskO room fs fh v dv dead ops)) (hP : Parts wt p fs fh Ft Fh Fo lt sh v ps due dv) (hch : Chg Fs w wt) (hnw : ∀ k, Ft k → Fs k ∨ w.heap.size ≤ k)
    (hFs : ∀ k, Fs k ∨ Fo k → F k) (hlt : ∀ k, F k → k < w.heap.size) (hb5 : w5.heap[p]? = some (diskO room fs fh v dv dead ops)) (hc5 : wt.heap.size ≤ c5) (hf5 : Fil w5 c5 (fun k => wt.heap.size ≤ k ∧ k < w5.heap.size) lt) (hs5 : Fil w5 fs Ft lt) (hch5 : Chg Ft wt w5) :
    RetDk w p F st (.tuple #[]) (.returned (.tuple #[])) ((((w5.setCell ⟨p, 2, none⟩ (ptr c5)).setCell ⟨p, 3, none⟩ (.slice none 0 0)).setCell ⟨p, 4, none⟩ (.pointer none)).setCell ⟨p, 5, none⟩ (.bool true)) := by
  obtain ⟨w6, hw6⟩ : ∃ w6, (((w5.setCell ⟨p, 2, none⟩ (ptr c5)).setCell ⟨p, 3, none⟩ (.slice none 0 0)).setCell ⟨p, 4, none⟩ (.pointer none)).setCell ⟨p, 5, none⟩ (.bool true) = w6 := ⟨_, rfl⟩
  have hc6 : Chg (fun k => k = p) w5 w6 := by
    rw [← hw6]
    exact (((chg_set _ _ _ _).trans (chg_set _ _ _ _) (fun _ _ e => e)).trans (chg_set _ _ _ _) (fun _ _ e => e)).trans (chg_set _ _ _ _) (fun _ _ e => e)
  have hb6 : w6.heap[p]? = some (diskO room fs c5 (.slice none 0 0) none true ops) := by
    rw [← hw6, setp_obj (setp_obj (setp_obj (setp_obj hb5)))]
    rfl
  rw [hw6]
  have hFo := hP.po
  have hpt : p < wt.heap.size := blk_lt hb
  have hpFt : ¬ Ft p := fun e => hP.ap2 p e hFo
  have hFtl : ∀ k, Ft k → k < wt.heap.size := by obtain ⟨_, _, _, _, _, _, h9⟩ := hP.hs; exact h9
  have hs05 : w.heap.size ≤ wt.heap.size := hch.size
  have hs5' : wt.heap.size ≤ w5.heap.size := hch5.size
  have hs6 : w5.heap.size ≤ w6.heap.size := hc6.size
  have hcF : Chg F w w6 := by
    have h1 := hch.trans hch5 (fun k hk e => (hnw k e).resolve_right (by omega))
    refine ((h1.mono (S' := fun k => Fs k ∨ k = p) (fun _ _ e => .inl e)).trans hc6 (fun k _ e => .inr e)).mono (fun k _ e => ?_)
    rcases e with e | e
    · exact hFs k (.inl e)
    · subst e; exact hFs _ (.inr hFo)
  refine ⟨rfl, ?_, hcF⟩
  subst hst
  refine ⟨fs, c5, Ft, (fun k => wt.heap.size ≤ k ∧ k < w5.heap.size), (fun k => k = p), .slice none 0 0, [], none, hb6, ?_, rfl, trivial, fun k hk => ?_, ext_lt hlt (by omega)⟩
  · exact ⟨hs5.chg hc6 (fun k hk e => hpFt (e ▸ hk)), hf5.chg hc6 (fun k hk e => by omega), Rw.nil _, fun q hq => (by cases hq), trivial, rfl, fun g hg => (by cases hg), fun q hq => (by cases hq), fun k hk e => by have := hFtl k hk; omega, fun k hk e => hpFt (e ▸ hk), fun k hk e => by omega, fun k hk => by subst hk; exact blk_lt hb6⟩
  · rcases hk with e | e | e
    · rcases hnw k e with h | h
      · exact .inl (hFs k (.inl h))
      · exact .inr ⟨h, by have := hFtl k e; omega⟩
    · exact .inr ⟨by omega, by omega⟩
    · subst e; exact .inl (hFs _ (.inr hFo))
set_option maxRecDepth 100000 in
set_option maxHeartbeats 4000000 in
theorem crash_d (w : World) (p : Nat) (F : Nat → Prop) (st : St) (keep part : Int) (h : Dk w p F st) (hpot : fsum st.last + sumc st.pend ≤ 1073741824) (hpl : st.last.length + st.pend.length ≤ 1073741824) :
    Calls Try.prog 16 #[ptr p, .int .i64 keep, .int .i64 part] w (RetDk w p F (crashSt st keep part) (.tuple #[])) := by
  have HD := Lib.hid h
  have hlt := h.lt
  obtain ⟨fs, fh, Fs, Fh, Fo, v, ps, dv, h1, h2, h3, h4, h5, h6⟩ := h
  obtain ⟨c0, c1, c2, c3, c4, c5, c6⟩ := disk_cell h1
  have hp := blk_lt h1
  obtain ⟨room, ls, pd, due, dead, ops⟩ := st
  simp only [St.shown] at h1 h2 h3 h4 c0 c1 c2 c3 c4 c5 c6 hpot hpl
  cases dead with
  | true =>
    have he : crashSt ⟨room, ls, pd, due, true, ops⟩ keep part = ⟨room, ls, pd, due, true, ops⟩ := rfl
    rw [he]
    clear h1 h2 h3 h4 h5 h6 c0 c1 c2 c3 c4 c6 he
    go_enter Try.func16, Try.ntmps16
    go_wp2_with fail
    go_end0
    exact ⟨rfl, HD.out.mono (fun k hk => .inl hk) (ext_lt hlt (Nat.le_refl _)), Chg.refl _ _⟩
  | false =>
    obtain ⟨A, c, e1, hA, hNc, hcm⟩ := h2.row.form
    subst e1
    obtain ⟨N, hN⟩ : ∃ N, ps.length = N := ⟨_, rfl⟩
    have hNp : pd.length = N := by rw [← h3, List.length_map, hN]
    obtain ⟨n, hn⟩ : ∃ n : Nat, min (max keep 0) (N : Int) = (n : Int) := ⟨(min (max keep 0) (N : Int)).toNat, by omega⟩
    have hnN : n ≤ N := by omega
    have hkn : keptN keep pd.length = n := by
      unfold keptN
      rw [hNp]
      omega
    have hcs : crashSt ⟨room, ls, pd, due, false, ops⟩ keep part = ⟨room, partOf (fold ls (pd.take n)) pd[n]? part, [], none, true, ops⟩ := by
      unfold crashSt
      rw [hkn]
      rfl
    rw [hcs]
    rw [hN] at c3
    have hleg' : legal ls (ps.map (·.c)) := by rw [h3]; exact h4
    have HSE := Lib.hid (settle_p w p room fs fh Fs Fh Fo ls (fold ls pd) (.slice A ps.length c) ps due dv false ops n h1 h2 (by rw [hN]; exact hnN) hleg' (by rw [h3]; exact hpot) (by rw [← h3, List.length_map] at hpl; exact hpl))
    have HB := Lib.hid h1
    have HP := Lib.hid h2
    have H3 := Lib.hid h3
    have HN := Lib.hid hN
    have LTO := Lib.hid (show ∀ k, Fs k ∨ Fo k → F k from fun k hk => h5 k (by rcases hk with e | e; exact .inl e; exact .inr (.inr e)))
    have LTF := Lib.hid hlt
    have HSRT := Lib.hid h2.hs.srt
    have HS1 := Lib.hid (fold_sum h2.hs.srt (pd.take n))
    have HL1 := Lib.hid (fold_len ls (pd.take n))
    have HL2 := Lib.hid (show (pd.take n).length ≤ pd.length by rw [List.length_take]; omega)
    have HNN := Lib.hid hn
    have HLG := Lib.hid h4
    clear h1 h2 h3 h4 h5 h6 hlt hN hNp hcs hkn hleg' hn c0 c1 c2 c4 c6
    go_enter Try.func16, Try.ntmps16
    go_wp2_with fail
    rw [HNN.out]
    refine HSE.out.mono ?_
    rintro e w1 ⟨rfl, Ft, hP1, hch1, hnw1⟩
    rw [H3.out] at hP1
    have hb1 := hch1.blk HB.out (fun e => HP.out.ap2 p e HP.out.po)
    obtain ⟨_, d1, _, d3, _, d5, _⟩ := disk_cell hb1
    have hp1 := blk_lt hb1
    rw [HN.out] at d3
    have CHT := Lib.hid hch1
    have NWT := Lib.hid hnw1
    have PTT := Lib.hid hP1
    have HBT := Lib.hid hb1
    clear hP1 hch1 hnw1 hb1 HSE c3 c5
    rcases Nat.lt_or_ge n N with hlt | hge
    · have i1 : (n : Int) < (N : Int) := by omega
      have i0 : (0 : Int) ≤ (n : Int) := by omega
      obtain ⟨q, hq⟩ := PTT.out.row.ls.get (show n < ps.length by rw [HN.out]; exact hlt)
      obtain ⟨b, off, eA, hbl, hcell⟩ := PTT.out.row.ls.at_ hq
      have x0 := hcell 0 (by decide)
      have x1 := hcell 1 (by decide)
      have hCE : CE.k = 2 := rfl
      rw [hCE] at x0 x1
      simp only [CE, pdE, Nat.add_zero, List.getElem?_cons_zero, List.getElem?_cons_succ] at x0 x1
      subst eA
      rw [← Nat.add_assoc] at x1
      have hqc : pd[n]? = some q.c := by rw [← H3.out, List.getElem?_map, hq]; rfl
      have hbox := PTT.out.box q (List.mem_of_getElem? hq)
      have HQC := Lib.hid hqc
      clear hcell hq
      obtain ⟨qc, ba, bb⟩ := q
      cases qc with
      | app a bt =>
        by_cases hpart : 0 < part
        · have hlt3 : (partOf (fold ls (pd.take n)) pd[n]? part) = done (fold ls (pd.take n)) (.app a (bt.take (min part (bt.length : Int)).toNat)) := by
            rw [HQC.out]; simp only [partOf]; rw [if_pos hpart]
          have hsc := sumc_at HQC.out
          simp only [chlen] at hsc
          have PART := Lib.hid hlt3
          have BOX := Lib.hid hbox
          simp only [Pd.fid, Pd.caps] at x0
          simp only [Pd.isApp] at x1
          have HLT := Lib.hid hlt3
          have hok : okc (fold ls (pd.take n)) (.app a bt) := legal_at HLG.out HQC.out
          have HAP := Lib.hid (app_x w1.drew fs Ft (fold ls (pd.take n)) a bt ba bb (min part (bt.length : Int)).toNat part (PTT.out.quiet (w' := w1.drew) (Below.refl _ _).drew).hs (Pd.boxes_chg hbox (Chg.refl (fun _ => False) _).drew (fun _ _ e => e)).1 (Pd.boxes_chg hbox (Chg.refl (fun _ => False) _).drew (fun _ _ e => e)).2 hok (by omega) rfl (by have := HS1.out; have : fsum (fold ls (pd.take n)) ≤ fsum ls + sumc (pd.take n) := HS1.out; omega) (by have := HL1.out; have := HL2.out; omega))
          have z0 := Wb.at_ x0
          have z1 := Wb.at_ d1
          have z3 := Wb.at_ d3
          have lb : b < w1.heap.size := World.block_lt_of_cell? w1 _ x0
          clear hbox hqc hlt3 hsc hok
          go_wp2_with fail
          refine wp_region_plan [([0, 1, 2, 3, 4, 5, 6, 7, 8, 9, 10, 11, 12], some (13, true)), ([], none)] (by kernel_rfl) (by kernel_rfl) ?_
          refine seg_write _ (by dsimp only [pick, at_]) _ (by dsimp only [pick, at_]) ?_
          repeat (go_big_quiet_step (fail))
          refine wpQuiet_nil ?_
          intro K2 g1
          clear z0 z1 z3
          go_wp2_with (fail)
          refine HAP.out.mono ?_
          rintro e w2 hr
          obtain ⟨rfl, hf2, hc2⟩ := RetFil.drew hr
          obtain ⟨lt, hlt9⟩ : ∃ lt, done (fold ls (pd.take n)) (.app a (bt.take (min part (bt.length : Int)).toNat)) = lt := ⟨_, rfl⟩
          rw [hlt9] at hf2
          have hlt4 := PART.out
          rw [hlt9] at hlt4
          have HLT2 := Lib.hid hlt4
          have HBT2 := Lib.hid (hc2.blk HBT.out (fun e => PTT.out.ap2 p e PTT.out.po))
          have PTT2 := Lib.hid (PTT.out.fils hc2 hf2 (fun k hk => hk.new))
          have hs01 : w.heap.size ≤ w1.heap.size := CHT.out.size
          have CHT2 := Lib.hid (CHT.out.trans hc2 (fun k hk e => (NWT.out k e).resolve_right (by omega)))
          have NWT2 := Lib.hid (show ∀ k, Ext Ft w1 w2 k → Fs k ∨ w.heap.size ≤ k from fun k hk => by
            rcases hk with e | e
            · exact NWT.out k e
            · exact .inr (by omega))
          have hds : fsum lt ≤ fsum ls + sumc pd := by
            have h7 := done_sum (fold_srt HSRT.out (pd.take n)) (.app a (bt.take (min part (bt.length : Int)).toNat))
            have h8 := sumc_at HQC.out
            have h9 := HS1.out
            rw [hlt9] at h7
            simp only [chlen, List.length_take] at h7 h8
            omega
          have hdl : lt.length ≤ ls.length + pd.length + 1 := by
            have h7 := done_len (fold ls (pd.take n)) (.app a (bt.take (min part (bt.length : Int)).toNat))
            have h8 := HL1.out
            have h9 := HL2.out
            rw [hlt9] at h7
            omega
          clear hr hf2 hc2 hlt4 hlt9 HAP
          go_wp2_with (fail)
          refine seg_end _ (by dsimp only [pick, at_]) ?_
          repeat (go_big_quiet_step (fail))
          refine wpQuiet_nil (NoPanic.normal ?_)
          have hlast : fsum lt ≤ 1099511627776 := by
            omega
          have hlen9 : (lt).length < 1099511627776 := by
            omega
          have HCL := Lib.hid (clone_f w2 fs (Ext Ft w1 w2) (lt) PTT2.out.hs hlast hlen9)
          obtain ⟨_, e1t, e2t, _⟩ := disk_cell HBT2.out
          have hplt : p < w2.heap.size := blk_lt HBT2.out
          clear hlast hlen9
          go_wp2_with fail
          refine HCL.out.mono ?_
          rintro e w5 ⟨c5, rfl, hc5, hf5, hs5, hch5⟩
          have hb5 := hch5.blk HBT2.out (fun e => PTT2.out.ap2 p e PTT2.out.po)
          obtain ⟨g0, g1, g2, g3, g4, g5, g6⟩ := disk_cell hb5
          have fz2 := disk_froz hb5 2
          have fz3 := disk_froz hb5 3
          have fz4 := disk_froz hb5 4
          have fz5 := disk_froz hb5 5
          have hpl5 : p < w5.heap.size := blk_lt hb5
          have HB5 := Lib.hid hb5
          have F5 := Lib.hid hf5
          have S5 := Lib.hid hs5
          have CH5 := Lib.hid hch5
          clear hb5 hf5 hs5 hch5 g0 g1 g6 HCL
          go_wp2_with fail
          go_end0
          exact crash_end (w := w) (wt := w2) (by rw [HLT2.out]) HBT2.out PTT2.out CHT2.out NWT2.out LTO.out LTF.out HB5.out hc5 F5.out S5.out CH5.out
        · have hlt3 : (partOf (fold ls (pd.take n)) pd[n]? part) = fold ls (pd.take n) := by
            rw [HQC.out]; simp only [partOf]; rw [if_neg hpart]
          have HLT := Lib.hid hlt3
          simp only [Pd.isApp] at x1
          clear hbox hqc hlt3 x0
          go_wp2_with fail
          have hlast : fsum (fold ls (pd.take n)) ≤ 1099511627776 := by
            have := HS1.out; have h8 : sumc (pd.take n) ≤ sumc pd := sumc_take pd n; omega
          have hlen9 : (fold ls (pd.take n)).length < 1099511627776 := by
            have := HL1.out; have := HL2.out; omega
          have HCL := Lib.hid (clone_f w1 fs Ft (fold ls (pd.take n)) PTT.out.hs hlast hlen9)
          obtain ⟨_, e1t, e2t, _⟩ := disk_cell HBT.out
          have hplt : p < w1.heap.size := blk_lt HBT.out
          clear hlast hlen9
          go_wp2_with fail
          refine HCL.out.mono ?_
          rintro e w5 ⟨c5, rfl, hc5, hf5, hs5, hch5⟩
          have hb5 := hch5.blk HBT.out (fun e => PTT.out.ap2 p e PTT.out.po)
          obtain ⟨g0, g1, g2, g3, g4, g5, g6⟩ := disk_cell hb5
          have fz2 := disk_froz hb5 2
          have fz3 := disk_froz hb5 3
          have fz4 := disk_froz hb5 4
          have fz5 := disk_froz hb5 5
          have hpl5 : p < w5.heap.size := blk_lt hb5
          have HB5 := Lib.hid hb5
          have F5 := Lib.hid hf5
          have S5 := Lib.hid hs5
          have CH5 := Lib.hid hch5
          clear hb5 hf5 hs5 hch5 g0 g1 g6 HCL
          go_wp2_with fail
          go_end0
          exact crash_end (w := w) (wt := w1) (by rw [HLT.out]) HBT.out PTT.out CHT.out NWT.out LTO.out LTF.out HB5.out hc5 F5.out S5.out CH5.out
      | ren a bt =>
        have hlt3 : (partOf (fold ls (pd.take n)) pd[n]? part) = fold ls (pd.take n) := by
          rw [HQC.out]; rfl
        have HLT := Lib.hid hlt3
        simp only [Pd.isApp] at x1
        clear hbox hqc hlt3 x0
        go_wp2_with fail
        have hlast : fsum (fold ls (pd.take n)) ≤ 1099511627776 := by
          have := HS1.out; have h8 : sumc (pd.take n) ≤ sumc pd := sumc_take pd n; omega
        have hlen9 : (fold ls (pd.take n)).length < 1099511627776 := by
          have := HL1.out; have := HL2.out; omega
        have HCL := Lib.hid (clone_f w1 fs Ft (fold ls (pd.take n)) PTT.out.hs hlast hlen9)
        obtain ⟨_, e1t, e2t, _⟩ := disk_cell HBT.out
        have hplt : p < w1.heap.size := blk_lt HBT.out
        clear hlast hlen9
        go_wp2_with fail
        refine HCL.out.mono ?_
        rintro e w5 ⟨c5, rfl, hc5, hf5, hs5, hch5⟩
        have hb5 := hch5.blk HBT.out (fun e => PTT.out.ap2 p e PTT.out.po)
        obtain ⟨g0, g1, g2, g3, g4, g5, g6⟩ := disk_cell hb5
        have fz2 := disk_froz hb5 2
        have fz3 := disk_froz hb5 3
        have fz4 := disk_froz hb5 4
        have fz5 := disk_froz hb5 5
        have hpl5 : p < w5.heap.size := blk_lt hb5
        have HB5 := Lib.hid hb5
        have F5 := Lib.hid hf5
        have S5 := Lib.hid hs5
        have CH5 := Lib.hid hch5
        clear hb5 hf5 hs5 hch5 g0 g1 g6 HCL
        go_wp2_with fail
        go_end0
        exact crash_end (w := w) (wt := w1) (by rw [HLT.out]) HBT.out PTT.out CHT.out NWT.out LTO.out LTF.out HB5.out hc5 F5.out S5.out CH5.out
      | rem a =>
        have hlt3 : (partOf (fold ls (pd.take n)) pd[n]? part) = fold ls (pd.take n) := by
          rw [HQC.out]; rfl
        have HLT := Lib.hid hlt3
        simp only [Pd.isApp] at x1
        clear hbox hqc hlt3 x0
        go_wp2_with fail
        have hlast : fsum (fold ls (pd.take n)) ≤ 1099511627776 := by
          have := HS1.out; have h8 : sumc (pd.take n) ≤ sumc pd := sumc_take pd n; omega
        have hlen9 : (fold ls (pd.take n)).length < 1099511627776 := by
          have := HL1.out; have := HL2.out; omega
        have HCL := Lib.hid (clone_f w1 fs Ft (fold ls (pd.take n)) PTT.out.hs hlast hlen9)
        obtain ⟨_, e1t, e2t, _⟩ := disk_cell HBT.out
        have hplt : p < w1.heap.size := blk_lt HBT.out
        clear hlast hlen9
        go_wp2_with fail
        refine HCL.out.mono ?_
        rintro e w5 ⟨c5, rfl, hc5, hf5, hs5, hch5⟩
        have hb5 := hch5.blk HBT.out (fun e => PTT.out.ap2 p e PTT.out.po)
        obtain ⟨g0, g1, g2, g3, g4, g5, g6⟩ := disk_cell hb5
        have fz2 := disk_froz hb5 2
        have fz3 := disk_froz hb5 3
        have fz4 := disk_froz hb5 4
        have fz5 := disk_froz hb5 5
        have hpl5 : p < w5.heap.size := blk_lt hb5
        have HB5 := Lib.hid hb5
        have F5 := Lib.hid hf5
        have S5 := Lib.hid hs5
        have CH5 := Lib.hid hch5
        clear hb5 hf5 hs5 hch5 g0 g1 g6 HCL
        go_wp2_with fail
        go_end0
        exact crash_end (w := w) (wt := w1) (by rw [HLT.out]) HBT.out PTT.out CHT.out NWT.out LTO.out LTF.out HB5.out hc5 F5.out S5.out CH5.out
    · have i1 : ¬ (n : Int) < (N : Int) := by omega
      have hqn : pd[n]? = none := List.getElem?_eq_none (by rw [← H3.out, List.length_map, HN.out]; omega)
      have hlt3 : (partOf (fold ls (pd.take n)) pd[n]? part) = fold ls (pd.take n) := by
        rw [hqn]; rfl
      have HLT := Lib.hid hlt3
      clear hlt3 hqn
      go_wp2_with fail
      have hlast : fsum (fold ls (pd.take n)) ≤ 1099511627776 := by
        have := HS1.out; have h8 : sumc (pd.take n) ≤ sumc pd := sumc_take pd n; omega
      have hlen9 : (fold ls (pd.take n)).length < 1099511627776 := by
        have := HL1.out; have := HL2.out; omega
      have HCL := Lib.hid (clone_f w1 fs Ft (fold ls (pd.take n)) PTT.out.hs hlast hlen9)
      obtain ⟨_, e1t, e2t, _⟩ := disk_cell HBT.out
      have hplt : p < w1.heap.size := blk_lt HBT.out
      clear hlast hlen9
      go_wp2_with fail
      refine HCL.out.mono ?_
      rintro e w5 ⟨c5, rfl, hc5, hf5, hs5, hch5⟩
      have hb5 := hch5.blk HBT.out (fun e => PTT.out.ap2 p e PTT.out.po)
      obtain ⟨g0, g1, g2, g3, g4, g5, g6⟩ := disk_cell hb5
      have fz2 := disk_froz hb5 2
      have fz3 := disk_froz hb5 3
      have fz4 := disk_froz hb5 4
      have fz5 := disk_froz hb5 5
      have hpl5 : p < w5.heap.size := blk_lt hb5
      have HB5 := Lib.hid hb5
      have F5 := Lib.hid hf5
      have S5 := Lib.hid hs5
      have CH5 := Lib.hid hch5
      clear hb5 hf5 hs5 hch5 g0 g1 g6 HCL
      go_wp2_with fail
      go_end0
      exact crash_end (w := w) (wt := w1) (by rw [HLT.out]) HBT.out PTT.out CHT.out NWT.out LTO.out LTF.out HB5.out hc5 F5.out S5.out CH5.out
end Go.Proofs.Ytmnliieiiaedeaa.dk
