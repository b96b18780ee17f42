/-
  Messages: the document's point.
-/
import Derived.Test.YthkcnakodlbdpaaWrY
namespace Go.Proofs.Ythkcnakodlbdpaa.wr
open Go.ChangeShapes Go.WideShapes Go.ChangeAt Go.RowKit plain words ord mem uvs uvc cl

theorem rb_trans {a b c : World} {B : Nat} (h : Chg (RB a B) a b) (k : Chg (RB b B) b c) : Chg (RB a B) a c :=
  h.trans k fun i hi e => by
    by_cases hs : RB a B i
    · exact hs
    · have hb := h.block i hi hs
      obtain ⟨e1, cur, e2⟩ := e
      exact ⟨e1, cur, by rw [← hb]; exact e2⟩
theorem numE_v (s : By) (v most : Int) : (numE s v most).2.2 = v := by unfold numE; split <;> rfl
theorem txtE_v (s id : By) : (txtE s id).2.2 = id := by unfold txtE; split <;> rfl
theorem pt_eq (s : By) (p : Pt) : passPt encC s p = if (numE s p.1 1099511627776).1 = 0 then (0, (numE s p.1 1099511627776).2.1 ++ be 8 p.2.1.toNat ++ be 8 p.2.2.toNat, p) else ((numE s p.1 1099511627776).1, (numE s p.1 1099511627776).2.1, p) := by
  unfold passPt
  show bnd (numE s p.1 1099511627776) p _ = _
  by_cases h : (numE s p.1 1099511627776).1 = 0
  · rw [bnd_ok h, if_pos h]
    simp only [encC, fixE, bnd, if_true, numE_v]
  · rw [bnd_no h, if_neg h]
theorem OutY.rb {w w' : World} {g B : Nat} {s : By} {e : Int} (h : OutY w g B s e) (hc : Chg (RB w B) w w') : ∃ A c, w'.heap[g]? = some (.cells #[.slice A s.length c, .int .i64 e] 57 (0, 0)) := by
  obtain ⟨A, c, hg, _⟩ := h
  exact ⟨A, c, hc.blk hg (fun e => by
    obtain ⟨_, cur, e⟩ := e
    rw [hg] at e; injection e with e; injection e with _ e; exact absurd e (by decide))⟩
set_option maxHeartbeats 4000000 in
set_option maxRecDepth 100000 in
theorem point_y (w : World) (g B : Nat) (s : By) (e : Int) (p : Pt) (h : OutY w g B s e) (hB : B ≤ w.heap.size) (hn : s.length ≤ 100000000) (hp : PtOk p) :
    Calls Try.prog 30 #[.pointer (some ⟨g, 0, none⟩), .agg #[.int .i64 p.1, .int .u64 p.2.1, .int .u64 p.2.2]] w (RetY w g B 30 s e ((passPt encC s p).1, (passPt encC s p).2.1)) := by
  rw [pt_eq]
  obtain ⟨p1, p2, p3⟩ := p
  obtain ⟨v2, rfl⟩ : ∃ v : Nat, p2 = (v : Int) := ⟨p2.toNat, by have := hp.1.1; simp only at this; omega⟩
  obtain ⟨v3, rfl⟩ : ∃ v : Nat, p3 = (v : Int) := ⟨p3.toNat, by have := hp.2.1; simp only at this; omega⟩
  have hv2 : v2 < 18446744073709551616 := by have := hp.1.2; simp only at this; omega
  have hv3 : v3 < 18446744073709551616 := by have := hp.2.2; simp only at this; omega
  simp only [Int.toNat_natCast]
  obtain ⟨w1, hw1⟩ : ∃ w1, w.alloc (.cells #[.int .i64 p1, .int .u64 v2, .int .u64 v3] 26) = w1 := ⟨_, rfl⟩
  have hb1 : Below w.heap.size w w1 := by rw [← hw1]; exact below_al _ _
  have gp : w1.heap[w.heap.size]? = some (.cells #[.int .i64 p1, .int .u64 v2, .int .u64 v3] 26 (0, 0)) := by rw [← hw1]; exact alloc_new _ _
  have hs1 := hb1.size
  have hgl := h.lt
  have HNU := Lib.hid (number_y w1 g B s e p1 1099511627776 (h.below hb1 (Nat.le_refl _)) (by omega) (by omega) (by omega))
  obtain ⟨r, hr⟩ : ∃ r, numE s p1 1099511627776 = r := ⟨_, rfl⟩
  rw [hr] at HNU ⊢
  obtain ⟨er, l, a⟩ := r
  simp only at HNU ⊢
  obtain ⟨an, han⟩ : ∃ an : Int × By, ((if er = 0 then (0, l ++ be 8 v2 ++ be 8 v3, (p1, (v2 : Int), (v3 : Int))) else (er, l, (p1, (v2 : Int), (v3 : Int))) : R Pt).1, (if er = 0 then (0, l ++ be 8 v2 ++ be 8 v3, (p1, (v2 : Int), (v3 : Int))) else (er, l, (p1, (v2 : Int), (v3 : Int))) : R Pt).2.1) = an := ⟨_, rfl⟩
  rw [han]
  have h0an : er = 0 → an = (0, l ++ be 8 v2 ++ be 8 v3) := fun e => by rw [← han, if_pos e]
  have h1an : er ≠ 0 → an = (er, l) := fun e => by rw [← han, if_neg e]
  have H0 := Lib.hid h0an
  have H1 := Lib.hid h1an
  clear han h0an h1an
  have HB1 := Lib.hid hb1
  have HGP := Lib.hid gp
  have HV := Lib.hid (And.intro hv2 hv3)
  have c3 : w1.cell? ⟨w.heap.size, 0, none⟩ = some (.int .i64 p1) := by rw [cell_of_row _ _ _ _ _ _ gp]; rfl
  have hpl := blk_lt gp
  clear h hr hb1 gp hp hv2 hv3
  go_enter Try.func30, Try.ntmps30
  go_wp2_with (fail)
  refine HNU.out.mono ?_
  rintro en w2 ⟨rfl, s2, ho, hs2, hlen, hc⟩
  have hsz2 := hc.size
  have HC2 := Lib.hid (show Chg (TY w g B) w w2 from ty_trans ((Chg.of_below HB1.out).mono (fun _ _ e => e.elim)) hc)
  have gp2 := hc.blk HGP.out (fun e => by
    rcases e with e | ⟨_, cur, e⟩
    · omega
    · rw [HGP.out] at e; injection e with e; injection e with _ e; exact absurd e (by decide))
  have HGP2 := Lib.hid gp2
  have HO2 := Lib.hid ho
  have hgl2 := ho.lt
  obtain ⟨A, c, c0, c1, f0, _, hA, hbs, hg, hown⟩ := ho.cells
  have d1 : w2.cell? ⟨w.heap.size, 0 + 1, none⟩ = some (.int .u64 v2) := by rw [cell_of_row _ _ _ _ _ _ gp2]; rfl
  have d2 : w2.cell? ⟨w.heap.size, 0 + 2, none⟩ = some (.int .u64 v3) := by rw [cell_of_row _ _ _ _ _ _ gp2]; rfl
  have hpl2 := blk_lt gp2
  obtain ⟨z, hz⟩ : ∃ z, st e er = z := ⟨_, rfl⟩
  rw [hz] at HO2 c1 hs2 hg
  by_cases hzz : z = 0
  · have he0 : e = 0 ∧ er = 0 := by unfold st at hz; split at hz <;> omega
    obtain ⟨rfl, rfl⟩ := he0
    subst hzz
    have hs2 := hs2 rfl
    subst hs2
    have HN0 := Lib.hid (H0.out rfl)
    clear H0 H1
    obtain ⟨L, hL⟩ : ∃ L, s2.length = L := ⟨_, rfl⟩
    have HWD := Lib.hid (wide_yc w2.drew B L c A s2 v2 (by rw [← hL]; exact own_keep hown (Below.refl w2.heap.size w2).drew (Nat.le_refl _)) hL (by show B ≤ w2.heap.size; omega) (by omega) HV.out.1)
    have HG2 := Lib.hid hg
    have HF := Lib.hid (show (∀ k, k = g ∨ k = w.heap.size → ¬ RB w2 B k) from fun k hk e => by
      obtain ⟨_, cur, e⟩ := e
      rcases hk with rfl | rfl
      · rw [hg] at e; injection e with e; injection e with _ e; exact absurd e (by decide)
      · rw [HGP2.out] at e; injection e with e; injection e with _ e; exact absurd e (by decide))
    rw [hL] at c0
    have q0 := Wf.at_ (F := RB w2 B) c0 (HF.out _ (.inl rfl))
    have q1 := Wf.at_ (F := RB w2 B) d1 (HF.out _ (.inr rfl))
    have q2 := Wf.at_ (F := RB w2 B) d2 (HF.out _ (.inr rfl))
    clear ho hc gp2 hbs hg hown hz
    go_wp2_with (fail)
    refine frp.wp_region_ptree (F := RB w2 B) (.reads [0, 1, 2, 3, 4, 5, 6, 8, 9] (.one 7 false (.one 10 false (.reads [11, 12] (.one 13 true .stop))))) (by kernel_rfl) (by kernel_rfl) ?_
    refine fr.tr_reads _ (by dsimp only [pick, ord.at_]) ?_
    repeat (go_big_quiet_step (fail))
    refine wpQuiet_nil ?_
    refine fr.tr_one _ (by dsimp only [pick, ord.at_]) ?_
    intro K1 g1 g2
    clear g2
    go_wp2_with (fail)
    refine HWD.out.mono ?_
    rintro en w3 ⟨A3, cc3, rfl, hown3, hc3⟩
    have hc3 : Chg (RB w2 B) w2 w3 := (Chg.refl (RB w2 B) w2).drew.trans hc3 (fun _ _ e => e)
    have hsz3 := hc3.size
    obtain ⟨Y, hY⟩ : ∃ Y, s2 ++ be 8 v2 = Y := ⟨_, rfl⟩
    have hYl : Y.length = L + 8 := by rw [← hY, List.length_append, be_len, hL]
    have HYE := Lib.hid hY
    rw [hY, hYl] at hown3
    rw [hY]
    have hYl2 : (s2 ++ be 8 v2).length = L + 8 := by rw [hY]; exact hYl
    rw [hYl]
    have HWD2 := Lib.hid (wide_yc w3 B (L + 8) cc3 A3 Y v3 hown3 hYl (by omega) (by omega) HV.out.2)
    have HC3 := Lib.hid hc3
    have HYL := Lib.hid hYl
    clear hown3 hc3 hYl hYl2 hY
    go_wp2_with (fail)
    refine g1 _ _ HC3.out ?_
    clear g1
    refine fr.tr_one _ (by dsimp only [pick, ord.at_]) ?_
    intro K2 g1 g2
    clear g2
    go_wp2_with (fail)
    refine HWD2.out.mono ?_
    rintro en w4 ⟨A4, cc4, rfl, hown4, hc4⟩
    have hsz4 := hc4.size
    have hc24 := rb_trans HC3.out hc4
    obtain ⟨Z, hZ⟩ : ∃ Z, Y ++ be 8 v3 = Z := ⟨_, rfl⟩
    have hZl : Z.length = L + 16 := by rw [← hZ, List.length_append, be_len, HYL.out]
    rw [hZ, hZl] at hown4
    rw [hZ, hZl]
    have hg4 := hc24.blk HG2.out (HF.out _ (.inl rfl))
    have hgl4 := blk_lt hg4
    have c4 : w4.cell? ⟨g, 0, none⟩ = some (.slice A s2.length c) := by rw [cell_of_row _ _ _ _ _ _ hg4]; rfl
    have f4 : w4.frozen? ⟨g, 0, none⟩ = false := frozen_of_row _ _ 0 _ _ hg4
    have HC24 := Lib.hid hc24
    have HFIN := Lib.hid (show RetY w g B 30 s 0 an (.returned (.tuple #[])) (w4.setCell ⟨g, 0, none⟩ (.slice A4 (L + 16) cc4)) from by
      rw [HN0.out, HYE.out, hZ]
      exact ⟨rfl, Z, out_row hg4 hown4 hZl, fun _ => rfl, by omega, ty_trans HC2.out (((hc24.mono (fun _ _ e => .inr e)).setCell (p := ⟨g, 0, none⟩) (fun _ => .inl rfl) _))⟩)
    clear hown4 hc4 hc24 hg4 hZl hZ
    go_wp2_with (fail)
    refine g1 _ _ HC24.out ?_
    clear g1
    refine fr.tr_reads _ (by dsimp only [pick, ord.at_]) ?_
    repeat (go_big_quiet_step (fail))
    refine wpQuiet_nil ?_
    refine fr.tr_write _ (by dsimp only [pick, ord.at_]) ?_
    intro K3 g4
    go_wp2_with (fail)
    refine fr.tr_stop ?_
    refine PanicAll.normal ?_
    go_wp2_with (fail)
    go_end0
    exact HFIN.out
  · have z1 : (z == 0) = false := by simpa using hzz
    have he : an.1 = er := by
      by_cases e0 : er = 0
      · rw [H0.out e0, e0]
      · rw [H1.out e0]
    have HFIN := Lib.hid (show RetY w g B 30 s e an (.returned (.tuple #[])) w2 from ⟨rfl, s2, by rw [he, hz]; exact HO2.out, by rw [he, hz]; exact fun e => absurd e hzz, by omega, HC2.out⟩)
    clear he
    clear ho hc gp2 hbs hg hown hz hzz
    go_wp2_with (fail)
    go_end0
    exact HFIN.out
end Go.Proofs.Ythkcnakodlbdpaa.wr
