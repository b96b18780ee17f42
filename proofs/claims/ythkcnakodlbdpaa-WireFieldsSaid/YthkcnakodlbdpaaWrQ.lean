/-
  Messages: passing over a meta.
-/
import Derived.Test.YthkcnakodlbdpaaWrF
namespace Go.Proofs.Ythkcnakodlbdpaa.wr
open Go.ChangeShapes Go.WideShapes Go.ChangeAt Go.RowKit plain words ord mem uvs uvc

theorem fr_new {a b c : World} {g B mb vb : Nat} (h : Chg (FR a g B mb) a b) (k : Chg (FR b g B vb) b c) (hv : a.heap.size ≤ vb) : Chg (FR a g B mb) a c :=
  h.trans k fun i hi e => by
    by_cases hs : FR a g B mb i
    · exact hs
    · have hb := h.block i hi hs
      rcases e with e | e | ⟨e1, cur, e2⟩
      · exact .inl e
      · omega
      · exact .inr (.inr ⟨e1, cur, by rw [← hb]; exact e2⟩)
theorem V.fr {w w' : World} {g B mb vb : Nat} {cur : Array Value} {t : TypeId} (h : V w mb cur t) (hc : Chg (FR w g B vb) w w') (hne : mb ≠ g) (hvb : mb ≠ vb) (ht : t ≠ 5) : V w' mb cur t := by
  refine hc.blk h fun e => ?_
  rcases e with e | e | ⟨_, cur', e⟩
  · exact hne e
  · exact hvb e
  · rw [h] at e
    injection e with e
    injection e with _ e
    exact ht e
theorem V.set {w : World} {mb off : Nat} {cur : Array Value} {t : TypeId} (h : V w mb cur t) (v : Value) : V (w.setCell ⟨mb, off, none⟩ v) mb (cur.setIfInBounds off v) t := heap_setCell_same w mb off _ _ v h
theorem fr_set {a b : World} {g B mb off : Nat} (h : Chg (FR a g B mb) a b) (v : Value) : Chg (FR a g B mb) a (b.setCell ⟨mb, off, none⟩ v) := h.setCell (p := ⟨mb, off, none⟩) (fun _ => .inr (.inl rfl)) v
theorem StE.setCell {w : World} {g B mb off : Nat} {l : By} {cur : Array Value} {t : TypeId} (h : StE w g B l) (hV : V w mb cur t) (hne : mb ≠ g) (ht : t ≠ 5) (v : Value) : StE (w.setCell ⟨mb, off, none⟩ v) g B l := by
  obtain ⟨A, c, hg, ho⟩ := h
  refine ⟨A, c, (Below.heap_setCell w ⟨mb, off, none⟩ v g (fun e => hne e.symm)).trans hg, own_chg ho (cl.chg_set w mb off v) fun k hk e => ?_⟩
  obtain ⟨cur', hc'⟩ := own_type ho hk
  rw [e, hV] at hc'
  injection hc' with hc'
  injection hc' with _ hc'
  exact ht hc'
set_option maxHeartbeats 2000000 in
set_option maxRecDepth 100000 in
theorem passMt_e (w : World) (g B mb : Nat) (off : Nat) (cur : Array Value) (t : TypeId) (l : By) (p : Mt) (h : StE w g B l) (hV : V w mb cur t) (c0 : cur[off]? = some (.string (cl.tx p.1))) (c1 : cur[off + 1]? = some (.int .i64 p.2.1)) (c2 : cur[off + 2]? = some (.int .i64 p.2.2.1)) (c3 : cur[off + 3]? = some (.int .u32 p.2.2.2)) (hp : p.1.length ≤ 1000000000 ∧ 0 ≤ p.2.2.2 ∧ p.2.2.2 < 4294967296) (hne : mb ≠ g) (ht : t ≠ 5) (hgB : True) (hB : B ≤ w.heap.size) (hn : l.length ≤ 999999800) :
    Calls Try.prog 25 #[.iface 50 (.pointer (some ⟨g, 0, none⟩)), .pointer (some ⟨mb, off, none⟩)] w (RetE w g B mb cur t (fun cur x => (((cur.setIfInBounds off (.string (cl.tx x.1))).setIfInBounds (off + 1) (.int .i64 x.2.1)).setIfInBounds (off + 2) (.int .i64 x.2.2.1)).setIfInBounds (off + 3) (.int .u32 x.2.2.2)) (passMt encC l p)) := by
  have hmf : ∀ (fn : Fn) (first cap : Array Value) (w : World), (Instr.makeFunc fn first cap).run Try.prog w = .ok (.func fn first cap) w := fun _ _ _ _ => rfl
  have na1 := na_number_e g
  have na2 := na_fixed_e g
  have na3 := na_text_e g
  have na4 := na_flag_e g
  have HC0 := Lib.hid (Chg.refl (FR w g B mb) w)
  have ST0 := Lib.hid h
  have VV0 := Lib.hid hV
  have hs0 : w.heap.size ≤ w.heap.size := Nat.le_refl _
  have hgl := h.lt
  have hml := blk_lt hV
  clear h hV
  obtain ⟨p1, p2, p3, p4'⟩ := p
  obtain ⟨p4, rfl⟩ : ∃ v : Nat, p4' = (v : Int) := ⟨p4'.toNat, by have := hp.2.1; simp only at this; omega⟩
  have hp4 : p4 < 4294967296 := by have := hp.2.2; simp only at this; omega
  have hid : p1.length ≤ 1000000000 := hp.1
  simp only at c0 c1 c2 c3
  have HP4 := Lib.hid hp4
  have C1 := Lib.hid c1
  have C2 := Lib.hid c2
  have C3 := Lib.hid c3
  clear hp c1 c2 c3
  obtain ⟨r1, hr1⟩ : ∃ r, encC.txt l p1 = r := ⟨_, rfl⟩
  have HH1 := Lib.hid (text_e w.drew g B mb off cur t l p1 ST0.out.drew VV0.out c0 hne ht hgB hB (by omega) hid)
  rw [show txtE l p1 = r1 from hr1] at HH1
  have HQ1 := Lib.hid (show passMt encC l (p1, p2, p3, (p4 : Int)) = bnd r1 (p1, p2, p3, (p4 : Int)) fun s i => bnd (encC.num s p2 1099511627776) (p1, p2, p3, (p4 : Int)) fun s b => bnd (encC.num s p3 512) (p1, p2, p3, (p4 : Int)) fun s c => bnd (encC.fix s (p4 : Int) 4) (p1, p2, p3, (p4 : Int)) fun s x => (0, s, (i, b, c, x % 4294967296)) by rw [← hr1]; rfl)
  have hl1 := txtE_len l p1
  rw [show txtE l p1 = r1 from hr1] at hl1
  have NO1 := Lib.hid (fun (w' : World) (h1 : Chg (FR w g B mb) w w') (h2 : r1.1 ≠ 0) => RetE.no (put := fun cur x => (((cur.setIfInBounds off (.string (cl.tx x.1))).setIfInBounds (off + 1) (.int .i64 x.2.1)).setIfInBounds (off + 2) (.int .i64 x.2.2.1)).setIfInBounds (off + 3) (.int .u32 x.2.2.2)) (cur := cur) (t := t) h1 (show (passMt encC l (p1, p2, p3, (p4 : Int))).1 = r1.1 by rw [HQ1.out, bnd_no h2]) h2)
  clear hr1
  obtain ⟨er1, l1, a1⟩ := r1
  simp only at hl1
  clear c0 hid hp4
  go_enter Try.func25, Try.ntmps25
  go_wp2_with (fail)
  refine frp.wp_region_ptree (F := fun _ => True) (.reads [0, 1, 2, 3] (.one 4 false (.reads [5, 6] (.one 7 false .stop)))) (by kernel_rfl) (by kernel_rfl) ?_
  refine fr.tr_reads _ (by dsimp only [pick, ord.at_]) ?_
  repeat (go_big_quiet_step (fail))
  refine wpQuiet_nil ?_
  refine fr.tr_one _ (by dsimp only [pick, ord.at_]) ?_
  intro K1 g1 g2
  clear g2
  go_wp2_with (fail)
  refine g1 _ _ (Chg.refl _ _).drew ?_
  clear g1
  refine fr.tr_reads _ (by dsimp only [pick, ord.at_]) ?_
  repeat (go_big_quiet_step (fail))
  refine wpQuiet_nil ?_
  refine frp.tr_onep _ (by dsimp only [pick, ord.at_]) ?_
  intro K2 g1 g2 g3
  clear g2
  go_wp2_with (fail)
  refine HH1.out.mono ?_
  intro e w1 hr
  obtain ⟨hc, ⟨h0, rfl, hst, hV⟩ | ⟨h0, rfl⟩⟩ := hr
  · simp only at h0 hst hV
    subst h0
    have ST1 := Lib.hid hst
    have VV1 := Lib.hid hV
    have HC1 := Lib.hid (fr_trans HC0.out (fr_drew hc))
    have hs1 := HC1.out.size
    clear hst hV g3 HH1
    go_wp2_with (fail)
    refine g1 _ _ (((Chg.refl (fun _ => True) w).drew).trans (hc.mono (fun _ _ _ => trivial)) (fun _ _ e => e)) ?_
    clear g1 hc
    refine fr.tr_stop ?_
    refine PanicAll.normal ?_
    have hm1 : mb < w1.heap.size := by omega
    have hg1 : g < w1.heap.size := by omega
    obtain ⟨r2, hr2⟩ : ∃ r, encC.num l1 p2 1099511627776 = r := ⟨_, rfl⟩
    have HH2 := Lib.hid (num_e w1.drew g B mb (off + 1) (cur.setIfInBounds off (.string (cl.tx a1))) t l1 p2 1099511627776 ST1.out.drew VV1.out (by rw [get_ne (by omega)]; exact C1.out) hne ht hgB (by show B ≤ w1.heap.size; omega) (by omega) (by omega))
    rw [show numE l1 p2 1099511627776 = r2 from hr2] at HH2
    have HQ2 := Lib.hid (show passMt encC l (p1, p2, p3, (p4 : Int)) = bnd r2 (p1, p2, p3, (p4 : Int)) fun s b => bnd (encC.num s p3 512) (p1, p2, p3, (p4 : Int)) fun s c => bnd (encC.fix s (p4 : Int) 4) (p1, p2, p3, (p4 : Int)) fun s x => (0, s, (a1, b, c, x % 4294967296)) by rw [HQ1.out, bnd_ok rfl, ← hr2])
    have hl2 := numE_len l1 p2 1099511627776
    rw [show numE l1 p2 1099511627776 = r2 from hr2] at hl2
    have NO2 := Lib.hid (fun (w' : World) (h1 : Chg (FR w g B mb) w w') (h2 : r2.1 ≠ 0) => RetE.no (put := fun cur x => (((cur.setIfInBounds off (.string (cl.tx x.1))).setIfInBounds (off + 1) (.int .i64 x.2.1)).setIfInBounds (off + 2) (.int .i64 x.2.2.1)).setIfInBounds (off + 3) (.int .u32 x.2.2.2)) (cur := cur) (t := t) h1 (show (passMt encC l (p1, p2, p3, (p4 : Int))).1 = r2.1 by rw [HQ2.out, bnd_no h2]) h2)
    clear hr2
    obtain ⟨er2, l2, a2⟩ := r2
    simp only at hl2
    go_wp2_with (fail)
    refine frp.wp_region_ptree (F := fun _ => True) (.reads [0, 1, 2, 3] (.one 4 false (.reads [5, 6] (.one 7 false .stop)))) (by kernel_rfl) (by kernel_rfl) ?_
    refine fr.tr_reads _ (by dsimp only [pick, ord.at_]) ?_
    repeat (go_big_quiet_step (fail))
    refine wpQuiet_nil ?_
    refine fr.tr_one _ (by dsimp only [pick, ord.at_]) ?_
    intro K1 g1 g2
    clear g2
    go_wp2_with (fail)
    refine g1 _ _ (Chg.refl _ _).drew ?_
    clear g1
    refine fr.tr_reads _ (by dsimp only [pick, ord.at_]) ?_
    repeat (go_big_quiet_step (fail))
    refine wpQuiet_nil ?_
    refine frp.tr_onep _ (by dsimp only [pick, ord.at_]) ?_
    intro K2 g1 g2 g3
    clear g2
    go_wp2_with (fail)
    refine HH2.out.mono ?_
    intro e w2 hr
    obtain ⟨hc, ⟨h0, rfl, hst, hV⟩ | ⟨h0, rfl⟩⟩ := hr
    · simp only at h0 hst hV
      subst h0
      have ST2 := Lib.hid hst
      have VV2 := Lib.hid hV
      have HC2 := Lib.hid (fr_trans HC1.out (fr_drew hc))
      have hs2 := HC2.out.size
      clear hst hV g3 HH2
      go_wp2_with (fail)
      refine g1 _ _ (((Chg.refl (fun _ => True) w1).drew).trans (hc.mono (fun _ _ _ => trivial)) (fun _ _ e => e)) ?_
      clear g1 hc
      refine fr.tr_stop ?_
      refine PanicAll.normal ?_
      have hm2 : mb < w2.heap.size := by omega
      have hg2 : g < w2.heap.size := by omega
      obtain ⟨r3, hr3⟩ : ∃ r, encC.num l2 p3 512 = r := ⟨_, rfl⟩
      have HH3 := Lib.hid (num_e w2.drew g B mb (off + 2) ((cur.setIfInBounds off (.string (cl.tx a1))).setIfInBounds (off + 1) (.int .i64 a2)) t l2 p3 512 ST2.out.drew VV2.out (by rw [get_ne (by omega), get_ne (by omega)]; exact C2.out) hne ht hgB (by show B ≤ w2.heap.size; omega) (by omega) (by omega))
      rw [show numE l2 p3 512 = r3 from hr3] at HH3
      have HQ3 := Lib.hid (show passMt encC l (p1, p2, p3, (p4 : Int)) = bnd r3 (p1, p2, p3, (p4 : Int)) fun s c => bnd (encC.fix s (p4 : Int) 4) (p1, p2, p3, (p4 : Int)) fun s x => (0, s, (a1, a2, c, x % 4294967296)) by rw [HQ2.out, bnd_ok rfl, ← hr3])
      have hl3 := numE_len l2 p3 512
      rw [show numE l2 p3 512 = r3 from hr3] at hl3
      have NO3 := Lib.hid (fun (w' : World) (h1 : Chg (FR w g B mb) w w') (h2 : r3.1 ≠ 0) => RetE.no (put := fun cur x => (((cur.setIfInBounds off (.string (cl.tx x.1))).setIfInBounds (off + 1) (.int .i64 x.2.1)).setIfInBounds (off + 2) (.int .i64 x.2.2.1)).setIfInBounds (off + 3) (.int .u32 x.2.2.2)) (cur := cur) (t := t) h1 (show (passMt encC l (p1, p2, p3, (p4 : Int))).1 = r3.1 by rw [HQ3.out, bnd_no h2]) h2)
      clear hr3
      obtain ⟨er3, l3, a3⟩ := r3
      simp only at hl3
      go_wp2_with (fail)
      refine frp.wp_region_ptree (F := fun _ => True) (.reads [0, 1, 2, 3] (.one 4 false (.reads [5, 6] (.one 7 false .stop)))) (by kernel_rfl) (by kernel_rfl) ?_
      refine fr.tr_reads _ (by dsimp only [pick, ord.at_]) ?_
      repeat (go_big_quiet_step (fail))
      refine wpQuiet_nil ?_
      refine fr.tr_one _ (by dsimp only [pick, ord.at_]) ?_
      intro K1 g1 g2
      clear g2
      go_wp2_with (fail)
      refine g1 _ _ (Chg.refl _ _).drew ?_
      clear g1
      refine fr.tr_reads _ (by dsimp only [pick, ord.at_]) ?_
      repeat (go_big_quiet_step (fail))
      refine wpQuiet_nil ?_
      refine frp.tr_onep _ (by dsimp only [pick, ord.at_]) ?_
      intro K2 g1 g2 g3
      clear g2
      go_wp2_with (fail)
      refine HH3.out.mono ?_
      intro e w3 hr
      obtain ⟨hc, ⟨h0, rfl, hst, hV⟩ | ⟨h0, rfl⟩⟩ := hr
      · simp only at h0 hst hV
        subst h0
        have ST3 := Lib.hid hst
        have VV3 := Lib.hid hV
        have HC3 := Lib.hid (fr_trans HC2.out (fr_drew hc))
        have hs3 := HC3.out.size
        clear hst hV g3 HH3
        go_wp2_with (fail)
        refine g1 _ _ (((Chg.refl (fun _ => True) w2).drew).trans (hc.mono (fun _ _ _ => trivial)) (fun _ _ e => e)) ?_
        clear g1 hc
        refine fr.tr_stop ?_
        refine PanicAll.normal ?_
        have hm3 : mb < w3.heap.size := by omega
        have hg3 : g < w3.heap.size := by omega
        have c3 : w3.cell? ⟨mb, off + 3, none⟩ = some (.int .u32 p4) := by rw [cell_of_row _ _ _ _ _ _ VV3.out, get_ne (by omega), get_ne (by omega), get_ne (by omega)]; exact C3.out
        have hp4 := HP4.out
        have wp4 : IntKind.u64.wrap (p4 : Int) = (p4 : Int) := by rw [IntKind.wrap_u64]; omega
        have wq4 : (p4 : Int) % 18446744073709551616 = (p4 : Int) := by omega
        obtain ⟨w4, hw4⟩ : ∃ w4, w3.alloc (.cells #[.int .u64 p4] 24) = w4 := ⟨_, rfl⟩
        have hb4 : Below w3.heap.size w3 w4 := by rw [← hw4]; exact below_al _ _
        have hs34 : w4.heap.size = w3.heap.size + 1 := by rw [← hw4]; simp
        have VB := Lib.hid (show V w4 w3.heap.size #[.int .u64 p4] 24 by rw [← hw4]; exact alloc_new _ _)
        have VM := Lib.hid (show V w4 mb (((cur.setIfInBounds off (.string (cl.tx a1))).setIfInBounds (off + 1) (.int .i64 a2)).setIfInBounds (off + 2) (.int .i64 a3)) t from blk_below hb4 VV3.out (by omega))
        have HB4 := Lib.hid (fr_trans HC3.out ((Chg.of_below hb4).mono (S' := FR w3 g B mb) (fun _ _ e => e.elim)))
        obtain ⟨r4, hr4⟩ : ∃ r, encC.fix l3 (p4 : Int) 4 = r := ⟨_, rfl⟩
        have HH4 := Lib.hid (fix_e w4 g B w3.heap.size 0 #[.int .u64 p4] 24 l3 p4 4 (ST3.out.below hb4 (Nat.le_refl _)) VB.out rfl (by omega) (by decide) hgB (by omega) (by omega) (by omega) (by omega))
        rw [show fixE l3 (p4 : Int) 4 = r4 from hr4] at HH4
        have HQ4 := Lib.hid (show passMt encC l (p1, p2, p3, (p4 : Int)) = bnd r4 (p1, p2, p3, (p4 : Int)) fun s x => (0, s, (a1, a2, a3, x % 4294967296)) by rw [HQ3.out, bnd_ok rfl, ← hr4])
        have NO4 := Lib.hid (fun (w' : World) (h1 : Chg (FR w g B mb) w w') (h2 : r4.1 ≠ 0) => RetE.no (put := fun cur x => (((cur.setIfInBounds off (.string (cl.tx x.1))).setIfInBounds (off + 1) (.int .i64 x.2.1)).setIfInBounds (off + 2) (.int .i64 x.2.2.1)).setIfInBounds (off + 3) (.int .u32 x.2.2.2)) (cur := cur) (t := t) h1 (show (passMt encC l (p1, p2, p3, (p4 : Int))).1 = r4.1 by rw [HQ4.out, bnd_no h2]) h2)
        have h4v : 0 ≤ r4.2.2 ∧ r4.2.2 < 18446744073709551616 := by rw [← hr4]; show 0 ≤ (fixE l3 (p4 : Int) 4).2.2 ∧ (fixE l3 (p4 : Int) 4).2.2 < 18446744073709551616; unfold fixE; simp only; omega
        clear hr4 hb4
        obtain ⟨er4, l4, a4⟩ := r4
        simp only at h4v
        go_wp2_with (fail)
        refine HH4.out.mono ?_
        intro e w5 hr
        obtain ⟨hc, ⟨h0, rfl, hst, hVx⟩ | ⟨h0, rfl⟩⟩ := hr
        · simp only at h0 hst hVx
          subst h0
          have hVx2 : V w5 w3.heap.size #[.int .u64 a4] 24 := hVx
          have ST5 := Lib.hid hst
          have HC5 := Lib.hid (fr_new HB4.out hc (by omega))
          have VM5 := Lib.hid (VM.out.fr hc hne (by omega) ht)
          have cv : w5.cell? ⟨w3.heap.size, 0, none⟩ = some (.int .u64 a4) := by rw [cell_of_row _ _ _ _ _ _ hVx2]; rfl
          have hvl := blk_lt hVx2
          have hml5 := blk_lt VM5.out
          have cm : w5.cell? ⟨mb, off + 3, none⟩ = some (.int .u32 p4) := by rw [cell_of_row _ _ _ _ _ _ VM5.out, get_ne (by omega), get_ne (by omega), get_ne (by omega)]; exact C3.out
          have fm : w5.frozen? ⟨mb, off + 3, none⟩ = false := frozen_of_row _ _ _ _ _ VM5.out
          have wu : IntKind.u32.wrap a4 = a4 % 4294967296 := by rw [IntKind.wrap_u32]
          clear hc hst hVx hVx2 HH4 c3
          go_wp2_with (fail)
          go_end0
          exact RetE.ok (v := (a1, a2, a3, a4 % 4294967296)) (fr_set HC5.out _) (by rw [HQ4.out, bnd_ok rfl]) (ST5.out.setCell VM5.out hne ht _) (VM5.out.set _)
        · have HE := Lib.hid (NO4.out _ (fr_new HB4.out hc (by omega)) h0)
          clear hc HH4
          go_wp2_with (fail)
          exact ⟨rfl, HE.out⟩
      · have HE := Lib.hid (NO3.out _ (fr_trans HC2.out (fr_drew hc)) h0)
        clear g1 hc HH3
        go_wp2_with (fail)
        intro a' ha'
        go_wp2_with (fail)
        exact ⟨ha', HE.out⟩
    · have HE := Lib.hid (NO2.out _ (fr_trans HC1.out (fr_drew hc)) h0)
      clear g1 hc HH2
      go_wp2_with (fail)
      intro a' ha'
      go_wp2_with (fail)
      exact ⟨ha', HE.out⟩
  · have HE := Lib.hid (NO1.out _ (fr_trans HC0.out (fr_drew hc)) h0)
    clear g1 hc HH1
    go_wp2_with (fail)
    intro a' ha'
    go_wp2_with (fail)
    exact ⟨ha', HE.out⟩
end Go.Proofs.Ythkcnakodlbdpaa.wr
