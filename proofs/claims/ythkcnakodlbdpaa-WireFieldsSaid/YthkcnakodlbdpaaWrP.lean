/-
  Messages: passing over a point, a range, a meta.
-/
import Derived.Test.YthkcnakodlbdpaaWrE
import Derived.Handy
namespace Go.Proofs.Ythkcnakodlbdpaa.wr
open Go.ChangeShapes Go.WideShapes Go.ChangeAt Go.RowKit plain words ord mem uvs uvc

theorem RetE.no {α : Type} {w w' : World} {g B mb : Nat} {cur : Array Value} {t : TypeId} {put : Array Value → α → Array Value} {r : R α} {x : Int} (h : Chg (FR w g B mb) w w') (e : r.1 = x) (hx : x ≠ 0) : RetE w g B mb cur t put r (.panicked (errC x)) w' :=
  ⟨h, .inr ⟨by rw [e]; exact hx, by rw [e]⟩⟩
theorem RetE.ok {α : Type} {w w' : World} {g B mb : Nat} {cur : Array Value} {t : TypeId} {put : Array Value → α → Array Value} {r : R α} {s : By} {v : α} (h : Chg (FR w g B mb) w w') (e : r = (0, s, v)) (hs : StE w' g B s) (hv : V w' mb (put cur v) t) : RetE w g B mb cur t put r (.returned (.tuple #[])) w' := by
  subst e
  exact ⟨h, .inl ⟨rfl, rfl, hs, hv⟩⟩
theorem fr_drew {w w' : World} {g B mb : Nat} (h : Chg (FR w.drew g B mb) w.drew w') : Chg (FR w g B mb) w w' := ⟨h.os, h.tape, h.output, h.size, h.block⟩
theorem na_number_e (g : Nat) : ∀ (n : Nat) (w : World), (nilAhead (n + 1) 50 (.pointer (some ⟨g, 0, none⟩)) "thermograph/wire.number").run Try.prog w = .ok (some false) w := fun n w => by kernel_rfl
theorem na_count_e (g : Nat) : ∀ (n : Nat) (w : World), (nilAhead (n + 1) 50 (.pointer (some ⟨g, 0, none⟩)) "thermograph/wire.count").run Try.prog w = .ok (some false) w := fun n w => by kernel_rfl
theorem na_fixed_e (g : Nat) : ∀ (n : Nat) (w : World), (nilAhead (n + 1) 50 (.pointer (some ⟨g, 0, none⟩)) "thermograph/wire.fixed").run Try.prog w = .ok (some false) w := fun n w => by kernel_rfl
theorem na_text_e (g : Nat) : ∀ (n : Nat) (w : World), (nilAhead (n + 1) 50 (.pointer (some ⟨g, 0, none⟩)) "thermograph/wire.text").run Try.prog w = .ok (some false) w := fun n w => by kernel_rfl
theorem na_flag_e (g : Nat) : ∀ (n : Nat) (w : World), (nilAhead (n + 1) 50 (.pointer (some ⟨g, 0, none⟩)) "thermograph/wire.flag").run Try.prog w = .ok (some false) w := fun n w => by kernel_rfl
theorem get_ne {cur : Array Value} {i j : Nat} {v : Value} (h : i ≠ j) : (cur.setIfInBounds i v)[j]? = cur[j]? := Array.getElem?_setIfInBounds_ne h
theorem StE.drew {w : World} {g B : Nat} {l : By} (h : StE w g B l) : StE w.drew g B l := h.below (Below.refl w.heap.size w).drew (Nat.le_refl _)
set_option maxHeartbeats 2000000 in
set_option maxRecDepth 100000 in
theorem passPt_e (w : World) (g B mb : Nat) (off : Nat) (cur : Array Value) (t : TypeId) (l : By) (p : Pt) (h : StE w g B l) (hV : V w mb cur t) (c0 : cur[off]? = some (.int .i64 p.1)) (c1 : cur[off + 1]? = some (.int .u64 p.2.1)) (c2 : cur[off + 2]? = some (.int .u64 p.2.2)) (hp : (0 ≤ p.2.1 ∧ p.2.1 < 18446744073709551616) ∧ (0 ≤ p.2.2 ∧ p.2.2 < 18446744073709551616)) (hne : mb ≠ g) (ht : t ≠ 5) (hgB : True) (hB : B ≤ w.heap.size) (hn : l.length ≤ 999999900) :
    Calls Try.prog 22 #[.iface 50 (.pointer (some ⟨g, 0, none⟩)), .pointer (some ⟨mb, off, none⟩)] w (RetE w g B mb cur t (fun cur x => ((cur.setIfInBounds off (.int .i64 x.1)).setIfInBounds (off + 1) (.int .u64 x.2.1)).setIfInBounds (off + 2) (.int .u64 x.2.2)) (passPt encC l p)) := by
  have hmf : ∀ (fn : Fn) (first cap : Array Value) (w : World), (Instr.makeFunc fn first cap).run Try.prog w = .ok (.func fn first cap) w := fun _ _ _ _ => rfl
  have na1 := na_number_e g
  have na2 := na_fixed_e g
  have na3 := na_text_e g
  have na4 := na_flag_e g
  have HC0 := Lib.hid (Chg.refl (FR w g B mb) w)
  have ST0 := Lib.hid h
  have VV0 := Lib.hid hV
  have hs0 : w.heap.size ≤ w.heap.size := Nat.le_refl _
  have hgl := h.lt
  have hml := blk_lt hV
  clear h hV
  obtain ⟨p1, p2, p3⟩ := p
  obtain ⟨v2, rfl⟩ : ∃ v : Nat, p2 = (v : Int) := ⟨p2.toNat, by have := hp.1.1; simp only at this; omega⟩
  obtain ⟨v3, rfl⟩ : ∃ v : Nat, p3 = (v : Int) := ⟨p3.toNat, by have := hp.2.1; simp only at this; omega⟩
  have hv2 : v2 < 18446744073709551616 := by have := hp.1.2; simp only at this; omega
  have hv3 : v3 < 18446744073709551616 := by have := hp.2.2; simp only at this; omega
  simp only at c0 c1 c2
  have HV2 := Lib.hid hv2
  have HV3 := Lib.hid hv3
  have C1 := Lib.hid c1
  have C2 := Lib.hid c2
  clear hp c1 c2
  obtain ⟨r1, hr1⟩ : ∃ r, encC.num l p1 1099511627776 = r := ⟨_, rfl⟩
  have HH1 := Lib.hid (num_e w.drew g B mb off cur t l p1 1099511627776 ST0.out.drew VV0.out c0 hne ht hgB hB (by omega) (by omega))
  rw [show numE l p1 1099511627776 = r1 from hr1] at HH1
  have HQ1 := Lib.hid (show passPt encC l (p1, (v2 : Int), (v3 : Int)) = bnd r1 (p1, (v2 : Int), (v3 : Int)) fun s a => bnd (encC.fix s (v2 : Int) 8) (p1, (v2 : Int), (v3 : Int)) fun s b => bnd (encC.fix s (v3 : Int) 8) (p1, (v2 : Int), (v3 : Int)) fun s c => (0, s, (a, b, c)) by rw [← hr1]; rfl)
  have hl1 := numE_len l p1 1099511627776
  rw [show numE l p1 1099511627776 = r1 from hr1] at hl1
  have NO1 := Lib.hid (fun (w' : World) (h1 : Chg (FR w g B mb) w w') (h2 : r1.1 ≠ 0) => RetE.no (put := fun cur x => ((cur.setIfInBounds off (.int .i64 x.1)).setIfInBounds (off + 1) (.int .u64 x.2.1)).setIfInBounds (off + 2) (.int .u64 x.2.2)) (cur := cur) (t := t) h1 (show (passPt encC l (p1, (v2 : Int), (v3 : Int))).1 = r1.1 by rw [HQ1.out, bnd_no h2]) h2)
  clear hr1
  obtain ⟨er1, l1, a1⟩ := r1
  simp only at hl1
  clear c0 hv2 hv3
  go_enter Try.func22, Try.ntmps22
  go_wp2_with (fail)
  refine frp.wp_region_ptree (F := fun _ => True) (.reads [0, 1, 2, 3] (.one 4 false (.reads [5, 6] (.one 7 false .stop)))) (by kernel_rfl) (by kernel_rfl) ?_
  refine fr.tr_reads _ (by dsimp only [pick, ord.at_]) ?_
  repeat (go_big_quiet_step (fail))
  refine wpQuiet_nil ?_
  refine fr.tr_one _ (by dsimp only [pick, ord.at_]) ?_
  intro K1 g1 g2
  clear g2
  go_wp2_with (fail)
  refine g1 _ _ (Chg.refl _ _).drew ?_
  clear g1
  refine fr.tr_reads _ (by dsimp only [pick, ord.at_]) ?_
  repeat (go_big_quiet_step (fail))
  refine wpQuiet_nil ?_
  refine frp.tr_onep _ (by dsimp only [pick, ord.at_]) ?_
  intro K2 g1 g2 g3
  clear g2
  go_wp2_with (fail)
  refine HH1.out.mono ?_
  intro e w1 hr
  obtain ⟨hc, ⟨h0, rfl, hst, hV⟩ | ⟨h0, rfl⟩⟩ := hr
  · simp only at h0 hst hV
    subst h0
    have ST1 := Lib.hid hst
    have VV1 := Lib.hid hV
    have HC1 := Lib.hid (fr_trans HC0.out (fr_drew hc))
    have hs1 := HC1.out.size
    clear hst hV g3 HH1
    go_wp2_with (fail)
    refine g1 _ _ (((Chg.refl (fun _ => True) w).drew).trans (hc.mono (fun _ _ _ => trivial)) (fun _ _ e => e)) ?_
    clear g1 hc
    refine fr.tr_stop ?_
    refine PanicAll.normal ?_
    have hm1 : mb < w1.heap.size := by omega
    have hg1 : g < w1.heap.size := by omega
    obtain ⟨r2, hr2⟩ : ∃ r, encC.fix l1 (v2 : Int) 8 = r := ⟨_, rfl⟩
    have HH2 := Lib.hid (fix_e w1.drew g B mb (off + 1) (cur.setIfInBounds off (.int .i64 a1)) t l1 v2 8 ST1.out.drew VV1.out (by rw [get_ne (by omega)]; exact C1.out) hne ht hgB (by show B ≤ w1.heap.size; omega) (by omega) HV2.out (by omega))
    rw [show fixE l1 v2 8 = r2 from hr2] at HH2
    have HQ2 := Lib.hid (show passPt encC l (p1, (v2 : Int), (v3 : Int)) = bnd r2 (p1, (v2 : Int), (v3 : Int)) fun s b => bnd (encC.fix s (v3 : Int) 8) (p1, (v2 : Int), (v3 : Int)) fun s c => (0, s, (a1, b, c)) by rw [HQ1.out, bnd_ok rfl, ← hr2])
    have hl2 := fixE_len l1 v2 8
    rw [show fixE l1 v2 8 = r2 from hr2] at hl2
    have NO2 := Lib.hid (fun (w' : World) (h1 : Chg (FR w g B mb) w w') (h2 : r2.1 ≠ 0) => RetE.no (put := fun cur x => ((cur.setIfInBounds off (.int .i64 x.1)).setIfInBounds (off + 1) (.int .u64 x.2.1)).setIfInBounds (off + 2) (.int .u64 x.2.2)) (cur := cur) (t := t) h1 (show (passPt encC l (p1, (v2 : Int), (v3 : Int))).1 = r2.1 by rw [HQ2.out, bnd_no h2]) h2)
    clear hr2
    obtain ⟨er2, l2, a2⟩ := r2
    simp only at hl2
    go_wp2_with (fail)
    refine frp.wp_region_ptree (F := fun _ => True) (.reads [0, 1, 2, 3] (.one 4 false (.reads [5, 6] (.one 7 false .stop)))) (by kernel_rfl) (by kernel_rfl) ?_
    refine fr.tr_reads _ (by dsimp only [pick, ord.at_]) ?_
    repeat (go_big_quiet_step (fail))
    refine wpQuiet_nil ?_
    refine fr.tr_one _ (by dsimp only [pick, ord.at_]) ?_
    intro K1 g1 g2
    clear g2
    go_wp2_with (fail)
    refine g1 _ _ (Chg.refl _ _).drew ?_
    clear g1
    refine fr.tr_reads _ (by dsimp only [pick, ord.at_]) ?_
    repeat (go_big_quiet_step (fail))
    refine wpQuiet_nil ?_
    refine frp.tr_onep _ (by dsimp only [pick, ord.at_]) ?_
    intro K2 g1 g2 g3
    clear g2
    go_wp2_with (fail)
    refine HH2.out.mono ?_
    intro e w2 hr
    obtain ⟨hc, ⟨h0, rfl, hst, hV⟩ | ⟨h0, rfl⟩⟩ := hr
    · simp only at h0 hst hV
      subst h0
      have ST2 := Lib.hid hst
      have VV2 := Lib.hid hV
      have HC2 := Lib.hid (fr_trans HC1.out (fr_drew hc))
      have hs2 := HC2.out.size
      clear hst hV g3 HH2
      go_wp2_with (fail)
      refine g1 _ _ (((Chg.refl (fun _ => True) w1).drew).trans (hc.mono (fun _ _ _ => trivial)) (fun _ _ e => e)) ?_
      clear g1 hc
      refine fr.tr_stop ?_
      refine PanicAll.normal ?_
      have hm2 : mb < w2.heap.size := by omega
      have hg2 : g < w2.heap.size := by omega
      obtain ⟨r3, hr3⟩ : ∃ r, encC.fix l2 (v3 : Int) 8 = r := ⟨_, rfl⟩
      have HH3 := Lib.hid (fix_e w2.drew g B mb (off + 2) ((cur.setIfInBounds off (.int .i64 a1)).setIfInBounds (off + 1) (.int .u64 a2)) t l2 v3 8 ST2.out.drew VV2.out (by rw [get_ne (by omega), get_ne (by omega)]; exact C2.out) hne ht hgB (by show B ≤ w2.heap.size; omega) (by omega) HV3.out (by omega))
      rw [show fixE l2 v3 8 = r3 from hr3] at HH3
      have HQ3 := Lib.hid (show passPt encC l (p1, (v2 : Int), (v3 : Int)) = bnd r3 (p1, (v2 : Int), (v3 : Int)) fun s c => (0, s, (a1, a2, c)) by rw [HQ2.out, bnd_ok rfl, ← hr3])
      have hl3 := fixE_len l2 v3 8
      rw [show fixE l2 v3 8 = r3 from hr3] at hl3
      have NO3 := Lib.hid (fun (w' : World) (h1 : Chg (FR w g B mb) w w') (h2 : r3.1 ≠ 0) => RetE.no (put := fun cur x => ((cur.setIfInBounds off (.int .i64 x.1)).setIfInBounds (off + 1) (.int .u64 x.2.1)).setIfInBounds (off + 2) (.int .u64 x.2.2)) (cur := cur) (t := t) h1 (show (passPt encC l (p1, (v2 : Int), (v3 : Int))).1 = r3.1 by rw [HQ3.out, bnd_no h2]) h2)
      clear hr3
      obtain ⟨er3, l3, a3⟩ := r3
      simp only at hl3
      go_wp2_with (fail)
      refine frp.wp_region_ptree (F := fun _ => True) (.reads [0, 1, 2, 3] (.one 4 false (.reads [5, 6] (.one 7 false .stop)))) (by kernel_rfl) (by kernel_rfl) ?_
      refine fr.tr_reads _ (by dsimp only [pick, ord.at_]) ?_
      repeat (go_big_quiet_step (fail))
      refine wpQuiet_nil ?_
      refine fr.tr_one _ (by dsimp only [pick, ord.at_]) ?_
      intro K1 g1 g2
      clear g2
      go_wp2_with (fail)
      refine g1 _ _ (Chg.refl _ _).drew ?_
      clear g1
      refine fr.tr_reads _ (by dsimp only [pick, ord.at_]) ?_
      repeat (go_big_quiet_step (fail))
      refine wpQuiet_nil ?_
      refine frp.tr_onep _ (by dsimp only [pick, ord.at_]) ?_
      intro K2 g1 g2 g3
      clear g2
      go_wp2_with (fail)
      refine HH3.out.mono ?_
      intro e w3 hr
      obtain ⟨hc, ⟨h0, rfl, hst, hV⟩ | ⟨h0, rfl⟩⟩ := hr
      · simp only at h0 hst hV
        subst h0
        have ST3 := Lib.hid hst
        have VV3 := Lib.hid hV
        have HC3 := Lib.hid (fr_trans HC2.out (fr_drew hc))
        have hs3 := HC3.out.size
        clear hst hV g3 HH3
        go_wp2_with (fail)
        refine g1 _ _ (((Chg.refl (fun _ => True) w2).drew).trans (hc.mono (fun _ _ _ => trivial)) (fun _ _ e => e)) ?_
        clear g1 hc
        refine fr.tr_stop ?_
        refine PanicAll.normal ?_
        go_wp2_with (fail)
        go_end0
        exact RetE.ok (v := (a1, a2, a3)) HC3.out (by rw [HQ3.out, bnd_ok rfl]) ST3.out VV3.out
      · have HE := Lib.hid (NO3.out _ (fr_trans HC2.out (fr_drew hc)) h0)
        clear g1 hc HH3
        go_wp2_with (fail)
        intro a' ha'
        go_wp2_with (fail)
        exact ⟨ha', HE.out⟩
    · have HE := Lib.hid (NO2.out _ (fr_trans HC1.out (fr_drew hc)) h0)
      clear g1 hc HH2
      go_wp2_with (fail)
      intro a' ha'
      go_wp2_with (fail)
      exact ⟨ha', HE.out⟩
  · have HE := Lib.hid (NO1.out _ (fr_trans HC0.out (fr_drew hc)) h0)
    clear g1 hc HH1
    go_wp2_with (fail)
    intro a' ha'
    go_wp2_with (fail)
    exact ⟨ha', HE.out⟩
set_option maxHeartbeats 2000000 in
set_option maxRecDepth 100000 in
theorem passRg_e (w : World) (g B mb : Nat) (off : Nat) (cur : Array Value) (t : TypeId) (l : By) (f0 t0 : Int) (h : StE w g B l) (hV : V w mb cur t) (c0 : cur[off]? = some (.int .i64 f0)) (c1 : cur[off + 1]? = some (.int .i64 t0)) (hne : mb ≠ g) (ht : t ≠ 5) (hgB : True) (hB : B ≤ w.heap.size) (hn : l.length ≤ 999999900) :
    Calls Try.prog 23 #[.iface 50 (.pointer (some ⟨g, 0, none⟩)), .pointer (some ⟨mb, off, none⟩)] w (RetE w g B mb cur t (fun cur x => (cur.setIfInBounds off (.int .i64 x.1)).setIfInBounds (off + 1) (.int .i64 x.2)) (passRg encC l f0 t0)) := by
  have hmf : ∀ (fn : Fn) (first cap : Array Value) (w : World), (Instr.makeFunc fn first cap).run Try.prog w = .ok (.func fn first cap) w := fun _ _ _ _ => rfl
  have na1 := na_number_e g
  have na2 := na_fixed_e g
  have na3 := na_text_e g
  have na4 := na_flag_e g
  have HC0 := Lib.hid (Chg.refl (FR w g B mb) w)
  have ST0 := Lib.hid h
  have VV0 := Lib.hid hV
  have hs0 : w.heap.size ≤ w.heap.size := Nat.le_refl _
  have hgl := h.lt
  have hml := blk_lt hV
  clear h hV
  have C1 := Lib.hid c1
  clear c1
  obtain ⟨r1, hr1⟩ : ∃ r, encC.num l f0 1099511627777 = r := ⟨_, rfl⟩
  have HH1 := Lib.hid (num_e w.drew g B mb off cur t l f0 1099511627777 ST0.out.drew VV0.out c0 hne ht hgB hB (by omega) (by omega))
  rw [show numE l f0 1099511627777 = r1 from hr1] at HH1
  have HQ1 := Lib.hid (show passRg encC l f0 t0 = bnd r1 (f0, t0) fun s a => bnd (encC.num s t0 1099511627777) (f0, t0) fun s b => (0, s, (a, b)) by rw [← hr1]; rfl)
  have hl1 := numE_len l f0 1099511627777
  rw [show numE l f0 1099511627777 = r1 from hr1] at hl1
  have NO1 := Lib.hid (fun (w' : World) (h1 : Chg (FR w g B mb) w w') (h2 : r1.1 ≠ 0) => RetE.no (put := fun cur x => (cur.setIfInBounds off (.int .i64 x.1)).setIfInBounds (off + 1) (.int .i64 x.2)) (cur := cur) (t := t) h1 (show (passRg encC l f0 t0).1 = r1.1 by rw [HQ1.out, bnd_no h2]) h2)
  clear hr1
  obtain ⟨er1, l1, a1⟩ := r1
  simp only at hl1
  clear c0
  go_enter Try.func23, Try.ntmps23
  go_wp2_with (fail)
  refine frp.wp_region_ptree (F := fun _ => True) (.reads [0, 1, 2, 3] (.one 4 false (.reads [5, 6] (.one 7 false .stop)))) (by kernel_rfl) (by kernel_rfl) ?_
  refine fr.tr_reads _ (by dsimp only [pick, ord.at_]) ?_
  repeat (go_big_quiet_step (fail))
  refine wpQuiet_nil ?_
  refine fr.tr_one _ (by dsimp only [pick, ord.at_]) ?_
  intro K1 g1 g2
  clear g2
  go_wp2_with (fail)
  refine g1 _ _ (Chg.refl _ _).drew ?_
  clear g1
  refine fr.tr_reads _ (by dsimp only [pick, ord.at_]) ?_
  repeat (go_big_quiet_step (fail))
  refine wpQuiet_nil ?_
  refine frp.tr_onep _ (by dsimp only [pick, ord.at_]) ?_
  intro K2 g1 g2 g3
  clear g2
  go_wp2_with (fail)
  refine HH1.out.mono ?_
  intro e w1 hr
  obtain ⟨hc, ⟨h0, rfl, hst, hV⟩ | ⟨h0, rfl⟩⟩ := hr
  · simp only at h0 hst hV
    subst h0
    have ST1 := Lib.hid hst
    have VV1 := Lib.hid hV
    have HC1 := Lib.hid (fr_trans HC0.out (fr_drew hc))
    have hs1 := HC1.out.size
    clear hst hV g3 HH1
    go_wp2_with (fail)
    refine g1 _ _ (((Chg.refl (fun _ => True) w).drew).trans (hc.mono (fun _ _ _ => trivial)) (fun _ _ e => e)) ?_
    clear g1 hc
    refine fr.tr_stop ?_
    refine PanicAll.normal ?_
    have hm1 : mb < w1.heap.size := by omega
    have hg1 : g < w1.heap.size := by omega
    obtain ⟨r2, hr2⟩ : ∃ r, encC.num l1 t0 1099511627777 = r := ⟨_, rfl⟩
    have HH2 := Lib.hid (num_e w1.drew g B mb (off + 1) (cur.setIfInBounds off (.int .i64 a1)) t l1 t0 1099511627777 ST1.out.drew VV1.out (by rw [get_ne (by omega)]; exact C1.out) hne ht hgB (by show B ≤ w1.heap.size; omega) (by omega) (by omega))
    rw [show numE l1 t0 1099511627777 = r2 from hr2] at HH2
    have HQ2 := Lib.hid (show passRg encC l f0 t0 = bnd r2 (f0, t0) fun s b => (0, s, (a1, b)) by rw [HQ1.out, bnd_ok rfl, ← hr2])
    have hl2 := numE_len l1 t0 1099511627777
    rw [show numE l1 t0 1099511627777 = r2 from hr2] at hl2
    have NO2 := Lib.hid (fun (w' : World) (h1 : Chg (FR w g B mb) w w') (h2 : r2.1 ≠ 0) => RetE.no (put := fun cur x => (cur.setIfInBounds off (.int .i64 x.1)).setIfInBounds (off + 1) (.int .i64 x.2)) (cur := cur) (t := t) h1 (show (passRg encC l f0 t0).1 = r2.1 by rw [HQ2.out, bnd_no h2]) h2)
    clear hr2
    obtain ⟨er2, l2, a2⟩ := r2
    simp only at hl2
    go_wp2_with (fail)
    refine frp.wp_region_ptree (F := fun _ => True) (.reads [0, 1, 2, 3] (.one 4 false (.reads [5, 6] (.one 7 false .stop)))) (by kernel_rfl) (by kernel_rfl) ?_
    refine fr.tr_reads _ (by dsimp only [pick, ord.at_]) ?_
    repeat (go_big_quiet_step (fail))
    refine wpQuiet_nil ?_
    refine fr.tr_one _ (by dsimp only [pick, ord.at_]) ?_
    intro K1 g1 g2
    clear g2
    go_wp2_with (fail)
    refine g1 _ _ (Chg.refl _ _).drew ?_
    clear g1
    refine fr.tr_reads _ (by dsimp only [pick, ord.at_]) ?_
    repeat (go_big_quiet_step (fail))
    refine wpQuiet_nil ?_
    refine frp.tr_onep _ (by dsimp only [pick, ord.at_]) ?_
    intro K2 g1 g2 g3
    clear g2
    go_wp2_with (fail)
    refine HH2.out.mono ?_
    intro e w2 hr
    obtain ⟨hc, ⟨h0, rfl, hst, hV⟩ | ⟨h0, rfl⟩⟩ := hr
    · simp only at h0 hst hV
      subst h0
      have ST2 := Lib.hid hst
      have VV2 := Lib.hid hV
      have HC2 := Lib.hid (fr_trans HC1.out (fr_drew hc))
      have hs2 := HC2.out.size
      clear hst hV g3 HH2
      go_wp2_with (fail)
      refine g1 _ _ (((Chg.refl (fun _ => True) w1).drew).trans (hc.mono (fun _ _ _ => trivial)) (fun _ _ e => e)) ?_
      clear g1 hc
      refine fr.tr_stop ?_
      refine PanicAll.normal ?_
      go_wp2_with (fail)
      go_end0
      exact RetE.ok (v := (a1, a2)) HC2.out (by rw [HQ2.out, bnd_ok rfl]) ST2.out VV2.out
    · have HE := Lib.hid (NO2.out _ (fr_trans HC1.out (fr_drew hc)) h0)
      clear g1 hc HH2
      go_wp2_with (fail)
      intro a' ha'
      go_wp2_with (fail)
      exact ⟨ha', HE.out⟩
  · have HE := Lib.hid (NO1.out _ (fr_trans HC0.out (fr_drew hc)) h0)
    clear g1 hc HH1
    go_wp2_with (fail)
    intro a' ha'
    go_wp2_with (fail)
    exact ⟨ha', HE.out⟩
end Go.Proofs.Ythkcnakodlbdpaa.wr
