/-
  Messages: passing over a whole message.
-/
import Derived.Test.YthkcnakodlbdpaaWrL
namespace Go.Proofs.Ythkcnakodlbdpaa.wr
open Go.ChangeShapes Go.WideShapes Go.ChangeAt Go.RowKit plain words ord mem uvs uvc

def mcells (m : Msg) (P M : Value) : Array Value := #[.int .i64 m.kind, .int .i64 m.seq, .int .i64 m.epoch, .int .i64 m.space, .int .i64 m.shard, .string (cl.tx m.id), .int .i64 m.block, .int .i64 m.rf, .int .i64 m.rt, .int .i64 m.p.1, .int .u64 m.p.2.1, .int .u64 m.p.2.2, .int .i64 m.err, .bool m.more, P, M]
def rest (C : Cd) (s : By) (m0 m : Msg) : R Msg := bnd (head C s m) m0 fun s m => tail C s m
section
variable {C : Cd} {s : By} {m0 m : Msg}
theorem rest_1 (h : m.kind = 1) : rest C s m0 m = bnd (C.num s m.space 255) m0 fun s a => bnd (C.txt s m.id) m0 fun s i => bnd (passPt C s m.p) { m with space := a, id := i } fun s p => (0, s, { m with space := a, id := i, p := p }) := by
  obtain ⟨kind, _, _, _, _, _, _, _, _, _, _, _, _, _⟩ := m
  simp only at h
  subst h
  simp [rest, head, tail, blockId, bnd_assoc, bnd_ok]
theorem rest_3 (h : m.kind = 3) : rest C s m0 m = bnd (C.num s m.space 255) m0 fun s a => bnd (C.txt s m.id) m0 fun s i => bnd (passRg C s m.rf m.rt) { m with space := a, id := i } fun s p => (0, s, { m with space := a, id := i, rf := p.1, rt := p.2 }) := by
  obtain ⟨kind, _, _, _, _, _, _, _, _, _, _, _, _, _⟩ := m
  simp only at h
  subst h
  simp [rest, head, tail, blockId, bnd_assoc, bnd_ok]
theorem rest_5 (h : m.kind = 5) : rest C s m0 m = bnd (C.num s m.space 255) m0 fun s a => bnd (C.num s m.shard 255) m0 fun s b => bnd (passRg C s m.rf m.rt) { m with space := a, shard := b } fun s p => bnd (C.num s m.block 1099511627776) { m with space := a, shard := b, rf := p.1, rt := p.2 } fun s c => bnd (C.txt s m.id) { m with space := a, shard := b, rf := p.1, rt := p.2 } fun s i => (0, s, { m with space := a, shard := b, rf := p.1, rt := p.2, block := c, id := i }) := by
  obtain ⟨kind, _, _, _, _, _, _, _, _, _, _, _, _, _⟩ := m
  simp only at h
  subst h
  simp [rest, head, tail, blockId, bnd_assoc, bnd_ok]
theorem rest_7 (h : m.kind = 7) : rest C s m0 m = bnd (C.num s m.space 255) m0 fun s a => bnd (C.num s m.shard 255) m0 fun s b => bnd (C.num s m.block 1099511627776) { m with space := a, shard := b } fun s c => bnd (C.txt s m.id) { m with space := a, shard := b } fun s i => (0, s, { m with space := a, shard := b, block := c, id := i }) := by
  obtain ⟨kind, _, _, _, _, _, _, _, _, _, _, _, _, _⟩ := m
  simp only at h
  subst h
  simp [rest, head, tail, blockId, bnd_assoc, bnd_ok]
theorem rest_6 (h : m.kind = 6) : rest C s m0 m = bnd (C.num s m.err 255) m0 fun s a => bnd (C.flg s m.more) { m with err := a } fun s b => bnd (passList C ([], 0, 0, 0) (passMt C) 8 s m.mts) { m with err := a } fun s l => (0, s, { m with err := a, more := b, mts := l }) := by
  obtain ⟨kind, _, _, _, _, _, _, _, _, _, _, _, _, _⟩ := m
  simp only at h
  subst h
  simp [rest, head, tail, blockId, bnd_assoc, bnd_ok]
theorem rest_4 (h : m.kind = 4) : rest C s m0 m = bnd (C.num s m.err 255) m0 fun s a => bnd (passList C (0, 0, 0) (passPt C) 512 s m.pts) { m with err := a } fun s l => (0, s, { m with err := a, pts := l }) := by
  obtain ⟨kind, _, _, _, _, _, _, _, _, _, _, _, _, _⟩ := m
  simp only at h
  subst h
  simp [rest, head, tail, blockId, bnd_assoc, bnd_ok]
theorem rest_8 (h : m.kind = 8) : rest C s m0 m = bnd (C.num s m.err 255) m0 fun s a => bnd (passList C (0, 0, 0) (passPt C) 512 s m.pts) { m with err := a } fun s l => (0, s, { m with err := a, pts := l }) := by
  obtain ⟨kind, _, _, _, _, _, _, _, _, _, _, _, _, _⟩ := m
  simp only at h
  subst h
  simp [rest, head, tail, blockId, bnd_assoc, bnd_ok]
theorem rest_0 (h : m.kind ≠ 1 ∧ m.kind ≠ 3 ∧ m.kind ≠ 5 ∧ m.kind ≠ 7 ∧ m.kind ≠ 6 ∧ m.kind ≠ 4 ∧ m.kind ≠ 8) : rest C s m0 m = bnd (C.num s m.err 255) m0 fun s a => (0, s, { m with err := a }) := by
  obtain ⟨kind, _, _, _, _, _, _, _, _, _, _, _, _, _⟩ := m
  simp only at h
  obtain ⟨h1, h3, h5, h7, h6, h4, h8⟩ := h
  simp [rest, head, tail, bnd_assoc, bnd_ok, h1, h3, h5, h7, h6, h4, h8]
end
theorem bnd_eq {α β : Type} {r r' : R α} {d : β} {k : By → α → R β} (h : r = r') : bnd r d k = bnd r' d k := by rw [h]
theorem bnd_next {α β γ : Type} {F : R γ} {s : By} {a : α} {d d2 : γ} {k : By → α → R γ} {r : R β} {k2 : By → β → R γ} (h : F = bnd (0, s, a) d k) (h2 : k s a = bnd r d2 k2) : F = bnd r d2 k2 := h.trans ((bnd_ok rfl).trans h2)
def MOk (w : World) (B0 : Nat) (m : Msg) (pA mA : Option Addr) (pc mc : Nat) : Prop := (Ls PE w B0 pA m.pts.length m.pts ∧ (pA = none → pc = 0) ∧ ∀ x ∈ m.pts, PtOk x) ∧ (Ls ME w B0 mA m.mts.length m.mts ∧ (mA = none → mc = 0) ∧ ∀ x ∈ m.mts, MtOk x)
/-- a message was passed -/
def RetPs (w : World) (g B mb : Nat) (r : R Msg) (e : Ending) (w' : World) : Prop :=
  Chg (FR w g B mb) w w' ∧ ((r.1 = 0 ∧ e = .returned (.tuple #[]) ∧ StE w' g B r.2.1) ∨ (r.1 ≠ 0 ∧ e = .panicked (errC r.1)))
theorem passRgE_len (s : By) (f t : Int) : (passRg encC s f t).2.1.length ≤ s.length + 20 := by
  have h1 := numE_len s f 1099511627777
  refine bnd_len (show (numE s f 1099511627777).2.1.length ≤ _ by omega) fun _ => ?_
  have h2 := numE_len (numE s f 1099511627777).2.1 t 1099511627777
  refine bnd_len (show (numE (numE s f 1099511627777).2.1 t 1099511627777).2.1.length ≤ _ by omega) fun _ => ?_
  show (numE (numE s f 1099511627777).2.1 t 1099511627777).2.1.length ≤ _
  omega
set_option maxHeartbeats 16000000 in
set_option maxRecDepth 100000 in
theorem pass_e (w : World) (g B mb B0 : Nat) (l : By) (m : Msg) (pA mA : Option Addr) (pc mc : Nat) (h : StE w g B l) (hV : V w mb (mcells m (.slice pA m.pts.length pc) (.slice mA m.mts.length mc)) 31) (hok : MOk w B0 m pA mA pc mc) (hid : m.id.length ≤ 1000000000) (hpt : PtOk m.p) (hlp : m.pts.length ≤ 1000000) (hlm : m.mts.length ≤ 1000000)
    (hne : mb ≠ g) (hgB : B0 ≤ B) (hB : B ≤ w.heap.size) (h0g : B0 ≤ g) (h0m : B0 ≤ mb) (hn : l.length ≤ 100000) :
    Calls Try.prog 16 #[.iface 50 (.pointer (some ⟨g, 0, none⟩)), .pointer (some ⟨mb, 0, none⟩)] w (RetPs w g B mb (pass encC l m)) := by
  have hmf : ∀ (fn : Fn) (first cap : Array Value) (w : World), (Instr.makeFunc fn first cap).run Try.prog w = .ok (.func fn first cap) w := fun _ _ _ _ => rfl
  have na1 := na_number_e g
  have na2 := na_text_e g
  have na3 := na_flag_e g
  obtain ⟨P, hP⟩ : ∃ P : Value, .slice pA m.pts.length pc = P := ⟨_, rfl⟩
  obtain ⟨M, hM⟩ : ∃ M : Value, .slice mA m.mts.length mc = M := ⟨_, rfl⟩
  have HP := Lib.hid hP.symm
  have HM := Lib.hid hM.symm
  rw [hP, hM] at hV
  have HPTS := Lib.hid hok.1
  have HMTS := Lib.hid hok.2
  have HID := Lib.hid hid
  have HPT := Lib.hid hpt
  have HC0 := Lib.hid (Chg.refl (FR w g B mb) w)
  have ST0 := Lib.hid h
  have VV0 := Lib.hid hV
  have hs0 : w.heap.size ≤ w.heap.size := Nat.le_refl _
  have hgl := h.lt
  have hml := blk_lt hV
  clear h hV hP hM hok hid hpt
  obtain ⟨r1, hr1⟩ : ∃ r, encC.num l m.seq 1099511627776 = r := ⟨_, rfl⟩
  have HH1 := Lib.hid (num_e w.drew g B mb 1 (mcells m P M) 31 l m.seq 1099511627776 ST0.out.drew VV0.out rfl hne (by decide) trivial hB (by omega) (by omega))
  rw [show numE l m.seq 1099511627776 = r1 from hr1] at HH1
  have HQ1 := Lib.hid (show pass encC l m = bnd r1 _ _ from bnd_eq hr1)
  have hl1 := numE_len l m.seq 1099511627776
  rw [show numE l m.seq 1099511627776 = r1 from hr1] at hl1
  have NO1 := Lib.hid (fun (w' : World) (h1 : Chg (FR w g B mb) w w') (h2 : r1.1 ≠ 0) => (show RetPs w g B mb (pass encC l m) (.panicked (errC r1.1)) w' from ⟨h1, .inr ⟨by rw [HQ1.out, bnd_no h2]; exact h2, by rw [HQ1.out, bnd_no h2]⟩⟩))
  clear hr1
  obtain ⟨er1, l1, a1⟩ := r1
  simp only at hl1
  go_enter Try.func16, Try.ntmps16
  go_wp2_with (fail)
  refine frp.wp_region_ptree (F := fun _ => True) (.reads [0, 1, 2, 3] (.one 4 false (.reads [5, 6] (.one 7 false .stop)))) (by kernel_rfl) (by kernel_rfl) ?_
  refine fr.tr_reads _ (by dsimp only [pick, ord.at_]) ?_
  repeat (go_big_quiet_step (fail))
  refine wpQuiet_nil ?_
  refine fr.tr_one _ (by dsimp only [pick, ord.at_]) ?_
  intro K1 g1 g2
  clear g2
  go_wp2_with (fail)
  refine g1 _ _ (Chg.refl _ _).drew ?_
  clear g1
  refine fr.tr_reads _ (by dsimp only [pick, ord.at_]) ?_
  repeat (go_big_quiet_step (fail))
  refine wpQuiet_nil ?_
  refine frp.tr_onep _ (by dsimp only [pick, ord.at_]) ?_
  intro K2 g1 g2 g3
  clear g2
  go_wp2_with (fail)
  refine HH1.out.mono ?_
  intro e w1 hr
  obtain ⟨hc, ⟨h0, rfl, hst, hV⟩ | ⟨h0, rfl⟩⟩ := hr
  · simp only at h0 hst hV
    subst h0
    have ST1 := Lib.hid hst
    have VV1 := Lib.hid hV
    have HC1 := Lib.hid (fr_trans HC0.out (fr_drew hc))
    have hs1 := HC1.out.size
    clear hst hV g3 HH1
    go_wp2_with (fail)
    refine g1 _ _ (((Chg.refl (fun _ => True) w).drew).trans (hc.mono (fun _ _ _ => trivial)) (fun _ _ e => e)) ?_
    clear g1 hc
    refine fr.tr_stop ?_
    refine PanicAll.normal ?_
    replace VV1 := Lib.hid (show V w1 mb (mcells ({ m with seq := a1 } : Msg) P M) 31 from VV1.out)
    have hm1 : mb < w1.heap.size := by omega
    have hg1 : g < w1.heap.size := by omega
    obtain ⟨r2, hr2⟩ : ∃ r, encC.num l1 m.epoch 1099511627776 = r := ⟨_, rfl⟩
    have HH2 := Lib.hid (num_e w1.drew g B mb 2 (mcells ({ m with seq := a1 } : Msg) P M) 31 l1 m.epoch 1099511627776 ST1.out.drew VV1.out rfl hne (by decide) trivial (by show B ≤ w1.heap.size; omega) (by omega) (by omega))
    rw [show numE l1 m.epoch 1099511627776 = r2 from hr2] at HH2
    have HQ2 := Lib.hid (show pass encC l m = bnd r2 _ _ from bnd_next HQ1.out (bnd_eq hr2))
    have hl2 := numE_len l1 m.epoch 1099511627776
    rw [show numE l1 m.epoch 1099511627776 = r2 from hr2] at hl2
    have NO2 := Lib.hid (fun (w' : World) (h1 : Chg (FR w g B mb) w w') (h2 : r2.1 ≠ 0) => (show RetPs w g B mb (pass encC l m) (.panicked (errC r2.1)) w' from ⟨h1, .inr ⟨by rw [HQ2.out, bnd_no h2]; exact h2, by rw [HQ2.out, bnd_no h2]⟩⟩))
    clear hr2
    obtain ⟨er2, l2, a2⟩ := r2
    simp only at hl2
    go_wp2_with (fail)
    refine frp.wp_region_ptree (F := fun _ => True) (.reads [0, 1, 2, 3] (.one 4 false (.reads [5, 6] (.one 7 false .stop)))) (by kernel_rfl) (by kernel_rfl) ?_
    refine fr.tr_reads _ (by dsimp only [pick, ord.at_]) ?_
    repeat (go_big_quiet_step (fail))
    refine wpQuiet_nil ?_
    refine fr.tr_one _ (by dsimp only [pick, ord.at_]) ?_
    intro K1 g1 g2
    clear g2
    go_wp2_with (fail)
    refine g1 _ _ (Chg.refl _ _).drew ?_
    clear g1
    refine fr.tr_reads _ (by dsimp only [pick, ord.at_]) ?_
    repeat (go_big_quiet_step (fail))
    refine wpQuiet_nil ?_
    refine frp.tr_onep _ (by dsimp only [pick, ord.at_]) ?_
    intro K2 g1 g2 g3
    clear g2
    go_wp2_with (fail)
    refine HH2.out.mono ?_
    intro e w2 hr
    obtain ⟨hc, ⟨h0, rfl, hst, hV⟩ | ⟨h0, rfl⟩⟩ := hr
    · simp only at h0 hst hV
      subst h0
      have ST2 := Lib.hid hst
      have VV2 := Lib.hid hV
      have HC2 := Lib.hid (fr_trans HC1.out (fr_drew hc))
      have hs2 := HC2.out.size
      clear hst hV g3 HH2
      go_wp2_with (fail)
      refine g1 _ _ (((Chg.refl (fun _ => True) w1).drew).trans (hc.mono (fun _ _ _ => trivial)) (fun _ _ e => e)) ?_
      clear g1 hc
      refine fr.tr_stop ?_
      refine PanicAll.normal ?_
      replace VV2 := Lib.hid (show V w2 mb (mcells ({ ({ m with seq := a1 } : Msg) with epoch := a2 } : Msg) P M) 31 from VV2.out)
      have hm2 : mb < w2.heap.size := by omega
      have hg2 : g < w2.heap.size := by omega
      have c0 : w2.cell? ⟨mb, 0, none⟩ = some (.int .i64 m.kind) := by rw [cell_of_row _ _ _ _ _ _ VV2.out]; rfl
      have hkk : m.kind = 1 ∨ m.kind = 3 ∨ m.kind = 5 ∨ m.kind = 7 ∨ m.kind = 6 ∨ m.kind = 4 ∨ m.kind = 8 ∨ (m.kind ≠ 1 ∧ m.kind ≠ 3 ∧ m.kind ≠ 5 ∧ m.kind ≠ 7 ∧ m.kind ≠ 6 ∧ m.kind ≠ 4 ∧ m.kind ≠ 8) := by omega
      rcases hkk with hk | hk | hk | hk | hk | hk | hk | hk
      · have kb1 : (m.kind == 1) = true := by rw [hk]; rfl
        have kb3 : (m.kind == 3) = false := by rw [hk]; rfl
        have kb5 : (m.kind == 5) = false := by rw [hk]; rfl
        have kb7 : (m.kind == 7) = false := by rw [hk]; rfl
        have kb6 : (m.kind == 6) = false := by rw [hk]; rfl
        have kb4 : (m.kind == 4) = false := by rw [hk]; rfl
        have kb8 : (m.kind == 8) = false := by rw [hk]; rfl
        have HKI := Lib.hid hk
        clear hk
        obtain ⟨r3, hr3⟩ : ∃ r, encC.num l2 m.space 255 = r := ⟨_, rfl⟩
        have HH3 := Lib.hid (num_e w2.drew g B mb 3 (mcells ({ ({ m with seq := a1 } : Msg) with epoch := a2 } : Msg) P M) 31 l2 m.space 255 (ST2.out.drew) (VV2.out) rfl hne (by decide) trivial (by show B ≤ w2.heap.size; omega) (by omega) (by omega))
        rw [show numE l2 m.space 255 = r3 from hr3] at HH3
        have HQ3 := Lib.hid (show pass encC l m = bnd r3 _ _ from bnd_next HQ2.out ((rest_1 (m0 := m) (m := ({ ({ m with seq := a1 } : Msg) with epoch := a2 } : Msg)) HKI.out).trans (bnd_eq hr3)))
        have hl3 := numE_len l2 m.space 255
        rw [show numE l2 m.space 255 = r3 from hr3] at hl3
        have NO3 := Lib.hid (fun (w' : World) (h1 : Chg (FR w g B mb) w w') (h2 : r3.1 ≠ 0) => (show RetPs w g B mb (pass encC l m) (.panicked (errC r3.1)) w' from ⟨h1, .inr ⟨by rw [HQ3.out, bnd_no h2]; exact h2, by rw [HQ3.out, bnd_no h2]⟩⟩))
        clear hr3
        obtain ⟨er3, l3, a3⟩ := r3
        simp only at hl3
        go_wp2_with (fail)
        refine frp.wp_region_ptree (F := fun _ => True) (.reads [0, 1, 2, 3] (.one 4 false (.reads [5, 6] (.one 7 false .stop)))) (by kernel_rfl) (by kernel_rfl) ?_
        refine fr.tr_reads _ (by dsimp only [pick, ord.at_]) ?_
        repeat (go_big_quiet_step (fail))
        refine wpQuiet_nil ?_
        refine fr.tr_one _ (by dsimp only [pick, ord.at_]) ?_
        intro K1 g1 g2
        clear g2
        go_wp2_with (fail)
        refine g1 _ _ (Chg.refl _ _).drew ?_
        clear g1
        refine fr.tr_reads _ (by dsimp only [pick, ord.at_]) ?_
        repeat (go_big_quiet_step (fail))
        refine wpQuiet_nil ?_
        refine frp.tr_onep _ (by dsimp only [pick, ord.at_]) ?_
        intro K2 g1 g2 g3
        clear g2
        go_wp2_with (fail)
        refine HH3.out.mono ?_
        intro e w3 hr
        obtain ⟨hc, ⟨h0, rfl, hst, hV⟩ | ⟨h0, rfl⟩⟩ := hr
        · simp only at h0 hst hV
          subst h0
          have ST3 := Lib.hid hst
          have VV3 := Lib.hid hV
          have HC3 := Lib.hid (fr_trans HC2.out (fr_drew hc))
          have hs3 := HC3.out.size
          clear hst hV g3 HH3
          go_wp2_with (fail)
          refine g1 _ _ (((Chg.refl (fun _ => True) w2).drew).trans (hc.mono (fun _ _ _ => trivial)) (fun _ _ e => e)) ?_
          clear g1 hc
          refine fr.tr_stop ?_
          refine PanicAll.normal ?_
          replace VV3 := Lib.hid (show V w3 mb (mcells ({ ({ ({ m with seq := a1 } : Msg) with epoch := a2 } : Msg) with space := a3 } : Msg) P M) 31 from VV3.out)
          have c0 : w3.cell? ⟨mb, 0, none⟩ = some (.int .i64 m.kind) := by rw [cell_of_row _ _ _ _ _ _ VV3.out]; rfl
          have hm3 : mb < w3.heap.size := by omega
          have hg3 : g < w3.heap.size := by omega
          obtain ⟨r4, hr4⟩ : ∃ r, encC.txt l3 m.id = r := ⟨_, rfl⟩
          have HH4 := Lib.hid (text_e w3.drew g B mb 5 (mcells ({ ({ ({ m with seq := a1 } : Msg) with epoch := a2 } : Msg) with space := a3 } : Msg) P M) 31 l3 m.id (ST3.out.drew) (VV3.out) rfl hne (by decide) trivial (by show B ≤ w3.heap.size; omega) (by omega) HID.out)
          rw [show txtE l3 m.id = r4 from hr4] at HH4
          have HQ4 := Lib.hid (show pass encC l m = bnd r4 _ _ from bnd_next HQ3.out (bnd_eq hr4))
          have hl4 := txtE_len l3 m.id
          rw [show txtE l3 m.id = r4 from hr4] at hl4
          have NO4 := Lib.hid (fun (w' : World) (h1 : Chg (FR w g B mb) w w') (h2 : r4.1 ≠ 0) => (show RetPs w g B mb (pass encC l m) (.panicked (errC r4.1)) w' from ⟨h1, .inr ⟨by rw [HQ4.out, bnd_no h2]; exact h2, by rw [HQ4.out, bnd_no h2]⟩⟩))
          clear hr4
          obtain ⟨er4, l4, a4⟩ := r4
          simp only at hl4
          go_wp2_with (fail)
          refine frp.wp_region_ptree (F := fun _ => True) (.reads [0, 1, 2, 3] (.one 4 false (.reads [5, 6] (.one 7 false .stop)))) (by kernel_rfl) (by kernel_rfl) ?_
          refine fr.tr_reads _ (by dsimp only [pick, ord.at_]) ?_
          repeat (go_big_quiet_step (fail))
          refine wpQuiet_nil ?_
          refine fr.tr_one _ (by dsimp only [pick, ord.at_]) ?_
          intro K1 g1 g2
          clear g2
          go_wp2_with (fail)
          refine g1 _ _ (Chg.refl _ _).drew ?_
          clear g1
          refine fr.tr_reads _ (by dsimp only [pick, ord.at_]) ?_
          repeat (go_big_quiet_step (fail))
          refine wpQuiet_nil ?_
          refine frp.tr_onep _ (by dsimp only [pick, ord.at_]) ?_
          intro K2 g1 g2 g3
          clear g2
          go_wp2_with (fail)
          refine HH4.out.mono ?_
          intro e w4 hr
          obtain ⟨hc, ⟨h0, rfl, hst, hV⟩ | ⟨h0, rfl⟩⟩ := hr
          · simp only at h0 hst hV
            subst h0
            have ST4 := Lib.hid hst
            have VV4 := Lib.hid hV
            have HC4 := Lib.hid (fr_trans HC3.out (fr_drew hc))
            have hs4 := HC4.out.size
            clear hst hV g3 HH4
            go_wp2_with (fail)
            refine g1 _ _ (((Chg.refl (fun _ => True) w3).drew).trans (hc.mono (fun _ _ _ => trivial)) (fun _ _ e => e)) ?_
            clear g1 hc
            refine fr.tr_stop ?_
            refine PanicAll.normal ?_
            replace VV4 := Lib.hid (show V w4 mb (mcells ({ ({ ({ ({ m with seq := a1 } : Msg) with epoch := a2 } : Msg) with space := a3 } : Msg) with id := a4 } : Msg) P M) 31 from VV4.out)
            have c0 : w4.cell? ⟨mb, 0, none⟩ = some (.int .i64 m.kind) := by rw [cell_of_row _ _ _ _ _ _ VV4.out]; rfl
            have hm4 : mb < w4.heap.size := by omega
            have hg4 : g < w4.heap.size := by omega
            obtain ⟨r5, hr5⟩ : ∃ r, passPt encC l4 m.p = r := ⟨_, rfl⟩
            have HH5 := Lib.hid (passPt_e w4 g B mb 9 (mcells ({ ({ ({ ({ m with seq := a1 } : Msg) with epoch := a2 } : Msg) with space := a3 } : Msg) with id := a4 } : Msg) P M) 31 l4 m.p (ST4.out) (VV4.out) rfl rfl rfl HPT.out hne (by decide) trivial (by show B ≤ w4.heap.size; omega) (by omega))
            rw [show passPt encC l4 m.p = r5 from hr5] at HH5
            have HQ5 := Lib.hid (show pass encC l m = bnd r5 _ _ from bnd_next HQ4.out (bnd_eq hr5))
            have hl5 := passPtE_len l4 m.p
            rw [show passPt encC l4 m.p = r5 from hr5] at hl5
            have NO5 := Lib.hid (fun (w' : World) (h1 : Chg (FR w g B mb) w w') (h2 : r5.1 ≠ 0) => (show RetPs w g B mb (pass encC l m) (.panicked (errC r5.1)) w' from ⟨h1, .inr ⟨by rw [HQ5.out, bnd_no h2]; exact h2, by rw [HQ5.out, bnd_no h2]⟩⟩))
            clear hr5
            obtain ⟨er5, l5, a5⟩ := r5
            simp only at hl5
            go_wp2_with (fail)
            refine HH5.out.mono ?_
            intro e w5 hr
            obtain ⟨hc, ⟨h0, rfl, hst, hV⟩ | ⟨h0, rfl⟩⟩ := hr
            · simp only at h0 hst hV
              subst h0
              have ST5 := Lib.hid hst
              have VV5 := Lib.hid hV
              have HC5 := Lib.hid (fr_trans HC4.out hc)
              have hs5 := HC5.out.size
              clear hst hV hc HH5
              replace VV5 := Lib.hid (show V w5 mb (mcells ({ ({ ({ ({ ({ m with seq := a1 } : Msg) with epoch := a2 } : Msg) with space := a3 } : Msg) with id := a4 } : Msg) with p := a5 } : Msg) P M) 31 from VV5.out)
              have c0 : w5.cell? ⟨mb, 0, none⟩ = some (.int .i64 m.kind) := by rw [cell_of_row _ _ _ _ _ _ VV5.out]; rfl
              have hm5 : mb < w5.heap.size := by omega
              have hg5 : g < w5.heap.size := by omega
              go_wp2_with (fail)
              go_end0
              exact ⟨HC5.out, .inl ⟨by rw [HQ5.out, bnd_ok rfl], rfl, by rw [HQ5.out, bnd_ok rfl]; exact ST5.out⟩⟩
            · have HE := Lib.hid (NO5.out _ (fr_trans HC4.out hc) h0)
              clear hc HH5
              go_wp2_with (fail)
              exact ⟨rfl, HE.out⟩
          · have HE := Lib.hid (NO4.out _ (fr_trans HC3.out (fr_drew hc)) h0)
            clear g1 hc HH4
            go_wp2_with (fail)
            intro a' ha'
            go_wp2_with (fail)
            exact ⟨ha', HE.out⟩
        · have HE := Lib.hid (NO3.out _ (fr_trans HC2.out (fr_drew hc)) h0)
          clear g1 hc HH3
          go_wp2_with (fail)
          intro a' ha'
          go_wp2_with (fail)
          exact ⟨ha', HE.out⟩
      · have kb1 : (m.kind == 1) = false := by rw [hk]; rfl
        have kb3 : (m.kind == 3) = true := by rw [hk]; rfl
        have kb5 : (m.kind == 5) = false := by rw [hk]; rfl
        have kb7 : (m.kind == 7) = false := by rw [hk]; rfl
        have kb6 : (m.kind == 6) = false := by rw [hk]; rfl
        have kb4 : (m.kind == 4) = false := by rw [hk]; rfl
        have kb8 : (m.kind == 8) = false := by rw [hk]; rfl
        have HKI := Lib.hid hk
        clear hk
        obtain ⟨r3, hr3⟩ : ∃ r, encC.num l2 m.space 255 = r := ⟨_, rfl⟩
        have HH3 := Lib.hid (num_e w2.drew g B mb 3 (mcells ({ ({ m with seq := a1 } : Msg) with epoch := a2 } : Msg) P M) 31 l2 m.space 255 (ST2.out.drew) (VV2.out) rfl hne (by decide) trivial (by show B ≤ w2.heap.size; omega) (by omega) (by omega))
        rw [show numE l2 m.space 255 = r3 from hr3] at HH3
        have HQ3 := Lib.hid (show pass encC l m = bnd r3 _ _ from bnd_next HQ2.out ((rest_3 (m0 := m) (m := ({ ({ m with seq := a1 } : Msg) with epoch := a2 } : Msg)) HKI.out).trans (bnd_eq hr3)))
        have hl3 := numE_len l2 m.space 255
        rw [show numE l2 m.space 255 = r3 from hr3] at hl3
        have NO3 := Lib.hid (fun (w' : World) (h1 : Chg (FR w g B mb) w w') (h2 : r3.1 ≠ 0) => (show RetPs w g B mb (pass encC l m) (.panicked (errC r3.1)) w' from ⟨h1, .inr ⟨by rw [HQ3.out, bnd_no h2]; exact h2, by rw [HQ3.out, bnd_no h2]⟩⟩))
        clear hr3
        obtain ⟨er3, l3, a3⟩ := r3
        simp only at hl3
        go_wp2_with (fail)
        refine frp.wp_region_ptree (F := fun _ => True) (.reads [0, 1, 2, 3] (.one 4 false (.reads [5, 6] (.one 7 false .stop)))) (by kernel_rfl) (by kernel_rfl) ?_
        refine fr.tr_reads _ (by dsimp only [pick, ord.at_]) ?_
        repeat (go_big_quiet_step (fail))
        refine wpQuiet_nil ?_
        refine fr.tr_one _ (by dsimp only [pick, ord.at_]) ?_
        intro K1 g1 g2
        clear g2
        go_wp2_with (fail)
        refine g1 _ _ (Chg.refl _ _).drew ?_
        clear g1
        refine fr.tr_reads _ (by dsimp only [pick, ord.at_]) ?_
        repeat (go_big_quiet_step (fail))
        refine wpQuiet_nil ?_
        refine frp.tr_onep _ (by dsimp only [pick, ord.at_]) ?_
        intro K2 g1 g2 g3
        clear g2
        go_wp2_with (fail)
        refine HH3.out.mono ?_
        intro e w3 hr
        obtain ⟨hc, ⟨h0, rfl, hst, hV⟩ | ⟨h0, rfl⟩⟩ := hr
        · simp only at h0 hst hV
          subst h0
          have ST3 := Lib.hid hst
          have VV3 := Lib.hid hV
          have HC3 := Lib.hid (fr_trans HC2.out (fr_drew hc))
          have hs3 := HC3.out.size
          clear hst hV g3 HH3
          go_wp2_with (fail)
          refine g1 _ _ (((Chg.refl (fun _ => True) w2).drew).trans (hc.mono (fun _ _ _ => trivial)) (fun _ _ e => e)) ?_
          clear g1 hc
          refine fr.tr_stop ?_
          refine PanicAll.normal ?_
          replace VV3 := Lib.hid (show V w3 mb (mcells ({ ({ ({ m with seq := a1 } : Msg) with epoch := a2 } : Msg) with space := a3 } : Msg) P M) 31 from VV3.out)
          have c0 : w3.cell? ⟨mb, 0, none⟩ = some (.int .i64 m.kind) := by rw [cell_of_row _ _ _ _ _ _ VV3.out]; rfl
          have hm3 : mb < w3.heap.size := by omega
          have hg3 : g < w3.heap.size := by omega
          obtain ⟨r4, hr4⟩ : ∃ r, encC.txt l3 m.id = r := ⟨_, rfl⟩
          have HH4 := Lib.hid (text_e w3.drew g B mb 5 (mcells ({ ({ ({ m with seq := a1 } : Msg) with epoch := a2 } : Msg) with space := a3 } : Msg) P M) 31 l3 m.id (ST3.out.drew) (VV3.out) rfl hne (by decide) trivial (by show B ≤ w3.heap.size; omega) (by omega) HID.out)
          rw [show txtE l3 m.id = r4 from hr4] at HH4
          have HQ4 := Lib.hid (show pass encC l m = bnd r4 _ _ from bnd_next HQ3.out (bnd_eq hr4))
          have hl4 := txtE_len l3 m.id
          rw [show txtE l3 m.id = r4 from hr4] at hl4
          have NO4 := Lib.hid (fun (w' : World) (h1 : Chg (FR w g B mb) w w') (h2 : r4.1 ≠ 0) => (show RetPs w g B mb (pass encC l m) (.panicked (errC r4.1)) w' from ⟨h1, .inr ⟨by rw [HQ4.out, bnd_no h2]; exact h2, by rw [HQ4.out, bnd_no h2]⟩⟩))
          clear hr4
          obtain ⟨er4, l4, a4⟩ := r4
          simp only at hl4
          go_wp2_with (fail)
          refine frp.wp_region_ptree (F := fun _ => True) (.reads [0, 1, 2, 3] (.one 4 false (.reads [5, 6] (.one 7 false .stop)))) (by kernel_rfl) (by kernel_rfl) ?_
          refine fr.tr_reads _ (by dsimp only [pick, ord.at_]) ?_
          repeat (go_big_quiet_step (fail))
          refine wpQuiet_nil ?_
          refine fr.tr_one _ (by dsimp only [pick, ord.at_]) ?_
          intro K1 g1 g2
          clear g2
          go_wp2_with (fail)
          refine g1 _ _ (Chg.refl _ _).drew ?_
          clear g1
          refine fr.tr_reads _ (by dsimp only [pick, ord.at_]) ?_
          repeat (go_big_quiet_step (fail))
          refine wpQuiet_nil ?_
          refine frp.tr_onep _ (by dsimp only [pick, ord.at_]) ?_
          intro K2 g1 g2 g3
          clear g2
          go_wp2_with (fail)
          refine HH4.out.mono ?_
          intro e w4 hr
          obtain ⟨hc, ⟨h0, rfl, hst, hV⟩ | ⟨h0, rfl⟩⟩ := hr
          · simp only at h0 hst hV
            subst h0
            have ST4 := Lib.hid hst
            have VV4 := Lib.hid hV
            have HC4 := Lib.hid (fr_trans HC3.out (fr_drew hc))
            have hs4 := HC4.out.size
            clear hst hV g3 HH4
            go_wp2_with (fail)
            refine g1 _ _ (((Chg.refl (fun _ => True) w3).drew).trans (hc.mono (fun _ _ _ => trivial)) (fun _ _ e => e)) ?_
            clear g1 hc
            refine fr.tr_stop ?_
            refine PanicAll.normal ?_
            replace VV4 := Lib.hid (show V w4 mb (mcells ({ ({ ({ ({ m with seq := a1 } : Msg) with epoch := a2 } : Msg) with space := a3 } : Msg) with id := a4 } : Msg) P M) 31 from VV4.out)
            have c0 : w4.cell? ⟨mb, 0, none⟩ = some (.int .i64 m.kind) := by rw [cell_of_row _ _ _ _ _ _ VV4.out]; rfl
            have hm4 : mb < w4.heap.size := by omega
            have hg4 : g < w4.heap.size := by omega
            obtain ⟨r5, hr5⟩ : ∃ r, passRg encC l4 m.rf m.rt = r := ⟨_, rfl⟩
            have HH5 := Lib.hid (passRg_e w4 g B mb 7 (mcells ({ ({ ({ ({ m with seq := a1 } : Msg) with epoch := a2 } : Msg) with space := a3 } : Msg) with id := a4 } : Msg) P M) 31 l4 m.rf m.rt (ST4.out) (VV4.out) rfl rfl hne (by decide) trivial (by show B ≤ w4.heap.size; omega) (by omega))
            rw [show passRg encC l4 m.rf m.rt = r5 from hr5] at HH5
            have HQ5 := Lib.hid (show pass encC l m = bnd r5 _ _ from bnd_next HQ4.out (bnd_eq hr5))
            have hl5 := passRgE_len l4 m.rf m.rt
            rw [show passRg encC l4 m.rf m.rt = r5 from hr5] at hl5
            have NO5 := Lib.hid (fun (w' : World) (h1 : Chg (FR w g B mb) w w') (h2 : r5.1 ≠ 0) => (show RetPs w g B mb (pass encC l m) (.panicked (errC r5.1)) w' from ⟨h1, .inr ⟨by rw [HQ5.out, bnd_no h2]; exact h2, by rw [HQ5.out, bnd_no h2]⟩⟩))
            clear hr5
            obtain ⟨er5, l5, a5⟩ := r5
            simp only at hl5
            go_wp2_with (fail)
            refine HH5.out.mono ?_
            intro e w5 hr
            obtain ⟨hc, ⟨h0, rfl, hst, hV⟩ | ⟨h0, rfl⟩⟩ := hr
            · simp only at h0 hst hV
              subst h0
              have ST5 := Lib.hid hst
              have VV5 := Lib.hid hV
              have HC5 := Lib.hid (fr_trans HC4.out hc)
              have hs5 := HC5.out.size
              clear hst hV hc HH5
              replace VV5 := Lib.hid (show V w5 mb (mcells ({ ({ ({ ({ ({ m with seq := a1 } : Msg) with epoch := a2 } : Msg) with space := a3 } : Msg) with id := a4 } : Msg) with rf := a5.1, rt := a5.2 } : Msg) P M) 31 from VV5.out)
              have c0 : w5.cell? ⟨mb, 0, none⟩ = some (.int .i64 m.kind) := by rw [cell_of_row _ _ _ _ _ _ VV5.out]; rfl
              have hm5 : mb < w5.heap.size := by omega
              have hg5 : g < w5.heap.size := by omega
              go_wp2_with (fail)
              go_end0
              exact ⟨HC5.out, .inl ⟨by rw [HQ5.out, bnd_ok rfl], rfl, by rw [HQ5.out, bnd_ok rfl]; exact ST5.out⟩⟩
            · have HE := Lib.hid (NO5.out _ (fr_trans HC4.out hc) h0)
              clear hc HH5
              go_wp2_with (fail)
              exact ⟨rfl, HE.out⟩
          · have HE := Lib.hid (NO4.out _ (fr_trans HC3.out (fr_drew hc)) h0)
            clear g1 hc HH4
            go_wp2_with (fail)
            intro a' ha'
            go_wp2_with (fail)
            exact ⟨ha', HE.out⟩
        · have HE := Lib.hid (NO3.out _ (fr_trans HC2.out (fr_drew hc)) h0)
          clear g1 hc HH3
          go_wp2_with (fail)
          intro a' ha'
          go_wp2_with (fail)
          exact ⟨ha', HE.out⟩
      · have kb1 : (m.kind == 1) = false := by rw [hk]; rfl
        have kb3 : (m.kind == 3) = false := by rw [hk]; rfl
        have kb5 : (m.kind == 5) = true := by rw [hk]; rfl
        have kb7 : (m.kind == 7) = false := by rw [hk]; rfl
        have kb6 : (m.kind == 6) = false := by rw [hk]; rfl
        have kb4 : (m.kind == 4) = false := by rw [hk]; rfl
        have kb8 : (m.kind == 8) = false := by rw [hk]; rfl
        have HKI := Lib.hid hk
        clear hk
        obtain ⟨r3, hr3⟩ : ∃ r, encC.num l2 m.space 255 = r := ⟨_, rfl⟩
        have HH3 := Lib.hid (num_e w2.drew g B mb 3 (mcells ({ ({ m with seq := a1 } : Msg) with epoch := a2 } : Msg) P M) 31 l2 m.space 255 (ST2.out.drew) (VV2.out) rfl hne (by decide) trivial (by show B ≤ w2.heap.size; omega) (by omega) (by omega))
        rw [show numE l2 m.space 255 = r3 from hr3] at HH3
        have HQ3 := Lib.hid (show pass encC l m = bnd r3 _ _ from bnd_next HQ2.out ((rest_5 (m0 := m) (m := ({ ({ m with seq := a1 } : Msg) with epoch := a2 } : Msg)) HKI.out).trans (bnd_eq hr3)))
        have hl3 := numE_len l2 m.space 255
        rw [show numE l2 m.space 255 = r3 from hr3] at hl3
        have NO3 := Lib.hid (fun (w' : World) (h1 : Chg (FR w g B mb) w w') (h2 : r3.1 ≠ 0) => (show RetPs w g B mb (pass encC l m) (.panicked (errC r3.1)) w' from ⟨h1, .inr ⟨by rw [HQ3.out, bnd_no h2]; exact h2, by rw [HQ3.out, bnd_no h2]⟩⟩))
        clear hr3
        obtain ⟨er3, l3, a3⟩ := r3
        simp only at hl3
        go_wp2_with (fail)
        refine frp.wp_region_ptree (F := fun _ => True) (.reads [0, 1, 2, 3] (.one 4 false (.reads [5, 6] (.one 7 false .stop)))) (by kernel_rfl) (by kernel_rfl) ?_
        refine fr.tr_reads _ (by dsimp only [pick, ord.at_]) ?_
        repeat (go_big_quiet_step (fail))
        refine wpQuiet_nil ?_
        refine fr.tr_one _ (by dsimp only [pick, ord.at_]) ?_
        intro K1 g1 g2
        clear g2
        go_wp2_with (fail)
        refine g1 _ _ (Chg.refl _ _).drew ?_
        clear g1
        refine fr.tr_reads _ (by dsimp only [pick, ord.at_]) ?_
        repeat (go_big_quiet_step (fail))
        refine wpQuiet_nil ?_
        refine frp.tr_onep _ (by dsimp only [pick, ord.at_]) ?_
        intro K2 g1 g2 g3
        clear g2
        go_wp2_with (fail)
        refine HH3.out.mono ?_
        intro e w3 hr
        obtain ⟨hc, ⟨h0, rfl, hst, hV⟩ | ⟨h0, rfl⟩⟩ := hr
        · simp only at h0 hst hV
          subst h0
          have ST3 := Lib.hid hst
          have VV3 := Lib.hid hV
          have HC3 := Lib.hid (fr_trans HC2.out (fr_drew hc))
          have hs3 := HC3.out.size
          clear hst hV g3 HH3
          go_wp2_with (fail)
          refine g1 _ _ (((Chg.refl (fun _ => True) w2).drew).trans (hc.mono (fun _ _ _ => trivial)) (fun _ _ e => e)) ?_
          clear g1 hc
          refine fr.tr_stop ?_
          refine PanicAll.normal ?_
          replace VV3 := Lib.hid (show V w3 mb (mcells ({ ({ ({ m with seq := a1 } : Msg) with epoch := a2 } : Msg) with space := a3 } : Msg) P M) 31 from VV3.out)
          have c0 : w3.cell? ⟨mb, 0, none⟩ = some (.int .i64 m.kind) := by rw [cell_of_row _ _ _ _ _ _ VV3.out]; rfl
          have hm3 : mb < w3.heap.size := by omega
          have hg3 : g < w3.heap.size := by omega
          obtain ⟨r4, hr4⟩ : ∃ r, encC.num l3 m.shard 255 = r := ⟨_, rfl⟩
          have HH4 := Lib.hid (num_e w3.drew g B mb 4 (mcells ({ ({ ({ m with seq := a1 } : Msg) with epoch := a2 } : Msg) with space := a3 } : Msg) P M) 31 l3 m.shard 255 (ST3.out.drew) (VV3.out) rfl hne (by decide) trivial (by show B ≤ w3.heap.size; omega) (by omega) (by omega))
          rw [show numE l3 m.shard 255 = r4 from hr4] at HH4
          have HQ4 := Lib.hid (show pass encC l m = bnd r4 _ _ from bnd_next HQ3.out (bnd_eq hr4))
          have hl4 := numE_len l3 m.shard 255
          rw [show numE l3 m.shard 255 = r4 from hr4] at hl4
          have NO4 := Lib.hid (fun (w' : World) (h1 : Chg (FR w g B mb) w w') (h2 : r4.1 ≠ 0) => (show RetPs w g B mb (pass encC l m) (.panicked (errC r4.1)) w' from ⟨h1, .inr ⟨by rw [HQ4.out, bnd_no h2]; exact h2, by rw [HQ4.out, bnd_no h2]⟩⟩))
          clear hr4
          obtain ⟨er4, l4, a4⟩ := r4
          simp only at hl4
          go_wp2_with (fail)
          refine frp.wp_region_ptree (F := fun _ => True) (.reads [0, 1, 2, 3] (.one 4 false (.reads [5, 6] (.one 7 false .stop)))) (by kernel_rfl) (by kernel_rfl) ?_
          refine fr.tr_reads _ (by dsimp only [pick, ord.at_]) ?_
          repeat (go_big_quiet_step (fail))
          refine wpQuiet_nil ?_
          refine fr.tr_one _ (by dsimp only [pick, ord.at_]) ?_
          intro K1 g1 g2
          clear g2
          go_wp2_with (fail)
          refine g1 _ _ (Chg.refl _ _).drew ?_
          clear g1
          refine fr.tr_reads _ (by dsimp only [pick, ord.at_]) ?_
          repeat (go_big_quiet_step (fail))
          refine wpQuiet_nil ?_
          refine frp.tr_onep _ (by dsimp only [pick, ord.at_]) ?_
          intro K2 g1 g2 g3
          clear g2
          go_wp2_with (fail)
          refine HH4.out.mono ?_
          intro e w4 hr
          obtain ⟨hc, ⟨h0, rfl, hst, hV⟩ | ⟨h0, rfl⟩⟩ := hr
          · simp only at h0 hst hV
            subst h0
            have ST4 := Lib.hid hst
            have VV4 := Lib.hid hV
            have HC4 := Lib.hid (fr_trans HC3.out (fr_drew hc))
            have hs4 := HC4.out.size
            clear hst hV g3 HH4
            go_wp2_with (fail)
            refine g1 _ _ (((Chg.refl (fun _ => True) w3).drew).trans (hc.mono (fun _ _ _ => trivial)) (fun _ _ e => e)) ?_
            clear g1 hc
            refine fr.tr_stop ?_
            refine PanicAll.normal ?_
            replace VV4 := Lib.hid (show V w4 mb (mcells ({ ({ ({ ({ m with seq := a1 } : Msg) with epoch := a2 } : Msg) with space := a3 } : Msg) with shard := a4 } : Msg) P M) 31 from VV4.out)
            have c0 : w4.cell? ⟨mb, 0, none⟩ = some (.int .i64 m.kind) := by rw [cell_of_row _ _ _ _ _ _ VV4.out]; rfl
            have hm4 : mb < w4.heap.size := by omega
            have hg4 : g < w4.heap.size := by omega
            obtain ⟨r5, hr5⟩ : ∃ r, passRg encC l4 m.rf m.rt = r := ⟨_, rfl⟩
            have HH5 := Lib.hid (passRg_e w4 g B mb 7 (mcells ({ ({ ({ ({ m with seq := a1 } : Msg) with epoch := a2 } : Msg) with space := a3 } : Msg) with shard := a4 } : Msg) P M) 31 l4 m.rf m.rt (ST4.out) (VV4.out) rfl rfl hne (by decide) trivial (by show B ≤ w4.heap.size; omega) (by omega))
            rw [show passRg encC l4 m.rf m.rt = r5 from hr5] at HH5
            have HQ5 := Lib.hid (show pass encC l m = bnd r5 _ _ from bnd_next HQ4.out (bnd_eq hr5))
            have hl5 := passRgE_len l4 m.rf m.rt
            rw [show passRg encC l4 m.rf m.rt = r5 from hr5] at hl5
            have NO5 := Lib.hid (fun (w' : World) (h1 : Chg (FR w g B mb) w w') (h2 : r5.1 ≠ 0) => (show RetPs w g B mb (pass encC l m) (.panicked (errC r5.1)) w' from ⟨h1, .inr ⟨by rw [HQ5.out, bnd_no h2]; exact h2, by rw [HQ5.out, bnd_no h2]⟩⟩))
            clear hr5
            obtain ⟨er5, l5, a5⟩ := r5
            simp only at hl5
            go_wp2_with (fail)
            refine HH5.out.mono ?_
            intro e w5 hr
            obtain ⟨hc, ⟨h0, rfl, hst, hV⟩ | ⟨h0, rfl⟩⟩ := hr
            · simp only at h0 hst hV
              subst h0
              have ST5 := Lib.hid hst
              have VV5 := Lib.hid hV
              have HC5 := Lib.hid (fr_trans HC4.out hc)
              have hs5 := HC5.out.size
              clear hst hV hc HH5
              replace VV5 := Lib.hid (show V w5 mb (mcells ({ ({ ({ ({ ({ m with seq := a1 } : Msg) with epoch := a2 } : Msg) with space := a3 } : Msg) with shard := a4 } : Msg) with rf := a5.1, rt := a5.2 } : Msg) P M) 31 from VV5.out)
              have c0 : w5.cell? ⟨mb, 0, none⟩ = some (.int .i64 m.kind) := by rw [cell_of_row _ _ _ _ _ _ VV5.out]; rfl
              have hm5 : mb < w5.heap.size := by omega
              have hg5 : g < w5.heap.size := by omega
              obtain ⟨r6, hr6⟩ : ∃ r, encC.num l5 m.block 1099511627776 = r := ⟨_, rfl⟩
              have HH6 := Lib.hid (num_e w5.drew g B mb 6 (mcells ({ ({ ({ ({ ({ m with seq := a1 } : Msg) with epoch := a2 } : Msg) with space := a3 } : Msg) with shard := a4 } : Msg) with rf := a5.1, rt := a5.2 } : Msg) P M) 31 l5 m.block 1099511627776 (ST5.out.drew) (VV5.out) rfl hne (by decide) trivial (by show B ≤ w5.heap.size; omega) (by omega) (by omega))
              rw [show numE l5 m.block 1099511627776 = r6 from hr6] at HH6
              have HQ6 := Lib.hid (show pass encC l m = bnd r6 _ _ from bnd_next HQ5.out (bnd_eq hr6))
              have hl6 := numE_len l5 m.block 1099511627776
              rw [show numE l5 m.block 1099511627776 = r6 from hr6] at hl6
              have NO6 := Lib.hid (fun (w' : World) (h1 : Chg (FR w g B mb) w w') (h2 : r6.1 ≠ 0) => (show RetPs w g B mb (pass encC l m) (.panicked (errC r6.1)) w' from ⟨h1, .inr ⟨by rw [HQ6.out, bnd_no h2]; exact h2, by rw [HQ6.out, bnd_no h2]⟩⟩))
              clear hr6
              obtain ⟨er6, l6, a6⟩ := r6
              simp only at hl6
              go_wp2_with (fail)
              refine frp.wp_region_ptree (F := fun _ => True) (.reads [0, 1, 2, 3] (.one 4 false (.reads [5, 6] (.one 7 false .stop)))) (by kernel_rfl) (by kernel_rfl) ?_
              refine fr.tr_reads _ (by dsimp only [pick, ord.at_]) ?_
              repeat (go_big_quiet_step (fail))
              refine wpQuiet_nil ?_
              refine fr.tr_one _ (by dsimp only [pick, ord.at_]) ?_
              intro K1 g1 g2
              clear g2
              go_wp2_with (fail)
              refine g1 _ _ (Chg.refl _ _).drew ?_
              clear g1
              refine fr.tr_reads _ (by dsimp only [pick, ord.at_]) ?_
              repeat (go_big_quiet_step (fail))
              refine wpQuiet_nil ?_
              refine frp.tr_onep _ (by dsimp only [pick, ord.at_]) ?_
              intro K2 g1 g2 g3
              clear g2
              go_wp2_with (fail)
              refine HH6.out.mono ?_
              intro e w6 hr
              obtain ⟨hc, ⟨h0, rfl, hst, hV⟩ | ⟨h0, rfl⟩⟩ := hr
              · simp only at h0 hst hV
                subst h0
                have ST6 := Lib.hid hst
                have VV6 := Lib.hid hV
                have HC6 := Lib.hid (fr_trans HC5.out (fr_drew hc))
                have hs6 := HC6.out.size
                clear hst hV g3 HH6
                go_wp2_with (fail)
                refine g1 _ _ (((Chg.refl (fun _ => True) w5).drew).trans (hc.mono (fun _ _ _ => trivial)) (fun _ _ e => e)) ?_
                clear g1 hc
                refine fr.tr_stop ?_
                refine PanicAll.normal ?_
                replace VV6 := Lib.hid (show V w6 mb (mcells ({ ({ ({ ({ ({ ({ m with seq := a1 } : Msg) with epoch := a2 } : Msg) with space := a3 } : Msg) with shard := a4 } : Msg) with rf := a5.1, rt := a5.2 } : Msg) with block := a6 } : Msg) P M) 31 from VV6.out)
                have c0 : w6.cell? ⟨mb, 0, none⟩ = some (.int .i64 m.kind) := by rw [cell_of_row _ _ _ _ _ _ VV6.out]; rfl
                have hm6 : mb < w6.heap.size := by omega
                have hg6 : g < w6.heap.size := by omega
                obtain ⟨r7, hr7⟩ : ∃ r, encC.txt l6 m.id = r := ⟨_, rfl⟩
                have HH7 := Lib.hid (text_e w6.drew g B mb 5 (mcells ({ ({ ({ ({ ({ ({ m with seq := a1 } : Msg) with epoch := a2 } : Msg) with space := a3 } : Msg) with shard := a4 } : Msg) with rf := a5.1, rt := a5.2 } : Msg) with block := a6 } : Msg) P M) 31 l6 m.id (ST6.out.drew) (VV6.out) rfl hne (by decide) trivial (by show B ≤ w6.heap.size; omega) (by omega) HID.out)
                rw [show txtE l6 m.id = r7 from hr7] at HH7
                have HQ7 := Lib.hid (show pass encC l m = bnd r7 _ _ from bnd_next HQ6.out (bnd_eq hr7))
                have hl7 := txtE_len l6 m.id
                rw [show txtE l6 m.id = r7 from hr7] at hl7
                have NO7 := Lib.hid (fun (w' : World) (h1 : Chg (FR w g B mb) w w') (h2 : r7.1 ≠ 0) => (show RetPs w g B mb (pass encC l m) (.panicked (errC r7.1)) w' from ⟨h1, .inr ⟨by rw [HQ7.out, bnd_no h2]; exact h2, by rw [HQ7.out, bnd_no h2]⟩⟩))
                clear hr7
                obtain ⟨er7, l7, a7⟩ := r7
                simp only at hl7
                go_wp2_with (fail)
                refine frp.wp_region_ptree (F := fun _ => True) (.reads [0, 1, 2, 3] (.one 4 false (.reads [5, 6] (.one 7 false .stop)))) (by kernel_rfl) (by kernel_rfl) ?_
                refine fr.tr_reads _ (by dsimp only [pick, ord.at_]) ?_
                repeat (go_big_quiet_step (fail))
                refine wpQuiet_nil ?_
                refine fr.tr_one _ (by dsimp only [pick, ord.at_]) ?_
                intro K1 g1 g2
                clear g2
                go_wp2_with (fail)
                refine g1 _ _ (Chg.refl _ _).drew ?_
                clear g1
                refine fr.tr_reads _ (by dsimp only [pick, ord.at_]) ?_
                repeat (go_big_quiet_step (fail))
                refine wpQuiet_nil ?_
                refine frp.tr_onep _ (by dsimp only [pick, ord.at_]) ?_
                intro K2 g1 g2 g3
                clear g2
                go_wp2_with (fail)
                refine HH7.out.mono ?_
                intro e w7 hr
                obtain ⟨hc, ⟨h0, rfl, hst, hV⟩ | ⟨h0, rfl⟩⟩ := hr
                · simp only at h0 hst hV
                  subst h0
                  have ST7 := Lib.hid hst
                  have VV7 := Lib.hid hV
                  have HC7 := Lib.hid (fr_trans HC6.out (fr_drew hc))
                  have hs7 := HC7.out.size
                  clear hst hV g3 HH7
                  go_wp2_with (fail)
                  refine g1 _ _ (((Chg.refl (fun _ => True) w6).drew).trans (hc.mono (fun _ _ _ => trivial)) (fun _ _ e => e)) ?_
                  clear g1 hc
                  refine fr.tr_stop ?_
                  refine PanicAll.normal ?_
                  replace VV7 := Lib.hid (show V w7 mb (mcells ({ ({ ({ ({ ({ ({ ({ m with seq := a1 } : Msg) with epoch := a2 } : Msg) with space := a3 } : Msg) with shard := a4 } : Msg) with rf := a5.1, rt := a5.2 } : Msg) with block := a6 } : Msg) with id := a7 } : Msg) P M) 31 from VV7.out)
                  have c0 : w7.cell? ⟨mb, 0, none⟩ = some (.int .i64 m.kind) := by rw [cell_of_row _ _ _ _ _ _ VV7.out]; rfl
                  have hm7 : mb < w7.heap.size := by omega
                  have hg7 : g < w7.heap.size := by omega
                  go_wp2_with (fail)
                  go_end0
                  exact ⟨HC7.out, .inl ⟨by rw [HQ7.out, bnd_ok rfl], rfl, by rw [HQ7.out, bnd_ok rfl]; exact ST7.out⟩⟩
                · have HE := Lib.hid (NO7.out _ (fr_trans HC6.out (fr_drew hc)) h0)
                  clear g1 hc HH7
                  go_wp2_with (fail)
                  intro a' ha'
                  go_wp2_with (fail)
                  exact ⟨ha', HE.out⟩
              · have HE := Lib.hid (NO6.out _ (fr_trans HC5.out (fr_drew hc)) h0)
                clear g1 hc HH6
                go_wp2_with (fail)
                intro a' ha'
                go_wp2_with (fail)
                exact ⟨ha', HE.out⟩
            · have HE := Lib.hid (NO5.out _ (fr_trans HC4.out hc) h0)
              clear hc HH5
              go_wp2_with (fail)
              exact ⟨rfl, HE.out⟩
          · have HE := Lib.hid (NO4.out _ (fr_trans HC3.out (fr_drew hc)) h0)
            clear g1 hc HH4
            go_wp2_with (fail)
            intro a' ha'
            go_wp2_with (fail)
            exact ⟨ha', HE.out⟩
        · have HE := Lib.hid (NO3.out _ (fr_trans HC2.out (fr_drew hc)) h0)
          clear g1 hc HH3
          go_wp2_with (fail)
          intro a' ha'
          go_wp2_with (fail)
          exact ⟨ha', HE.out⟩
      · have kb1 : (m.kind == 1) = false := by rw [hk]; rfl
        have kb3 : (m.kind == 3) = false := by rw [hk]; rfl
        have kb5 : (m.kind == 5) = false := by rw [hk]; rfl
        have kb7 : (m.kind == 7) = true := by rw [hk]; rfl
        have kb6 : (m.kind == 6) = false := by rw [hk]; rfl
        have kb4 : (m.kind == 4) = false := by rw [hk]; rfl
        have kb8 : (m.kind == 8) = false := by rw [hk]; rfl
        have HKI := Lib.hid hk
        clear hk
        obtain ⟨r3, hr3⟩ : ∃ r, encC.num l2 m.space 255 = r := ⟨_, rfl⟩
        have HH3 := Lib.hid (num_e w2.drew g B mb 3 (mcells ({ ({ m with seq := a1 } : Msg) with epoch := a2 } : Msg) P M) 31 l2 m.space 255 (ST2.out.drew) (VV2.out) rfl hne (by decide) trivial (by show B ≤ w2.heap.size; omega) (by omega) (by omega))
        rw [show numE l2 m.space 255 = r3 from hr3] at HH3
        have HQ3 := Lib.hid (show pass encC l m = bnd r3 _ _ from bnd_next HQ2.out ((rest_7 (m0 := m) (m := ({ ({ m with seq := a1 } : Msg) with epoch := a2 } : Msg)) HKI.out).trans (bnd_eq hr3)))
        have hl3 := numE_len l2 m.space 255
        rw [show numE l2 m.space 255 = r3 from hr3] at hl3
        have NO3 := Lib.hid (fun (w' : World) (h1 : Chg (FR w g B mb) w w') (h2 : r3.1 ≠ 0) => (show RetPs w g B mb (pass encC l m) (.panicked (errC r3.1)) w' from ⟨h1, .inr ⟨by rw [HQ3.out, bnd_no h2]; exact h2, by rw [HQ3.out, bnd_no h2]⟩⟩))
        clear hr3
        obtain ⟨er3, l3, a3⟩ := r3
        simp only at hl3
        go_wp2_with (fail)
        refine frp.wp_region_ptree (F := fun _ => True) (.reads [0, 1, 2, 3] (.one 4 false (.reads [5, 6] (.one 7 false .stop)))) (by kernel_rfl) (by kernel_rfl) ?_
        refine fr.tr_reads _ (by dsimp only [pick, ord.at_]) ?_
        repeat (go_big_quiet_step (fail))
        refine wpQuiet_nil ?_
        refine fr.tr_one _ (by dsimp only [pick, ord.at_]) ?_
        intro K1 g1 g2
        clear g2
        go_wp2_with (fail)
        refine g1 _ _ (Chg.refl _ _).drew ?_
        clear g1
        refine fr.tr_reads _ (by dsimp only [pick, ord.at_]) ?_
        repeat (go_big_quiet_step (fail))
        refine wpQuiet_nil ?_
        refine frp.tr_onep _ (by dsimp only [pick, ord.at_]) ?_
        intro K2 g1 g2 g3
        clear g2
        go_wp2_with (fail)
        refine HH3.out.mono ?_
        intro e w3 hr
        obtain ⟨hc, ⟨h0, rfl, hst, hV⟩ | ⟨h0, rfl⟩⟩ := hr
        · simp only at h0 hst hV
          subst h0
          have ST3 := Lib.hid hst
          have VV3 := Lib.hid hV
          have HC3 := Lib.hid (fr_trans HC2.out (fr_drew hc))
          have hs3 := HC3.out.size
          clear hst hV g3 HH3
          go_wp2_with (fail)
          refine g1 _ _ (((Chg.refl (fun _ => True) w2).drew).trans (hc.mono (fun _ _ _ => trivial)) (fun _ _ e => e)) ?_
          clear g1 hc
          refine fr.tr_stop ?_
          refine PanicAll.normal ?_
          replace VV3 := Lib.hid (show V w3 mb (mcells ({ ({ ({ m with seq := a1 } : Msg) with epoch := a2 } : Msg) with space := a3 } : Msg) P M) 31 from VV3.out)
          have c0 : w3.cell? ⟨mb, 0, none⟩ = some (.int .i64 m.kind) := by rw [cell_of_row _ _ _ _ _ _ VV3.out]; rfl
          have hm3 : mb < w3.heap.size := by omega
          have hg3 : g < w3.heap.size := by omega
          obtain ⟨r4, hr4⟩ : ∃ r, encC.num l3 m.shard 255 = r := ⟨_, rfl⟩
          have HH4 := Lib.hid (num_e w3.drew g B mb 4 (mcells ({ ({ ({ m with seq := a1 } : Msg) with epoch := a2 } : Msg) with space := a3 } : Msg) P M) 31 l3 m.shard 255 (ST3.out.drew) (VV3.out) rfl hne (by decide) trivial (by show B ≤ w3.heap.size; omega) (by omega) (by omega))
          rw [show numE l3 m.shard 255 = r4 from hr4] at HH4
          have HQ4 := Lib.hid (show pass encC l m = bnd r4 _ _ from bnd_next HQ3.out (bnd_eq hr4))
          have hl4 := numE_len l3 m.shard 255
          rw [show numE l3 m.shard 255 = r4 from hr4] at hl4
          have NO4 := Lib.hid (fun (w' : World) (h1 : Chg (FR w g B mb) w w') (h2 : r4.1 ≠ 0) => (show RetPs w g B mb (pass encC l m) (.panicked (errC r4.1)) w' from ⟨h1, .inr ⟨by rw [HQ4.out, bnd_no h2]; exact h2, by rw [HQ4.out, bnd_no h2]⟩⟩))
          clear hr4
          obtain ⟨er4, l4, a4⟩ := r4
          simp only at hl4
          go_wp2_with (fail)
          refine frp.wp_region_ptree (F := fun _ => True) (.reads [0, 1, 2, 3] (.one 4 false (.reads [5, 6] (.one 7 false .stop)))) (by kernel_rfl) (by kernel_rfl) ?_
          refine fr.tr_reads _ (by dsimp only [pick, ord.at_]) ?_
          repeat (go_big_quiet_step (fail))
          refine wpQuiet_nil ?_
          refine fr.tr_one _ (by dsimp only [pick, ord.at_]) ?_
          intro K1 g1 g2
          clear g2
          go_wp2_with (fail)
          refine g1 _ _ (Chg.refl _ _).drew ?_
          clear g1
          refine fr.tr_reads _ (by dsimp only [pick, ord.at_]) ?_
          repeat (go_big_quiet_step (fail))
          refine wpQuiet_nil ?_
          refine frp.tr_onep _ (by dsimp only [pick, ord.at_]) ?_
          intro K2 g1 g2 g3
          clear g2
          go_wp2_with (fail)
          refine HH4.out.mono ?_
          intro e w4 hr
          obtain ⟨hc, ⟨h0, rfl, hst, hV⟩ | ⟨h0, rfl⟩⟩ := hr
          · simp only at h0 hst hV
            subst h0
            have ST4 := Lib.hid hst
            have VV4 := Lib.hid hV
            have HC4 := Lib.hid (fr_trans HC3.out (fr_drew hc))
            have hs4 := HC4.out.size
            clear hst hV g3 HH4
            go_wp2_with (fail)
            refine g1 _ _ (((Chg.refl (fun _ => True) w3).drew).trans (hc.mono (fun _ _ _ => trivial)) (fun _ _ e => e)) ?_
            clear g1 hc
            refine fr.tr_stop ?_
            refine PanicAll.normal ?_
            replace VV4 := Lib.hid (show V w4 mb (mcells ({ ({ ({ ({ m with seq := a1 } : Msg) with epoch := a2 } : Msg) with space := a3 } : Msg) with shard := a4 } : Msg) P M) 31 from VV4.out)
            have c0 : w4.cell? ⟨mb, 0, none⟩ = some (.int .i64 m.kind) := by rw [cell_of_row _ _ _ _ _ _ VV4.out]; rfl
            have hm4 : mb < w4.heap.size := by omega
            have hg4 : g < w4.heap.size := by omega
            obtain ⟨r5, hr5⟩ : ∃ r, encC.num l4 m.block 1099511627776 = r := ⟨_, rfl⟩
            have HH5 := Lib.hid (num_e w4.drew g B mb 6 (mcells ({ ({ ({ ({ m with seq := a1 } : Msg) with epoch := a2 } : Msg) with space := a3 } : Msg) with shard := a4 } : Msg) P M) 31 l4 m.block 1099511627776 (ST4.out.drew) (VV4.out) rfl hne (by decide) trivial (by show B ≤ w4.heap.size; omega) (by omega) (by omega))
            rw [show numE l4 m.block 1099511627776 = r5 from hr5] at HH5
            have HQ5 := Lib.hid (show pass encC l m = bnd r5 _ _ from bnd_next HQ4.out (bnd_eq hr5))
            have hl5 := numE_len l4 m.block 1099511627776
            rw [show numE l4 m.block 1099511627776 = r5 from hr5] at hl5
            have NO5 := Lib.hid (fun (w' : World) (h1 : Chg (FR w g B mb) w w') (h2 : r5.1 ≠ 0) => (show RetPs w g B mb (pass encC l m) (.panicked (errC r5.1)) w' from ⟨h1, .inr ⟨by rw [HQ5.out, bnd_no h2]; exact h2, by rw [HQ5.out, bnd_no h2]⟩⟩))
            clear hr5
            obtain ⟨er5, l5, a5⟩ := r5
            simp only at hl5
            go_wp2_with (fail)
            refine frp.wp_region_ptree (F := fun _ => True) (.reads [0, 1, 2, 3] (.one 4 false (.reads [5, 6] (.one 7 false .stop)))) (by kernel_rfl) (by kernel_rfl) ?_
            refine fr.tr_reads _ (by dsimp only [pick, ord.at_]) ?_
            repeat (go_big_quiet_step (fail))
            refine wpQuiet_nil ?_
            refine fr.tr_one _ (by dsimp only [pick, ord.at_]) ?_
            intro K1 g1 g2
            clear g2
            go_wp2_with (fail)
            refine g1 _ _ (Chg.refl _ _).drew ?_
            clear g1
            refine fr.tr_reads _ (by dsimp only [pick, ord.at_]) ?_
            repeat (go_big_quiet_step (fail))
            refine wpQuiet_nil ?_
            refine frp.tr_onep _ (by dsimp only [pick, ord.at_]) ?_
            intro K2 g1 g2 g3
            clear g2
            go_wp2_with (fail)
            refine HH5.out.mono ?_
            intro e w5 hr
            obtain ⟨hc, ⟨h0, rfl, hst, hV⟩ | ⟨h0, rfl⟩⟩ := hr
            · simp only at h0 hst hV
              subst h0
              have ST5 := Lib.hid hst
              have VV5 := Lib.hid hV
              have HC5 := Lib.hid (fr_trans HC4.out (fr_drew hc))
              have hs5 := HC5.out.size
              clear hst hV g3 HH5
              go_wp2_with (fail)
              refine g1 _ _ (((Chg.refl (fun _ => True) w4).drew).trans (hc.mono (fun _ _ _ => trivial)) (fun _ _ e => e)) ?_
              clear g1 hc
              refine fr.tr_stop ?_
              refine PanicAll.normal ?_
              replace VV5 := Lib.hid (show V w5 mb (mcells ({ ({ ({ ({ ({ m with seq := a1 } : Msg) with epoch := a2 } : Msg) with space := a3 } : Msg) with shard := a4 } : Msg) with block := a5 } : Msg) P M) 31 from VV5.out)
              have c0 : w5.cell? ⟨mb, 0, none⟩ = some (.int .i64 m.kind) := by rw [cell_of_row _ _ _ _ _ _ VV5.out]; rfl
              have hm5 : mb < w5.heap.size := by omega
              have hg5 : g < w5.heap.size := by omega
              obtain ⟨r6, hr6⟩ : ∃ r, encC.txt l5 m.id = r := ⟨_, rfl⟩
              have HH6 := Lib.hid (text_e w5.drew g B mb 5 (mcells ({ ({ ({ ({ ({ m with seq := a1 } : Msg) with epoch := a2 } : Msg) with space := a3 } : Msg) with shard := a4 } : Msg) with block := a5 } : Msg) P M) 31 l5 m.id (ST5.out.drew) (VV5.out) rfl hne (by decide) trivial (by show B ≤ w5.heap.size; omega) (by omega) HID.out)
              rw [show txtE l5 m.id = r6 from hr6] at HH6
              have HQ6 := Lib.hid (show pass encC l m = bnd r6 _ _ from bnd_next HQ5.out (bnd_eq hr6))
              have hl6 := txtE_len l5 m.id
              rw [show txtE l5 m.id = r6 from hr6] at hl6
              have NO6 := Lib.hid (fun (w' : World) (h1 : Chg (FR w g B mb) w w') (h2 : r6.1 ≠ 0) => (show RetPs w g B mb (pass encC l m) (.panicked (errC r6.1)) w' from ⟨h1, .inr ⟨by rw [HQ6.out, bnd_no h2]; exact h2, by rw [HQ6.out, bnd_no h2]⟩⟩))
              clear hr6
              obtain ⟨er6, l6, a6⟩ := r6
              simp only at hl6
              go_wp2_with (fail)
              refine frp.wp_region_ptree (F := fun _ => True) (.reads [0, 1, 2, 3] (.one 4 false (.reads [5, 6] (.one 7 false .stop)))) (by kernel_rfl) (by kernel_rfl) ?_
              refine fr.tr_reads _ (by dsimp only [pick, ord.at_]) ?_
              repeat (go_big_quiet_step (fail))
              refine wpQuiet_nil ?_
              refine fr.tr_one _ (by dsimp only [pick, ord.at_]) ?_
              intro K1 g1 g2
              clear g2
              go_wp2_with (fail)
              refine g1 _ _ (Chg.refl _ _).drew ?_
              clear g1
              refine fr.tr_reads _ (by dsimp only [pick, ord.at_]) ?_
              repeat (go_big_quiet_step (fail))
              refine wpQuiet_nil ?_
              refine frp.tr_onep _ (by dsimp only [pick, ord.at_]) ?_
              intro K2 g1 g2 g3
              clear g2
              go_wp2_with (fail)
              refine HH6.out.mono ?_
              intro e w6 hr
              obtain ⟨hc, ⟨h0, rfl, hst, hV⟩ | ⟨h0, rfl⟩⟩ := hr
              · simp only at h0 hst hV
                subst h0
                have ST6 := Lib.hid hst
                have VV6 := Lib.hid hV
                have HC6 := Lib.hid (fr_trans HC5.out (fr_drew hc))
                have hs6 := HC6.out.size
                clear hst hV g3 HH6
                go_wp2_with (fail)
                refine g1 _ _ (((Chg.refl (fun _ => True) w5).drew).trans (hc.mono (fun _ _ _ => trivial)) (fun _ _ e => e)) ?_
                clear g1 hc
                refine fr.tr_stop ?_
                refine PanicAll.normal ?_
                replace VV6 := Lib.hid (show V w6 mb (mcells ({ ({ ({ ({ ({ ({ m with seq := a1 } : Msg) with epoch := a2 } : Msg) with space := a3 } : Msg) with shard := a4 } : Msg) with block := a5 } : Msg) with id := a6 } : Msg) P M) 31 from VV6.out)
                have c0 : w6.cell? ⟨mb, 0, none⟩ = some (.int .i64 m.kind) := by rw [cell_of_row _ _ _ _ _ _ VV6.out]; rfl
                have hm6 : mb < w6.heap.size := by omega
                have hg6 : g < w6.heap.size := by omega
                go_wp2_with (fail)
                go_end0
                exact ⟨HC6.out, .inl ⟨by rw [HQ6.out, bnd_ok rfl], rfl, by rw [HQ6.out, bnd_ok rfl]; exact ST6.out⟩⟩
              · have HE := Lib.hid (NO6.out _ (fr_trans HC5.out (fr_drew hc)) h0)
                clear g1 hc HH6
                go_wp2_with (fail)
                intro a' ha'
                go_wp2_with (fail)
                exact ⟨ha', HE.out⟩
            · have HE := Lib.hid (NO5.out _ (fr_trans HC4.out (fr_drew hc)) h0)
              clear g1 hc HH5
              go_wp2_with (fail)
              intro a' ha'
              go_wp2_with (fail)
              exact ⟨ha', HE.out⟩
          · have HE := Lib.hid (NO4.out _ (fr_trans HC3.out (fr_drew hc)) h0)
            clear g1 hc HH4
            go_wp2_with (fail)
            intro a' ha'
            go_wp2_with (fail)
            exact ⟨ha', HE.out⟩
        · have HE := Lib.hid (NO3.out _ (fr_trans HC2.out (fr_drew hc)) h0)
          clear g1 hc HH3
          go_wp2_with (fail)
          intro a' ha'
          go_wp2_with (fail)
          exact ⟨ha', HE.out⟩
      · have kb1 : (m.kind == 1) = false := by rw [hk]; rfl
        have kb3 : (m.kind == 3) = false := by rw [hk]; rfl
        have kb5 : (m.kind == 5) = false := by rw [hk]; rfl
        have kb7 : (m.kind == 7) = false := by rw [hk]; rfl
        have kb6 : (m.kind == 6) = true := by rw [hk]; rfl
        have kb4 : (m.kind == 4) = false := by rw [hk]; rfl
        have kb8 : (m.kind == 8) = false := by rw [hk]; rfl
        have HKI := Lib.hid hk
        clear hk
        obtain ⟨r3, hr3⟩ : ∃ r, encC.num l2 m.err 255 = r := ⟨_, rfl⟩
        have HH3 := Lib.hid (num_e w2.drew g B mb 12 (mcells ({ ({ m with seq := a1 } : Msg) with epoch := a2 } : Msg) P M) 31 l2 m.err 255 (ST2.out.drew) (VV2.out) rfl hne (by decide) trivial (by show B ≤ w2.heap.size; omega) (by omega) (by omega))
        rw [show numE l2 m.err 255 = r3 from hr3] at HH3
        have HQ3 := Lib.hid (show pass encC l m = bnd r3 _ _ from bnd_next HQ2.out ((rest_6 (m0 := m) (m := ({ ({ m with seq := a1 } : Msg) with epoch := a2 } : Msg)) HKI.out).trans (bnd_eq hr3)))
        have hl3 := numE_len l2 m.err 255
        rw [show numE l2 m.err 255 = r3 from hr3] at hl3
        have NO3 := Lib.hid (fun (w' : World) (h1 : Chg (FR w g B mb) w w') (h2 : r3.1 ≠ 0) => (show RetPs w g B mb (pass encC l m) (.panicked (errC r3.1)) w' from ⟨h1, .inr ⟨by rw [HQ3.out, bnd_no h2]; exact h2, by rw [HQ3.out, bnd_no h2]⟩⟩))
        clear hr3
        obtain ⟨er3, l3, a3⟩ := r3
        simp only at hl3
        go_wp2_with (fail)
        refine frp.wp_region_ptree (F := fun _ => True) (.reads [0, 1, 2, 3] (.one 4 false (.reads [5, 6] (.one 7 false .stop)))) (by kernel_rfl) (by kernel_rfl) ?_
        refine fr.tr_reads _ (by dsimp only [pick, ord.at_]) ?_
        repeat (go_big_quiet_step (fail))
        refine wpQuiet_nil ?_
        refine fr.tr_one _ (by dsimp only [pick, ord.at_]) ?_
        intro K1 g1 g2
        clear g2
        go_wp2_with (fail)
        refine g1 _ _ (Chg.refl _ _).drew ?_
        clear g1
        refine fr.tr_reads _ (by dsimp only [pick, ord.at_]) ?_
        repeat (go_big_quiet_step (fail))
        refine wpQuiet_nil ?_
        refine frp.tr_onep _ (by dsimp only [pick, ord.at_]) ?_
        intro K2 g1 g2 g3
        clear g2
        go_wp2_with (fail)
        refine HH3.out.mono ?_
        intro e w3 hr
        obtain ⟨hc, ⟨h0, rfl, hst, hV⟩ | ⟨h0, rfl⟩⟩ := hr
        · simp only at h0 hst hV
          subst h0
          have ST3 := Lib.hid hst
          have VV3 := Lib.hid hV
          have HC3 := Lib.hid (fr_trans HC2.out (fr_drew hc))
          have hs3 := HC3.out.size
          clear hst hV g3 HH3
          go_wp2_with (fail)
          refine g1 _ _ (((Chg.refl (fun _ => True) w2).drew).trans (hc.mono (fun _ _ _ => trivial)) (fun _ _ e => e)) ?_
          clear g1 hc
          refine fr.tr_stop ?_
          refine PanicAll.normal ?_
          replace VV3 := Lib.hid (show V w3 mb (mcells ({ ({ ({ m with seq := a1 } : Msg) with epoch := a2 } : Msg) with err := a3 } : Msg) P M) 31 from VV3.out)
          have c0 : w3.cell? ⟨mb, 0, none⟩ = some (.int .i64 m.kind) := by rw [cell_of_row _ _ _ _ _ _ VV3.out]; rfl
          have hm3 : mb < w3.heap.size := by omega
          have hg3 : g < w3.heap.size := by omega
          obtain ⟨r4, hr4⟩ : ∃ r, encC.flg l3 m.more = r := ⟨_, rfl⟩
          have HH4 := Lib.hid (flag_e w3.drew g B mb 13 (mcells ({ ({ ({ m with seq := a1 } : Msg) with epoch := a2 } : Msg) with err := a3 } : Msg) P M) 31 l3 m.more (ST3.out.drew) (VV3.out) rfl hne (by decide) trivial (by show B ≤ w3.heap.size; omega) (by omega))
          rw [show flgE l3 m.more = r4 from hr4] at HH4
          have HQ4 := Lib.hid (show pass encC l m = bnd r4 _ _ from bnd_next HQ3.out (bnd_eq hr4))
          have hl4 := flgE_len l3 m.more
          rw [show flgE l3 m.more = r4 from hr4] at hl4
          have NO4 := Lib.hid (fun (w' : World) (h1 : Chg (FR w g B mb) w w') (h2 : r4.1 ≠ 0) => (show RetPs w g B mb (pass encC l m) (.panicked (errC r4.1)) w' from ⟨h1, .inr ⟨by rw [HQ4.out, bnd_no h2]; exact h2, by rw [HQ4.out, bnd_no h2]⟩⟩))
          clear hr4
          obtain ⟨er4, l4, a4⟩ := r4
          simp only at hl4
          go_wp2_with (fail)
          refine frp.wp_region_ptree (F := fun _ => True) (.reads [0, 1, 2, 3] (.one 4 false (.reads [5, 6] (.one 7 false .stop)))) (by kernel_rfl) (by kernel_rfl) ?_
          refine fr.tr_reads _ (by dsimp only [pick, ord.at_]) ?_
          repeat (go_big_quiet_step (fail))
          refine wpQuiet_nil ?_
          refine fr.tr_one _ (by dsimp only [pick, ord.at_]) ?_
          intro K1 g1 g2
          clear g2
          go_wp2_with (fail)
          refine g1 _ _ (Chg.refl _ _).drew ?_
          clear g1
          refine fr.tr_reads _ (by dsimp only [pick, ord.at_]) ?_
          repeat (go_big_quiet_step (fail))
          refine wpQuiet_nil ?_
          refine frp.tr_onep _ (by dsimp only [pick, ord.at_]) ?_
          intro K2 g1 g2 g3
          clear g2
          go_wp2_with (fail)
          refine HH4.out.mono ?_
          intro e w4 hr
          obtain ⟨hc, ⟨h0, rfl, hst, hV⟩ | ⟨h0, rfl⟩⟩ := hr
          · simp only at h0 hst hV
            subst h0
            have ST4 := Lib.hid hst
            have VV4 := Lib.hid hV
            have HC4 := Lib.hid (fr_trans HC3.out (fr_drew hc))
            have hs4 := HC4.out.size
            clear hst hV g3 HH4
            go_wp2_with (fail)
            refine g1 _ _ (((Chg.refl (fun _ => True) w3).drew).trans (hc.mono (fun _ _ _ => trivial)) (fun _ _ e => e)) ?_
            clear g1 hc
            refine fr.tr_stop ?_
            refine PanicAll.normal ?_
            replace VV4 := Lib.hid (show V w4 mb (mcells ({ ({ ({ ({ m with seq := a1 } : Msg) with epoch := a2 } : Msg) with err := a3 } : Msg) with more := a4 } : Msg) P M) 31 from VV4.out)
            have c0 : w4.cell? ⟨mb, 0, none⟩ = some (.int .i64 m.kind) := by rw [cell_of_row _ _ _ _ _ _ VV4.out]; rfl
            have hm4 : mb < w4.heap.size := by omega
            have hg4 : g < w4.heap.size := by omega
            have hbel5 : Below B0 w w4 := HC4.out.below (by omega) (fun k e => by rcases e with e | e | ⟨e, _⟩ <;> omega)
            obtain ⟨r5, hr5⟩ : ∃ r, passList encC ([], 0, 0, 0) (passMt encC) 8 l4 m.mts = r := ⟨_, rfl⟩
            have HH5 := Lib.hid (passLM_e w4 g B mb 15 B0 (mcells ({ ({ ({ ({ m with seq := a1 } : Msg) with epoch := a2 } : Msg) with err := a3 } : Msg) with more := a4 } : Msg) P M) 31 l4 m.mts mA m.mts.length mc (ST4.out) (VV4.out) (by rw [HP.out, HM.out]; rfl) (HMTS.out.1.below hbel5 (Nat.le_refl _)) HMTS.out.2.1 HMTS.out.2.2 hne (by decide) hgB (by show B ≤ w4.heap.size; omega) h0g h0m (by omega) (by omega))
            rw [hr5] at HH5
            have HQ5 := Lib.hid (show pass encC l m = bnd r5 _ _ from bnd_next HQ4.out (bnd_eq hr5))
            have NO5 := Lib.hid (fun (w' : World) (h1 : Chg (FR w g B mb) w w') (h2 : r5.1 ≠ 0) => (show RetPs w g B mb (pass encC l m) (.panicked (errC r5.1)) w' from ⟨h1, .inr ⟨by rw [HQ5.out, bnd_no h2]; exact h2, by rw [HQ5.out, bnd_no h2]⟩⟩))
            clear hr5 hbel5
            obtain ⟨er5, l5, a5⟩ := r5
            go_wp2_with (fail)
            refine HH5.out.mono ?_
            intro e w5 hr
            obtain ⟨hc, ⟨h0, rfl, hst, hV⟩ | ⟨h0, rfl⟩⟩ := hr
            · simp only at h0 hst
              subst h0
              have ST5 := Lib.hid hst
              have HC5 := Lib.hid (fr_trans HC4.out hc)
              clear hst hV hc HH5
              go_wp2_with (fail)
              go_end0
              exact ⟨HC5.out, .inl ⟨by rw [HQ5.out, bnd_ok rfl], rfl, by rw [HQ5.out, bnd_ok rfl]; exact ST5.out⟩⟩
            · have HE := Lib.hid (NO5.out _ (fr_trans HC4.out hc) h0)
              clear hc HH5
              go_wp2_with (fail)
              exact ⟨rfl, HE.out⟩
          · have HE := Lib.hid (NO4.out _ (fr_trans HC3.out (fr_drew hc)) h0)
            clear g1 hc HH4
            go_wp2_with (fail)
            intro a' ha'
            go_wp2_with (fail)
            exact ⟨ha', HE.out⟩
        · have HE := Lib.hid (NO3.out _ (fr_trans HC2.out (fr_drew hc)) h0)
          clear g1 hc HH3
          go_wp2_with (fail)
          intro a' ha'
          go_wp2_with (fail)
          exact ⟨ha', HE.out⟩
      · have kb1 : (m.kind == 1) = false := by rw [hk]; rfl
        have kb3 : (m.kind == 3) = false := by rw [hk]; rfl
        have kb5 : (m.kind == 5) = false := by rw [hk]; rfl
        have kb7 : (m.kind == 7) = false := by rw [hk]; rfl
        have kb6 : (m.kind == 6) = false := by rw [hk]; rfl
        have kb4 : (m.kind == 4) = true := by rw [hk]; rfl
        have kb8 : (m.kind == 8) = false := by rw [hk]; rfl
        have HKI := Lib.hid hk
        clear hk
        obtain ⟨r3, hr3⟩ : ∃ r, encC.num l2 m.err 255 = r := ⟨_, rfl⟩
        have HH3 := Lib.hid (num_e w2.drew g B mb 12 (mcells ({ ({ m with seq := a1 } : Msg) with epoch := a2 } : Msg) P M) 31 l2 m.err 255 (ST2.out.drew) (VV2.out) rfl hne (by decide) trivial (by show B ≤ w2.heap.size; omega) (by omega) (by omega))
        rw [show numE l2 m.err 255 = r3 from hr3] at HH3
        have HQ3 := Lib.hid (show pass encC l m = bnd r3 _ _ from bnd_next HQ2.out ((rest_4 (m0 := m) (m := ({ ({ m with seq := a1 } : Msg) with epoch := a2 } : Msg)) HKI.out).trans (bnd_eq hr3)))
        have hl3 := numE_len l2 m.err 255
        rw [show numE l2 m.err 255 = r3 from hr3] at hl3
        have NO3 := Lib.hid (fun (w' : World) (h1 : Chg (FR w g B mb) w w') (h2 : r3.1 ≠ 0) => (show RetPs w g B mb (pass encC l m) (.panicked (errC r3.1)) w' from ⟨h1, .inr ⟨by rw [HQ3.out, bnd_no h2]; exact h2, by rw [HQ3.out, bnd_no h2]⟩⟩))
        clear hr3
        obtain ⟨er3, l3, a3⟩ := r3
        simp only at hl3
        go_wp2_with (fail)
        refine frp.wp_region_ptree (F := fun _ => True) (.reads [0, 1, 2, 3] (.one 4 false (.reads [5, 6] (.one 7 false .stop)))) (by kernel_rfl) (by kernel_rfl) ?_
        refine fr.tr_reads _ (by dsimp only [pick, ord.at_]) ?_
        repeat (go_big_quiet_step (fail))
        refine wpQuiet_nil ?_
        refine fr.tr_one _ (by dsimp only [pick, ord.at_]) ?_
        intro K1 g1 g2
        clear g2
        go_wp2_with (fail)
        refine g1 _ _ (Chg.refl _ _).drew ?_
        clear g1
        refine fr.tr_reads _ (by dsimp only [pick, ord.at_]) ?_
        repeat (go_big_quiet_step (fail))
        refine wpQuiet_nil ?_
        refine frp.tr_onep _ (by dsimp only [pick, ord.at_]) ?_
        intro K2 g1 g2 g3
        clear g2
        go_wp2_with (fail)
        refine HH3.out.mono ?_
        intro e w3 hr
        obtain ⟨hc, ⟨h0, rfl, hst, hV⟩ | ⟨h0, rfl⟩⟩ := hr
        · simp only at h0 hst hV
          subst h0
          have ST3 := Lib.hid hst
          have VV3 := Lib.hid hV
          have HC3 := Lib.hid (fr_trans HC2.out (fr_drew hc))
          have hs3 := HC3.out.size
          clear hst hV g3 HH3
          go_wp2_with (fail)
          refine g1 _ _ (((Chg.refl (fun _ => True) w2).drew).trans (hc.mono (fun _ _ _ => trivial)) (fun _ _ e => e)) ?_
          clear g1 hc
          refine fr.tr_stop ?_
          refine PanicAll.normal ?_
          replace VV3 := Lib.hid (show V w3 mb (mcells ({ ({ ({ m with seq := a1 } : Msg) with epoch := a2 } : Msg) with err := a3 } : Msg) P M) 31 from VV3.out)
          have c0 : w3.cell? ⟨mb, 0, none⟩ = some (.int .i64 m.kind) := by rw [cell_of_row _ _ _ _ _ _ VV3.out]; rfl
          have hm3 : mb < w3.heap.size := by omega
          have hg3 : g < w3.heap.size := by omega
          have hbel4 : Below B0 w w3 := HC3.out.below (by omega) (fun k e => by rcases e with e | e | ⟨e, _⟩ <;> omega)
          obtain ⟨r4, hr4⟩ : ∃ r, passList encC (0, 0, 0) (passPt encC) 512 l3 m.pts = r := ⟨_, rfl⟩
          have HH4 := Lib.hid (passLP_e w3 g B mb 14 B0 (mcells ({ ({ ({ m with seq := a1 } : Msg) with epoch := a2 } : Msg) with err := a3 } : Msg) P M) 31 l3 m.pts pA m.pts.length pc (ST3.out) (VV3.out) (by rw [HP.out, HM.out]; rfl) (HPTS.out.1.below hbel4 (Nat.le_refl _)) HPTS.out.2.1 HPTS.out.2.2 hne (by decide) hgB (by show B ≤ w3.heap.size; omega) h0g h0m (by omega) (by omega))
          rw [hr4] at HH4
          have HQ4 := Lib.hid (show pass encC l m = bnd r4 _ _ from bnd_next HQ3.out (bnd_eq hr4))
          have NO4 := Lib.hid (fun (w' : World) (h1 : Chg (FR w g B mb) w w') (h2 : r4.1 ≠ 0) => (show RetPs w g B mb (pass encC l m) (.panicked (errC r4.1)) w' from ⟨h1, .inr ⟨by rw [HQ4.out, bnd_no h2]; exact h2, by rw [HQ4.out, bnd_no h2]⟩⟩))
          clear hr4 hbel4
          obtain ⟨er4, l4, a4⟩ := r4
          go_wp2_with (fail)
          refine HH4.out.mono ?_
          intro e w4 hr
          obtain ⟨hc, ⟨h0, rfl, hst, hV⟩ | ⟨h0, rfl⟩⟩ := hr
          · simp only at h0 hst
            subst h0
            have ST4 := Lib.hid hst
            have HC4 := Lib.hid (fr_trans HC3.out hc)
            clear hst hV hc HH4
            go_wp2_with (fail)
            go_end0
            exact ⟨HC4.out, .inl ⟨by rw [HQ4.out, bnd_ok rfl], rfl, by rw [HQ4.out, bnd_ok rfl]; exact ST4.out⟩⟩
          · have HE := Lib.hid (NO4.out _ (fr_trans HC3.out hc) h0)
            clear hc HH4
            go_wp2_with (fail)
            exact ⟨rfl, HE.out⟩
        · have HE := Lib.hid (NO3.out _ (fr_trans HC2.out (fr_drew hc)) h0)
          clear g1 hc HH3
          go_wp2_with (fail)
          intro a' ha'
          go_wp2_with (fail)
          exact ⟨ha', HE.out⟩
      · have kb1 : (m.kind == 1) = false := by rw [hk]; rfl
        have kb3 : (m.kind == 3) = false := by rw [hk]; rfl
        have kb5 : (m.kind == 5) = false := by rw [hk]; rfl
        have kb7 : (m.kind == 7) = false := by rw [hk]; rfl
        have kb6 : (m.kind == 6) = false := by rw [hk]; rfl
        have kb4 : (m.kind == 4) = false := by rw [hk]; rfl
        have kb8 : (m.kind == 8) = true := by rw [hk]; rfl
        have HKI := Lib.hid hk
        clear hk
        obtain ⟨r3, hr3⟩ : ∃ r, encC.num l2 m.err 255 = r := ⟨_, rfl⟩
        have HH3 := Lib.hid (num_e w2.drew g B mb 12 (mcells ({ ({ m with seq := a1 } : Msg) with epoch := a2 } : Msg) P M) 31 l2 m.err 255 (ST2.out.drew) (VV2.out) rfl hne (by decide) trivial (by show B ≤ w2.heap.size; omega) (by omega) (by omega))
        rw [show numE l2 m.err 255 = r3 from hr3] at HH3
        have HQ3 := Lib.hid (show pass encC l m = bnd r3 _ _ from bnd_next HQ2.out ((rest_8 (m0 := m) (m := ({ ({ m with seq := a1 } : Msg) with epoch := a2 } : Msg)) HKI.out).trans (bnd_eq hr3)))
        have hl3 := numE_len l2 m.err 255
        rw [show numE l2 m.err 255 = r3 from hr3] at hl3
        have NO3 := Lib.hid (fun (w' : World) (h1 : Chg (FR w g B mb) w w') (h2 : r3.1 ≠ 0) => (show RetPs w g B mb (pass encC l m) (.panicked (errC r3.1)) w' from ⟨h1, .inr ⟨by rw [HQ3.out, bnd_no h2]; exact h2, by rw [HQ3.out, bnd_no h2]⟩⟩))
        clear hr3
        obtain ⟨er3, l3, a3⟩ := r3
        simp only at hl3
        go_wp2_with (fail)
        refine frp.wp_region_ptree (F := fun _ => True) (.reads [0, 1, 2, 3] (.one 4 false (.reads [5, 6] (.one 7 false .stop)))) (by kernel_rfl) (by kernel_rfl) ?_
        refine fr.tr_reads _ (by dsimp only [pick, ord.at_]) ?_
        repeat (go_big_quiet_step (fail))
        refine wpQuiet_nil ?_
        refine fr.tr_one _ (by dsimp only [pick, ord.at_]) ?_
        intro K1 g1 g2
        clear g2
        go_wp2_with (fail)
        refine g1 _ _ (Chg.refl _ _).drew ?_
        clear g1
        refine fr.tr_reads _ (by dsimp only [pick, ord.at_]) ?_
        repeat (go_big_quiet_step (fail))
        refine wpQuiet_nil ?_
        refine frp.tr_onep _ (by dsimp only [pick, ord.at_]) ?_
        intro K2 g1 g2 g3
        clear g2
        go_wp2_with (fail)
        refine HH3.out.mono ?_
        intro e w3 hr
        obtain ⟨hc, ⟨h0, rfl, hst, hV⟩ | ⟨h0, rfl⟩⟩ := hr
        · simp only at h0 hst hV
          subst h0
          have ST3 := Lib.hid hst
          have VV3 := Lib.hid hV
          have HC3 := Lib.hid (fr_trans HC2.out (fr_drew hc))
          have hs3 := HC3.out.size
          clear hst hV g3 HH3
          go_wp2_with (fail)
          refine g1 _ _ (((Chg.refl (fun _ => True) w2).drew).trans (hc.mono (fun _ _ _ => trivial)) (fun _ _ e => e)) ?_
          clear g1 hc
          refine fr.tr_stop ?_
          refine PanicAll.normal ?_
          replace VV3 := Lib.hid (show V w3 mb (mcells ({ ({ ({ m with seq := a1 } : Msg) with epoch := a2 } : Msg) with err := a3 } : Msg) P M) 31 from VV3.out)
          have c0 : w3.cell? ⟨mb, 0, none⟩ = some (.int .i64 m.kind) := by rw [cell_of_row _ _ _ _ _ _ VV3.out]; rfl
          have hm3 : mb < w3.heap.size := by omega
          have hg3 : g < w3.heap.size := by omega
          have hbel4 : Below B0 w w3 := HC3.out.below (by omega) (fun k e => by rcases e with e | e | ⟨e, _⟩ <;> omega)
          obtain ⟨r4, hr4⟩ : ∃ r, passList encC (0, 0, 0) (passPt encC) 512 l3 m.pts = r := ⟨_, rfl⟩
          have HH4 := Lib.hid (passLP_e w3 g B mb 14 B0 (mcells ({ ({ ({ m with seq := a1 } : Msg) with epoch := a2 } : Msg) with err := a3 } : Msg) P M) 31 l3 m.pts pA m.pts.length pc (ST3.out) (VV3.out) (by rw [HP.out, HM.out]; rfl) (HPTS.out.1.below hbel4 (Nat.le_refl _)) HPTS.out.2.1 HPTS.out.2.2 hne (by decide) hgB (by show B ≤ w3.heap.size; omega) h0g h0m (by omega) (by omega))
          rw [hr4] at HH4
          have HQ4 := Lib.hid (show pass encC l m = bnd r4 _ _ from bnd_next HQ3.out (bnd_eq hr4))
          have NO4 := Lib.hid (fun (w' : World) (h1 : Chg (FR w g B mb) w w') (h2 : r4.1 ≠ 0) => (show RetPs w g B mb (pass encC l m) (.panicked (errC r4.1)) w' from ⟨h1, .inr ⟨by rw [HQ4.out, bnd_no h2]; exact h2, by rw [HQ4.out, bnd_no h2]⟩⟩))
          clear hr4 hbel4
          obtain ⟨er4, l4, a4⟩ := r4
          go_wp2_with (fail)
          refine HH4.out.mono ?_
          intro e w4 hr
          obtain ⟨hc, ⟨h0, rfl, hst, hV⟩ | ⟨h0, rfl⟩⟩ := hr
          · simp only at h0 hst
            subst h0
            have ST4 := Lib.hid hst
            have HC4 := Lib.hid (fr_trans HC3.out hc)
            clear hst hV hc HH4
            go_wp2_with (fail)
            go_end0
            exact ⟨HC4.out, .inl ⟨by rw [HQ4.out, bnd_ok rfl], rfl, by rw [HQ4.out, bnd_ok rfl]; exact ST4.out⟩⟩
          · have HE := Lib.hid (NO4.out _ (fr_trans HC3.out hc) h0)
            clear hc HH4
            go_wp2_with (fail)
            exact ⟨rfl, HE.out⟩
        · have HE := Lib.hid (NO3.out _ (fr_trans HC2.out (fr_drew hc)) h0)
          clear g1 hc HH3
          go_wp2_with (fail)
          intro a' ha'
          go_wp2_with (fail)
          exact ⟨ha', HE.out⟩
      · have kb1 : (m.kind == 1) = false := by simp; omega
        have kb3 : (m.kind == 3) = false := by simp; omega
        have kb5 : (m.kind == 5) = false := by simp; omega
        have kb7 : (m.kind == 7) = false := by simp; omega
        have kb6 : (m.kind == 6) = false := by simp; omega
        have kb4 : (m.kind == 4) = false := by simp; omega
        have kb8 : (m.kind == 8) = false := by simp; omega
        have HKI := Lib.hid hk
        clear hk
        obtain ⟨r3, hr3⟩ : ∃ r, encC.num l2 m.err 255 = r := ⟨_, rfl⟩
        have HH3 := Lib.hid (num_e w2.drew g B mb 12 (mcells ({ ({ m with seq := a1 } : Msg) with epoch := a2 } : Msg) P M) 31 l2 m.err 255 (ST2.out.drew) (VV2.out) rfl hne (by decide) trivial (by show B ≤ w2.heap.size; omega) (by omega) (by omega))
        rw [show numE l2 m.err 255 = r3 from hr3] at HH3
        have HQ3 := Lib.hid (show pass encC l m = bnd r3 _ _ from bnd_next HQ2.out ((rest_0 (m0 := m) (m := ({ ({ m with seq := a1 } : Msg) with epoch := a2 } : Msg)) HKI.out).trans (bnd_eq hr3)))
        have hl3 := numE_len l2 m.err 255
        rw [show numE l2 m.err 255 = r3 from hr3] at hl3
        have NO3 := Lib.hid (fun (w' : World) (h1 : Chg (FR w g B mb) w w') (h2 : r3.1 ≠ 0) => (show RetPs w g B mb (pass encC l m) (.panicked (errC r3.1)) w' from ⟨h1, .inr ⟨by rw [HQ3.out, bnd_no h2]; exact h2, by rw [HQ3.out, bnd_no h2]⟩⟩))
        clear hr3
        obtain ⟨er3, l3, a3⟩ := r3
        simp only at hl3
        go_wp2_with (fail)
        refine frp.wp_region_ptree (F := fun _ => True) (.reads [0, 1, 2, 3] (.one 4 false (.reads [5, 6] (.one 7 false .stop)))) (by kernel_rfl) (by kernel_rfl) ?_
        refine fr.tr_reads _ (by dsimp only [pick, ord.at_]) ?_
        repeat (go_big_quiet_step (fail))
        refine wpQuiet_nil ?_
        refine fr.tr_one _ (by dsimp only [pick, ord.at_]) ?_
        intro K1 g1 g2
        clear g2
        go_wp2_with (fail)
        refine g1 _ _ (Chg.refl _ _).drew ?_
        clear g1
        refine fr.tr_reads _ (by dsimp only [pick, ord.at_]) ?_
        repeat (go_big_quiet_step (fail))
        refine wpQuiet_nil ?_
        refine frp.tr_onep _ (by dsimp only [pick, ord.at_]) ?_
        intro K2 g1 g2 g3
        clear g2
        go_wp2_with (fail)
        refine HH3.out.mono ?_
        intro e w3 hr
        obtain ⟨hc, ⟨h0, rfl, hst, hV⟩ | ⟨h0, rfl⟩⟩ := hr
        · simp only at h0 hst hV
          subst h0
          have ST3 := Lib.hid hst
          have VV3 := Lib.hid hV
          have HC3 := Lib.hid (fr_trans HC2.out (fr_drew hc))
          have hs3 := HC3.out.size
          clear hst hV g3 HH3
          go_wp2_with (fail)
          refine g1 _ _ (((Chg.refl (fun _ => True) w2).drew).trans (hc.mono (fun _ _ _ => trivial)) (fun _ _ e => e)) ?_
          clear g1 hc
          refine fr.tr_stop ?_
          refine PanicAll.normal ?_
          replace VV3 := Lib.hid (show V w3 mb (mcells ({ ({ ({ m with seq := a1 } : Msg) with epoch := a2 } : Msg) with err := a3 } : Msg) P M) 31 from VV3.out)
          have c0 : w3.cell? ⟨mb, 0, none⟩ = some (.int .i64 m.kind) := by rw [cell_of_row _ _ _ _ _ _ VV3.out]; rfl
          have hm3 : mb < w3.heap.size := by omega
          have hg3 : g < w3.heap.size := by omega
          go_wp2_with (fail)
          go_end0
          exact ⟨HC3.out, .inl ⟨by rw [HQ3.out, bnd_ok rfl], rfl, by rw [HQ3.out, bnd_ok rfl]; exact ST3.out⟩⟩
        · have HE := Lib.hid (NO3.out _ (fr_trans HC2.out (fr_drew hc)) h0)
          clear g1 hc HH3
          go_wp2_with (fail)
          intro a' ha'
          go_wp2_with (fail)
          exact ⟨ha', HE.out⟩
    · have HE := Lib.hid (NO2.out _ (fr_trans HC1.out (fr_drew hc)) h0)
      clear g1 hc HH2
      go_wp2_with (fail)
      intro a' ha'
      go_wp2_with (fail)
      exact ⟨ha', HE.out⟩
  · have HE := Lib.hid (NO1.out _ (fr_trans HC0.out (fr_drew hc)) h0)
    clear g1 hc HH1
    go_wp2_with (fail)
    intro a' ha'
    go_wp2_with (fail)
    exact ⟨ha', HE.out⟩
end Go.Proofs.Ythkcnakodlbdpaa.wr
