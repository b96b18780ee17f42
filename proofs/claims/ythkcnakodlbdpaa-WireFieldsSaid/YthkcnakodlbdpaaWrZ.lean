/-
  Messages: the document's fields.
-/
import Derived.Test.YthkcnakodlbdpaaWrYM
namespace Go.Proofs.Ythkcnakodlbdpaa.wr
open Go.ChangeShapes Go.WideShapes Go.ChangeAt Go.RowKit plain words ord mem uvs uvc cl

/-- what F comes to, once G has: both from the errors at hand -/
def Qo {α β : Type} (e0 : Int) (F : R α) (e : Int) (G : R β) : Prop := st e0 F.1 = st e G.1 ∧ (st e0 F.1 = 0 → F.2.1 = G.2.1)
theorem Qo.refl {α : Type} {e : Int} {F : R α} : Qo e F e F := ⟨rfl, fun _ => rfl⟩
theorem Qo.step {α β γ : Type} {e0 e e' : Int} {F : R α} {r0 r : R β} {d : γ} {k : By → β → R γ} {s' : By} {v : β} (h : Qo e0 F e (bnd r0 d k)) (hr : r0 = r) (he : st e r.1 = e') (hs : e' = 0 → s' = r.2.1) (hv : r.2.2 = v) : Qo e0 F e' (k s' v) := by
  subst hr he
  obtain ⟨q1, q2⟩ := st_bnd (d := d) (k := k) hs hv
  exact ⟨h.1.trans q1, fun e => (h.2 e).trans (q2 (by rw [← h.1]; exact e))⟩
theorem Qo.stop {α β : Type} {e0 e : Int} {F : R α} {s : By} {x : β} (h : Qo e0 F e ((0, s, x) : R β)) : st e0 F.1 = e ∧ (st e0 F.1 = 0 → s = F.2.1) := ⟨h.1.trans st_ok, fun e => (h.2 e).symm⟩
theorem uv_0 : uv 0 = [0] := by unfold uv; rfl
theorem uv_1 : uv 1 = [1] := by unfold uv; rfl
theorem num_f (s : By) : numE s 0 1 = (0, s ++ [0], 0) := by unfold numE; rw [if_neg (by omega), show (0 : Int).toNat = 0 from rfl, uv_0]
theorem num_t (s : By) : numE s 1 1 = (0, s ++ [1], 1) := by unfold numE; rw [if_neg (by omega), show (1 : Int).toNat = 1 from rfl, uv_1]
theorem ty_var {w w' : World} {g B mb : Nat} {cur : Array Value} {t : TypeId} (h : V w mb cur t) (hc : Chg (TY w g B) w w') (hne : mb ≠ g) (ht : t ≠ 5) : V w' mb cur t := hc.blk h fun e => by
  rcases e with e | ⟨_, cur', e⟩
  · exact hne e
  · rw [h] at e; injection e with e; injection e with _ e; exact ht e
theorem rg_3 {C : Cd} {s : By} {m0 m : Msg} (h : m.kind = 3) : rest C s m0 m = bnd (C.num s m.space 255) m0 fun s a => bnd (C.txt s m.id) m0 fun s i => bnd (C.num s m.rf 1099511627777) { m with space := a, id := i } fun s p => bnd (C.num s m.rt 1099511627777) { m with space := a, id := i } fun s q => (0, s, { m with space := a, id := i, rf := p, rt := q }) := by
  rw [rest_3 h]
  simp [passRg, bnd_assoc, bnd_ok]
theorem rg_5 {C : Cd} {s : By} {m0 m : Msg} (h : m.kind = 5) : rest C s m0 m = bnd (C.num s m.space 255) m0 fun s a => bnd (C.num s m.shard 255) m0 fun s b => bnd (C.num s m.rf 1099511627777) { m with space := a, shard := b } fun s p => bnd (C.num s m.rt 1099511627777) { m with space := a, shard := b } fun s q => bnd (C.num s m.block 1099511627776) { m with space := a, shard := b, rf := p, rt := q } fun s c => bnd (C.txt s m.id) { m with space := a, shard := b, rf := p, rt := q } fun s i => (0, s, { m with space := a, shard := b, rf := p, rt := q, block := c, id := i }) := by
  rw [rest_5 h]
  simp [passRg, bnd_assoc, bnd_ok]
set_option maxHeartbeats 16000000 in
set_option maxRecDepth 100000 in
theorem fields_y (w : World) (g B B0 : Nat) (s0 : By) (e0 : Int) (m : Msg) (pA mA : Option Addr) (pc mc : Nat) (h : OutY w g B s0 e0) (hok : MOk w B0 m pA mA pc mc) (hid : m.id.length ≤ 1000000000) (hpt : PtOk m.p) (hk0 : 1 ≤ m.kind ∧ m.kind ≤ 8) (hB : B ≤ w.heap.size) (h0g : B0 ≤ g) (h0B : B0 ≤ B) (hn : s0.length ≤ 10000) :
    Calls Try.prog 18 #[.pointer (some ⟨g, 0, none⟩), .agg (mcells m (.slice pA m.pts.length pc) (.slice mA m.mts.length mc))] w (RetY w g B 30000 s0 e0 ((rest encC s0 m m).1, (rest encC s0 m m).2.1)) := by
  obtain ⟨mb, hmb⟩ : ∃ mb, w.heap.size = mb := ⟨_, rfl⟩
  obtain ⟨w0, hw0⟩ : ∃ w0, w.alloc (.cells (mcells m (.slice pA m.pts.length pc) (.slice mA m.mts.length mc)) 37) = w0 := ⟨_, rfl⟩
  have hb0 : Below w.heap.size w w0 := by rw [← hw0]; exact below_al _ _
  have gp : V w0 mb (mcells m (.slice pA m.pts.length pc) (.slice mA m.mts.length mc)) 37 := by rw [← hw0, ← hmb]; exact alloc_new _ _
  have hs0 := hb0.size
  have hgl := h.lt
  have HVC := Lib.hid (fun (u : World) (hu : Chg (TY w0 g B) w0 u) => ty_var gp hu (by omega) (by decide))
  have HOK := Lib.hid (show MOk w0 B0 m pA mA pc mc from ⟨⟨hok.1.1.below hb0 (by omega), hok.1.2⟩, ⟨hok.2.1.below hb0 (by omega), hok.2.2⟩⟩)
  have HBL := Lib.hid (fun (u : World) (hu : Chg (TY w0 g B) w0 u) => ty_below hu (by omega) h0g h0B)
  have HO0 := Lib.hid (h.below hb0 (Nat.le_refl _))
  have HC0 := Lib.hid (Chg.refl (TY w0 g B) w0)
  have HCB := Lib.hid (show Chg (TY w g B) w w0 from (Chg.of_below hb0).mono (fun _ _ e => e.elim))
  have HID := Lib.hid hid
  have HPT := Lib.hid hpt
  have hmbl : mb < w0.heap.size := blk_lt gp
  have dk : w0.cell? ⟨mb, 0, none⟩ = some (.int .i64 m.kind) := by rw [cell_of_row _ _ _ _ _ _ gp]; rfl
  have dm : w0.cell? ⟨mb, 13, none⟩ = some (.bool m.more) := by rw [cell_of_row _ _ _ _ _ _ gp]; rfl
  have hgl0 := HO0.out.lt
  clear h hok hid hpt hb0 gp
  have hkk : m.kind = 1 ∨ m.kind = 2 ∨ m.kind = 3 ∨ m.kind = 4 ∨ m.kind = 5 ∨ m.kind = 6 ∨ m.kind = 7 ∨ m.kind = 8 := by omega
  clear hk0
  obtain ⟨mo, hmo⟩ : ∃ mo, m.more = mo := ⟨_, rfl⟩
  cases mo with
  | false =>
    rcases hkk with hk | hk | hk | hk | hk | hk | hk | hk
    · have dm : w0.cell? ⟨mb, 13, none⟩ = some (.bool false) := by rw [dm, hmo]
      have kb1 : (m.kind == 1) = true := by rw [hk]; rfl
      have kb2 : (m.kind == 2) = false := by rw [hk]; rfl
      have kb3 : (m.kind == 3) = false := by rw [hk]; rfl
      have kb4 : (m.kind == 4) = false := by rw [hk]; rfl
      have kb5 : (m.kind == 5) = false := by rw [hk]; rfl
      have kb6 : (m.kind == 6) = false := by rw [hk]; rfl
      have kb7 : (m.kind == 7) = false := by rw [hk]; rfl
      have kb8 : (m.kind == 8) = false := by rw [hk]; rfl
      have HQ0 := Lib.hid (show Qo e0 (rest encC s0 m m) e0 _ from by rw [rest_1 (m0 := m) hk]; exact Qo.refl)
      clear hk
      go_enter Try.func18, Try.ntmps18
      have CW0 := HVC.out w0 HC0.out
      have hmb0 : mb < w0.heap.size := blk_lt CW0
      have d3 : w0.cell? ⟨mb, 3, none⟩ = some (.int .i64 m.space) := by rw [cell_of_row _ _ _ _ _ _ CW0]; rfl
      have HP0 := Lib.hid (number_y w0 g B s0 e0 m.space 255 HO0.out (by omega) (by omega) (by omega))
      obtain ⟨r0, hr0⟩ : ∃ r, numE s0 m.space 255 = r := ⟨_, rfl⟩
      rw [hr0] at HP0
      have hv0 : r0.2.2 = m.space := by rw [← hr0]; exact numE_v _ _ _
      clear CW0
      go_wp2_with (fail)
      refine HP0.out.mono ?_
      rintro en w1 ⟨rfl, s1, ho, hs, hlen1, hc⟩
      obtain ⟨e1, he⟩ : ∃ e, st e0 r0.1 = e := ⟨_, rfl⟩
      simp only [he] at ho hs
      have HO1 := Lib.hid ho
      have HC1 := Lib.hid (ty_trans HC0.out hc)
      have HQ1 := Lib.hid (HQ0.out.step hr0 he hs hv0)
      have hsz1 := hc.size
      have hgl1 := ho.lt
      clear ho hs hc he hr0 hv0 HP0 d3
      have CW1 := HVC.out w1 HC1.out
      have hmb1 : mb < w1.heap.size := blk_lt CW1
      have d5 : w1.cell? ⟨mb, 5, none⟩ = some (.string (cl.tx m.id)) := by rw [cell_of_row _ _ _ _ _ _ CW1]; rfl
      have HP1 := Lib.hid (name_y w1 g B s1 e1 m.id HO1.out (by omega) (by omega) HID.out)
      obtain ⟨r1, hr1⟩ : ∃ r, txtE s1 m.id = r := ⟨_, rfl⟩
      rw [hr1] at HP1
      have hv1 : r1.2.2 = m.id := by rw [← hr1]; exact txtE_v _ _
      clear CW1
      go_wp2_with (fail)
      refine HP1.out.mono ?_
      rintro en w2 ⟨rfl, s2, ho, hs, hlen2, hc⟩
      obtain ⟨e2, he⟩ : ∃ e, st e1 r1.1 = e := ⟨_, rfl⟩
      simp only [he] at ho hs
      have HO2 := Lib.hid ho
      have HC2 := Lib.hid (ty_trans HC1.out hc)
      have HQ2 := Lib.hid (HQ1.out.step hr1 he hs hv1)
      have hsz2 := hc.size
      have hgl2 := ho.lt
      clear ho hs hc he hr1 hv1 HP1 d5
      have CW2 := HVC.out w2 HC2.out
      have hmb2 : mb < w2.heap.size := blk_lt CW2
      have d9 : w2.cell? ⟨mb, 9, none⟩ = some (.int .i64 m.p.1) := by rw [cell_of_row _ _ _ _ _ _ CW2]; rfl
      have d10 : w2.cell? ⟨mb, 10, none⟩ = some (.int .u64 m.p.2.1) := by rw [cell_of_row _ _ _ _ _ _ CW2]; rfl
      have d11 : w2.cell? ⟨mb, 11, none⟩ = some (.int .u64 m.p.2.2) := by rw [cell_of_row _ _ _ _ _ _ CW2]; rfl
      have HP2 := Lib.hid (point_y w2 g B s2 e2 m.p HO2.out (by omega) (by omega) HPT.out)
      obtain ⟨r2, hr2⟩ : ∃ r, passPt encC s2 m.p = r := ⟨_, rfl⟩
      rw [hr2] at HP2
      clear CW2
      go_wp2_with (fail)
      refine HP2.out.mono ?_
      rintro en w3 ⟨rfl, s3, ho, hs, hlen3, hc⟩
      obtain ⟨e3, he⟩ : ∃ e, st e2 r2.1 = e := ⟨_, rfl⟩
      simp only [he] at ho hs
      have HO3 := Lib.hid ho
      have HC3 := Lib.hid (ty_trans HC2.out hc)
      have HQ3 := Lib.hid (HQ2.out.step hr2 he hs rfl)
      have hsz3 := hc.size
      have hgl3 := ho.lt
      clear ho hs hc he hr2  HP2 d9 d10 d11
      go_wp2_with (fail)
      go_end0
      exact ⟨rfl, s3, by rw [HQ3.out.stop.1]; exact HO3.out, HQ3.out.stop.2, by omega, ty_trans HCB.out HC3.out⟩
    · have dm : w0.cell? ⟨mb, 13, none⟩ = some (.bool false) := by rw [dm, hmo]
      have kb1 : (m.kind == 1) = false := by rw [hk]; rfl
      have kb2 : (m.kind == 2) = true := by rw [hk]; rfl
      have kb3 : (m.kind == 3) = false := by rw [hk]; rfl
      have kb4 : (m.kind == 4) = false := by rw [hk]; rfl
      have kb5 : (m.kind == 5) = false := by rw [hk]; rfl
      have kb6 : (m.kind == 6) = false := by rw [hk]; rfl
      have kb7 : (m.kind == 7) = false := by rw [hk]; rfl
      have kb8 : (m.kind == 8) = false := by rw [hk]; rfl
      have HQ0 := Lib.hid (show Qo e0 (rest encC s0 m m) e0 (bnd (encC.num s0 m.err 255) m fun s a => (0, s, ({ m with err := a } : Msg))) from by rw [← rest_0 (m0 := m) (by omega)]; exact Qo.refl)
      clear hk
      go_enter Try.func18, Try.ntmps18
      have CW0 := HVC.out w0 HC0.out
      have hmb0 : mb < w0.heap.size := blk_lt CW0
      have d12 : w0.cell? ⟨mb, 12, none⟩ = some (.int .i64 m.err) := by rw [cell_of_row _ _ _ _ _ _ CW0]; rfl
      have HP0 := Lib.hid (number_y w0 g B s0 e0 m.err 255 HO0.out (by omega) (by omega) (by omega))
      obtain ⟨r0, hr0⟩ : ∃ r, numE s0 m.err 255 = r := ⟨_, rfl⟩
      rw [hr0] at HP0
      have hv0 : r0.2.2 = m.err := by rw [← hr0]; exact numE_v _ _ _
      clear CW0
      go_wp2_with (fail)
      refine HP0.out.mono ?_
      rintro en w1 ⟨rfl, s1, ho, hs, hlen1, hc⟩
      obtain ⟨e1, he⟩ : ∃ e, st e0 r0.1 = e := ⟨_, rfl⟩
      simp only [he] at ho hs
      have HO1 := Lib.hid ho
      have HC1 := Lib.hid (ty_trans HC0.out hc)
      have HQ1 := Lib.hid (HQ0.out.step hr0 he hs hv0)
      have hsz1 := hc.size
      have hgl1 := ho.lt
      clear ho hs hc he hr0 hv0 HP0 d12
      go_wp2_with (fail)
      go_end0
      exact ⟨rfl, s1, by rw [HQ1.out.stop.1]; exact HO1.out, HQ1.out.stop.2, by omega, ty_trans HCB.out HC1.out⟩
    · have dm : w0.cell? ⟨mb, 13, none⟩ = some (.bool false) := by rw [dm, hmo]
      have kb1 : (m.kind == 1) = false := by rw [hk]; rfl
      have kb2 : (m.kind == 2) = false := by rw [hk]; rfl
      have kb3 : (m.kind == 3) = true := by rw [hk]; rfl
      have kb4 : (m.kind == 4) = false := by rw [hk]; rfl
      have kb5 : (m.kind == 5) = false := by rw [hk]; rfl
      have kb6 : (m.kind == 6) = false := by rw [hk]; rfl
      have kb7 : (m.kind == 7) = false := by rw [hk]; rfl
      have kb8 : (m.kind == 8) = false := by rw [hk]; rfl
      have HQ0 := Lib.hid (show Qo e0 (rest encC s0 m m) e0 _ from by rw [rg_3 (m0 := m) hk]; exact Qo.refl)
      clear hk
      go_enter Try.func18, Try.ntmps18
      have CW0 := HVC.out w0 HC0.out
      have hmb0 : mb < w0.heap.size := blk_lt CW0
      have d3 : w0.cell? ⟨mb, 3, none⟩ = some (.int .i64 m.space) := by rw [cell_of_row _ _ _ _ _ _ CW0]; rfl
      have HP0 := Lib.hid (number_y w0 g B s0 e0 m.space 255 HO0.out (by omega) (by omega) (by omega))
      obtain ⟨r0, hr0⟩ : ∃ r, numE s0 m.space 255 = r := ⟨_, rfl⟩
      rw [hr0] at HP0
      have hv0 : r0.2.2 = m.space := by rw [← hr0]; exact numE_v _ _ _
      clear CW0
      go_wp2_with (fail)
      refine HP0.out.mono ?_
      rintro en w1 ⟨rfl, s1, ho, hs, hlen1, hc⟩
      obtain ⟨e1, he⟩ : ∃ e, st e0 r0.1 = e := ⟨_, rfl⟩
      simp only [he] at ho hs
      have HO1 := Lib.hid ho
      have HC1 := Lib.hid (ty_trans HC0.out hc)
      have HQ1 := Lib.hid (HQ0.out.step hr0 he hs hv0)
      have hsz1 := hc.size
      have hgl1 := ho.lt
      clear ho hs hc he hr0 hv0 HP0 d3
      have CW1 := HVC.out w1 HC1.out
      have hmb1 : mb < w1.heap.size := blk_lt CW1
      have d5 : w1.cell? ⟨mb, 5, none⟩ = some (.string (cl.tx m.id)) := by rw [cell_of_row _ _ _ _ _ _ CW1]; rfl
      have HP1 := Lib.hid (name_y w1 g B s1 e1 m.id HO1.out (by omega) (by omega) HID.out)
      obtain ⟨r1, hr1⟩ : ∃ r, txtE s1 m.id = r := ⟨_, rfl⟩
      rw [hr1] at HP1
      have hv1 : r1.2.2 = m.id := by rw [← hr1]; exact txtE_v _ _
      clear CW1
      go_wp2_with (fail)
      refine HP1.out.mono ?_
      rintro en w2 ⟨rfl, s2, ho, hs, hlen2, hc⟩
      obtain ⟨e2, he⟩ : ∃ e, st e1 r1.1 = e := ⟨_, rfl⟩
      simp only [he] at ho hs
      have HO2 := Lib.hid ho
      have HC2 := Lib.hid (ty_trans HC1.out hc)
      have HQ2 := Lib.hid (HQ1.out.step hr1 he hs hv1)
      have hsz2 := hc.size
      have hgl2 := ho.lt
      clear ho hs hc he hr1 hv1 HP1 d5
      have CW2 := HVC.out w2 HC2.out
      have hmb2 : mb < w2.heap.size := blk_lt CW2
      have d7 : w2.cell? ⟨mb, 7, none⟩ = some (.int .i64 m.rf) := by rw [cell_of_row _ _ _ _ _ _ CW2]; rfl
      have HP2 := Lib.hid (number_y w2 g B s2 e2 m.rf 1099511627777 HO2.out (by omega) (by omega) (by omega))
      obtain ⟨r2, hr2⟩ : ∃ r, numE s2 m.rf 1099511627777 = r := ⟨_, rfl⟩
      rw [hr2] at HP2
      have hv2 : r2.2.2 = m.rf := by rw [← hr2]; exact numE_v _ _ _
      clear CW2
      go_wp2_with (fail)
      refine HP2.out.mono ?_
      rintro en w3 ⟨rfl, s3, ho, hs, hlen3, hc⟩
      obtain ⟨e3, he⟩ : ∃ e, st e2 r2.1 = e := ⟨_, rfl⟩
      simp only [he] at ho hs
      have HO3 := Lib.hid ho
      have HC3 := Lib.hid (ty_trans HC2.out hc)
      have HQ3 := Lib.hid (HQ2.out.step hr2 he hs hv2)
      have hsz3 := hc.size
      have hgl3 := ho.lt
      clear ho hs hc he hr2 hv2 HP2 d7
      have CW3 := HVC.out w3 HC3.out
      have hmb3 : mb < w3.heap.size := blk_lt CW3
      have d8 : w3.cell? ⟨mb, 8, none⟩ = some (.int .i64 m.rt) := by rw [cell_of_row _ _ _ _ _ _ CW3]; rfl
      have HP3 := Lib.hid (number_y w3 g B s3 e3 m.rt 1099511627777 HO3.out (by omega) (by omega) (by omega))
      obtain ⟨r3, hr3⟩ : ∃ r, numE s3 m.rt 1099511627777 = r := ⟨_, rfl⟩
      rw [hr3] at HP3
      have hv3 : r3.2.2 = m.rt := by rw [← hr3]; exact numE_v _ _ _
      clear CW3
      go_wp2_with (fail)
      refine HP3.out.mono ?_
      rintro en w4 ⟨rfl, s4, ho, hs, hlen4, hc⟩
      obtain ⟨e4, he⟩ : ∃ e, st e3 r3.1 = e := ⟨_, rfl⟩
      simp only [he] at ho hs
      have HO4 := Lib.hid ho
      have HC4 := Lib.hid (ty_trans HC3.out hc)
      have HQ4 := Lib.hid (HQ3.out.step hr3 he hs hv3)
      have hsz4 := hc.size
      have hgl4 := ho.lt
      clear ho hs hc he hr3 hv3 HP3 d8
      go_wp2_with (fail)
      go_end0
      exact ⟨rfl, s4, by rw [HQ4.out.stop.1]; exact HO4.out, HQ4.out.stop.2, by omega, ty_trans HCB.out HC4.out⟩
    · have dm : w0.cell? ⟨mb, 13, none⟩ = some (.bool false) := by rw [dm, hmo]
      have kb1 : (m.kind == 1) = false := by rw [hk]; rfl
      have kb2 : (m.kind == 2) = false := by rw [hk]; rfl
      have kb3 : (m.kind == 3) = false := by rw [hk]; rfl
      have kb4 : (m.kind == 4) = true := by rw [hk]; rfl
      have kb5 : (m.kind == 5) = false := by rw [hk]; rfl
      have kb6 : (m.kind == 6) = false := by rw [hk]; rfl
      have kb7 : (m.kind == 7) = false := by rw [hk]; rfl
      have kb8 : (m.kind == 8) = false := by rw [hk]; rfl
      have HQ0 := Lib.hid (show Qo e0 (rest encC s0 m m) e0 _ from by rw [rest_4 (m0 := m) hk]; exact Qo.refl)
      clear hk
      go_enter Try.func18, Try.ntmps18
      have CW0 := HVC.out w0 HC0.out
      have hmb0 : mb < w0.heap.size := blk_lt CW0
      have d12 : w0.cell? ⟨mb, 12, none⟩ = some (.int .i64 m.err) := by rw [cell_of_row _ _ _ _ _ _ CW0]; rfl
      have HP0 := Lib.hid (number_y w0 g B s0 e0 m.err 255 HO0.out (by omega) (by omega) (by omega))
      obtain ⟨r0, hr0⟩ : ∃ r, numE s0 m.err 255 = r := ⟨_, rfl⟩
      rw [hr0] at HP0
      have hv0 : r0.2.2 = m.err := by rw [← hr0]; exact numE_v _ _ _
      clear CW0
      go_wp2_with (fail)
      refine HP0.out.mono ?_
      rintro en w1 ⟨rfl, s1, ho, hs, hlen1, hc⟩
      obtain ⟨e1, he⟩ : ∃ e, st e0 r0.1 = e := ⟨_, rfl⟩
      simp only [he] at ho hs
      have HO1 := Lib.hid ho
      have HC1 := Lib.hid (ty_trans HC0.out hc)
      have HQ1 := Lib.hid (HQ0.out.step hr0 he hs hv0)
      have hsz1 := hc.size
      have hgl1 := ho.lt
      clear ho hs hc he hr0 hv0 HP0 d12
      have CW1 := HVC.out w1 HC1.out
      have hmb1 : mb < w1.heap.size := blk_lt CW1
      have d14 : w1.cell? ⟨mb, 14, none⟩ = some (.slice pA m.pts.length pc) := by rw [cell_of_row _ _ _ _ _ _ CW1]; rfl
      have HP1 := Lib.hid (points_y w1 g B B0 m.pts.length pc s1 e1 pA m.pts HO1.out ((HOK.out.1.1.below (HBL.out w1 HC1.out) (Nat.le_refl _))) HOK.out.1.2.2 (by omega) h0g h0B (by omega))
      obtain ⟨r1, hr1⟩ : ∃ r, passList encC (0, 0, 0) (passPt encC) 512 s1 m.pts = r := ⟨_, rfl⟩
      rw [hr1] at HP1
      clear CW1
      go_wp2_with (fail)
      refine HP1.out.mono ?_
      rintro en w2 ⟨rfl, s2, ho, hs, hlen2, hc⟩
      obtain ⟨e2, he⟩ : ∃ e, st e1 r1.1 = e := ⟨_, rfl⟩
      simp only [he] at ho hs
      have HO2 := Lib.hid ho
      have HC2 := Lib.hid (ty_trans HC1.out hc)
      have HQ2 := Lib.hid (HQ1.out.step hr1 he hs rfl)
      have hsz2 := hc.size
      have hgl2 := ho.lt
      clear ho hs hc he hr1  HP1 d14
      go_wp2_with (fail)
      go_end0
      exact ⟨rfl, s2, by rw [HQ2.out.stop.1]; exact HO2.out, HQ2.out.stop.2, by omega, ty_trans HCB.out HC2.out⟩
    · have dm : w0.cell? ⟨mb, 13, none⟩ = some (.bool false) := by rw [dm, hmo]
      have kb1 : (m.kind == 1) = false := by rw [hk]; rfl
      have kb2 : (m.kind == 2) = false := by rw [hk]; rfl
      have kb3 : (m.kind == 3) = false := by rw [hk]; rfl
      have kb4 : (m.kind == 4) = false := by rw [hk]; rfl
      have kb5 : (m.kind == 5) = true := by rw [hk]; rfl
      have kb6 : (m.kind == 6) = false := by rw [hk]; rfl
      have kb7 : (m.kind == 7) = false := by rw [hk]; rfl
      have kb8 : (m.kind == 8) = false := by rw [hk]; rfl
      have HQ0 := Lib.hid (show Qo e0 (rest encC s0 m m) e0 _ from by rw [rg_5 (m0 := m) hk]; exact Qo.refl)
      clear hk
      go_enter Try.func18, Try.ntmps18
      have CW0 := HVC.out w0 HC0.out
      have hmb0 : mb < w0.heap.size := blk_lt CW0
      have d3 : w0.cell? ⟨mb, 3, none⟩ = some (.int .i64 m.space) := by rw [cell_of_row _ _ _ _ _ _ CW0]; rfl
      have HP0 := Lib.hid (number_y w0 g B s0 e0 m.space 255 HO0.out (by omega) (by omega) (by omega))
      obtain ⟨r0, hr0⟩ : ∃ r, numE s0 m.space 255 = r := ⟨_, rfl⟩
      rw [hr0] at HP0
      have hv0 : r0.2.2 = m.space := by rw [← hr0]; exact numE_v _ _ _
      clear CW0
      go_wp2_with (fail)
      refine HP0.out.mono ?_
      rintro en w1 ⟨rfl, s1, ho, hs, hlen1, hc⟩
      obtain ⟨e1, he⟩ : ∃ e, st e0 r0.1 = e := ⟨_, rfl⟩
      simp only [he] at ho hs
      have HO1 := Lib.hid ho
      have HC1 := Lib.hid (ty_trans HC0.out hc)
      have HQ1 := Lib.hid (HQ0.out.step hr0 he hs hv0)
      have hsz1 := hc.size
      have hgl1 := ho.lt
      clear ho hs hc he hr0 hv0 HP0 d3
      have CW1 := HVC.out w1 HC1.out
      have hmb1 : mb < w1.heap.size := blk_lt CW1
      have d4 : w1.cell? ⟨mb, 4, none⟩ = some (.int .i64 m.shard) := by rw [cell_of_row _ _ _ _ _ _ CW1]; rfl
      have HP1 := Lib.hid (number_y w1 g B s1 e1 m.shard 255 HO1.out (by omega) (by omega) (by omega))
      obtain ⟨r1, hr1⟩ : ∃ r, numE s1 m.shard 255 = r := ⟨_, rfl⟩
      rw [hr1] at HP1
      have hv1 : r1.2.2 = m.shard := by rw [← hr1]; exact numE_v _ _ _
      clear CW1
      go_wp2_with (fail)
      refine HP1.out.mono ?_
      rintro en w2 ⟨rfl, s2, ho, hs, hlen2, hc⟩
      obtain ⟨e2, he⟩ : ∃ e, st e1 r1.1 = e := ⟨_, rfl⟩
      simp only [he] at ho hs
      have HO2 := Lib.hid ho
      have HC2 := Lib.hid (ty_trans HC1.out hc)
      have HQ2 := Lib.hid (HQ1.out.step hr1 he hs hv1)
      have hsz2 := hc.size
      have hgl2 := ho.lt
      clear ho hs hc he hr1 hv1 HP1 d4
      have CW2 := HVC.out w2 HC2.out
      have hmb2 : mb < w2.heap.size := blk_lt CW2
      have d7 : w2.cell? ⟨mb, 7, none⟩ = some (.int .i64 m.rf) := by rw [cell_of_row _ _ _ _ _ _ CW2]; rfl
      have HP2 := Lib.hid (number_y w2 g B s2 e2 m.rf 1099511627777 HO2.out (by omega) (by omega) (by omega))
      obtain ⟨r2, hr2⟩ : ∃ r, numE s2 m.rf 1099511627777 = r := ⟨_, rfl⟩
      rw [hr2] at HP2
      have hv2 : r2.2.2 = m.rf := by rw [← hr2]; exact numE_v _ _ _
      clear CW2
      go_wp2_with (fail)
      refine HP2.out.mono ?_
      rintro en w3 ⟨rfl, s3, ho, hs, hlen3, hc⟩
      obtain ⟨e3, he⟩ : ∃ e, st e2 r2.1 = e := ⟨_, rfl⟩
      simp only [he] at ho hs
      have HO3 := Lib.hid ho
      have HC3 := Lib.hid (ty_trans HC2.out hc)
      have HQ3 := Lib.hid (HQ2.out.step hr2 he hs hv2)
      have hsz3 := hc.size
      have hgl3 := ho.lt
      clear ho hs hc he hr2 hv2 HP2 d7
      have CW3 := HVC.out w3 HC3.out
      have hmb3 : mb < w3.heap.size := blk_lt CW3
      have d8 : w3.cell? ⟨mb, 8, none⟩ = some (.int .i64 m.rt) := by rw [cell_of_row _ _ _ _ _ _ CW3]; rfl
      have HP3 := Lib.hid (number_y w3 g B s3 e3 m.rt 1099511627777 HO3.out (by omega) (by omega) (by omega))
      obtain ⟨r3, hr3⟩ : ∃ r, numE s3 m.rt 1099511627777 = r := ⟨_, rfl⟩
      rw [hr3] at HP3
      have hv3 : r3.2.2 = m.rt := by rw [← hr3]; exact numE_v _ _ _
      clear CW3
      go_wp2_with (fail)
      refine HP3.out.mono ?_
      rintro en w4 ⟨rfl, s4, ho, hs, hlen4, hc⟩
      obtain ⟨e4, he⟩ : ∃ e, st e3 r3.1 = e := ⟨_, rfl⟩
      simp only [he] at ho hs
      have HO4 := Lib.hid ho
      have HC4 := Lib.hid (ty_trans HC3.out hc)
      have HQ4 := Lib.hid (HQ3.out.step hr3 he hs hv3)
      have hsz4 := hc.size
      have hgl4 := ho.lt
      clear ho hs hc he hr3 hv3 HP3 d8
      have CW4 := HVC.out w4 HC4.out
      have hmb4 : mb < w4.heap.size := blk_lt CW4
      have d6 : w4.cell? ⟨mb, 6, none⟩ = some (.int .i64 m.block) := by rw [cell_of_row _ _ _ _ _ _ CW4]; rfl
      have HP4 := Lib.hid (number_y w4 g B s4 e4 m.block 1099511627776 HO4.out (by omega) (by omega) (by omega))
      obtain ⟨r4, hr4⟩ : ∃ r, numE s4 m.block 1099511627776 = r := ⟨_, rfl⟩
      rw [hr4] at HP4
      have hv4 : r4.2.2 = m.block := by rw [← hr4]; exact numE_v _ _ _
      clear CW4
      go_wp2_with (fail)
      refine HP4.out.mono ?_
      rintro en w5 ⟨rfl, s5, ho, hs, hlen5, hc⟩
      obtain ⟨e5, he⟩ : ∃ e, st e4 r4.1 = e := ⟨_, rfl⟩
      simp only [he] at ho hs
      have HO5 := Lib.hid ho
      have HC5 := Lib.hid (ty_trans HC4.out hc)
      have HQ5 := Lib.hid (HQ4.out.step hr4 he hs hv4)
      have hsz5 := hc.size
      have hgl5 := ho.lt
      clear ho hs hc he hr4 hv4 HP4 d6
      have CW5 := HVC.out w5 HC5.out
      have hmb5 : mb < w5.heap.size := blk_lt CW5
      have d5 : w5.cell? ⟨mb, 5, none⟩ = some (.string (cl.tx m.id)) := by rw [cell_of_row _ _ _ _ _ _ CW5]; rfl
      have HP5 := Lib.hid (name_y w5 g B s5 e5 m.id HO5.out (by omega) (by omega) HID.out)
      obtain ⟨r5, hr5⟩ : ∃ r, txtE s5 m.id = r := ⟨_, rfl⟩
      rw [hr5] at HP5
      have hv5 : r5.2.2 = m.id := by rw [← hr5]; exact txtE_v _ _
      clear CW5
      go_wp2_with (fail)
      refine HP5.out.mono ?_
      rintro en w6 ⟨rfl, s6, ho, hs, hlen6, hc⟩
      obtain ⟨e6, he⟩ : ∃ e, st e5 r5.1 = e := ⟨_, rfl⟩
      simp only [he] at ho hs
      have HO6 := Lib.hid ho
      have HC6 := Lib.hid (ty_trans HC5.out hc)
      have HQ6 := Lib.hid (HQ5.out.step hr5 he hs hv5)
      have hsz6 := hc.size
      have hgl6 := ho.lt
      clear ho hs hc he hr5 hv5 HP5 d5
      go_wp2_with (fail)
      go_end0
      exact ⟨rfl, s6, by rw [HQ6.out.stop.1]; exact HO6.out, HQ6.out.stop.2, by omega, ty_trans HCB.out HC6.out⟩
    · have dm : w0.cell? ⟨mb, 13, none⟩ = some (.bool false) := by rw [dm, hmo]
      have kb1 : (m.kind == 1) = false := by rw [hk]; rfl
      have kb2 : (m.kind == 2) = false := by rw [hk]; rfl
      have kb3 : (m.kind == 3) = false := by rw [hk]; rfl
      have kb4 : (m.kind == 4) = false := by rw [hk]; rfl
      have kb5 : (m.kind == 5) = false := by rw [hk]; rfl
      have kb6 : (m.kind == 6) = true := by rw [hk]; rfl
      have kb7 : (m.kind == 7) = false := by rw [hk]; rfl
      have kb8 : (m.kind == 8) = false := by rw [hk]; rfl
      have HQ0 := Lib.hid (show Qo e0 (rest encC s0 m m) e0 _ from by rw [rest_6 (m0 := m) hk]; exact Qo.refl)
      clear hk
      go_enter Try.func18, Try.ntmps18
      have CW0 := HVC.out w0 HC0.out
      have hmb0 : mb < w0.heap.size := blk_lt CW0
      have d12 : w0.cell? ⟨mb, 12, none⟩ = some (.int .i64 m.err) := by rw [cell_of_row _ _ _ _ _ _ CW0]; rfl
      have HP0 := Lib.hid (number_y w0 g B s0 e0 m.err 255 HO0.out (by omega) (by omega) (by omega))
      obtain ⟨r0, hr0⟩ : ∃ r, numE s0 m.err 255 = r := ⟨_, rfl⟩
      rw [hr0] at HP0
      have hv0 : r0.2.2 = m.err := by rw [← hr0]; exact numE_v _ _ _
      clear CW0
      go_wp2_with (fail)
      refine HP0.out.mono ?_
      rintro en w1 ⟨rfl, s1, ho, hs, hlen1, hc⟩
      obtain ⟨e1, he⟩ : ∃ e, st e0 r0.1 = e := ⟨_, rfl⟩
      simp only [he] at ho hs
      have HO1 := Lib.hid ho
      have HC1 := Lib.hid (ty_trans HC0.out hc)
      have HQ1 := Lib.hid (HQ0.out.step hr0 he hs hv0)
      have hsz1 := hc.size
      have hgl1 := ho.lt
      clear ho hs hc he hr0 hv0 HP0 d12
      have CW1 := HVC.out w1 HC1.out
      have hmb1 : mb < w1.heap.size := blk_lt CW1
      have HP1 := Lib.hid (number_y w1 g B s1 e1 0 1 HO1.out (by omega) (by omega) (by omega))
      rw [num_f] at HP1
      obtain ⟨r1, hr1⟩ : ∃ r : R Bool, (0, s1 ++ [0], false) = r := ⟨_, rfl⟩
      have hpr1 : (((0 : Int), s1 ++ [0], (0 : Int)).1, ((0 : Int), s1 ++ [0], (0 : Int)).2.1) = (r1.1, r1.2.1) := by rw [← hr1]
      rw [hpr1] at HP1
      replace hr1 : encC.flg s1 m.more = r1 := by rw [hmo]; exact hr1
      clear CW1
      go_wp2_with (fail)
      refine HP1.out.mono ?_
      rintro en w2 ⟨rfl, s2, ho, hs, hlen2, hc⟩
      obtain ⟨e2, he⟩ : ∃ e, st e1 r1.1 = e := ⟨_, rfl⟩
      simp only [he] at ho hs
      have HO2 := Lib.hid ho
      have HC2 := Lib.hid (ty_trans HC1.out hc)
      have HQ2 := Lib.hid (HQ1.out.step hr1 he hs rfl)
      have hsz2 := hc.size
      have hgl2 := ho.lt
      clear ho hs hc he hr1  HP1 
      have CW2 := HVC.out w2 HC2.out
      have hmb2 : mb < w2.heap.size := blk_lt CW2
      have d15 : w2.cell? ⟨mb, 15, none⟩ = some (.slice mA m.mts.length mc) := by rw [cell_of_row _ _ _ _ _ _ CW2]; rfl
      have HP2 := Lib.hid (metas_y w2 g B B0 m.mts.length mc s2 e2 mA m.mts HO2.out ((HOK.out.2.1.below (HBL.out w2 HC2.out) (Nat.le_refl _))) HOK.out.2.2.2 (by omega) h0g h0B (by omega))
      obtain ⟨r2, hr2⟩ : ∃ r, passList encC ([], 0, 0, 0) (passMt encC) 8 s2 m.mts = r := ⟨_, rfl⟩
      rw [hr2] at HP2
      clear CW2
      go_wp2_with (fail)
      refine HP2.out.mono ?_
      rintro en w3 ⟨rfl, s3, ho, hs, hlen3, hc⟩
      obtain ⟨e3, he⟩ : ∃ e, st e2 r2.1 = e := ⟨_, rfl⟩
      simp only [he] at ho hs
      have HO3 := Lib.hid ho
      have HC3 := Lib.hid (ty_trans HC2.out hc)
      have HQ3 := Lib.hid (HQ2.out.step hr2 he hs rfl)
      have hsz3 := hc.size
      have hgl3 := ho.lt
      clear ho hs hc he hr2  HP2 d15
      go_wp2_with (fail)
      go_end0
      exact ⟨rfl, s3, by rw [HQ3.out.stop.1]; exact HO3.out, HQ3.out.stop.2, by omega, ty_trans HCB.out HC3.out⟩
    · have dm : w0.cell? ⟨mb, 13, none⟩ = some (.bool false) := by rw [dm, hmo]
      have kb1 : (m.kind == 1) = false := by rw [hk]; rfl
      have kb2 : (m.kind == 2) = false := by rw [hk]; rfl
      have kb3 : (m.kind == 3) = false := by rw [hk]; rfl
      have kb4 : (m.kind == 4) = false := by rw [hk]; rfl
      have kb5 : (m.kind == 5) = false := by rw [hk]; rfl
      have kb6 : (m.kind == 6) = false := by rw [hk]; rfl
      have kb7 : (m.kind == 7) = true := by rw [hk]; rfl
      have kb8 : (m.kind == 8) = false := by rw [hk]; rfl
      have HQ0 := Lib.hid (show Qo e0 (rest encC s0 m m) e0 _ from by rw [rest_7 (m0 := m) hk]; exact Qo.refl)
      clear hk
      go_enter Try.func18, Try.ntmps18
      have CW0 := HVC.out w0 HC0.out
      have hmb0 : mb < w0.heap.size := blk_lt CW0
      have d3 : w0.cell? ⟨mb, 3, none⟩ = some (.int .i64 m.space) := by rw [cell_of_row _ _ _ _ _ _ CW0]; rfl
      have HP0 := Lib.hid (number_y w0 g B s0 e0 m.space 255 HO0.out (by omega) (by omega) (by omega))
      obtain ⟨r0, hr0⟩ : ∃ r, numE s0 m.space 255 = r := ⟨_, rfl⟩
      rw [hr0] at HP0
      have hv0 : r0.2.2 = m.space := by rw [← hr0]; exact numE_v _ _ _
      clear CW0
      go_wp2_with (fail)
      refine HP0.out.mono ?_
      rintro en w1 ⟨rfl, s1, ho, hs, hlen1, hc⟩
      obtain ⟨e1, he⟩ : ∃ e, st e0 r0.1 = e := ⟨_, rfl⟩
      simp only [he] at ho hs
      have HO1 := Lib.hid ho
      have HC1 := Lib.hid (ty_trans HC0.out hc)
      have HQ1 := Lib.hid (HQ0.out.step hr0 he hs hv0)
      have hsz1 := hc.size
      have hgl1 := ho.lt
      clear ho hs hc he hr0 hv0 HP0 d3
      have CW1 := HVC.out w1 HC1.out
      have hmb1 : mb < w1.heap.size := blk_lt CW1
      have d4 : w1.cell? ⟨mb, 4, none⟩ = some (.int .i64 m.shard) := by rw [cell_of_row _ _ _ _ _ _ CW1]; rfl
      have HP1 := Lib.hid (number_y w1 g B s1 e1 m.shard 255 HO1.out (by omega) (by omega) (by omega))
      obtain ⟨r1, hr1⟩ : ∃ r, numE s1 m.shard 255 = r := ⟨_, rfl⟩
      rw [hr1] at HP1
      have hv1 : r1.2.2 = m.shard := by rw [← hr1]; exact numE_v _ _ _
      clear CW1
      go_wp2_with (fail)
      refine HP1.out.mono ?_
      rintro en w2 ⟨rfl, s2, ho, hs, hlen2, hc⟩
      obtain ⟨e2, he⟩ : ∃ e, st e1 r1.1 = e := ⟨_, rfl⟩
      simp only [he] at ho hs
      have HO2 := Lib.hid ho
      have HC2 := Lib.hid (ty_trans HC1.out hc)
      have HQ2 := Lib.hid (HQ1.out.step hr1 he hs hv1)
      have hsz2 := hc.size
      have hgl2 := ho.lt
      clear ho hs hc he hr1 hv1 HP1 d4
      have CW2 := HVC.out w2 HC2.out
      have hmb2 : mb < w2.heap.size := blk_lt CW2
      have d6 : w2.cell? ⟨mb, 6, none⟩ = some (.int .i64 m.block) := by rw [cell_of_row _ _ _ _ _ _ CW2]; rfl
      have HP2 := Lib.hid (number_y w2 g B s2 e2 m.block 1099511627776 HO2.out (by omega) (by omega) (by omega))
      obtain ⟨r2, hr2⟩ : ∃ r, numE s2 m.block 1099511627776 = r := ⟨_, rfl⟩
      rw [hr2] at HP2
      have hv2 : r2.2.2 = m.block := by rw [← hr2]; exact numE_v _ _ _
      clear CW2
      go_wp2_with (fail)
      refine HP2.out.mono ?_
      rintro en w3 ⟨rfl, s3, ho, hs, hlen3, hc⟩
      obtain ⟨e3, he⟩ : ∃ e, st e2 r2.1 = e := ⟨_, rfl⟩
      simp only [he] at ho hs
      have HO3 := Lib.hid ho
      have HC3 := Lib.hid (ty_trans HC2.out hc)
      have HQ3 := Lib.hid (HQ2.out.step hr2 he hs hv2)
      have hsz3 := hc.size
      have hgl3 := ho.lt
      clear ho hs hc he hr2 hv2 HP2 d6
      have CW3 := HVC.out w3 HC3.out
      have hmb3 : mb < w3.heap.size := blk_lt CW3
      have d5 : w3.cell? ⟨mb, 5, none⟩ = some (.string (cl.tx m.id)) := by rw [cell_of_row _ _ _ _ _ _ CW3]; rfl
      have HP3 := Lib.hid (name_y w3 g B s3 e3 m.id HO3.out (by omega) (by omega) HID.out)
      obtain ⟨r3, hr3⟩ : ∃ r, txtE s3 m.id = r := ⟨_, rfl⟩
      rw [hr3] at HP3
      have hv3 : r3.2.2 = m.id := by rw [← hr3]; exact txtE_v _ _
      clear CW3
      go_wp2_with (fail)
      refine HP3.out.mono ?_
      rintro en w4 ⟨rfl, s4, ho, hs, hlen4, hc⟩
      obtain ⟨e4, he⟩ : ∃ e, st e3 r3.1 = e := ⟨_, rfl⟩
      simp only [he] at ho hs
      have HO4 := Lib.hid ho
      have HC4 := Lib.hid (ty_trans HC3.out hc)
      have HQ4 := Lib.hid (HQ3.out.step hr3 he hs hv3)
      have hsz4 := hc.size
      have hgl4 := ho.lt
      clear ho hs hc he hr3 hv3 HP3 d5
      go_wp2_with (fail)
      go_end0
      exact ⟨rfl, s4, by rw [HQ4.out.stop.1]; exact HO4.out, HQ4.out.stop.2, by omega, ty_trans HCB.out HC4.out⟩
    · have dm : w0.cell? ⟨mb, 13, none⟩ = some (.bool false) := by rw [dm, hmo]
      have kb1 : (m.kind == 1) = false := by rw [hk]; rfl
      have kb2 : (m.kind == 2) = false := by rw [hk]; rfl
      have kb3 : (m.kind == 3) = false := by rw [hk]; rfl
      have kb4 : (m.kind == 4) = false := by rw [hk]; rfl
      have kb5 : (m.kind == 5) = false := by rw [hk]; rfl
      have kb6 : (m.kind == 6) = false := by rw [hk]; rfl
      have kb7 : (m.kind == 7) = false := by rw [hk]; rfl
      have kb8 : (m.kind == 8) = true := by rw [hk]; rfl
      have HQ0 := Lib.hid (show Qo e0 (rest encC s0 m m) e0 _ from by rw [rest_8 (m0 := m) hk]; exact Qo.refl)
      clear hk
      go_enter Try.func18, Try.ntmps18
      have CW0 := HVC.out w0 HC0.out
      have hmb0 : mb < w0.heap.size := blk_lt CW0
      have d12 : w0.cell? ⟨mb, 12, none⟩ = some (.int .i64 m.err) := by rw [cell_of_row _ _ _ _ _ _ CW0]; rfl
      have HP0 := Lib.hid (number_y w0 g B s0 e0 m.err 255 HO0.out (by omega) (by omega) (by omega))
      obtain ⟨r0, hr0⟩ : ∃ r, numE s0 m.err 255 = r := ⟨_, rfl⟩
      rw [hr0] at HP0
      have hv0 : r0.2.2 = m.err := by rw [← hr0]; exact numE_v _ _ _
      clear CW0
      go_wp2_with (fail)
      refine HP0.out.mono ?_
      rintro en w1 ⟨rfl, s1, ho, hs, hlen1, hc⟩
      obtain ⟨e1, he⟩ : ∃ e, st e0 r0.1 = e := ⟨_, rfl⟩
      simp only [he] at ho hs
      have HO1 := Lib.hid ho
      have HC1 := Lib.hid (ty_trans HC0.out hc)
      have HQ1 := Lib.hid (HQ0.out.step hr0 he hs hv0)
      have hsz1 := hc.size
      have hgl1 := ho.lt
      clear ho hs hc he hr0 hv0 HP0 d12
      have CW1 := HVC.out w1 HC1.out
      have hmb1 : mb < w1.heap.size := blk_lt CW1
      have d14 : w1.cell? ⟨mb, 14, none⟩ = some (.slice pA m.pts.length pc) := by rw [cell_of_row _ _ _ _ _ _ CW1]; rfl
      have HP1 := Lib.hid (points_y w1 g B B0 m.pts.length pc s1 e1 pA m.pts HO1.out ((HOK.out.1.1.below (HBL.out w1 HC1.out) (Nat.le_refl _))) HOK.out.1.2.2 (by omega) h0g h0B (by omega))
      obtain ⟨r1, hr1⟩ : ∃ r, passList encC (0, 0, 0) (passPt encC) 512 s1 m.pts = r := ⟨_, rfl⟩
      rw [hr1] at HP1
      clear CW1
      go_wp2_with (fail)
      refine HP1.out.mono ?_
      rintro en w2 ⟨rfl, s2, ho, hs, hlen2, hc⟩
      obtain ⟨e2, he⟩ : ∃ e, st e1 r1.1 = e := ⟨_, rfl⟩
      simp only [he] at ho hs
      have HO2 := Lib.hid ho
      have HC2 := Lib.hid (ty_trans HC1.out hc)
      have HQ2 := Lib.hid (HQ1.out.step hr1 he hs rfl)
      have hsz2 := hc.size
      have hgl2 := ho.lt
      clear ho hs hc he hr1  HP1 d14
      go_wp2_with (fail)
      go_end0
      exact ⟨rfl, s2, by rw [HQ2.out.stop.1]; exact HO2.out, HQ2.out.stop.2, by omega, ty_trans HCB.out HC2.out⟩
  | true =>
    rcases hkk with hk | hk | hk | hk | hk | hk | hk | hk
    · have dm : w0.cell? ⟨mb, 13, none⟩ = some (.bool true) := by rw [dm, hmo]
      have kb1 : (m.kind == 1) = true := by rw [hk]; rfl
      have kb2 : (m.kind == 2) = false := by rw [hk]; rfl
      have kb3 : (m.kind == 3) = false := by rw [hk]; rfl
      have kb4 : (m.kind == 4) = false := by rw [hk]; rfl
      have kb5 : (m.kind == 5) = false := by rw [hk]; rfl
      have kb6 : (m.kind == 6) = false := by rw [hk]; rfl
      have kb7 : (m.kind == 7) = false := by rw [hk]; rfl
      have kb8 : (m.kind == 8) = false := by rw [hk]; rfl
      have HQ0 := Lib.hid (show Qo e0 (rest encC s0 m m) e0 _ from by rw [rest_1 (m0 := m) hk]; exact Qo.refl)
      clear hk
      go_enter Try.func18, Try.ntmps18
      have CW0 := HVC.out w0 HC0.out
      have hmb0 : mb < w0.heap.size := blk_lt CW0
      have d3 : w0.cell? ⟨mb, 3, none⟩ = some (.int .i64 m.space) := by rw [cell_of_row _ _ _ _ _ _ CW0]; rfl
      have HP0 := Lib.hid (number_y w0 g B s0 e0 m.space 255 HO0.out (by omega) (by omega) (by omega))
      obtain ⟨r0, hr0⟩ : ∃ r, numE s0 m.space 255 = r := ⟨_, rfl⟩
      rw [hr0] at HP0
      have hv0 : r0.2.2 = m.space := by rw [← hr0]; exact numE_v _ _ _
      clear CW0
      go_wp2_with (fail)
      refine HP0.out.mono ?_
      rintro en w1 ⟨rfl, s1, ho, hs, hlen1, hc⟩
      obtain ⟨e1, he⟩ : ∃ e, st e0 r0.1 = e := ⟨_, rfl⟩
      simp only [he] at ho hs
      have HO1 := Lib.hid ho
      have HC1 := Lib.hid (ty_trans HC0.out hc)
      have HQ1 := Lib.hid (HQ0.out.step hr0 he hs hv0)
      have hsz1 := hc.size
      have hgl1 := ho.lt
      clear ho hs hc he hr0 hv0 HP0 d3
      have CW1 := HVC.out w1 HC1.out
      have hmb1 : mb < w1.heap.size := blk_lt CW1
      have d5 : w1.cell? ⟨mb, 5, none⟩ = some (.string (cl.tx m.id)) := by rw [cell_of_row _ _ _ _ _ _ CW1]; rfl
      have HP1 := Lib.hid (name_y w1 g B s1 e1 m.id HO1.out (by omega) (by omega) HID.out)
      obtain ⟨r1, hr1⟩ : ∃ r, txtE s1 m.id = r := ⟨_, rfl⟩
      rw [hr1] at HP1
      have hv1 : r1.2.2 = m.id := by rw [← hr1]; exact txtE_v _ _
      clear CW1
      go_wp2_with (fail)
      refine HP1.out.mono ?_
      rintro en w2 ⟨rfl, s2, ho, hs, hlen2, hc⟩
      obtain ⟨e2, he⟩ : ∃ e, st e1 r1.1 = e := ⟨_, rfl⟩
      simp only [he] at ho hs
      have HO2 := Lib.hid ho
      have HC2 := Lib.hid (ty_trans HC1.out hc)
      have HQ2 := Lib.hid (HQ1.out.step hr1 he hs hv1)
      have hsz2 := hc.size
      have hgl2 := ho.lt
      clear ho hs hc he hr1 hv1 HP1 d5
      have CW2 := HVC.out w2 HC2.out
      have hmb2 : mb < w2.heap.size := blk_lt CW2
      have d9 : w2.cell? ⟨mb, 9, none⟩ = some (.int .i64 m.p.1) := by rw [cell_of_row _ _ _ _ _ _ CW2]; rfl
      have d10 : w2.cell? ⟨mb, 10, none⟩ = some (.int .u64 m.p.2.1) := by rw [cell_of_row _ _ _ _ _ _ CW2]; rfl
      have d11 : w2.cell? ⟨mb, 11, none⟩ = some (.int .u64 m.p.2.2) := by rw [cell_of_row _ _ _ _ _ _ CW2]; rfl
      have HP2 := Lib.hid (point_y w2 g B s2 e2 m.p HO2.out (by omega) (by omega) HPT.out)
      obtain ⟨r2, hr2⟩ : ∃ r, passPt encC s2 m.p = r := ⟨_, rfl⟩
      rw [hr2] at HP2
      clear CW2
      go_wp2_with (fail)
      refine HP2.out.mono ?_
      rintro en w3 ⟨rfl, s3, ho, hs, hlen3, hc⟩
      obtain ⟨e3, he⟩ : ∃ e, st e2 r2.1 = e := ⟨_, rfl⟩
      simp only [he] at ho hs
      have HO3 := Lib.hid ho
      have HC3 := Lib.hid (ty_trans HC2.out hc)
      have HQ3 := Lib.hid (HQ2.out.step hr2 he hs rfl)
      have hsz3 := hc.size
      have hgl3 := ho.lt
      clear ho hs hc he hr2  HP2 d9 d10 d11
      go_wp2_with (fail)
      go_end0
      exact ⟨rfl, s3, by rw [HQ3.out.stop.1]; exact HO3.out, HQ3.out.stop.2, by omega, ty_trans HCB.out HC3.out⟩
    · have dm : w0.cell? ⟨mb, 13, none⟩ = some (.bool true) := by rw [dm, hmo]
      have kb1 : (m.kind == 1) = false := by rw [hk]; rfl
      have kb2 : (m.kind == 2) = true := by rw [hk]; rfl
      have kb3 : (m.kind == 3) = false := by rw [hk]; rfl
      have kb4 : (m.kind == 4) = false := by rw [hk]; rfl
      have kb5 : (m.kind == 5) = false := by rw [hk]; rfl
      have kb6 : (m.kind == 6) = false := by rw [hk]; rfl
      have kb7 : (m.kind == 7) = false := by rw [hk]; rfl
      have kb8 : (m.kind == 8) = false := by rw [hk]; rfl
      have HQ0 := Lib.hid (show Qo e0 (rest encC s0 m m) e0 (bnd (encC.num s0 m.err 255) m fun s a => (0, s, ({ m with err := a } : Msg))) from by rw [← rest_0 (m0 := m) (by omega)]; exact Qo.refl)
      clear hk
      go_enter Try.func18, Try.ntmps18
      have CW0 := HVC.out w0 HC0.out
      have hmb0 : mb < w0.heap.size := blk_lt CW0
      have d12 : w0.cell? ⟨mb, 12, none⟩ = some (.int .i64 m.err) := by rw [cell_of_row _ _ _ _ _ _ CW0]; rfl
      have HP0 := Lib.hid (number_y w0 g B s0 e0 m.err 255 HO0.out (by omega) (by omega) (by omega))
      obtain ⟨r0, hr0⟩ : ∃ r, numE s0 m.err 255 = r := ⟨_, rfl⟩
      rw [hr0] at HP0
      have hv0 : r0.2.2 = m.err := by rw [← hr0]; exact numE_v _ _ _
      clear CW0
      go_wp2_with (fail)
      refine HP0.out.mono ?_
      rintro en w1 ⟨rfl, s1, ho, hs, hlen1, hc⟩
      obtain ⟨e1, he⟩ : ∃ e, st e0 r0.1 = e := ⟨_, rfl⟩
      simp only [he] at ho hs
      have HO1 := Lib.hid ho
      have HC1 := Lib.hid (ty_trans HC0.out hc)
      have HQ1 := Lib.hid (HQ0.out.step hr0 he hs hv0)
      have hsz1 := hc.size
      have hgl1 := ho.lt
      clear ho hs hc he hr0 hv0 HP0 d12
      go_wp2_with (fail)
      go_end0
      exact ⟨rfl, s1, by rw [HQ1.out.stop.1]; exact HO1.out, HQ1.out.stop.2, by omega, ty_trans HCB.out HC1.out⟩
    · have dm : w0.cell? ⟨mb, 13, none⟩ = some (.bool true) := by rw [dm, hmo]
      have kb1 : (m.kind == 1) = false := by rw [hk]; rfl
      have kb2 : (m.kind == 2) = false := by rw [hk]; rfl
      have kb3 : (m.kind == 3) = true := by rw [hk]; rfl
      have kb4 : (m.kind == 4) = false := by rw [hk]; rfl
      have kb5 : (m.kind == 5) = false := by rw [hk]; rfl
      have kb6 : (m.kind == 6) = false := by rw [hk]; rfl
      have kb7 : (m.kind == 7) = false := by rw [hk]; rfl
      have kb8 : (m.kind == 8) = false := by rw [hk]; rfl
      have HQ0 := Lib.hid (show Qo e0 (rest encC s0 m m) e0 _ from by rw [rg_3 (m0 := m) hk]; exact Qo.refl)
      clear hk
      go_enter Try.func18, Try.ntmps18
      have CW0 := HVC.out w0 HC0.out
      have hmb0 : mb < w0.heap.size := blk_lt CW0
      have d3 : w0.cell? ⟨mb, 3, none⟩ = some (.int .i64 m.space) := by rw [cell_of_row _ _ _ _ _ _ CW0]; rfl
      have HP0 := Lib.hid (number_y w0 g B s0 e0 m.space 255 HO0.out (by omega) (by omega) (by omega))
      obtain ⟨r0, hr0⟩ : ∃ r, numE s0 m.space 255 = r := ⟨_, rfl⟩
      rw [hr0] at HP0
      have hv0 : r0.2.2 = m.space := by rw [← hr0]; exact numE_v _ _ _
      clear CW0
      go_wp2_with (fail)
      refine HP0.out.mono ?_
      rintro en w1 ⟨rfl, s1, ho, hs, hlen1, hc⟩
      obtain ⟨e1, he⟩ : ∃ e, st e0 r0.1 = e := ⟨_, rfl⟩
      simp only [he] at ho hs
      have HO1 := Lib.hid ho
      have HC1 := Lib.hid (ty_trans HC0.out hc)
      have HQ1 := Lib.hid (HQ0.out.step hr0 he hs hv0)
      have hsz1 := hc.size
      have hgl1 := ho.lt
      clear ho hs hc he hr0 hv0 HP0 d3
      have CW1 := HVC.out w1 HC1.out
      have hmb1 : mb < w1.heap.size := blk_lt CW1
      have d5 : w1.cell? ⟨mb, 5, none⟩ = some (.string (cl.tx m.id)) := by rw [cell_of_row _ _ _ _ _ _ CW1]; rfl
      have HP1 := Lib.hid (name_y w1 g B s1 e1 m.id HO1.out (by omega) (by omega) HID.out)
      obtain ⟨r1, hr1⟩ : ∃ r, txtE s1 m.id = r := ⟨_, rfl⟩
      rw [hr1] at HP1
      have hv1 : r1.2.2 = m.id := by rw [← hr1]; exact txtE_v _ _
      clear CW1
      go_wp2_with (fail)
      refine HP1.out.mono ?_
      rintro en w2 ⟨rfl, s2, ho, hs, hlen2, hc⟩
      obtain ⟨e2, he⟩ : ∃ e, st e1 r1.1 = e := ⟨_, rfl⟩
      simp only [he] at ho hs
      have HO2 := Lib.hid ho
      have HC2 := Lib.hid (ty_trans HC1.out hc)
      have HQ2 := Lib.hid (HQ1.out.step hr1 he hs hv1)
      have hsz2 := hc.size
      have hgl2 := ho.lt
      clear ho hs hc he hr1 hv1 HP1 d5
      have CW2 := HVC.out w2 HC2.out
      have hmb2 : mb < w2.heap.size := blk_lt CW2
      have d7 : w2.cell? ⟨mb, 7, none⟩ = some (.int .i64 m.rf) := by rw [cell_of_row _ _ _ _ _ _ CW2]; rfl
      have HP2 := Lib.hid (number_y w2 g B s2 e2 m.rf 1099511627777 HO2.out (by omega) (by omega) (by omega))
      obtain ⟨r2, hr2⟩ : ∃ r, numE s2 m.rf 1099511627777 = r := ⟨_, rfl⟩
      rw [hr2] at HP2
      have hv2 : r2.2.2 = m.rf := by rw [← hr2]; exact numE_v _ _ _
      clear CW2
      go_wp2_with (fail)
      refine HP2.out.mono ?_
      rintro en w3 ⟨rfl, s3, ho, hs, hlen3, hc⟩
      obtain ⟨e3, he⟩ : ∃ e, st e2 r2.1 = e := ⟨_, rfl⟩
      simp only [he] at ho hs
      have HO3 := Lib.hid ho
      have HC3 := Lib.hid (ty_trans HC2.out hc)
      have HQ3 := Lib.hid (HQ2.out.step hr2 he hs hv2)
      have hsz3 := hc.size
      have hgl3 := ho.lt
      clear ho hs hc he hr2 hv2 HP2 d7
      have CW3 := HVC.out w3 HC3.out
      have hmb3 : mb < w3.heap.size := blk_lt CW3
      have d8 : w3.cell? ⟨mb, 8, none⟩ = some (.int .i64 m.rt) := by rw [cell_of_row _ _ _ _ _ _ CW3]; rfl
      have HP3 := Lib.hid (number_y w3 g B s3 e3 m.rt 1099511627777 HO3.out (by omega) (by omega) (by omega))
      obtain ⟨r3, hr3⟩ : ∃ r, numE s3 m.rt 1099511627777 = r := ⟨_, rfl⟩
      rw [hr3] at HP3
      have hv3 : r3.2.2 = m.rt := by rw [← hr3]; exact numE_v _ _ _
      clear CW3
      go_wp2_with (fail)
      refine HP3.out.mono ?_
      rintro en w4 ⟨rfl, s4, ho, hs, hlen4, hc⟩
      obtain ⟨e4, he⟩ : ∃ e, st e3 r3.1 = e := ⟨_, rfl⟩
      simp only [he] at ho hs
      have HO4 := Lib.hid ho
      have HC4 := Lib.hid (ty_trans HC3.out hc)
      have HQ4 := Lib.hid (HQ3.out.step hr3 he hs hv3)
      have hsz4 := hc.size
      have hgl4 := ho.lt
      clear ho hs hc he hr3 hv3 HP3 d8
      go_wp2_with (fail)
      go_end0
      exact ⟨rfl, s4, by rw [HQ4.out.stop.1]; exact HO4.out, HQ4.out.stop.2, by omega, ty_trans HCB.out HC4.out⟩
    · have dm : w0.cell? ⟨mb, 13, none⟩ = some (.bool true) := by rw [dm, hmo]
      have kb1 : (m.kind == 1) = false := by rw [hk]; rfl
      have kb2 : (m.kind == 2) = false := by rw [hk]; rfl
      have kb3 : (m.kind == 3) = false := by rw [hk]; rfl
      have kb4 : (m.kind == 4) = true := by rw [hk]; rfl
      have kb5 : (m.kind == 5) = false := by rw [hk]; rfl
      have kb6 : (m.kind == 6) = false := by rw [hk]; rfl
      have kb7 : (m.kind == 7) = false := by rw [hk]; rfl
      have kb8 : (m.kind == 8) = false := by rw [hk]; rfl
      have HQ0 := Lib.hid (show Qo e0 (rest encC s0 m m) e0 _ from by rw [rest_4 (m0 := m) hk]; exact Qo.refl)
      clear hk
      go_enter Try.func18, Try.ntmps18
      have CW0 := HVC.out w0 HC0.out
      have hmb0 : mb < w0.heap.size := blk_lt CW0
      have d12 : w0.cell? ⟨mb, 12, none⟩ = some (.int .i64 m.err) := by rw [cell_of_row _ _ _ _ _ _ CW0]; rfl
      have HP0 := Lib.hid (number_y w0 g B s0 e0 m.err 255 HO0.out (by omega) (by omega) (by omega))
      obtain ⟨r0, hr0⟩ : ∃ r, numE s0 m.err 255 = r := ⟨_, rfl⟩
      rw [hr0] at HP0
      have hv0 : r0.2.2 = m.err := by rw [← hr0]; exact numE_v _ _ _
      clear CW0
      go_wp2_with (fail)
      refine HP0.out.mono ?_
      rintro en w1 ⟨rfl, s1, ho, hs, hlen1, hc⟩
      obtain ⟨e1, he⟩ : ∃ e, st e0 r0.1 = e := ⟨_, rfl⟩
      simp only [he] at ho hs
      have HO1 := Lib.hid ho
      have HC1 := Lib.hid (ty_trans HC0.out hc)
      have HQ1 := Lib.hid (HQ0.out.step hr0 he hs hv0)
      have hsz1 := hc.size
      have hgl1 := ho.lt
      clear ho hs hc he hr0 hv0 HP0 d12
      have CW1 := HVC.out w1 HC1.out
      have hmb1 : mb < w1.heap.size := blk_lt CW1
      have d14 : w1.cell? ⟨mb, 14, none⟩ = some (.slice pA m.pts.length pc) := by rw [cell_of_row _ _ _ _ _ _ CW1]; rfl
      have HP1 := Lib.hid (points_y w1 g B B0 m.pts.length pc s1 e1 pA m.pts HO1.out ((HOK.out.1.1.below (HBL.out w1 HC1.out) (Nat.le_refl _))) HOK.out.1.2.2 (by omega) h0g h0B (by omega))
      obtain ⟨r1, hr1⟩ : ∃ r, passList encC (0, 0, 0) (passPt encC) 512 s1 m.pts = r := ⟨_, rfl⟩
      rw [hr1] at HP1
      clear CW1
      go_wp2_with (fail)
      refine HP1.out.mono ?_
      rintro en w2 ⟨rfl, s2, ho, hs, hlen2, hc⟩
      obtain ⟨e2, he⟩ : ∃ e, st e1 r1.1 = e := ⟨_, rfl⟩
      simp only [he] at ho hs
      have HO2 := Lib.hid ho
      have HC2 := Lib.hid (ty_trans HC1.out hc)
      have HQ2 := Lib.hid (HQ1.out.step hr1 he hs rfl)
      have hsz2 := hc.size
      have hgl2 := ho.lt
      clear ho hs hc he hr1  HP1 d14
      go_wp2_with (fail)
      go_end0
      exact ⟨rfl, s2, by rw [HQ2.out.stop.1]; exact HO2.out, HQ2.out.stop.2, by omega, ty_trans HCB.out HC2.out⟩
    · have dm : w0.cell? ⟨mb, 13, none⟩ = some (.bool true) := by rw [dm, hmo]
      have kb1 : (m.kind == 1) = false := by rw [hk]; rfl
      have kb2 : (m.kind == 2) = false := by rw [hk]; rfl
      have kb3 : (m.kind == 3) = false := by rw [hk]; rfl
      have kb4 : (m.kind == 4) = false := by rw [hk]; rfl
      have kb5 : (m.kind == 5) = true := by rw [hk]; rfl
      have kb6 : (m.kind == 6) = false := by rw [hk]; rfl
      have kb7 : (m.kind == 7) = false := by rw [hk]; rfl
      have kb8 : (m.kind == 8) = false := by rw [hk]; rfl
      have HQ0 := Lib.hid (show Qo e0 (rest encC s0 m m) e0 _ from by rw [rg_5 (m0 := m) hk]; exact Qo.refl)
      clear hk
      go_enter Try.func18, Try.ntmps18
      have CW0 := HVC.out w0 HC0.out
      have hmb0 : mb < w0.heap.size := blk_lt CW0
      have d3 : w0.cell? ⟨mb, 3, none⟩ = some (.int .i64 m.space) := by rw [cell_of_row _ _ _ _ _ _ CW0]; rfl
      have HP0 := Lib.hid (number_y w0 g B s0 e0 m.space 255 HO0.out (by omega) (by omega) (by omega))
      obtain ⟨r0, hr0⟩ : ∃ r, numE s0 m.space 255 = r := ⟨_, rfl⟩
      rw [hr0] at HP0
      have hv0 : r0.2.2 = m.space := by rw [← hr0]; exact numE_v _ _ _
      clear CW0
      go_wp2_with (fail)
      refine HP0.out.mono ?_
      rintro en w1 ⟨rfl, s1, ho, hs, hlen1, hc⟩
      obtain ⟨e1, he⟩ : ∃ e, st e0 r0.1 = e := ⟨_, rfl⟩
      simp only [he] at ho hs
      have HO1 := Lib.hid ho
      have HC1 := Lib.hid (ty_trans HC0.out hc)
      have HQ1 := Lib.hid (HQ0.out.step hr0 he hs hv0)
      have hsz1 := hc.size
      have hgl1 := ho.lt
      clear ho hs hc he hr0 hv0 HP0 d3
      have CW1 := HVC.out w1 HC1.out
      have hmb1 : mb < w1.heap.size := blk_lt CW1
      have d4 : w1.cell? ⟨mb, 4, none⟩ = some (.int .i64 m.shard) := by rw [cell_of_row _ _ _ _ _ _ CW1]; rfl
      have HP1 := Lib.hid (number_y w1 g B s1 e1 m.shard 255 HO1.out (by omega) (by omega) (by omega))
      obtain ⟨r1, hr1⟩ : ∃ r, numE s1 m.shard 255 = r := ⟨_, rfl⟩
      rw [hr1] at HP1
      have hv1 : r1.2.2 = m.shard := by rw [← hr1]; exact numE_v _ _ _
      clear CW1
      go_wp2_with (fail)
      refine HP1.out.mono ?_
      rintro en w2 ⟨rfl, s2, ho, hs, hlen2, hc⟩
      obtain ⟨e2, he⟩ : ∃ e, st e1 r1.1 = e := ⟨_, rfl⟩
      simp only [he] at ho hs
      have HO2 := Lib.hid ho
      have HC2 := Lib.hid (ty_trans HC1.out hc)
      have HQ2 := Lib.hid (HQ1.out.step hr1 he hs hv1)
      have hsz2 := hc.size
      have hgl2 := ho.lt
      clear ho hs hc he hr1 hv1 HP1 d4
      have CW2 := HVC.out w2 HC2.out
      have hmb2 : mb < w2.heap.size := blk_lt CW2
      have d7 : w2.cell? ⟨mb, 7, none⟩ = some (.int .i64 m.rf) := by rw [cell_of_row _ _ _ _ _ _ CW2]; rfl
      have HP2 := Lib.hid (number_y w2 g B s2 e2 m.rf 1099511627777 HO2.out (by omega) (by omega) (by omega))
      obtain ⟨r2, hr2⟩ : ∃ r, numE s2 m.rf 1099511627777 = r := ⟨_, rfl⟩
      rw [hr2] at HP2
      have hv2 : r2.2.2 = m.rf := by rw [← hr2]; exact numE_v _ _ _
      clear CW2
      go_wp2_with (fail)
      refine HP2.out.mono ?_
      rintro en w3 ⟨rfl, s3, ho, hs, hlen3, hc⟩
      obtain ⟨e3, he⟩ : ∃ e, st e2 r2.1 = e := ⟨_, rfl⟩
      simp only [he] at ho hs
      have HO3 := Lib.hid ho
      have HC3 := Lib.hid (ty_trans HC2.out hc)
      have HQ3 := Lib.hid (HQ2.out.step hr2 he hs hv2)
      have hsz3 := hc.size
      have hgl3 := ho.lt
      clear ho hs hc he hr2 hv2 HP2 d7
      have CW3 := HVC.out w3 HC3.out
      have hmb3 : mb < w3.heap.size := blk_lt CW3
      have d8 : w3.cell? ⟨mb, 8, none⟩ = some (.int .i64 m.rt) := by rw [cell_of_row _ _ _ _ _ _ CW3]; rfl
      have HP3 := Lib.hid (number_y w3 g B s3 e3 m.rt 1099511627777 HO3.out (by omega) (by omega) (by omega))
      obtain ⟨r3, hr3⟩ : ∃ r, numE s3 m.rt 1099511627777 = r := ⟨_, rfl⟩
      rw [hr3] at HP3
      have hv3 : r3.2.2 = m.rt := by rw [← hr3]; exact numE_v _ _ _
      clear CW3
      go_wp2_with (fail)
      refine HP3.out.mono ?_
      rintro en w4 ⟨rfl, s4, ho, hs, hlen4, hc⟩
      obtain ⟨e4, he⟩ : ∃ e, st e3 r3.1 = e := ⟨_, rfl⟩
      simp only [he] at ho hs
      have HO4 := Lib.hid ho
      have HC4 := Lib.hid (ty_trans HC3.out hc)
      have HQ4 := Lib.hid (HQ3.out.step hr3 he hs hv3)
      have hsz4 := hc.size
      have hgl4 := ho.lt
      clear ho hs hc he hr3 hv3 HP3 d8
      have CW4 := HVC.out w4 HC4.out
      have hmb4 : mb < w4.heap.size := blk_lt CW4
      have d6 : w4.cell? ⟨mb, 6, none⟩ = some (.int .i64 m.block) := by rw [cell_of_row _ _ _ _ _ _ CW4]; rfl
      have HP4 := Lib.hid (number_y w4 g B s4 e4 m.block 1099511627776 HO4.out (by omega) (by omega) (by omega))
      obtain ⟨r4, hr4⟩ : ∃ r, numE s4 m.block 1099511627776 = r := ⟨_, rfl⟩
      rw [hr4] at HP4
      have hv4 : r4.2.2 = m.block := by rw [← hr4]; exact numE_v _ _ _
      clear CW4
      go_wp2_with (fail)
      refine HP4.out.mono ?_
      rintro en w5 ⟨rfl, s5, ho, hs, hlen5, hc⟩
      obtain ⟨e5, he⟩ : ∃ e, st e4 r4.1 = e := ⟨_, rfl⟩
      simp only [he] at ho hs
      have HO5 := Lib.hid ho
      have HC5 := Lib.hid (ty_trans HC4.out hc)
      have HQ5 := Lib.hid (HQ4.out.step hr4 he hs hv4)
      have hsz5 := hc.size
      have hgl5 := ho.lt
      clear ho hs hc he hr4 hv4 HP4 d6
      have CW5 := HVC.out w5 HC5.out
      have hmb5 : mb < w5.heap.size := blk_lt CW5
      have d5 : w5.cell? ⟨mb, 5, none⟩ = some (.string (cl.tx m.id)) := by rw [cell_of_row _ _ _ _ _ _ CW5]; rfl
      have HP5 := Lib.hid (name_y w5 g B s5 e5 m.id HO5.out (by omega) (by omega) HID.out)
      obtain ⟨r5, hr5⟩ : ∃ r, txtE s5 m.id = r := ⟨_, rfl⟩
      rw [hr5] at HP5
      have hv5 : r5.2.2 = m.id := by rw [← hr5]; exact txtE_v _ _
      clear CW5
      go_wp2_with (fail)
      refine HP5.out.mono ?_
      rintro en w6 ⟨rfl, s6, ho, hs, hlen6, hc⟩
      obtain ⟨e6, he⟩ : ∃ e, st e5 r5.1 = e := ⟨_, rfl⟩
      simp only [he] at ho hs
      have HO6 := Lib.hid ho
      have HC6 := Lib.hid (ty_trans HC5.out hc)
      have HQ6 := Lib.hid (HQ5.out.step hr5 he hs hv5)
      have hsz6 := hc.size
      have hgl6 := ho.lt
      clear ho hs hc he hr5 hv5 HP5 d5
      go_wp2_with (fail)
      go_end0
      exact ⟨rfl, s6, by rw [HQ6.out.stop.1]; exact HO6.out, HQ6.out.stop.2, by omega, ty_trans HCB.out HC6.out⟩
    · have dm : w0.cell? ⟨mb, 13, none⟩ = some (.bool true) := by rw [dm, hmo]
      have kb1 : (m.kind == 1) = false := by rw [hk]; rfl
      have kb2 : (m.kind == 2) = false := by rw [hk]; rfl
      have kb3 : (m.kind == 3) = false := by rw [hk]; rfl
      have kb4 : (m.kind == 4) = false := by rw [hk]; rfl
      have kb5 : (m.kind == 5) = false := by rw [hk]; rfl
      have kb6 : (m.kind == 6) = true := by rw [hk]; rfl
      have kb7 : (m.kind == 7) = false := by rw [hk]; rfl
      have kb8 : (m.kind == 8) = false := by rw [hk]; rfl
      have HQ0 := Lib.hid (show Qo e0 (rest encC s0 m m) e0 _ from by rw [rest_6 (m0 := m) hk]; exact Qo.refl)
      clear hk
      go_enter Try.func18, Try.ntmps18
      have CW0 := HVC.out w0 HC0.out
      have hmb0 : mb < w0.heap.size := blk_lt CW0
      have d12 : w0.cell? ⟨mb, 12, none⟩ = some (.int .i64 m.err) := by rw [cell_of_row _ _ _ _ _ _ CW0]; rfl
      have HP0 := Lib.hid (number_y w0 g B s0 e0 m.err 255 HO0.out (by omega) (by omega) (by omega))
      obtain ⟨r0, hr0⟩ : ∃ r, numE s0 m.err 255 = r := ⟨_, rfl⟩
      rw [hr0] at HP0
      have hv0 : r0.2.2 = m.err := by rw [← hr0]; exact numE_v _ _ _
      clear CW0
      go_wp2_with (fail)
      refine HP0.out.mono ?_
      rintro en w1 ⟨rfl, s1, ho, hs, hlen1, hc⟩
      obtain ⟨e1, he⟩ : ∃ e, st e0 r0.1 = e := ⟨_, rfl⟩
      simp only [he] at ho hs
      have HO1 := Lib.hid ho
      have HC1 := Lib.hid (ty_trans HC0.out hc)
      have HQ1 := Lib.hid (HQ0.out.step hr0 he hs hv0)
      have hsz1 := hc.size
      have hgl1 := ho.lt
      clear ho hs hc he hr0 hv0 HP0 d12
      have CW1 := HVC.out w1 HC1.out
      have hmb1 : mb < w1.heap.size := blk_lt CW1
      have HP1 := Lib.hid (number_y w1 g B s1 e1 1 1 HO1.out (by omega) (by omega) (by omega))
      rw [num_t] at HP1
      obtain ⟨r1, hr1⟩ : ∃ r : R Bool, (0, s1 ++ [1], true) = r := ⟨_, rfl⟩
      have hpr1 : (((0 : Int), s1 ++ [1], (1 : Int)).1, ((0 : Int), s1 ++ [1], (1 : Int)).2.1) = (r1.1, r1.2.1) := by rw [← hr1]
      rw [hpr1] at HP1
      replace hr1 : encC.flg s1 m.more = r1 := by rw [hmo]; exact hr1
      clear CW1
      go_wp2_with (fail)
      refine HP1.out.mono ?_
      rintro en w2 ⟨rfl, s2, ho, hs, hlen2, hc⟩
      obtain ⟨e2, he⟩ : ∃ e, st e1 r1.1 = e := ⟨_, rfl⟩
      simp only [he] at ho hs
      have HO2 := Lib.hid ho
      have HC2 := Lib.hid (ty_trans HC1.out hc)
      have HQ2 := Lib.hid (HQ1.out.step hr1 he hs rfl)
      have hsz2 := hc.size
      have hgl2 := ho.lt
      clear ho hs hc he hr1  HP1 
      have CW2 := HVC.out w2 HC2.out
      have hmb2 : mb < w2.heap.size := blk_lt CW2
      have d15 : w2.cell? ⟨mb, 15, none⟩ = some (.slice mA m.mts.length mc) := by rw [cell_of_row _ _ _ _ _ _ CW2]; rfl
      have HP2 := Lib.hid (metas_y w2 g B B0 m.mts.length mc s2 e2 mA m.mts HO2.out ((HOK.out.2.1.below (HBL.out w2 HC2.out) (Nat.le_refl _))) HOK.out.2.2.2 (by omega) h0g h0B (by omega))
      obtain ⟨r2, hr2⟩ : ∃ r, passList encC ([], 0, 0, 0) (passMt encC) 8 s2 m.mts = r := ⟨_, rfl⟩
      rw [hr2] at HP2
      clear CW2
      go_wp2_with (fail)
      refine HP2.out.mono ?_
      rintro en w3 ⟨rfl, s3, ho, hs, hlen3, hc⟩
      obtain ⟨e3, he⟩ : ∃ e, st e2 r2.1 = e := ⟨_, rfl⟩
      simp only [he] at ho hs
      have HO3 := Lib.hid ho
      have HC3 := Lib.hid (ty_trans HC2.out hc)
      have HQ3 := Lib.hid (HQ2.out.step hr2 he hs rfl)
      have hsz3 := hc.size
      have hgl3 := ho.lt
      clear ho hs hc he hr2  HP2 d15
      go_wp2_with (fail)
      go_end0
      exact ⟨rfl, s3, by rw [HQ3.out.stop.1]; exact HO3.out, HQ3.out.stop.2, by omega, ty_trans HCB.out HC3.out⟩
    · have dm : w0.cell? ⟨mb, 13, none⟩ = some (.bool true) := by rw [dm, hmo]
      have kb1 : (m.kind == 1) = false := by rw [hk]; rfl
      have kb2 : (m.kind == 2) = false := by rw [hk]; rfl
      have kb3 : (m.kind == 3) = false := by rw [hk]; rfl
      have kb4 : (m.kind == 4) = false := by rw [hk]; rfl
      have kb5 : (m.kind == 5) = false := by rw [hk]; rfl
      have kb6 : (m.kind == 6) = false := by rw [hk]; rfl
      have kb7 : (m.kind == 7) = true := by rw [hk]; rfl
      have kb8 : (m.kind == 8) = false := by rw [hk]; rfl
      have HQ0 := Lib.hid (show Qo e0 (rest encC s0 m m) e0 _ from by rw [rest_7 (m0 := m) hk]; exact Qo.refl)
      clear hk
      go_enter Try.func18, Try.ntmps18
      have CW0 := HVC.out w0 HC0.out
      have hmb0 : mb < w0.heap.size := blk_lt CW0
      have d3 : w0.cell? ⟨mb, 3, none⟩ = some (.int .i64 m.space) := by rw [cell_of_row _ _ _ _ _ _ CW0]; rfl
      have HP0 := Lib.hid (number_y w0 g B s0 e0 m.space 255 HO0.out (by omega) (by omega) (by omega))
      obtain ⟨r0, hr0⟩ : ∃ r, numE s0 m.space 255 = r := ⟨_, rfl⟩
      rw [hr0] at HP0
      have hv0 : r0.2.2 = m.space := by rw [← hr0]; exact numE_v _ _ _
      clear CW0
      go_wp2_with (fail)
      refine HP0.out.mono ?_
      rintro en w1 ⟨rfl, s1, ho, hs, hlen1, hc⟩
      obtain ⟨e1, he⟩ : ∃ e, st e0 r0.1 = e := ⟨_, rfl⟩
      simp only [he] at ho hs
      have HO1 := Lib.hid ho
      have HC1 := Lib.hid (ty_trans HC0.out hc)
      have HQ1 := Lib.hid (HQ0.out.step hr0 he hs hv0)
      have hsz1 := hc.size
      have hgl1 := ho.lt
      clear ho hs hc he hr0 hv0 HP0 d3
      have CW1 := HVC.out w1 HC1.out
      have hmb1 : mb < w1.heap.size := blk_lt CW1
      have d4 : w1.cell? ⟨mb, 4, none⟩ = some (.int .i64 m.shard) := by rw [cell_of_row _ _ _ _ _ _ CW1]; rfl
      have HP1 := Lib.hid (number_y w1 g B s1 e1 m.shard 255 HO1.out (by omega) (by omega) (by omega))
      obtain ⟨r1, hr1⟩ : ∃ r, numE s1 m.shard 255 = r := ⟨_, rfl⟩
      rw [hr1] at HP1
      have hv1 : r1.2.2 = m.shard := by rw [← hr1]; exact numE_v _ _ _
      clear CW1
      go_wp2_with (fail)
      refine HP1.out.mono ?_
      rintro en w2 ⟨rfl, s2, ho, hs, hlen2, hc⟩
      obtain ⟨e2, he⟩ : ∃ e, st e1 r1.1 = e := ⟨_, rfl⟩
      simp only [he] at ho hs
      have HO2 := Lib.hid ho
      have HC2 := Lib.hid (ty_trans HC1.out hc)
      have HQ2 := Lib.hid (HQ1.out.step hr1 he hs hv1)
      have hsz2 := hc.size
      have hgl2 := ho.lt
      clear ho hs hc he hr1 hv1 HP1 d4
      have CW2 := HVC.out w2 HC2.out
      have hmb2 : mb < w2.heap.size := blk_lt CW2
      have d6 : w2.cell? ⟨mb, 6, none⟩ = some (.int .i64 m.block) := by rw [cell_of_row _ _ _ _ _ _ CW2]; rfl
      have HP2 := Lib.hid (number_y w2 g B s2 e2 m.block 1099511627776 HO2.out (by omega) (by omega) (by omega))
      obtain ⟨r2, hr2⟩ : ∃ r, numE s2 m.block 1099511627776 = r := ⟨_, rfl⟩
      rw [hr2] at HP2
      have hv2 : r2.2.2 = m.block := by rw [← hr2]; exact numE_v _ _ _
      clear CW2
      go_wp2_with (fail)
      refine HP2.out.mono ?_
      rintro en w3 ⟨rfl, s3, ho, hs, hlen3, hc⟩
      obtain ⟨e3, he⟩ : ∃ e, st e2 r2.1 = e := ⟨_, rfl⟩
      simp only [he] at ho hs
      have HO3 := Lib.hid ho
      have HC3 := Lib.hid (ty_trans HC2.out hc)
      have HQ3 := Lib.hid (HQ2.out.step hr2 he hs hv2)
      have hsz3 := hc.size
      have hgl3 := ho.lt
      clear ho hs hc he hr2 hv2 HP2 d6
      have CW3 := HVC.out w3 HC3.out
      have hmb3 : mb < w3.heap.size := blk_lt CW3
      have d5 : w3.cell? ⟨mb, 5, none⟩ = some (.string (cl.tx m.id)) := by rw [cell_of_row _ _ _ _ _ _ CW3]; rfl
      have HP3 := Lib.hid (name_y w3 g B s3 e3 m.id HO3.out (by omega) (by omega) HID.out)
      obtain ⟨r3, hr3⟩ : ∃ r, txtE s3 m.id = r := ⟨_, rfl⟩
      rw [hr3] at HP3
      have hv3 : r3.2.2 = m.id := by rw [← hr3]; exact txtE_v _ _
      clear CW3
      go_wp2_with (fail)
      refine HP3.out.mono ?_
      rintro en w4 ⟨rfl, s4, ho, hs, hlen4, hc⟩
      obtain ⟨e4, he⟩ : ∃ e, st e3 r3.1 = e := ⟨_, rfl⟩
      simp only [he] at ho hs
      have HO4 := Lib.hid ho
      have HC4 := Lib.hid (ty_trans HC3.out hc)
      have HQ4 := Lib.hid (HQ3.out.step hr3 he hs hv3)
      have hsz4 := hc.size
      have hgl4 := ho.lt
      clear ho hs hc he hr3 hv3 HP3 d5
      go_wp2_with (fail)
      go_end0
      exact ⟨rfl, s4, by rw [HQ4.out.stop.1]; exact HO4.out, HQ4.out.stop.2, by omega, ty_trans HCB.out HC4.out⟩
    · have dm : w0.cell? ⟨mb, 13, none⟩ = some (.bool true) := by rw [dm, hmo]
      have kb1 : (m.kind == 1) = false := by rw [hk]; rfl
      have kb2 : (m.kind == 2) = false := by rw [hk]; rfl
      have kb3 : (m.kind == 3) = false := by rw [hk]; rfl
      have kb4 : (m.kind == 4) = false := by rw [hk]; rfl
      have kb5 : (m.kind == 5) = false := by rw [hk]; rfl
      have kb6 : (m.kind == 6) = false := by rw [hk]; rfl
      have kb7 : (m.kind == 7) = false := by rw [hk]; rfl
      have kb8 : (m.kind == 8) = true := by rw [hk]; rfl
      have HQ0 := Lib.hid (show Qo e0 (rest encC s0 m m) e0 _ from by rw [rest_8 (m0 := m) hk]; exact Qo.refl)
      clear hk
      go_enter Try.func18, Try.ntmps18
      have CW0 := HVC.out w0 HC0.out
      have hmb0 : mb < w0.heap.size := blk_lt CW0
      have d12 : w0.cell? ⟨mb, 12, none⟩ = some (.int .i64 m.err) := by rw [cell_of_row _ _ _ _ _ _ CW0]; rfl
      have HP0 := Lib.hid (number_y w0 g B s0 e0 m.err 255 HO0.out (by omega) (by omega) (by omega))
      obtain ⟨r0, hr0⟩ : ∃ r, numE s0 m.err 255 = r := ⟨_, rfl⟩
      rw [hr0] at HP0
      have hv0 : r0.2.2 = m.err := by rw [← hr0]; exact numE_v _ _ _
      clear CW0
      go_wp2_with (fail)
      refine HP0.out.mono ?_
      rintro en w1 ⟨rfl, s1, ho, hs, hlen1, hc⟩
      obtain ⟨e1, he⟩ : ∃ e, st e0 r0.1 = e := ⟨_, rfl⟩
      simp only [he] at ho hs
      have HO1 := Lib.hid ho
      have HC1 := Lib.hid (ty_trans HC0.out hc)
      have HQ1 := Lib.hid (HQ0.out.step hr0 he hs hv0)
      have hsz1 := hc.size
      have hgl1 := ho.lt
      clear ho hs hc he hr0 hv0 HP0 d12
      have CW1 := HVC.out w1 HC1.out
      have hmb1 : mb < w1.heap.size := blk_lt CW1
      have d14 : w1.cell? ⟨mb, 14, none⟩ = some (.slice pA m.pts.length pc) := by rw [cell_of_row _ _ _ _ _ _ CW1]; rfl
      have HP1 := Lib.hid (points_y w1 g B B0 m.pts.length pc s1 e1 pA m.pts HO1.out ((HOK.out.1.1.below (HBL.out w1 HC1.out) (Nat.le_refl _))) HOK.out.1.2.2 (by omega) h0g h0B (by omega))
      obtain ⟨r1, hr1⟩ : ∃ r, passList encC (0, 0, 0) (passPt encC) 512 s1 m.pts = r := ⟨_, rfl⟩
      rw [hr1] at HP1
      clear CW1
      go_wp2_with (fail)
      refine HP1.out.mono ?_
      rintro en w2 ⟨rfl, s2, ho, hs, hlen2, hc⟩
      obtain ⟨e2, he⟩ : ∃ e, st e1 r1.1 = e := ⟨_, rfl⟩
      simp only [he] at ho hs
      have HO2 := Lib.hid ho
      have HC2 := Lib.hid (ty_trans HC1.out hc)
      have HQ2 := Lib.hid (HQ1.out.step hr1 he hs rfl)
      have hsz2 := hc.size
      have hgl2 := ho.lt
      clear ho hs hc he hr1  HP1 d14
      go_wp2_with (fail)
      go_end0
      exact ⟨rfl, s2, by rw [HQ2.out.stop.1]; exact HO2.out, HQ2.out.stop.2, by omega, ty_trans HCB.out HC2.out⟩
end Go.Proofs.Ythkcnakodlbdpaa.wr
