/-
  Messages: Decode, the document's.
-/
import Derived.Test.YthkcnakodlbdpaaWrRG
import Derived.Test.YthkcnakodlbdpaaWrW
namespace Go.Proofs.Ythkcnakodlbdpaa.wr
open Go.ChangeShapes Go.WideShapes Go.ChangeAt Go.RowKit plain words ord mem uvs uvc

def readY (k : Nat) (s : By) : Msg × St := andY (nY (s, false)) fun a s => andY (nY s) fun b s => fY s { kindM k with seq := (a : Int), epoch := (b : Int) }
/-- the document's answer -/
def ansY : By → Option Msg
  | [] => none
  | k :: s => if 32767 < s.length then none else if (readY k.toNat s).2.2 = true ∨ (encM (readY k.toNat s).1).2 ≠ 0 ∨ (encM (readY k.toNat s).1).1 ≠ k :: s then none else some (readY k.toNat s).1
def MsgF (m : Msg) : Prop := m.id.length ≤ 1000000000 ∧ PtOk m.p ∧ (∀ x ∈ m.pts, PtOk x) ∧ ∀ x ∈ m.mts, MtOk x
theorem ls_pt_ok (st : St) : ∀ x ∈ (lsY ptY st).1, PtOk x := by unfold lsY; exact mem_lpY ptY_ok _ _
theorem ls_mt_ok (st : St) : ∀ x ∈ (lsY mtY st).1, MtOk x := by unfold lsY; exact mem_lpY mtY_ok _ _
theorem id_ok (st : St) : (idY st).1.length ≤ 1000000000 := Nat.le_trans (idY_16 st) (by omega)
theorem fY_ok (st : St) (m : Msg) (h : MsgF m) : MsgF (fY st m).1 := by
  obtain ⟨h1, h2, h3, h4⟩ := h
  unfold fY
  split
  · simp only [f1Y, andY, MsgF]; exact ⟨id_ok _, ptY_ok _, h3, h4⟩
  split
  · simp only [f2Y, andY, MsgF]; exact ⟨h1, h2, h3, h4⟩
  split
  · simp only [f3Y, andY, MsgF]; exact ⟨id_ok _, h2, h3, h4⟩
  split
  · simp only [f4Y, andY, MsgF]; exact ⟨h1, h2, ls_pt_ok _, h4⟩
  split
  · simp only [f5Y, andY, MsgF]; exact ⟨id_ok _, h2, h3, h4⟩
  split
  · simp only [f6Y, andY, MsgF]; exact ⟨h1, h2, h3, ls_mt_ok _⟩
  split
  · simp only [f7Y, andY, MsgF]; exact ⟨id_ok _, h2, h3, h4⟩
  · exact ⟨h1, h2, h3, h4⟩
theorem zero_ok (k : Nat) (a b : Int) : MsgF { kindM k with seq := a, epoch := b } := ⟨show (0 : Nat) ≤ 1000000000 by decide, (show PtOk (0, 0, 0) from ⟨⟨by decide, by decide⟩, ⟨by decide, by decide⟩⟩), fun x hx => absurd (show x ∈ ([] : List Pt) from hx) (by simp), fun x hx => absurd (show x ∈ ([] : List Mt) from hx) (by simp)⟩
theorem fY_kind (st : St) (m : Msg) : (fY st m).1.kind = m.kind := by
  unfold fY
  repeat' split
  all_goals rfl
theorem infoMsgY : (Try.prog.info? 37).map (·.size) = some 16 := by kernel_rfl
theorem ret_msg {tmps : Array Value} {w : World} {N : Nat} {cs : Array Value} (hp : tmps.getD 2 undef = .pointer (some ⟨N, 0, none⟩)) (h : V w N cs 37) (hs : cs.size = 16) : (results Try.f14 tmps).run Try.prog w = .ok (.tuple #[.agg cs, tmps.getD 3 undef]) w := by
  have hp' : tmps[2]?.getD undef = .pointer (some ⟨N, 0, none⟩) := by simpa using hp
  rw [results_cell_tmp (p := 2) (u := 3) (ty := 37) rfl]
  simp [hp', asAddr, Result.andThen, run_loadVar_row w N _ 37 cs _ _ h Try.underlying37 rfl (by rw [infoMsgY, hs])]
theorem tx_eqs (a b : By) : ((⟨a.toArray⟩ : ByteArray).toList == (⟨b.toArray⟩ : ByteArray).toList) = decide (a = b) := by
  rw [ByteArray.toList_eq, ByteArray.toList_eq]
  rw [Bool.eq_iff_iff]
  simp
set_option maxHeartbeats 8000000 in
set_option maxRecDepth 100000 in
theorem decode_y (w : World) (B n c : Nat) (A : Option Addr) (bs : By) (h : Bs w B A n bs) (hB : B ≤ w.heap.size) (hnc : n ≤ c) (hcm : c ≤ 9223372036854775807) (hn : n ≤ 1000000000) :
    Calls Try.prog 14 #[.slice A n c] w (RetDec w (ansY bs)) := by
  obtain ⟨N, hN⟩ : ∃ N, w.heap.size = N := ⟨_, rfl⟩
  obtain ⟨w1, hw1⟩ : ∃ w1, w.alloc (.cells zcells 37) = w1 := ⟨_, rfl⟩
  have hb1 : Below w.heap.size w w1 := by rw [← hw1]; exact below_al _ _
  have g0 : V w1 N zcells 37 := by rw [← hw1, ← hN]; exact alloc_new _ _
  have hz1 : w1.heap.size = N + 1 := by rw [← hw1, World.size_alloc, hN]
  unfold zcells at hw1
  have hl1 : N < w1.heap.size := by omega
  have HN := Lib.hid hN
  have HBS := Lib.hid h
  have hlen := h.len_
  by_cases hbad : n < 1 ∨ 32768 < n
  · have hdm : ansY bs = none := by
      cases bs with
      | nil => rfl
      | cons k s =>
        simp only [List.length_cons] at hlen
        exact if_pos (by omega)
    have HF := Lib.hid (show RetDec w (ansY bs) (.returned (.tuple #[.agg zcells, .int .i64 130])) (w1.setRow N zcells) from by rw [hdm]; exact ⟨bel_row hb1 (Nat.le_refl _) (by omega), rfl⟩)
    have G0 := Lib.hid g0
    clear hlen hb1 hdm h
    by_cases h1 : n < 1
    · clear hbad
      go_enter Try.func14, Try.ntmps14
      go_wp2_with (refine wpList_store_row rfl _ _ _ rfl N zcells (by rfl) (by rfl) _ _ G0.out infoMsgY rfl zcells_all ?_)
      refine bodyPost_ret (ret_msg rfl (setRow_mb G0.out) rfl) rfl ?_
      exact HF.out
    · have h2 : 32768 < n := by omega
      have h2i : (32768 : Int) < (n : Int) := by omega
      have h1i : ¬ (n : Int) < 1 := by omega
      clear hbad h1 h2
      go_enter Try.func14, Try.ntmps14
      go_wp2_with (refine wpList_store_row rfl _ _ _ rfl N zcells (by rfl) (by rfl) _ _ G0.out infoMsgY rfl zcells_all ?_)
      refine bodyPost_ret (ret_msg rfl (setRow_mb G0.out) rfl) rfl ?_
      exact HF.out
  · obtain ⟨b, o, ch, rfl, hbB, hg, hcell⟩ := HBS.out.get (show 0 < n by omega)
    have h1i : ¬ (n : Int) < 1 := by omega
    have h2i : ¬ (32768 : Int) < (n : Int) := by omega
    have h0i : (0 : Int) < (n : Int) := by omega
    cases bs with
    | nil => simp at hg
    | cons k s =>
    obtain rfl : ch = k := by simpa using hg.symm
    simp only [List.length_cons] at hlen
    obtain ⟨kn, hkn⟩ : ∃ kn, ch.toNat = kn := ⟨_, rfl⟩
    rw [hkn] at hcell
    have hk256 : kn < 256 := by rw [← hkn]; exact ch.toNat_lt
    have HANS := Lib.hid (show ansY (ch :: s) = if (readY kn s).2.2 = true ∨ (encM (readY kn s).1).2 ≠ 0 ∨ (encM (readY kn s).1).1 ≠ ch :: s then none else some (readY kn s).1 by rw [← hkn]; exact if_neg (by omega))
    have hsl : s.length = n - 1 := by omega
    have hcut := bs_cut (HBS.out.below hb1 hB) (show 1 ≤ n by omega) hnc
    rw [show (ch :: s).drop 1 = s from rfl] at hcut
    have i1 : (1 : Int) ≤ (n : Int) := by omega
    have i3 : (n : Int) ≤ (c : Int) := by omega
    have wk : IntKind.i64.wrap (kn : Int) = (kn : Int) := by rw [IntWalk.i64_in _ (by omega)]
    have HB1 := Lib.hid hb1
    have G0 := Lib.hid g0
    have HCUT := Lib.hid hcut
    have HSL := Lib.hid hsl
    have HNC := Lib.hid hnc
    have HCELL := Lib.hid hcell
    clear hlen hcell hg hkn hb1 g0 hcut hsl h
    by_cases hc1 : c = 1
    · have hcut := HCUT.out
      rw [if_pos hc1] at hcut
      obtain ⟨w2, hw2⟩ : ∃ w2, w1.alloc (.cells #[.slice (some ⟨b, o, none⟩) (n - 1) 0, .bool false] 65) = w2 := ⟨_, rfl⟩
      have hb2 : Below w1.heap.size w1 w2 := by rw [← hw2]; exact below_al _ _
      have hz2 : w2.heap.size = N + 2 := by rw [← hw2, World.size_alloc, hz1]
      have gg2 : w2.heap[N + 1]? = some (.cells #[.slice (some ⟨b, o, none⟩) (n - 1) 0, .bool false] 65 (0, 0)) := by rw [← hw2, ← hz1]; exact alloc_new _ _
      obtain ⟨wa, hwa⟩ : ∃ wa, w2.alloc (.cells zcells 37) = wa := ⟨_, rfl⟩
      have hba : Below w2.heap.size w2 wa := by rw [← hwa]; exact below_al _ _
      have hza : wa.heap.size = N + 3 := by rw [← hwa, World.size_alloc, hz2]
      have vma : V wa (N + 2) zcells 37 := by rw [← hwa, ← hz2]; exact alloc_new _ _
      obtain ⟨w3, hw3⟩ : ∃ w3, wa.setRow (N + 2) (mcells (kindM kn) (.slice none 0 0) (.slice none 0 0)) = w3 := ⟨_, rfl⟩
      have hz3 : w3.heap.size = N + 3 := by rw [← hw3]; simp [World.setRow, hza]
      have hb13 : Below (N + 1) w1 w3 := by rw [← hw3]; exact bel_row ((hb2.mono (by omega)).trans (hba.mono (by omega))) (by omega) (by omega)
      have VMA := Lib.hid vma
      have gg3 : w3.heap[N + 1]? = some (.cells #[.slice (some ⟨b, o, none⟩) (n - 1) 0, .bool false] 65 (0, 0)) := by rw [← hw3]; exact setRow_o (blk_below hba gg2 (by omega)) (by omega)
      have hnc' := HNC.out
      have hb3 : Below w.heap.size w w3 := HB1.out.trans (hb13.mono (by omega))
      have hIN : InY w3 (N + 1) N (s, false) := ⟨b, o, 0, by simp only; rw [HSL.out]; exact gg3, by simp only; rw [HSL.out]; exact (hcut.below hb13 (by omega)).more (by omega), by simp only; rw [HSL.out]; omega, by omega, by omega, by omega, by show s.length ≤ _; rw [HSL.out]; omega⟩
      have VM3 := Lib.hid (show V w3 (N + 2) (mcells (kindM kn) (.slice none 0 0) (.slice none 0 0)) 37 by rw [← hw3]; exact setRow_mb vma)
      have G3 := Lib.hid (show V w3 N zcells 37 from blk_below hb13 G0.out (by omega))
      have HB3 := Lib.hid hb3
      have cb : w2.cell? ⟨b, o, none⟩ = some (.int .u8 (kn : Int)) := by rw [(HB1.out.trans (hb2.mono (by omega))).cell (p := ⟨b, o, none⟩) (show b < w.heap.size by omega)]; exact HCELL.out
      have hbl : b < w2.heap.size := by omega
      have HNA := Lib.hid (number_r w3 (N + 1) N (s, false) hIN)
      have HQ0 := Lib.hid (show readY kn s = andY (nY (s, false)) fun a s => andY (nY s) fun b s => fY s { kindM kn with seq := (a : Int), epoch := (b : Int) } from rfl)
      obtain ⟨r1, hr1⟩ : ∃ r, nY (s, false) = r := ⟨_, rfl⟩
      rw [hr1] at HNA
      obtain ⟨a1, s1⟩ := r1
      have HQ1 := Lib.hid (andY_step HQ0.out hr1)
      have hMS : (mcells (kindM kn) (.slice none 0 0) (.slice none 0 0)).size = 16 := rfl
      have hMA := mcells_all (kindM kn) (.slice none 0 0) (.slice none 0 0) rfl rfl
      have HMS := Lib.hid hMS
      have HMA := Lib.hid hMA
      clear hcut hb2 gg2 hba vma gg3 hb13 hb3 hIN hr1 hMS hMA
      unfold zcells at hwa
      go_enter Try.func14, Try.ntmps14
      go_wp2_with (refine wpList_store_row rfl _ _ _ rfl (N + 2) (mcells (kindM kn) (.slice none 0 0) (.slice none 0 0)) (by rfl) (by rfl) _ _ VMA.out (by rw [HMS.out]; exact infoMsgY) rfl HMA.out ?_)
      try rw [hw3]
      refine HNA.out.mono ?_
      clear hw1 hw2 hwa hw3 HNA
      rintro e v1 ⟨rfl, hi1, hc1⟩
      replace hi1 : InY v1 (N + 1) N s1 := hi1
      have vv1 : V v1 (N + 2) (mcells (kindM kn) (.slice none 0 0) (.slice none 0 0)) 37 := hc1.blk VM3.out (by omega)
      have cc1 : v1.cell? ⟨N + 2, 1, none⟩ = some (.int .i64 0) := by rw [cell_of_row _ _ _ _ _ _ vv1]; rfl
      have ff1 := frozen_of_row v1 (N + 2) 1 _ _ vv1
      have hm1 := blk_lt vv1
      obtain ⟨w4, hw4⟩ : ∃ x, v1.setCell ⟨N + 2, 1, none⟩ (.int .i64 (a1 : Nat)) = x := ⟨_, rfl⟩
      have hi4 : InY w4 (N + 1) N s1 := by rw [← hw4]; exact hi1.setm (by omega) (by omega) _
      have HC4 := Lib.hid (show Chg (fun k => k = N + 1 ∨ k = N + 2) w3 w4 by rw [← hw4]; exact chg_m (hc1.mono (fun _ _ e => .inl e)) 1 _)
      have VM4 := Lib.hid (show V w4 (N + 2) (mcells ({ kindM kn with seq := (a1 : Int) } : Msg) (.slice none 0 0) (.slice none 0 0)) 37 by rw [← hw4]; exact vv1.set _)
      have HNB := Lib.hid (number_r w4 (N + 1) N s1 hi4)
      obtain ⟨r2, hr2⟩ : ∃ r, nY s1 = r := ⟨_, rfl⟩
      rw [hr2] at HNB
      obtain ⟨a2, s2⟩ := r2
      have HQ2 := Lib.hid (andY_step HQ1.out hr2)
      clear hi1 hc1 vv1 hi4 hr2
      go_wp2_with (fail)
      refine HNB.out.mono ?_
      clear hw4 HNB cc1 ff1 hm1
      rintro e v2 ⟨rfl, hi2, hc2⟩
      replace hi2 : InY v2 (N + 1) N s2 := hi2
      have vv2 : V v2 (N + 2) (mcells ({ kindM kn with seq := (a1 : Int) } : Msg) (.slice none 0 0) (.slice none 0 0)) 37 := hc2.blk VM4.out (by omega)
      have cc2 : v2.cell? ⟨N + 2, 2, none⟩ = some (.int .i64 0) := by rw [cell_of_row _ _ _ _ _ _ vv2]; rfl
      have ff2 := frozen_of_row v2 (N + 2) 2 _ _ vv2
      have hm2 := blk_lt vv2
      obtain ⟨w5, hw5⟩ : ∃ x, v2.setCell ⟨N + 2, 2, none⟩ (.int .i64 (a2 : Nat)) = x := ⟨_, rfl⟩
      have hi5 : InY w5 (N + 1) N s2 := by rw [← hw5]; exact hi2.setm (by omega) (by omega) _
      have HC5 := Lib.hid (show Chg (fun k => k = N + 1 ∨ k = N + 2) w3 w5 by rw [← hw5]; exact chg_m (chg_gm HC4.out hc2) 2 _)
      have vm5 : V w5 (N + 2) (mcells ({ kindM kn with seq := (a1 : Int), epoch := (a2 : Int) } : Msg) (.slice none 0 0) (.slice none 0 0)) 37 := by rw [← hw5]; exact vv2.set _
      have HFL := Lib.hid (fields_r w5 (N + 1) N (N + 2) s2 ({ kindM kn with seq := (a1 : Int), epoch := (a2 : Int) } : Msg) (.slice none 0 0) (.slice none 0 0) hi5 vm5 (by omega) (by omega))
      have hok := fY_ok s2 _ (zero_ok kn (a1 : Int) (a2 : Int))
      obtain ⟨r3, hr3⟩ : ∃ r, fY s2 ({ kindM kn with seq := (a1 : Int), epoch := (a2 : Int) } : Msg) = r := ⟨_, rfl⟩
      have HQ3 := Lib.hid (show readY kn s = r3 from HQ2.out.trans hr3)
      rw [hr3] at HFL hok
      obtain ⟨m, s3⟩ := r3
      replace hok : MsgF m := hok
      have HOK := Lib.hid hok
      clear hi2 hc2 vv2 hi5 vm5 hr3 hok
      go_wp2_with (fail)
      refine HFL.out.mono ?_
      clear hw5 HFL cc2 ff2 hm2
      rintro e w8 ⟨rfl, hi8, hc8, P, M, hv8, hlp, hlm⟩
      replace hi8 : InY w8 (N + 1) N s3 := hi8
      replace hv8 : V w8 (N + 2) (mcells m P M) 37 := hv8
      have hs5 := HC5.out.size
      have oP : Ow PE w8 w.heap.size P m.pts.length m.pts := LO.own hlp (by omega)
      have oM : Ow ME w8 w.heap.size M m.mts.length m.mts := LO.own hlm (by omega)
      obtain ⟨pA, pc, rfl, hpn, hpl, hpm⟩ := mem.Ow.form oP
      obtain ⟨mA, mc, rfl, hmn, hml, hmm⟩ := mem.Ow.form oM
      have hmok : MOk w8 w8.heap.size m pA mA pc mc := ⟨⟨mem.Ow.ls oP, hpn, HOK.out.2.2.1⟩, ⟨mem.Ow.ls oM, hmn, HOK.out.2.2.2⟩⟩
      have HEN := Lib.hid (encode_y w8 m pA mA pc mc hmok HOK.out.1 HOK.out.2.1)
      have HC8 := Lib.hid (HC5.out.trans hc8 (fun _ _ e => e))
      have V8 := Lib.hid hv8
      have I8 := Lib.hid hi8
      have OP := Lib.hid oP
      have OM := Lib.hid oM
      have HALL := Lib.hid (mcells_all m (.slice pA m.pts.length pc) (.slice mA m.mts.length mc) rfl rfl)
      obtain ⟨mm, hmm'⟩ : ∃ mm, mcells m (.slice pA m.pts.length pc) (.slice mA m.mts.length mc) = mm := ⟨_, rfl⟩
      have hms : mm.size = 16 := by rw [← hmm']; rfl
      rw [hmm'] at HEN V8 HALL
      have HMM := Lib.hid hmm'
      have HMS2 := Lib.hid hms
      obtain ⟨en, hen⟩ : ∃ en, encM m = en := ⟨_, rfl⟩
      have HEE := Lib.hid (show (encM (readY kn s).1) = en by rw [HQ3.out]; exact hen)
      rw [hen] at HEN
      obtain ⟨eb, er⟩ := en
      clear hi8 hc8 hv8 hlp hlm oP oM hmok hmm' hms hen hpn hpl hpm hmn hml hmm
      go_wp2_with (refine wpList_load_row rfl _ _ rfl (N + 2) (by rfl) _ _ _ _ V8.out Try.underlying37 rfl (by rw [HMS2.out]; exact infoMsgY) ?_)
      refine HEN.out.mono ?_
      clear HEN
      rintro e w9 ⟨Ae, ce, rfl, hoe, hb9⟩
      replace hoe : w9.ownsRow w8.heap.size 5 1 (.slice Ae eb.length ce) eb.length (u8s eb) := hoe
      have hs8 := HC8.out.size
      have hs9 := hb9.size
      have V9 := Lib.hid (show V w9 (N + 2) mm 37 from blk_below hb9 V8.out (blk_lt V8.out))
      obtain ⟨cf, hcl⟩ := (I8.out.below hb9 (Nat.le_refl _)).flagged
      have hb39 : Below (N + 1) w3 w9 := (HC8.out.below (by omega) (fun k e => by omega)).trans (hb9.mono (by omega))
      have hb9' : Below w.heap.size w w9 := HB3.out.trans (hb39.mono (by omega))
      have G9 := Lib.hid (show V w9 N zcells 37 from blk_below hb39 G3.out (by omega))
      have HB9 := Lib.hid hb9'
      have hre : Bs w9 w9.heap.size Ae eb.length eb := (by have := own_rd hoe; rwa [Nat.mul_one] at this)
      have hrb : Bs w9 B (some ⟨b, o, none⟩) n (ch :: s) := HBS.out.below hb9' hB
      have k2 := conv_string (P := Try.prog) (c := ce) hre 33 9 5 Try.underlying33 Try.underlying9 Try.underlying5
      have k4 := conv_string (P := Try.prog) (c := 1) hrb 33 9 5 Try.underlying33 Try.underlying9 Try.underlying5
      have k3 := conv_string (P := Try.prog) (c := c) hrb 33 9 5 Try.underlying33 Try.underlying9 Try.underlying5
      obtain ⟨el, hel⟩ : ∃ el, eb.length = el := ⟨_, rfl⟩
      rw [hel] at k2
      simp only [hel]
      obtain ⟨bb, hbb⟩ : ∃ bb, ch :: s = bb := ⟨_, rfl⟩
      rw [hbb] at k3 k4
      have HBB := Lib.hid hbb
      have hteq := tx_eqs eb bb
      obtain ⟨S1, hS1⟩ : ∃ S1 : ByteArray, ⟨eb.toArray⟩ = S1 := ⟨_, rfl⟩
      obtain ⟨S2, hS2⟩ : ∃ S2 : ByteArray, ⟨bb.toArray⟩ = S2 := ⟨_, rfl⟩
      rw [hS1] at k2 hteq
      rw [hS2] at k3 k4 hteq
      have HTEQ := Lib.hid hteq
      clear hteq hS1 hS2
      have HRD := Lib.hid (show (readY kn s).2.2 = s3.2 by rw [HQ3.out])
      have OP9 := Lib.hid ((OP.out.below hb9 (Nat.le_refl _)))
      have OM9 := Lib.hid ((OM.out.below hb9 (Nat.le_refl _)))
      obtain ⟨q, hq⟩ : ∃ q, s3.2 = q := ⟨_, rfl⟩
      rw [hq] at cf
      have HQB := Lib.hid (HRD.out.trans hq)
      clear hoe hb9 hb39 hb9' hre hrb hel hbb hq
      cases q with
      | true =>
        have HF := Lib.hid (show RetDec w (ansY (ch :: s)) (.returned (.tuple #[.agg zcells, .int .i64 130])) (w9.setRow N zcells) from by rw [HANS.out, if_pos (.inl HQB.out)]; exact ⟨bel_row HB9.out (Nat.le_refl _) (by omega), rfl⟩)
        clear k2 k3 k4
        go_wp2_with (refine wpList_store_row rfl _ _ _ rfl N zcells (by rfl) (by rfl) _ _ G9.out infoMsgY rfl zcells_all ?_)
        refine bodyPost_ret (ret_msg rfl (setRow_mb G9.out) rfl) rfl ?_
        exact HF.out
      | false =>
        by_cases hz : er = 0
        · subst hz
          by_cases he : eb = bb
          · have te : (S1.toList == S2.toList) = true := by rw [HTEQ.out]; simp [he]
            have hv2 := setRow_mb (cs := mm) G9.out
            have HF := Lib.hid (show RetDec w (ansY (ch :: s)) (.returned (.tuple #[.agg mm, .int .i64 0])) (w9.setRow N mm) from by
              rw [HANS.out, if_neg (by rw [HQB.out, HEE.out]; simp [he, HBB.out])]
              refine ⟨bel_row HB9.out (Nat.le_refl _) (by omega), .slice pA m.pts.length pc, .slice mA m.mts.length mc, ?_, ?_, ?_⟩
              · rw [HQ3.out, ← HMM.out]
              · rw [HQ3.out]; exact Ow.setR OP9.out G9.out (by decide)
              · rw [HQ3.out]; exact Ow.setR OM9.out G9.out (by decide))
            have HV2 := Lib.hid hv2
            clear he hv2
            go_wp2_with (first | (refine wpList_load_row rfl _ _ rfl (N + 2) (by rfl) _ _ _ _ V9.out Try.underlying37 rfl (by rw [HMS2.out]; exact infoMsgY) ?_) | (refine wpList_store_row rfl _ _ _ rfl N mm (by rfl) (by rfl) _ _ G9.out (by rw [HMS2.out]; exact infoMsgY) (by rw [HMS2.out]; rfl) HALL.out ?_))
            refine bodyPost_ret (ret_msg rfl HV2.out HMS2.out) rfl ?_
            exact HF.out
          · have te : (S1.toList == S2.toList) = false := by rw [HTEQ.out]; simp [he]
            have HF := Lib.hid (show RetDec w (ansY (ch :: s)) (.returned (.tuple #[.agg zcells, .int .i64 130])) (w9.setRow N zcells) from by rw [HANS.out, if_pos (.inr (.inr (by rw [HEE.out, HBB.out]; exact he)))]; exact ⟨bel_row HB9.out (Nat.le_refl _) (by omega), rfl⟩)
            clear he
            go_wp2_with (refine wpList_store_row rfl _ _ _ rfl N zcells (by rfl) (by rfl) _ _ G9.out infoMsgY rfl zcells_all ?_)
            refine bodyPost_ret (ret_msg rfl (setRow_mb G9.out) rfl) rfl ?_
            exact HF.out
        · have z1 : (er != 0) = true := by simpa using hz
          have HF := Lib.hid (show RetDec w (ansY (ch :: s)) (.returned (.tuple #[.agg zcells, .int .i64 130])) (w9.setRow N zcells) from by rw [HANS.out, if_pos (.inr (.inl (by rw [HEE.out]; exact hz)))]; exact ⟨bel_row HB9.out (Nat.le_refl _) (by omega), rfl⟩)
          clear k2 k3 k4 hz
          go_wp2_with (refine wpList_store_row rfl _ _ _ rfl N zcells (by rfl) (by rfl) _ _ G9.out infoMsgY rfl zcells_all ?_)
          refine bodyPost_ret (ret_msg rfl (setRow_mb G9.out) rfl) rfl ?_
          exact HF.out
    · have hcut := HCUT.out
      rw [if_neg hc1] at hcut
      obtain ⟨w2, hw2⟩ : ∃ w2, w1.alloc (.cells #[.slice (some ⟨b, (o + 1), none⟩) (n - 1) (c - 1), .bool false] 65) = w2 := ⟨_, rfl⟩
      have hb2 : Below w1.heap.size w1 w2 := by rw [← hw2]; exact below_al _ _
      have hz2 : w2.heap.size = N + 2 := by rw [← hw2, World.size_alloc, hz1]
      have gg2 : w2.heap[N + 1]? = some (.cells #[.slice (some ⟨b, (o + 1), none⟩) (n - 1) (c - 1), .bool false] 65 (0, 0)) := by rw [← hw2, ← hz1]; exact alloc_new _ _
      obtain ⟨wa, hwa⟩ : ∃ wa, w2.alloc (.cells zcells 37) = wa := ⟨_, rfl⟩
      have hba : Below w2.heap.size w2 wa := by rw [← hwa]; exact below_al _ _
      have hza : wa.heap.size = N + 3 := by rw [← hwa, World.size_alloc, hz2]
      have vma : V wa (N + 2) zcells 37 := by rw [← hwa, ← hz2]; exact alloc_new _ _
      obtain ⟨w3, hw3⟩ : ∃ w3, wa.setRow (N + 2) (mcells (kindM kn) (.slice none 0 0) (.slice none 0 0)) = w3 := ⟨_, rfl⟩
      have hz3 : w3.heap.size = N + 3 := by rw [← hw3]; simp [World.setRow, hza]
      have hb13 : Below (N + 1) w1 w3 := by rw [← hw3]; exact bel_row ((hb2.mono (by omega)).trans (hba.mono (by omega))) (by omega) (by omega)
      have VMA := Lib.hid vma
      have gg3 : w3.heap[N + 1]? = some (.cells #[.slice (some ⟨b, (o + 1), none⟩) (n - 1) (c - 1), .bool false] 65 (0, 0)) := by rw [← hw3]; exact setRow_o (blk_below hba gg2 (by omega)) (by omega)
      have hnc' := HNC.out
      have hb3 : Below w.heap.size w w3 := HB1.out.trans (hb13.mono (by omega))
      have hIN : InY w3 (N + 1) N (s, false) := ⟨b, (o + 1), (c - 1), by simp only; rw [HSL.out]; exact gg3, by simp only; rw [HSL.out]; exact (hcut.below hb13 (by omega)).more (by omega), by simp only; rw [HSL.out]; omega, by omega, by omega, by omega, by show s.length ≤ _; rw [HSL.out]; omega⟩
      have VM3 := Lib.hid (show V w3 (N + 2) (mcells (kindM kn) (.slice none 0 0) (.slice none 0 0)) 37 by rw [← hw3]; exact setRow_mb vma)
      have G3 := Lib.hid (show V w3 N zcells 37 from blk_below hb13 G0.out (by omega))
      have HB3 := Lib.hid hb3
      have cb : w2.cell? ⟨b, o, none⟩ = some (.int .u8 (kn : Int)) := by rw [(HB1.out.trans (hb2.mono (by omega))).cell (p := ⟨b, o, none⟩) (show b < w.heap.size by omega)]; exact HCELL.out
      have hbl : b < w2.heap.size := by omega
      have HNA := Lib.hid (number_r w3 (N + 1) N (s, false) hIN)
      have HQ0 := Lib.hid (show readY kn s = andY (nY (s, false)) fun a s => andY (nY s) fun b s => fY s { kindM kn with seq := (a : Int), epoch := (b : Int) } from rfl)
      obtain ⟨r1, hr1⟩ : ∃ r, nY (s, false) = r := ⟨_, rfl⟩
      rw [hr1] at HNA
      obtain ⟨a1, s1⟩ := r1
      have HQ1 := Lib.hid (andY_step HQ0.out hr1)
      have hMS : (mcells (kindM kn) (.slice none 0 0) (.slice none 0 0)).size = 16 := rfl
      have hMA := mcells_all (kindM kn) (.slice none 0 0) (.slice none 0 0) rfl rfl
      have HMS := Lib.hid hMS
      have HMA := Lib.hid hMA
      clear hcut hb2 gg2 hba vma gg3 hb13 hb3 hIN hr1 hMS hMA
      unfold zcells at hwa
      go_enter Try.func14, Try.ntmps14
      go_wp2_with (refine wpList_store_row rfl _ _ _ rfl (N + 2) (mcells (kindM kn) (.slice none 0 0) (.slice none 0 0)) (by rfl) (by rfl) _ _ VMA.out (by rw [HMS.out]; exact infoMsgY) rfl HMA.out ?_)
      try rw [hw3]
      refine HNA.out.mono ?_
      clear hw1 hw2 hwa hw3 HNA
      rintro e v1 ⟨rfl, hi1, hc1⟩
      replace hi1 : InY v1 (N + 1) N s1 := hi1
      have vv1 : V v1 (N + 2) (mcells (kindM kn) (.slice none 0 0) (.slice none 0 0)) 37 := hc1.blk VM3.out (by omega)
      have cc1 : v1.cell? ⟨N + 2, 1, none⟩ = some (.int .i64 0) := by rw [cell_of_row _ _ _ _ _ _ vv1]; rfl
      have ff1 := frozen_of_row v1 (N + 2) 1 _ _ vv1
      have hm1 := blk_lt vv1
      obtain ⟨w4, hw4⟩ : ∃ x, v1.setCell ⟨N + 2, 1, none⟩ (.int .i64 (a1 : Nat)) = x := ⟨_, rfl⟩
      have hi4 : InY w4 (N + 1) N s1 := by rw [← hw4]; exact hi1.setm (by omega) (by omega) _
      have HC4 := Lib.hid (show Chg (fun k => k = N + 1 ∨ k = N + 2) w3 w4 by rw [← hw4]; exact chg_m (hc1.mono (fun _ _ e => .inl e)) 1 _)
      have VM4 := Lib.hid (show V w4 (N + 2) (mcells ({ kindM kn with seq := (a1 : Int) } : Msg) (.slice none 0 0) (.slice none 0 0)) 37 by rw [← hw4]; exact vv1.set _)
      have HNB := Lib.hid (number_r w4 (N + 1) N s1 hi4)
      obtain ⟨r2, hr2⟩ : ∃ r, nY s1 = r := ⟨_, rfl⟩
      rw [hr2] at HNB
      obtain ⟨a2, s2⟩ := r2
      have HQ2 := Lib.hid (andY_step HQ1.out hr2)
      clear hi1 hc1 vv1 hi4 hr2
      go_wp2_with (fail)
      refine HNB.out.mono ?_
      clear hw4 HNB cc1 ff1 hm1
      rintro e v2 ⟨rfl, hi2, hc2⟩
      replace hi2 : InY v2 (N + 1) N s2 := hi2
      have vv2 : V v2 (N + 2) (mcells ({ kindM kn with seq := (a1 : Int) } : Msg) (.slice none 0 0) (.slice none 0 0)) 37 := hc2.blk VM4.out (by omega)
      have cc2 : v2.cell? ⟨N + 2, 2, none⟩ = some (.int .i64 0) := by rw [cell_of_row _ _ _ _ _ _ vv2]; rfl
      have ff2 := frozen_of_row v2 (N + 2) 2 _ _ vv2
      have hm2 := blk_lt vv2
      obtain ⟨w5, hw5⟩ : ∃ x, v2.setCell ⟨N + 2, 2, none⟩ (.int .i64 (a2 : Nat)) = x := ⟨_, rfl⟩
      have hi5 : InY w5 (N + 1) N s2 := by rw [← hw5]; exact hi2.setm (by omega) (by omega) _
      have HC5 := Lib.hid (show Chg (fun k => k = N + 1 ∨ k = N + 2) w3 w5 by rw [← hw5]; exact chg_m (chg_gm HC4.out hc2) 2 _)
      have vm5 : V w5 (N + 2) (mcells ({ kindM kn with seq := (a1 : Int), epoch := (a2 : Int) } : Msg) (.slice none 0 0) (.slice none 0 0)) 37 := by rw [← hw5]; exact vv2.set _
      have HFL := Lib.hid (fields_r w5 (N + 1) N (N + 2) s2 ({ kindM kn with seq := (a1 : Int), epoch := (a2 : Int) } : Msg) (.slice none 0 0) (.slice none 0 0) hi5 vm5 (by omega) (by omega))
      have hok := fY_ok s2 _ (zero_ok kn (a1 : Int) (a2 : Int))
      obtain ⟨r3, hr3⟩ : ∃ r, fY s2 ({ kindM kn with seq := (a1 : Int), epoch := (a2 : Int) } : Msg) = r := ⟨_, rfl⟩
      have HQ3 := Lib.hid (show readY kn s = r3 from HQ2.out.trans hr3)
      rw [hr3] at HFL hok
      obtain ⟨m, s3⟩ := r3
      replace hok : MsgF m := hok
      have HOK := Lib.hid hok
      clear hi2 hc2 vv2 hi5 vm5 hr3 hok
      go_wp2_with (fail)
      refine HFL.out.mono ?_
      clear hw5 HFL cc2 ff2 hm2
      rintro e w8 ⟨rfl, hi8, hc8, P, M, hv8, hlp, hlm⟩
      replace hi8 : InY w8 (N + 1) N s3 := hi8
      replace hv8 : V w8 (N + 2) (mcells m P M) 37 := hv8
      have hs5 := HC5.out.size
      have oP : Ow PE w8 w.heap.size P m.pts.length m.pts := LO.own hlp (by omega)
      have oM : Ow ME w8 w.heap.size M m.mts.length m.mts := LO.own hlm (by omega)
      obtain ⟨pA, pc, rfl, hpn, hpl, hpm⟩ := mem.Ow.form oP
      obtain ⟨mA, mc, rfl, hmn, hml, hmm⟩ := mem.Ow.form oM
      have hmok : MOk w8 w8.heap.size m pA mA pc mc := ⟨⟨mem.Ow.ls oP, hpn, HOK.out.2.2.1⟩, ⟨mem.Ow.ls oM, hmn, HOK.out.2.2.2⟩⟩
      have HEN := Lib.hid (encode_y w8 m pA mA pc mc hmok HOK.out.1 HOK.out.2.1)
      have HC8 := Lib.hid (HC5.out.trans hc8 (fun _ _ e => e))
      have V8 := Lib.hid hv8
      have I8 := Lib.hid hi8
      have OP := Lib.hid oP
      have OM := Lib.hid oM
      have HALL := Lib.hid (mcells_all m (.slice pA m.pts.length pc) (.slice mA m.mts.length mc) rfl rfl)
      obtain ⟨mm, hmm'⟩ : ∃ mm, mcells m (.slice pA m.pts.length pc) (.slice mA m.mts.length mc) = mm := ⟨_, rfl⟩
      have hms : mm.size = 16 := by rw [← hmm']; rfl
      rw [hmm'] at HEN V8 HALL
      have HMM := Lib.hid hmm'
      have HMS2 := Lib.hid hms
      obtain ⟨en, hen⟩ : ∃ en, encM m = en := ⟨_, rfl⟩
      have HEE := Lib.hid (show (encM (readY kn s).1) = en by rw [HQ3.out]; exact hen)
      rw [hen] at HEN
      obtain ⟨eb, er⟩ := en
      clear hi8 hc8 hv8 hlp hlm oP oM hmok hmm' hms hen hpn hpl hpm hmn hml hmm
      go_wp2_with (refine wpList_load_row rfl _ _ rfl (N + 2) (by rfl) _ _ _ _ V8.out Try.underlying37 rfl (by rw [HMS2.out]; exact infoMsgY) ?_)
      refine HEN.out.mono ?_
      clear HEN
      rintro e w9 ⟨Ae, ce, rfl, hoe, hb9⟩
      replace hoe : w9.ownsRow w8.heap.size 5 1 (.slice Ae eb.length ce) eb.length (u8s eb) := hoe
      have hs8 := HC8.out.size
      have hs9 := hb9.size
      have V9 := Lib.hid (show V w9 (N + 2) mm 37 from blk_below hb9 V8.out (blk_lt V8.out))
      obtain ⟨cf, hcl⟩ := (I8.out.below hb9 (Nat.le_refl _)).flagged
      have hb39 : Below (N + 1) w3 w9 := (HC8.out.below (by omega) (fun k e => by omega)).trans (hb9.mono (by omega))
      have hb9' : Below w.heap.size w w9 := HB3.out.trans (hb39.mono (by omega))
      have G9 := Lib.hid (show V w9 N zcells 37 from blk_below hb39 G3.out (by omega))
      have HB9 := Lib.hid hb9'
      have hre : Bs w9 w9.heap.size Ae eb.length eb := (by have := own_rd hoe; rwa [Nat.mul_one] at this)
      have hrb : Bs w9 B (some ⟨b, o, none⟩) n (ch :: s) := HBS.out.below hb9' hB
      have k2 := conv_string (P := Try.prog) (c := ce) hre 33 9 5 Try.underlying33 Try.underlying9 Try.underlying5
      have k4 := conv_string (P := Try.prog) (c := 1) hrb 33 9 5 Try.underlying33 Try.underlying9 Try.underlying5
      have k3 := conv_string (P := Try.prog) (c := c) hrb 33 9 5 Try.underlying33 Try.underlying9 Try.underlying5
      obtain ⟨el, hel⟩ : ∃ el, eb.length = el := ⟨_, rfl⟩
      rw [hel] at k2
      simp only [hel]
      obtain ⟨bb, hbb⟩ : ∃ bb, ch :: s = bb := ⟨_, rfl⟩
      rw [hbb] at k3 k4
      have HBB := Lib.hid hbb
      have hteq := tx_eqs eb bb
      obtain ⟨S1, hS1⟩ : ∃ S1 : ByteArray, ⟨eb.toArray⟩ = S1 := ⟨_, rfl⟩
      obtain ⟨S2, hS2⟩ : ∃ S2 : ByteArray, ⟨bb.toArray⟩ = S2 := ⟨_, rfl⟩
      rw [hS1] at k2 hteq
      rw [hS2] at k3 k4 hteq
      have HTEQ := Lib.hid hteq
      clear hteq hS1 hS2
      have HRD := Lib.hid (show (readY kn s).2.2 = s3.2 by rw [HQ3.out])
      have OP9 := Lib.hid ((OP.out.below hb9 (Nat.le_refl _)))
      have OM9 := Lib.hid ((OM.out.below hb9 (Nat.le_refl _)))
      obtain ⟨q, hq⟩ : ∃ q, s3.2 = q := ⟨_, rfl⟩
      rw [hq] at cf
      have HQB := Lib.hid (HRD.out.trans hq)
      clear hoe hb9 hb39 hb9' hre hrb hel hbb hq
      cases q with
      | true =>
        have HF := Lib.hid (show RetDec w (ansY (ch :: s)) (.returned (.tuple #[.agg zcells, .int .i64 130])) (w9.setRow N zcells) from by rw [HANS.out, if_pos (.inl HQB.out)]; exact ⟨bel_row HB9.out (Nat.le_refl _) (by omega), rfl⟩)
        clear k2 k3 k4
        go_wp2_with (refine wpList_store_row rfl _ _ _ rfl N zcells (by rfl) (by rfl) _ _ G9.out infoMsgY rfl zcells_all ?_)
        refine bodyPost_ret (ret_msg rfl (setRow_mb G9.out) rfl) rfl ?_
        exact HF.out
      | false =>
        by_cases hz : er = 0
        · subst hz
          by_cases he : eb = bb
          · have te : (S1.toList == S2.toList) = true := by rw [HTEQ.out]; simp [he]
            have hv2 := setRow_mb (cs := mm) G9.out
            have HF := Lib.hid (show RetDec w (ansY (ch :: s)) (.returned (.tuple #[.agg mm, .int .i64 0])) (w9.setRow N mm) from by
              rw [HANS.out, if_neg (by rw [HQB.out, HEE.out]; simp [he, HBB.out])]
              refine ⟨bel_row HB9.out (Nat.le_refl _) (by omega), .slice pA m.pts.length pc, .slice mA m.mts.length mc, ?_, ?_, ?_⟩
              · rw [HQ3.out, ← HMM.out]
              · rw [HQ3.out]; exact Ow.setR OP9.out G9.out (by decide)
              · rw [HQ3.out]; exact Ow.setR OM9.out G9.out (by decide))
            have HV2 := Lib.hid hv2
            clear he hv2
            go_wp2_with (first | (refine wpList_load_row rfl _ _ rfl (N + 2) (by rfl) _ _ _ _ V9.out Try.underlying37 rfl (by rw [HMS2.out]; exact infoMsgY) ?_) | (refine wpList_store_row rfl _ _ _ rfl N mm (by rfl) (by rfl) _ _ G9.out (by rw [HMS2.out]; exact infoMsgY) (by rw [HMS2.out]; rfl) HALL.out ?_))
            refine bodyPost_ret (ret_msg rfl HV2.out HMS2.out) rfl ?_
            exact HF.out
          · have te : (S1.toList == S2.toList) = false := by rw [HTEQ.out]; simp [he]
            have HF := Lib.hid (show RetDec w (ansY (ch :: s)) (.returned (.tuple #[.agg zcells, .int .i64 130])) (w9.setRow N zcells) from by rw [HANS.out, if_pos (.inr (.inr (by rw [HEE.out, HBB.out]; exact he)))]; exact ⟨bel_row HB9.out (Nat.le_refl _) (by omega), rfl⟩)
            clear he
            go_wp2_with (refine wpList_store_row rfl _ _ _ rfl N zcells (by rfl) (by rfl) _ _ G9.out infoMsgY rfl zcells_all ?_)
            refine bodyPost_ret (ret_msg rfl (setRow_mb G9.out) rfl) rfl ?_
            exact HF.out
        · have z1 : (er != 0) = true := by simpa using hz
          have HF := Lib.hid (show RetDec w (ansY (ch :: s)) (.returned (.tuple #[.agg zcells, .int .i64 130])) (w9.setRow N zcells) from by rw [HANS.out, if_pos (.inr (.inl (by rw [HEE.out]; exact hz)))]; exact ⟨bel_row HB9.out (Nat.le_refl _) (by omega), rfl⟩)
          clear k2 k3 k4 hz
          go_wp2_with (refine wpList_store_row rfl _ _ _ rfl N zcells (by rfl) (by rfl) _ _ G9.out infoMsgY rfl zcells_all ?_)
          refine bodyPost_ret (ret_msg rfl (setRow_mb G9.out) rfl) rfl ?_
          exact HF.out
end Go.Proofs.Ythkcnakodlbdpaa.wr
