/-
  Messages: Encode, the document's.
-/
import Derived.Test.YthkcnakodlbdpaaWrZ
import Derived.Test.YthkcnakodlbdpaaWrC
namespace Go.Proofs.Ythkcnakodlbdpaa.wr
open Go.ChangeShapes Go.WideShapes Go.ChangeAt Go.RowKit plain words ord mem uvs uvc cl

theorem msg_cells {w : World} {mb : Nat} {m : Msg} {P M : Value} {t : TypeId} (h : V w mb (mcells m P M) t) : w.cell? ⟨mb, 0, none⟩ = some (.int .i64 m.kind) ∧ w.cell? ⟨mb, 1, none⟩ = some (.int .i64 m.seq) ∧ w.cell? ⟨mb, 2, none⟩ = some (.int .i64 m.epoch) ∧ w.cell? ⟨mb, 3, none⟩ = some (.int .i64 m.space) ∧ w.cell? ⟨mb, 4, none⟩ = some (.int .i64 m.shard) ∧ w.cell? ⟨mb, 5, none⟩ = some (.string (cl.tx m.id)) ∧ w.cell? ⟨mb, 6, none⟩ = some (.int .i64 m.block) ∧ w.cell? ⟨mb, 7, none⟩ = some (.int .i64 m.rf) ∧ w.cell? ⟨mb, 8, none⟩ = some (.int .i64 m.rt) ∧ w.cell? ⟨mb, 9, none⟩ = some (.int .i64 m.p.1) ∧ w.cell? ⟨mb, 10, none⟩ = some (.int .u64 m.p.2.1) ∧ w.cell? ⟨mb, 11, none⟩ = some (.int .u64 m.p.2.2) ∧ w.cell? ⟨mb, 12, none⟩ = some (.int .i64 m.err) ∧ w.cell? ⟨mb, 13, none⟩ = some (.bool m.more) ∧ w.cell? ⟨mb, 14, none⟩ = some (P) ∧ w.cell? ⟨mb, 15, none⟩ = some (M) := by
  refine ⟨?_, ?_, ?_, ?_, ?_, ?_, ?_, ?_, ?_, ?_, ?_, ?_, ?_, ?_, ?_, ?_⟩ <;> (rw [cell_of_row _ _ _ _ _ _ h]; rfl)
set_option maxHeartbeats 8000000 in
set_option maxRecDepth 100000 in
theorem encode_y (w : World) (m : Msg) (pA mA : Option Addr) (pc mc : Nat) (hok : MOk w w.heap.size m pA mA pc mc) (hid : m.id.length ≤ 1000000000) (hpt : PtOk m.p) :
    Calls Try.prog 10 #[.agg (mcells m (.slice pA m.pts.length pc) (.slice mA m.mts.length mc))] w (RetEn w (encM m)) := by
  obtain ⟨i0, hi, hz0, hz1, hz2⟩ := info_parts mem.infoB
  obtain ⟨N, hN⟩ : ∃ N, w.heap.size = N := ⟨_, rfl⟩
  obtain ⟨w1, hw1⟩ : ∃ w1, w.alloc (.cells (mcells m (.slice pA m.pts.length pc) (.slice mA m.mts.length mc)) 37) = w1 := ⟨_, rfl⟩
  have hb1 : Below w.heap.size w w1 := by rw [← hw1]; exact below_al _ _
  have gp : V w1 N (mcells m (.slice pA m.pts.length pc) (.slice mA m.mts.length mc)) 37 := by rw [← hw1, ← hN]; exact alloc_new _ _
  have hz1' : w1.heap.size = N + 1 := by rw [← hw1, World.size_alloc, hN]
  have c0 : w1.cell? ⟨N, 0, none⟩ = some (.int .i64 m.kind) := by rw [cell_of_row _ _ _ _ _ _ gp]; rfl
  have hl1 : N < w1.heap.size := by omega
  have HN := Lib.hid hN
  have B1 := Lib.hid hb1
  obtain ⟨an, han⟩ : ∃ an, encM m = an := ⟨_, rfl⟩
  rw [han]
  obtain ⟨k, hk⟩ : ∃ k, m.kind = k := ⟨_, rfl⟩
  have HK := Lib.hid hk
  rw [hk] at c0
  by_cases hbad : k < 1 ∨ 8 < k
  · have HE := Lib.hid (show RetEn w an (.returned (.tuple #[.slice none 0 0, .int .i64 1])) w1 from by rw [← han]; unfold encM; rw [if_pos (by rw [hk]; exact hbad)]; exact RetEn.no hb1)
    clear hk han gp hok hid hpt hb1
    by_cases h1 : k < 1
    · clear hbad
      go_enter Try.func10, Try.ntmps10
      go_wp2_with (fail)
      go_ret2
      exact HE.out
    · have h2 : 8 < k := by omega
      clear hbad
      go_enter Try.func10, Try.ntmps10
      go_wp2_with (fail)
      go_ret2
      exact HE.out
  · have h1 : ¬ k < 1 := fun e => hbad (.inl e)
    have h2 : ¬ 8 < k := fun e => hbad (.inr e)
    obtain ⟨kn, rfl⟩ : ∃ kn : Nat, k = (kn : Int) := ⟨k.toNat, by omega⟩
    obtain ⟨ch, hch⟩ : ∃ ch, UInt8.ofNat kn = ch := ⟨_, rfl⟩
    have hkm : (kn : Int) % 256 = kn := by omega
    have hkc : (kn : Int) = (ch.toNat : Int) := by rw [← hch, ofNat_lt kn (by omega)]
    obtain ⟨F, hF⟩ : ∃ F, pass encC [ch] m = F := ⟨_, rfl⟩
    have HR := Lib.hid (show an = if F.1 = 0 then (F.2.1, 0) else ([], F.1) by rw [← han]; unfold encM; rw [if_neg (by rw [hk]; exact hbad), hk, Int.toNat_natCast, hch, hF])
    have HQ0 := Lib.hid (show Qo 0 F 0 (bnd (encC.num [ch] m.seq 1099511627776) m fun s a => bnd (encC.num s m.epoch 1099511627776) m fun s b => rest encC s m ({ m with seq := a, epoch := b } : Msg)) from by rw [← hF]; exact Qo.refl)
    obtain ⟨w2, hw2⟩ : ∃ w2, w1.alloc (.cells #[.slice none 0 0, .int .i64 0] 57) = w2 := ⟨_, rfl⟩
    have hb2 : Below w1.heap.size w1 w2 := by rw [← hw2]; exact below_al _ _
    have hz2' : w2.heap.size = N + 2 := by rw [← hw2, World.size_alloc, hz1']
    have hw2' : w1.alloc (.cells #[.slice none 0 0, .int .i64 0] 57) = w2 := hw2
    have g2 : w2.heap[N + 1]? = some (.cells #[.slice none 0 0, .int .i64 0] 57 (0, 0)) := by rw [← hw2, ← hz1']; exact alloc_new _ _
    have gp2 := blk_below hb2 gp (by omega)
    have d0 : w2.cell? ⟨N + 1, 0, none⟩ = some (.slice none 0 0) := by rw [cell_of_row _ _ _ _ _ _ g2]; rfl
    have dk : w2.cell? ⟨N, 0, none⟩ = some (.int .i64 kn) := by rw [cell_of_row _ _ _ _ _ _ gp2, ← hk]; rfl
    have hl2 : N + 1 < w2.heap.size := by omega
    have q0 := Wb.at_ d0
    have q1 := Wb.at_ dk
    have HB2 := Lib.hid (show Below w.heap.size w w2 from hb1.trans (hb2.mono (by omega)))
    have HG2 := Lib.hid g2
    have HGP2 := Lib.hid gp2
    rw [hN] at hok
    have HOK := Lib.hid (fun (u : World) (hu : Below N w u) => (show MOk u N m pA mA pc mc from ⟨⟨hok.1.1.below hu (Nat.le_refl _), hok.1.2⟩, ⟨hok.2.1.below hu (Nat.le_refl _), hok.2.2⟩⟩))
    have HID := Lib.hid hid
    have HPT := Lib.hid hpt
    have HK18 := Lib.hid (show 1 ≤ m.kind ∧ m.kind ≤ 8 by omega)
    clear hk han gp hok hid hpt hb1 hbad hF hch hb2 g2 gp2
    go_enter Try.func10, Try.ntmps10
    go_wp2_with (fail)
    refine wp_region_plan [([0, 1, 2, 3, 4, 5, 6, 7], some (8, false)), ([], some (9, true)), ([10, 11], some (12, true)), ([], none)] (by kernel_rfl) (by kernel_rfl) ?_
    refine seg_act _ (by dsimp only [pick, ord.at_]) _ (by dsimp only [pick, ord.at_]) ?_
    repeat (go_big_quiet_step (fail))
    refine wpQuiet_nil ?_
    intro K1 k1 k2
    clear k1
    go_wp2_with (fail)
    have hb3 : Below w2.heap.size w2 ((w2.alloc (.cells #[.int .u8 (ch.toNat : Int)] 5)).drew) := ((Below.refl _ _).alloc (Nat.le_refl _) _).drew
    have hnew : Rd (w2.alloc (.cells #[.int .u8 (ch.toNat : Int)] 5)) (w2.heap.size + 1) (some ⟨w2.heap.size, 0, none⟩) 1 (u8s [ch]) := rd_lit 5 (u8s [ch]) rfl
    have hnew := hnew.drew
    obtain ⟨w3, hw3⟩ : ∃ w3, (w2.alloc (.cells #[.int .u8 (ch.toNat : Int)] 5)).drew = w3 := ⟨_, rfl⟩
    rw [hw3] at hb3 hnew ⊢
    have hs3 : w2.heap.size ≤ w3.heap.size := hb3.size
    have ho3 : w3.ownsRow N 5 1 (.slice none 0 0) 0 (u8s []) := ⟨rfl, .inl ⟨rfl, rfl⟩⟩
    have g3 := blk_below hb3 HG2.out (by omega)
    refine k2 _ _ hb3 ?_
    clear k2 q0 q1 dk d0
    refine seg_write _ (by dsimp only [pick, ord.at_]) _ (by dsimp only [pick, ord.at_]) ?_
    repeat (go_big_quiet_step (fail))
    refine wpQuiet_nil ?_
    intro K2 k3
    rw [hz2'] at hnew
    go_wp2_with (at_builtin; (refine wpList_append_rd rfl (.tmp 19) (.tmp 23) 33 rfl N 5 i0 (.int .u8 0) 1 1 Try.underlying33 hi hz0 hz1 hz2 rfl (by decide) (.slice none 0 0) 0 (u8s []) rfl ho3 (N + 2 + 1) _ 1 1 (fun e => by cases e) (u8s [ch]) rfl hnew (u8s_one _) (by unfold maxLen; omega) (by omega) (by omega) ?_; intro v4 w4 hown4 hg4 hnn4; obtain ⟨A4, cc4, e4, _⟩ := cl.own_fit (l := [ch]) (n := 0 + 1) rfl hown4; subst e4; have gb4 : w4.heap[N + 1]? = some (.cells #[.slice none 0 0, .int .i64 0] 57 (0, 0)) := (hg4.block (N + 1) (blk_lt g3) (fun e => by cases e)).trans g3; have c4 : w4.cell? ⟨N + 1, 0, none⟩ = some (.slice none 0 0) := (by rw [cell_of_row _ _ _ _ _ _ gb4]; rfl); have f4 := frozen_of_row w4 (N + 1) 0 _ _ gb4; have hl4 := blk_lt gb4))
    have hb4 : Below w2.heap.size w2 w4 := by
      refine ((Chg.of_below hb3).grown hg4 (fun k hk _ => by cases hk)).to_below
    have ho4 : w4.ownsRow N 5 1 (.slice A4 1 cc4) 1 (u8s [ch]) := hown4
    have HO5 := Lib.hid (out_row gb4 ho4 rfl)
    have hb5 : Below w2.heap.size w2 w4 := hb4
    have gp4 := blk_below hb4 HGP2.out (by omega)
    have hs4 := hb4.size
    obtain ⟨w5, hw5⟩ : ∃ w5, w4.setCell ⟨N + 1, 0, none⟩ (.slice A4 1 cc4) = w5 := ⟨_, rfl⟩
    have gp5 : V w5 N (mcells m (.slice pA m.pts.length pc) (.slice mA m.mts.length mc)) 37 := by rw [← hw5]; exact (Below.heap_setCell w4 ⟨N + 1, 0, none⟩ _ N (by show N ≠ N + 1; omega)).trans gp4
    have hbN : Below N w w5 := by rw [← hw5, ← HN.out]; exact bel1 (HB2.out.trans (hb4.mono (by omega))) (by rw [HN.out]; omega) _
    have hs5 : w5.heap.size = w4.heap.size := by rw [← hw5]; simp
    have HO6 : Hid (OutY w5 (N + 1) N [ch] 0) := Lib.hid (by rw [← hw5]; exact HO5.out)
    have HGP5 := Lib.hid gp5
    have HBN := Lib.hid hbN
    have d1 : w5.cell? ⟨N, 1, none⟩ = some (.int .i64 m.seq) := by rw [cell_of_row _ _ _ _ _ _ gp5]; rfl
    have hNU := Lib.hid (number_y w5 (N + 1) N [ch] 0 m.seq 1099511627776 HO6.out (by omega) (by simp) (by omega))
    obtain ⟨r0, hr0⟩ : ∃ r, numE [ch] m.seq 1099511627776 = r := ⟨_, rfl⟩
    rw [hr0] at hNU
    have hv0 : r0.2.2 = m.seq := by rw [← hr0]; exact numE_v _ _ _
    have hl5 : N < w5.heap.size := blk_lt gp5
    have HW5 := Lib.hid hw5
    clear hown4 hg4 hnn4 gb4 hnew ho3 ho4 g3 hb3 hw3 hb4 hb5 gp4 gp5 hbN
    refine seg_write _ (by dsimp only [pick, ord.at_]) _ (by dsimp only [pick, ord.at_]) ?_
    repeat (go_big_quiet_step (fail))
    refine wpQuiet_nil ?_
    intro K3 k4
    go_wp2_with (fail)
    refine seg_end _ (by dsimp only [pick, ord.at_]) ?_
    repeat (go_big_quiet_step (fail))
    refine wpQuiet_nil (NoPanic.normal ?_)
    go_wp2_with (fail)
    refine hNU.out.mono ?_
    rintro en w6 ⟨rfl, s1, ho, hs, hlen1, hc⟩
    obtain ⟨e1, he⟩ : ∃ e, st 0 r0.1 = e := ⟨_, rfl⟩
    simp only [he] at ho hs
    have HC6 := Lib.hid hc
    have HQ1 := Lib.hid (HQ0.out.step hr0 he hs hv0)
    have hs6 := hc.size
    have hg6 := ho.lt
    have gp6 := ty_var HGP5.out hc (by omega) (by decide)
    have hl6 : N < w6.heap.size := blk_lt gp6
    have d2 : w6.cell? ⟨N, 2, none⟩ = some (.int .i64 m.epoch) := by rw [cell_of_row _ _ _ _ _ _ gp6]; rfl
    have hNU2 := Lib.hid (number_y w6 (N + 1) N s1 e1 m.epoch 1099511627776 ho (by omega) (by simp at hlen1; omega) (by omega))
    obtain ⟨r1, hr1⟩ : ∃ r, numE s1 m.epoch 1099511627776 = r := ⟨_, rfl⟩
    rw [hr1] at hNU2
    have hv1 : r1.2.2 = m.epoch := by rw [← hr1]; exact numE_v _ _ _
    clear ho hs hc he hr0 hv0 hNU d1 gp6
    go_wp2_with (fail)
    refine hNU2.out.mono ?_
    rintro en w7 ⟨rfl, s2, ho, hs, hlen2, hc⟩
    obtain ⟨e2, he⟩ : ∃ e, st e1 r1.1 = e := ⟨_, rfl⟩
    simp only [he] at ho hs
    have HC7 := Lib.hid (ty_trans HC6.out hc)
    have HQ2 := Lib.hid (show Qo 0 F e2 (rest encC s2 m m) from HQ1.out.step hr1 he hs hv1)
    have hs7 := hc.size
    have hg7 := ho.lt
    have gp7 := ty_var HGP5.out HC7.out (by omega) (by decide)
    have hl7 : N < w7.heap.size := blk_lt gp7
    obtain ⟨x0, x1, x2, x3, x4, x5, x6, x7, x8, x9, x10, x11, x12, x13, x14, x15⟩ := msg_cells gp7
    have HFI := Lib.hid (fields_y w7 (N + 1) N N s2 e2 m pA mA pc mc ho (HOK.out w7 (HBN.out.trans (ty_below HC7.out (by omega) (by omega) (by omega)))) HID.out HPT.out HK18.out (by omega) (by omega) (by omega) (by simp at hlen1; omega))
    obtain ⟨r2, hr2⟩ : ∃ r, rest encC s2 m m = r := ⟨_, rfl⟩
    rw [hr2] at HFI HQ2
    clear ho hs hc he hr1 hv1 hNU2 d2 gp7 hr2
    go_wp2_with (fail)
    refine HFI.out.mono ?_
    rintro en w8 ⟨rfl, s3, ho, hs, hlen3, hc⟩
    obtain ⟨e3, he⟩ : ∃ e, st e2 r2.1 = e := ⟨_, rfl⟩
    simp only [he] at ho hs
    have HB8 := Lib.hid (show Below N w w8 from HBN.out.trans (ty_below (ty_trans HC7.out hc) (by omega) (by omega) (by omega)))
    have hF1 : F.1 = e3 := by
      have h1 := HQ2.out.1
      rw [st_0, he] at h1
      exact h1
    have hF2 : e3 = 0 → s3 = F.2.1 := fun e => (hs e).trans (HQ2.out.2 (by rw [st_0, hF1]; exact e)).symm
    have hg8 := ho.lt
    obtain ⟨A, cA, b0, b1, _, _, _, _, _, hown⟩ := ho.cells
    have HOW := Lib.hid hown
    have HFF := Lib.hid (And.intro hF1 hF2)
    clear ho hs hc he hown hF1 hF2 x0 x1 x2 x3 x4 x5 x6 x7 x8 x9 x10 x11 x12 x13 x14 x15
    by_cases hz : e3 = 0
    · subst hz
      have HE := Lib.hid (show RetEn w an (.returned (.tuple #[.slice A s3.length cA, .int .i64 0])) w8 from by
        rw [HR.out, if_pos HFF.out.1, ← HFF.out.2 rfl]
        exact ⟨A, cA, rfl, by rw [HN.out]; exact HOW.out, by rw [HN.out]; exact HB8.out⟩)
      go_wp2_with (fail)
      go_ret2
      exact HE.out
    · have z1 : (e3 != 0) = true := by simpa using hz
      have HE := Lib.hid (show RetEn w an (.returned (.tuple #[.slice none 0 0, .int .i64 e3])) w8.drew from by
        rw [HR.out, HFF.out.1, if_neg hz]
        exact RetEn.no (by rw [HN.out]; exact HB8.out.drew))
      have q1 := Wb.at_ b1
      clear hz
      go_wp2_with (fail)
      refine wp_region_plan [([0, 1, 2, 3, 4, 5], none)] (by kernel_rfl) (by kernel_rfl) ?_
      refine seg_end _ (by dsimp only [pick, ord.at_]) ?_
      repeat (go_big_quiet_step (fail))
      refine wpQuiet_nil (NoPanic.normal ?_)
      clear q1
      go_wp2_with (fail)
      go_ret2
      exact HE.out
end Go.Proofs.Ythkcnakodlbdpaa.wr
