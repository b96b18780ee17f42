/-
  The walk of the law WireBack: for all inputs it returns true.
-/
import Derived.Test.YthkcnakodlbdpaaWrV
namespace Go.Proofs.Ythkcnakodlbdpaa.lawWireBack
open Go.ChangeShapes Go.WideShapes Go.ChangeAt Go.RowKit plain words ord mem uvs uvc cl wr

theorem mvok_more {w : World} {B C : Nat} {a : MV} (h : MVok w B a) (hC : B ≤ C) : MVok w C a := ⟨h.p.more hC, h.pn, h.pcap, h.pok, h.t.more hC, h.tn, h.tcap, h.tok, h.pt, h.few⟩
theorem mvok_up {w w' : World} {a : MV} (h : MVok w w.heap.size a) (hb : Below w.heap.size w w') : MVok w' w'.heap.size a := mvok_more (h.below hb (Nat.le_refl _)) hb.size
theorem mok_of {w : World} {B : Nat} {a : MV} (h : MVok w B a) (hF : Few a.m) : MOk w B a.m a.pA a.mA a.pc a.mc :=
  ⟨⟨h.p, h.pn, h.pok⟩, ⟨h.t, h.tn, fun x hx => ⟨by have := hF.2.2.2 x hx; omega, h.tok x hx⟩⟩⟩
theorem msgf_of {w : World} {B : Nat} {a : MV} (h : MVok w B a) (hF : Few a.m) : MsgF a.m := ⟨by have := hF.1; omega, h.pt, h.pok, (mok_of h hF).2.2.2⟩
theorem enc_no {m : Msg} {bs : wr.By} {er : Int} (h : encM m = (bs, er)) (he : er ≠ 0) : bs = [] := by
  unfold encM at h
  split at h
  · injection h with h1 h2; exact h1.symm
  · split at h
    · injection h with h1 h2; exact absurd h2.symm he
    · injection h with h1 h2; exact h1.symm
theorem encode_x : True := trivial
theorem encode_y : True := trivial
theorem heavy_w : True := trivial
theorem theirs_w : True := trivial
set_option maxHeartbeats 8000000 in
set_option maxRecDepth 100000 in
theorem walk_ok (a : MV) (w : World) (h0 : MVok w w.heap.size a) :
    Calls Try.prog 6 #[a.val] w fun e w' => e = .returned (.bool true) ∧ Below w.heap.size w w' := by
  obtain ⟨N, hN⟩ : ∃ N, w.heap.size = N := ⟨_, rfl⟩
  obtain ⟨w1, hw1⟩ : ∃ w1, w.alloc (.cells a.cells 31) = w1 := ⟨_, rfl⟩
  have hb1 : Below w.heap.size w w1 := by rw [← hw1]; exact below_al _ _
  have g1 : V w1 N a.cells 31 := by rw [← hw1, ← hN]; exact alloc_new _ _
  have hz1 : w1.heap.size = N + 1 := by rw [← hw1, World.size_alloc, hN]
  have MV1 := Lib.hid (mvok_up h0 hb1)
  have HHV := Lib.hid (wr.heavy_w w1 w1.heap.size a MV1.out (Nat.le_refl _))
  have HB1 := Lib.hid hb1
  obtain ⟨ar, har⟩ : ∃ ar, a.cells = ar := ⟨_, rfl⟩
  have hars : ar.size = 16 := by rw [← har]; rfl
  have HVAL := Lib.hid (show a.val = .agg ar by rw [← har]; rfl)
  rw [har] at hw1 g1
  rw [HVAL.out] at HHV ⊢
  have G1 := Lib.hid g1
  have HAR := Lib.hid har
  have HARS := Lib.hid hars
  clear h0 hb1 g1 har hars
  go_enter Try.func6, Try.ntmps6
  go_wp2_with (refine wpList_load_row rfl _ _ rfl N (by rfl) _ _ _ _ G1.out Try.underlying31 rfl (by rw [HARS.out]; exact infoMsg) ?_)
  refine HHV.out.mono ?_
  clear HHV hw1 hN
  rintro e w2 ⟨⟨hv, rfl, hF⟩, hb2⟩
  have hs2 := hb2.size
  have G2 := Lib.hid (show V w2 N ar 31 from blk_below hb2 G1.out (by omega))
  have MV2 := Lib.hid (mvok_up MV1.out hb2)
  have HB2 := Lib.hid (HB1.out.trans (hb2.mono HB1.out.size))
  have hww2 := HB2.out.size
  clear hb2
  cases hv with
  | true =>
    clear hF
    go_wp2_with (fail)
    go_ret
    exact ⟨rfl, HB2.out⟩
  | false =>
    have HF := Lib.hid (hF rfl)
    have HMF := Lib.hid (msgf_of MV2.out HF.out)
    obtain ⟨⟨bs, er⟩, hen⟩ : ∃ en, encM a.m = en := ⟨_, rfl⟩
    have HEN := Lib.hid hen
    have HEX := Lib.hid (show Calls Try.prog 9 #[.agg ar] w2 (RetEn w2 (bs, er)) from by
      have := wr.encode_x w2 a.m a.pA a.mA a.pc a.mc (mok_of MV2.out HF.out) (by have := HF.out.1; omega) MV2.out.pt (by have := HF.out.2.1; omega) (by have := HF.out.2.2.1; omega)
      rw [hen] at this
      rw [← HAR.out]
      exact this)
    clear hF hen
    go_wp2_with (refine wpList_load_row rfl _ _ rfl N (by rfl) _ _ _ _ G2.out Try.underlying31 rfl (by rw [HARS.out]; exact infoMsg) ?_)
    refine HEX.out.mono ?_
    clear HEX
    rintro e w3 ⟨A3, c3, rfl, ho3, hb3⟩
    replace ho3 : w3.ownsRow w2.heap.size 5 1 (.slice A3 bs.length c3) bs.length (u8s bs) := ho3
    have hs3 := hb3.size
    have HO3 := Lib.hid ho3
    have G3 := Lib.hid (show V w3 N ar 31 from blk_below hb3 G2.out (blk_lt G2.out))
    have MV3 := Lib.hid (mvok_up MV2.out hb3)
    have HB3 := Lib.hid (HB2.out.trans (hb3.mono hww2))
    have HTH := Lib.hid (show Calls Try.prog 11 #[.agg ar] w3 fun e w' => e = .returned (.agg a.cells) ∧ Below w3.heap.size w3 w' from by rw [← HAR.out]; exact wr.theirs_w w3 a)
    obtain ⟨nb, hnb⟩ : ∃ nb, bs.length = nb := ⟨_, rfl⟩
    rw [hnb] at HO3
    simp only [hnb]
    have HNB := Lib.hid hnb
    clear hb3 ho3 hnb
    go_wp2_with (refine wpList_load_row rfl _ _ rfl N (by rfl) _ _ _ _ G3.out Try.underlying31 rfl (by rw [HARS.out]; exact infoMsg) ?_)
    refine HTH.out.mono ?_
    clear HTH
    rintro e w4 ⟨rfl, hb4⟩
    have hs4 := hb4.size
    have G4 := Lib.hid (show V w4 N ar 31 from blk_below hb4 G3.out (blk_lt G3.out))
    have MV4 := Lib.hid (mvok_up MV3.out hb4)
    have HB4 := Lib.hid (HB3.out.trans (hb4.mono HB3.out.size))
    have HO4 := Lib.hid (own_keep HO3.out hb4 (Nat.le_refl _))
    have HEY := Lib.hid (wr.encode_y w4 a.m a.pA a.mA a.pc a.mc (mok_of MV4.out HF.out) (by have := HF.out.1; omega) MV4.out.pt)
    rw [HEN.out] at HEY
    clear hb4
    go_wp2_with (fail)
    refine HEY.out.mono ?_
    clear HEY
    rintro e w5 ⟨A5, c5, rfl, ho5, hb5⟩
    simp only [HNB.out]
    have hs5 := hb5.size
    have G5 := Lib.hid (show V w5 N ar 31 from blk_below hb5 G4.out (blk_lt G4.out))
    have HB5 := Lib.hid (HB4.out.trans (hb5.mono HB4.out.size))
    have HO5 := Lib.hid (own_keep HO4.out hb5 (Nat.le_refl _))
    have hww5 := HB5.out.size
    clear hb5 ho5
    by_cases he : er = 0
    · subst he
      obtain ⟨hlen, ⟨u, hdu, hu1, hu2, hu3⟩, _⟩ := enc_dec (more := []) HMF.out HEN.out
      obtain ⟨hue, huf, _, huw⟩ := dec_back hdu
      have HDU := Lib.hid hdu
      have HU := Lib.hid (And.intro hu1 (And.intro hu2 hu3))
      obtain ⟨A6, c6, hv6, hc61, hc62⟩ : ∃ A c, Value.slice A3 nb c3 = .slice A nb c ∧ nb ≤ c ∧ c ≤ 9223372036854775807 := by
        rcases own_form HO5.out with ⟨e1, e0⟩ | ⟨g, cap, e1, _, _, h1, h2⟩
        · injection e1 with e1 e2 e3; exact ⟨A3, c3, rfl, by omega, by omega⟩
        · unfold maxLen at h2
          injection e1 with e1 e2 e3
          exact ⟨A3, c3, rfl, by omega, by omega⟩
      injection hv6 with e1 e2 e3
      subst e1 e3
      have hnb5 : nb ≤ 32768 := by have := HNB.out; omega
      have hnbi : ((nb : Int) ≤ 32768) := by omega
      have HX := Lib.hid (dec_x w5 w5.heap.size nb c3 A3 bs (own_bs HO5.out) (Nat.le_refl _) hc61 hc62 (by omega))
      clear hdu hu1 hu2 hu3 hlen
      go_wp2_with (fail)
      refine HX.out.mono ?_
      clear HX
      rintro e w6 ⟨b, rfl, hmb, hmeb, hb6⟩
      have hAE : ansE bs = 0 := by unfold ansE; rw [HDU.out]; rfl
      have hAM : ansM bs = u := by unfold ansM; rw [HDU.out]; rfl
      rw [hAE]
      have hbu : b.m = u := hmeb.trans hAM
      have hs6 := hb6.size
      obtain ⟨q, hq⟩ : ∃ q, w6.heap.size = q := ⟨_, rfl⟩
      obtain ⟨x, hx⟩ : ∃ x, w6.alloc (.cells zcells 31) = x := ⟨_, rfl⟩
      have hbx : Below w6.heap.size w6 x := by rw [← hx]; exact below_al _ _
      have vx : V x q zcells 31 := by rw [← hx, ← hq]; exact alloc_new _ _
      have hzx : x.heap.size = q + 1 := by rw [← hx, World.size_alloc, hq]
      unfold zcells at hx
      obtain ⟨y, hy⟩ : ∃ y, x.setRow q b.cells = y := ⟨_, rfl⟩
      have hby : Below w6.heap.size w6 y := by rw [← hy]; exact bel_row hbx (Nat.le_refl _) (by omega)
      have VY := Lib.hid (show V y q b.cells 31 by rw [← hy]; exact setRow_mb vx)
      have VX := Lib.hid vx
      have hzy : y.heap.size = q + 1 := by rw [← hy]; simp [World.setRow, hzx]
      have HALL := Lib.hid (mvcells_all b)
      have MVY := Lib.hid (mvok_up hmb hby)
      have hb56 : Below w5.heap.size w5 y := hb6.trans (hby.mono hs6)
      have GY := Lib.hid (show V y N ar 31 from blk_below hb56 G5.out (blk_lt G5.out))
      have HBY := Lib.hid (HB5.out.trans (hb56.mono hww5))
      have HOY := Lib.hid (own_keep HO5.out hb56 (Nat.le_refl _))
      have hmok := mok_of MVY.out (by rw [hbu]; exact huw)
      obtain ⟨br, hbr⟩ : ∃ br, b.cells = br := ⟨_, rfl⟩
      have hbrs : br.size = 16 := by rw [← hbr]; rfl
      have HVB := Lib.hid (show b.val = .agg br by rw [← hbr]; rfl)
      have HEZ := Lib.hid (show Calls Try.prog 9 #[.agg br] y (RetEn y (bs, 0)) from by
        have := wr.encode_x y b.m b.pA b.mA b.pc b.mc hmok (by rw [hbu]; exact huf.1) MVY.out.pt (by rw [hbu]; have := huw.2.1; omega) (by rw [hbu]; have := huw.2.2.1; omega)
        rw [show encM b.m = (bs, 0) by rw [hbu]; exact hue] at this
        rw [← hbr]
        exact this)
      have HBC := Lib.hid (show b.m.kind = a.m.kind ∧ b.m.seq = a.m.seq ∧ b.m.epoch = a.m.epoch by rw [hbu]; exact HU.out)
      rw [hbr] at hy VY HALL
      rw [HVB.out]
      have HBR := Lib.hid hbr
      have HBRS := Lib.hid hbrs
      clear hb6 hbx vx hby hb56 hmok hbr hbrs hmb hmeb hbu hAE hAM hue huf huw hzy
      go_wp2_with (first | (refine wpList_store_row rfl _ _ _ rfl q br (by rfl) (by rfl) _ _ VX.out (by rw [HBRS.out]; exact infoMsg) (by rw [HBRS.out]; rfl) HALL.out ?_; rw [hy]) | (refine wpList_load_row rfl _ _ rfl q (by rfl) _ _ _ _ VY.out Try.underlying31 rfl (by rw [HBRS.out]; exact infoMsg) ?_))
      refine HEZ.out.mono ?_
      clear HEZ hx hy
      rintro e w7 ⟨A7, c7, rfl, ho7, hb7⟩
      replace ho7 : w7.ownsRow y.heap.size 5 1 (.slice A7 bs.length c7) bs.length (u8s bs) := ho7
      rw [HNB.out] at ho7
      simp only [HNB.out]
      have hs7 := hb7.size
      have HB7 := Lib.hid (HBY.out.trans (hb7.mono HBY.out.size))
      have k2 := conv_string (P := Try.prog) (c := c3) (own_bs (own_keep HOY.out hb7 (Nat.le_refl _))) 33 9 5 Try.underlying33 Try.underlying9 Try.underlying5
      have k3 := conv_string (P := Try.prog) (c := c7) (own_bs ho7) 33 9 5 Try.underlying33 Try.underlying9 Try.underlying5
      have v7 : V w7 q br 31 := blk_below hb7 VY.out (blk_lt VY.out)
      have g7 : V w7 N ar 31 := blk_below hb7 GY.out (blk_lt GY.out)
      have hlq := blk_lt v7
      have hlN := blk_lt g7
      have x0 : w7.cell? ⟨q, 0, none⟩ = some (.int .i64 a.m.kind) := by rw [cell_of_row _ _ _ _ _ _ v7, ← HBR.out, ← HBC.out.1]; rfl
      have x1 : w7.cell? ⟨q, 1, none⟩ = some (.int .i64 a.m.seq) := by rw [cell_of_row _ _ _ _ _ _ v7, ← HBR.out, ← HBC.out.2.1]; rfl
      have x2 : w7.cell? ⟨q, 2, none⟩ = some (.int .i64 a.m.epoch) := by rw [cell_of_row _ _ _ _ _ _ v7, ← HBR.out, ← HBC.out.2.2]; rfl
      have y0 : w7.cell? ⟨N, 0, none⟩ = some (.int .i64 a.m.kind) := by rw [cell_of_row _ _ _ _ _ _ g7, ← HAR.out]; rfl
      have y1 : w7.cell? ⟨N, 1, none⟩ = some (.int .i64 a.m.seq) := by rw [cell_of_row _ _ _ _ _ _ g7, ← HAR.out]; rfl
      have y2 : w7.cell? ⟨N, 2, none⟩ = some (.int .i64 a.m.epoch) := by rw [cell_of_row _ _ _ _ _ _ g7, ← HAR.out]; rfl
      clear hb7 ho7 v7 g7
      go_wp2_with (fail)
      go_ret
      exact ⟨rfl, HB7.out⟩
    · have hnil := enc_no HEN.out he
      have hnb0 : nb = 0 := by rw [← HNB.out, hnil]; rfl
      subst hnb0
      have z1 : (er != 0) = true := by simpa using he
      clear hnil he
      go_wp2_with (fail)
      go_ret
      exact ⟨rfl, HB5.out⟩
end Go.Proofs.Ythkcnakodlbdpaa.lawWireBack
