/-
  The document's Decode.
-/
import Derived.Test.YtmegkemileailaaClOy
namespace Go.Proofs.Ytmegkemileailaa.cl
open Go.ChangeShapes Go.WideShapes Go.ChangeAt Go.RowKit plain words ord mem uvs uvc

set_option maxHeartbeats 4000000 in
set_option maxRecDepth 100000 in
theorem decode_y (w : World) (B n c : Nat) (A : Option Addr) (bs : By) (h : Bs w B A n bs) (hA : A = none → c = 0) (hB : B ≤ w.heap.size) (hnc : n ≤ c) (hcm : c ≤ 9223372036854775807) (hn : n ≤ 1000000000) :
    Calls Try.prog 7 #[.slice A n c] w (RetDec w bs) := by
  have hl := h.len_
  have HH := Lib.hid h
  have HL := Lib.hid hl
  clear h hl
  go_enter Try.func7, Try.ntmps7
  go_wp2_with (fail)
  go_loopg [4, 5, 6, 7] n (fun gg s4 s5 s6 s7 wr => ∃ (at_ m : Nat) (l : List Rec) (A' : Option Addr) (c' : Nat), s4 = .slice A' m c' ∧ s5 = .int .i64 at_ ∧ n - at_ ≤ gg ∧ Aside (DS bs l at_) ∧ Aside (Ow RE wr w.heap.size (.slice A' m c') m l) ∧ Aside (Below w.heap.size w wr))
  case atStart => exact ⟨0, 0, [], _, _, rfl, rfl, by omega, DS.zero bs, (show Ow RE (w.alloc (.cells #[] 32)) w.heap.size (.slice (some ⟨w.heap.size, 0, none⟩) 0 0) 0 [] from Ow.lit w), (Below.refl _ _).alloc (Nat.le_refl _) _⟩
  case round =>
    obtain ⟨at_, m, l, A', c', rfl, rfl, hg, DD, OW, BW⟩ := hrel
    obtain ⟨wv, rfl⟩ : ∃ wv, wv = wr := ⟨wr, rfl⟩
    have hat : at_ ≤ n := by have := DD.out.le; rw [HL.out] at this; exact this
    have p0 : (0 : Int) ≤ (at_ : Int) := by omega
    have p1 : (at_ : Int) ≤ (n : Int) := by omega
    have p2 : (n : Int) ≤ (c : Int) := by omega
    have p3 : (at_ : Int) ≤ (c : Int) := by omega
    have hHv := HH.out.below BW.out hB
    have hBv := Nat.le_trans hB BW.out.size
    rcases A with _ | ⟨b, off, sp⟩
    · obtain rfl := hA rfl
      obtain rfl : n = 0 := by omega
      obtain rfl : at_ = 0 := by omega
      have HSL : Bs wv B none 0 (bs.drop 0) := by rw [List.drop_zero]; exact hHv
      have HF := Lib.hid (one_y wv B 0 0 none _ HSL hBv (Nat.le_refl 0) (by omega) (by omega))
      clear HSL
      go_wp2_with (fail)
      refine HF.out.mono ?_
      rintro e w1 hr
      unfold RetOne at hr
      cases hd : dec1 (bs.drop 0) with
      | none =>
        rw [hd] at hr
        obtain ⟨⟨rr, rfl⟩, hb1⟩ := hr
        have hstop := DD.out.stop hd
        have ho := (OW.out.below hb1 (Nat.le_refl _)).below ((Below.refl _ _).alloc (Nat.le_refl _) (.cells (rc rr).toArray 32)) (Nat.le_refl _)
        have HR := Lib.hid (ret_dec hstop ho ((BW.out.trans (hb1.mono BW.out.size)).trans (((Below.refl _ w1).alloc (Nat.le_refl _) (.cells (rc rr).toArray 32)).mono (Nat.le_trans BW.out.size hb1.size))))
        rw [show (rc rr).toArray = #[.int .i64 rr.sp, .string (tx rr.id), .int .i64 rr.t, .int .u64 rr.v, .int .u64 rr.s] from rfl] at HR ⊢
        clear hb1 hstop ho hd
        go_wp2_with (fail)
        go_ret2
        exact HR.out
      | some p =>
        obtain ⟨r, k⟩ := p
        rw [hd] at hr
        obtain ⟨rfl, hb1⟩ := hr
        have hkp := dec1_pos hd
        have hkl := (dec1_back hd).2.2.2.1
        rw [List.length_drop, HL.out] at hkl
        exact absurd hkp (by omega)
    · have hsp : n = 0 ∨ sp = none := by
        rcases Nat.eq_zero_or_pos n with h0 | h0
        · exact .inl h0
        · obtain ⟨_, _, e⟩ := bs_addr hHv h0
          injection e with e; injection e with _ _ e; exact .inr e
      by_cases hck : c = at_
      · obtain rfl : at_ = n := by omega
        obtain rfl : at_ = c := hck.symm
        have HSL : Bs wv B (some ⟨b, off, sp⟩) 0 (bs.drop at_) := bs_nil hHv (Nat.le_refl _)
        have HF := Lib.hid (one_y wv B 0 0 (some ⟨b, off, sp⟩) _ HSL hBv (Nat.le_refl 0) (by omega) (by omega))
        clear HSL
        go_wp2_with (fail)
        refine HF.out.mono ?_
        rintro e w1 hr
        unfold RetOne at hr
        cases hd : dec1 (bs.drop at_) with
        | none =>
          rw [hd] at hr
          obtain ⟨⟨rr, rfl⟩, hb1⟩ := hr
          have hstop := DD.out.stop hd
          have ho := (OW.out.below hb1 (Nat.le_refl _)).below ((Below.refl _ _).alloc (Nat.le_refl _) (.cells (rc rr).toArray 32)) (Nat.le_refl _)
          have HR := Lib.hid (ret_dec hstop ho ((BW.out.trans (hb1.mono BW.out.size)).trans (((Below.refl _ w1).alloc (Nat.le_refl _) (.cells (rc rr).toArray 32)).mono (Nat.le_trans BW.out.size hb1.size))))
          rw [show (rc rr).toArray = #[.int .i64 rr.sp, .string (tx rr.id), .int .i64 rr.t, .int .u64 rr.v, .int .u64 rr.s] from rfl] at HR ⊢
          clear hb1 hstop ho hd
          go_wp2_with (fail)
          go_ret2
          exact HR.out
        | some p =>
          obtain ⟨r, k⟩ := p
          rw [hd] at hr
          obtain ⟨rfl, hb1⟩ := hr
          have hkp := dec1_pos hd
          have hkl := (dec1_back hd).2.2.2.1
          rw [List.length_drop, HL.out] at hkl
          exact absurd hkp (by omega)
      · have HSL : Bs wv B (some (Addr.add ⟨b, off, sp⟩ at_)) (n - at_) (bs.drop at_) := by
          rcases hsp with h0 | h0
          · rw [show n - at_ = 0 by omega]; exact bs_nil hHv (by omega)
          · subst h0; rw [words.add_plain]; exact bs_drop (c := c) hHv hat
        have HF := Lib.hid (one_y wv B (n - at_) (c - at_) _ _ HSL hBv (by omega) (by omega) (by omega))
        clear HSL
        go_wp2_with (fail)
        refine HF.out.mono ?_
        rintro e w1 hr
        unfold RetOne at hr
        cases hd : dec1 (bs.drop at_) with
        | none =>
          rw [hd] at hr
          obtain ⟨⟨rr, rfl⟩, hb1⟩ := hr
          have hstop := DD.out.stop hd
          have ho := (OW.out.below hb1 (Nat.le_refl _)).below ((Below.refl _ _).alloc (Nat.le_refl _) (.cells (rc rr).toArray 32)) (Nat.le_refl _)
          have HR := Lib.hid (ret_dec hstop ho ((BW.out.trans (hb1.mono BW.out.size)).trans (((Below.refl _ w1).alloc (Nat.le_refl _) (.cells (rc rr).toArray 32)).mono (Nat.le_trans BW.out.size hb1.size))))
          rw [show (rc rr).toArray = #[.int .i64 rr.sp, .string (tx rr.id), .int .i64 rr.t, .int .u64 rr.v, .int .u64 rr.s] from rfl] at HR ⊢
          clear hb1 hstop ho hd
          go_wp2_with (fail)
          go_ret2
          exact HR.out
        | some p =>
          obtain ⟨r, k⟩ := p
          rw [hd] at hr
          obtain ⟨rfl, hb1⟩ := hr
          have hkp := dec1_pos hd
          have hkl := (dec1_back hd).2.2.2.1
          rw [List.length_drop, HL.out] at hkl
          have DN := Lib.hid (DD.out.next hd)
          have hb2 : Below wv.heap.size wv (w1.alloc (.cells #[.int .i64 r.sp, .string (tx r.id), .int .i64 r.t, .int .u64 r.v, .int .u64 r.s] 32)) := hb1.alloc hb1.size _
          have hv2 : RV (w1.alloc (.cells #[.int .i64 r.sp, .string (tx r.id), .int .i64 r.t, .int .u64 r.v, .int .u64 r.s] 32)) w1.heap.size r := alloc_new _ _
          obtain ⟨⟨x0, x1, x2, x3, x4⟩, _⟩ := rv_cells hv2
          have lv := blk_lt hv2
          have ho2 := OW.out.below hb2 (Nat.le_refl _)
          have HB2 := Lib.hid (BW.out.trans (hb2.mono BW.out.size))
          have s2 : wv.heap.size ≤ (w1.alloc (.cells #[.int .i64 r.sp, .string (tx r.id), .int .i64 r.t, .int .u64 r.v, .int .u64 r.s] 32)).heap.size := hb2.size
          have sw := BW.out.size
          have s1 : wv.heap.size ≤ w1.heap.size := hb1.size
          have HO2 := Lib.hid ho2
          have kb : ((k : Int) == 0) = false := by simp; omega
          have k0 : ¬ (k : Int) = 0 := by omega
          have wk : IntKind.i64.wrap ((at_ : Int) + (k : Int)) = ((at_ + k : Nat) : Int) := by rw [IntWalk.i64_in _ (by omega)]; omega
          have hfew := DD.out.few
          have hln := OW.out.1
          have hnew := ls_new (E := RE) (w := w1.alloc (.cells #[.int .i64 r.sp, .string (tx r.id), .int .i64 r.t, .int .u64 r.v, .int .u64 r.s] 32)) 32 r
          rw [show (w1.alloc (.cells #[.int .i64 r.sp, .string (tx r.id), .int .i64 r.t, .int .u64 r.v, .int .u64 r.s] 32)).heap.size = w1.heap.size + 1 by simp] at hnew
          rw [show (rc r).toArray = #[.int .i64 r.sp, .string (tx r.id), .int .i64 r.t, .int .u64 r.v, .int .u64 r.s] from rfl]
          clear hb1 hb2 hv2 ho2 hd
          go_wp2_with (at_builtin; refine append_r rfl (.tmp 20) (.tmp 22) rfl w.heap.size _ m l rfl (HO2.out.below ((Below.refl _ _).alloc (Nat.le_refl _) _) (Nat.le_refl _)) _ _ 1 _ (fun e => by cases e) [r] rfl hnew (by omega) (by simp; omega) ?_; intro A3 c3 w3 hown3 hg3 hA3 hc31 hc32 hs3)
          have hb3 := (HO2.out.below ((Below.refl _ _).alloc (Nat.le_refl _) (.cells #[.int .i64 r.sp, .string (tx r.id), .int .i64 r.t, .int .u64 r.v, .int .u64 r.s] 32)) (Nat.le_refl _)).below_grown (HB2.out.trans (((Below.refl _ _).alloc (Nat.le_refl _) _).mono (by simp; omega))) hg3 (by simp; omega)
          have HO3 := Lib.hid hown3
          have HB3 := Lib.hid hb3
          clear hown3 hg3 hb3
          go_wp2_with (fail)
          go_roundg (n - (at_ + k))
          case measure => omega
          case rel => exact ⟨at_ + k, m + 1, l ++ [r], A3, c3, rfl, by go_num, by omega, DN.out, HO3.out, HB3.out⟩
end Go.Proofs.Ytmegkemileailaa.cl
