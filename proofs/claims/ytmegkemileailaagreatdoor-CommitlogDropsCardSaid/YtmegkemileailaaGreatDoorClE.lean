/-
  The commit log's Encode.
-/
import Derived.Test.YtmegkemileailaaGreatDoorClR
import Derived.Test.YtmegkemileailaaGreatDoorRowStr
import Derived.Test.YtmegkemileailaaGreatDoorTxt
namespace Go.Proofs.YtmegkemileailaaGreatDoor.cl
open Go.ChangeShapes Go.WideShapes Go.ChangeAt Go.RowKit plain words ord mem uvs uvc

def encB (r : Rec) : By := if err r = 0 then enc r else []
theorem encB_ok {r : Rec} (h : err r = 0) : encB r = enc r := by unfold encB; rw [if_pos h]
theorem encB_no {r : Rec} {e : Int} (h : err r = e) (he : e ≠ 0) : encB r = [] := by unfold encB; rw [if_neg (by rw [h]; exact he)]
def RetEnc (w : World) (r : Rec) (e : Ending) (w' : World) : Prop :=
  ∃ A c, e = .returned (.tuple #[.slice A (encB r).length c, .int .i64 (err r)]) ∧ w'.ownsRow w.heap.size 5 1 (.slice A (encB r).length c) (encB r).length (u8s (encB r)) ∧ Below w.heap.size w w' ∧ (A = none → c = 0)
theorem ret_no {w w' : World} {r : Rec} {e : Int} (h : err r = e) (he : e ≠ 0) (hb : Below w.heap.size w w') : RetEnc w r (.returned (.tuple #[.slice none 0 0, .int .i64 e])) w' := by
  refine ⟨none, 0, by rw [encB_no h he, h]; rfl, ?_, hb, fun _ => rfl⟩
  rw [encB_no h he]
  exact ⟨by simp [u8s], .inl ⟨rfl, rfl⟩⟩
/-- the record's copy, and the bytes so far -/
structure EV (w0 w : World) (r : Rec) (B : Nat) (l : By) : Prop where
  row : w.heap[w0.heap.size]? = some (.cells (rc r).toArray 36 (0, 0))
  out : OutV w (w0.heap.size + 1) B l
  bel : Below w0.heap.size w0 w
  lo : w0.heap.size + 1 < B
  hi : B ≤ w.heap.size
section
variable {w0 w w' : World} {r : Rec} {B : Nat} {l l' : By}
theorem EV.step (h : EV w0 w r B l) {e : Ending} (hr : RetOut w (w0.heap.size + 1) B l' e w') : e = .returned (.tuple #[]) ∧ EV w0 w' r B l' := by
  obtain ⟨h1, h2, h3⟩ := hr
  have hs := h.bel.size
  have hlo := h.lo
  refine ⟨h1, ⟨h3.blk h.row (fun e => by rcases e with e | e <;> omega), h2, h.bel.trans (h3.below hs (fun k hk => ?_)), h.lo, Nat.le_trans h.hi h3.size⟩⟩
  rcases hk with e | e <;> omega
theorem EV.cells (h : EV w0 w r B l) : w.cell? ⟨w0.heap.size, 0, none⟩ = some (.int .i64 r.sp) ∧ w.cell? ⟨w0.heap.size, 1, none⟩ = some (.string (tx r.id)) ∧ w.cell? ⟨w0.heap.size, 2, none⟩ = some (.int .i64 r.t) ∧ w.cell? ⟨w0.heap.size, 3, none⟩ = some (.int .u64 r.v) ∧ w.cell? ⟨w0.heap.size, 4, none⟩ = some (.int .u64 r.s) := by
  have g := h.row
  exact ⟨by rw [cell_of_row _ _ _ _ _ _ g]; rfl, by rw [cell_of_row _ _ _ _ _ _ g]; rfl, by rw [cell_of_row _ _ _ _ _ _ g]; rfl, by rw [cell_of_row _ _ _ _ _ _ g]; rfl, by rw [cell_of_row _ _ _ _ _ _ g]; rfl⟩
theorem EV.var (h : EV w0 w r B l) : ∃ A c, w.cell? ⟨w0.heap.size + 1, 0, none⟩ = some (.slice A l.length c) ∧ w.frozen? ⟨w0.heap.size + 1, 0, none⟩ = false ∧ w.ownsRow B 5 1 (.slice A l.length c) l.length (u8s l) := by
  obtain ⟨A, c, g, o⟩ := h.out
  exact ⟨A, c, by rw [cell_of_row _ _ _ _ _ _ g]; rfl, frozen_of_row _ _ 0 _ _ g, o⟩
theorem EV.keep (h : EV w0 w r B l) {o : Option Nat} {w2 : World} (hg : w.grownBy w2 o) (ho : ∀ k, o = some k → B ≤ k) : w2.cell? ⟨w0.heap.size + 1, 0, none⟩ = w.cell? ⟨w0.heap.size + 1, 0, none⟩ ∧ w2.frozen? ⟨w0.heap.size + 1, 0, none⟩ = false ∧ w2.cell? ⟨w0.heap.size + 1, 0, none⟩ ≠ none := by
  obtain ⟨A, c, g, _⟩ := h.out
  have hlo := h.lo
  have g2 := (hg.block _ (blk_lt g) (fun e => by have := ho _ e.symm; omega)).trans g
  exact ⟨by rw [cell_of_row _ _ _ _ _ _ g2, cell_of_row _ _ _ _ _ _ g], frozen_of_row _ _ 0 _ _ g2, by rw [cell_of_row _ _ _ _ _ _ g2]; exact fun e => by cases e⟩
theorem EV.keepr (h : EV w0 w r B l) {o : Option Nat} {w2 : World} (hg : w.grownBy w2 o) (ho : ∀ k, o = some k → B ≤ k) (j : Nat) : w2.cell? ⟨w0.heap.size, j, none⟩ = w.cell? ⟨w0.heap.size, j, none⟩ := by
  have hlo := h.lo
  have g2 := (hg.block _ (blk_lt h.row) (fun e => by have := ho _ e.symm; omega)).trans h.row
  rw [cell_of_row _ _ _ _ _ _ g2, cell_of_row _ _ _ _ _ _ h.row]
theorem EV.app (h : EV w0 w r B l) {o : Option Nat} {w2 : World} {v2 : Value} {n : Nat} (hg : w.grownBy w2 o) (ho : ∀ k, o = some k → B ≤ k) (hown : w2.ownsRow B 5 1 v2 n (u8s l')) (hl : l'.length = n) : EV w0 (w2.setCell ⟨w0.heap.size + 1, 0, none⟩ v2) r B l' := by
  obtain ⟨A, c, g, _⟩ := h.out
  have hlo := h.lo
  have g2 := (hg.block _ (blk_lt g) (fun e => by have := ho _ e.symm; omega)).trans g
  have hc : Chg (fun k => k = w0.heap.size + 1 ∨ B ≤ k) w w2 := (Chg.refl _ _).grown hg (fun k hk _ => .inr (ho k hk))
  exact (h.step (out_put g2 hown hl hc (by omega))).2
/-- the variable is emptied: what it held lies on -/
theorem EV.empty (h : EV w0 w r B l) : EV w0 (w.setCell ⟨w0.heap.size + 1, 0, none⟩ (.slice none 0 0)) r w.heap.size [] := by
  obtain ⟨A, c, g, _⟩ := h.out
  have hlo := h.lo
  have hhi := h.hi
  have hs := h.bel.size
  have hc : Chg (fun k => k = w0.heap.size + 1) w (w.setCell ⟨w0.heap.size + 1, 0, none⟩ (.slice none 0 0)) := chg_set _ _ _ _
  refine ⟨hc.blk h.row (by omega), ⟨none, 0, ?_, by simp [u8s], .inl ⟨rfl, rfl⟩⟩, h.bel.trans (hc.below hs (fun k hk => by omega)), by omega, by simp⟩
  have := heap_setCell_same w (w0.heap.size + 1) 0 _ _ (.slice none 0 0) g
  simpa using this
end
theorem err1 {r : Rec} (h : r.sp < 0 ∨ 4 ≤ r.sp ∨ r.t < 0 ∨ 1099511627776 < r.t) : err r = 1 := by unfold err; rw [if_pos h]
theorem err80 {r : Rec} (h : ¬ (r.sp < 0 ∨ 4 ≤ r.sp ∨ r.t < 0 ∨ 1099511627776 < r.t)) (h2 : r.id.length < 1 ∨ 16 < r.id.length) : err r = 80 := by unfold err; rw [if_neg h, if_pos h2]
set_option maxHeartbeats 4000000 in
set_option maxRecDepth 100000 in
theorem encode_x (w : World) (r : Rec) (hn : Num r) (hid : r.id.length ≤ 9223372036854775807) :
    Calls Tryz.prog 39 #[.agg #[.int .i64 r.sp, .string (tx r.id), .int .i64 r.t, .int .u64 r.v, .int .u64 r.s]] w (RetEnc w r) := by
  obtain ⟨wb, hwb⟩ : ∃ wb, w.alloc (.cells #[.int .i64 r.sp, .string (tx r.id), .int .i64 r.t, .int .u64 r.v, .int .u64 r.s] 36) = wb := ⟨_, rfl⟩
  have hbb : Below w.heap.size w wb := by rw [← hwb]; exact (Below.refl _ _).alloc (Nat.le_refl _) _
  have gb : wb.heap[w.heap.size]? = some (.cells #[.int .i64 r.sp, .string (tx r.id), .int .i64 r.t, .int .u64 r.v, .int .u64 r.s] 36 (0, 0)) := by rw [← hwb]; exact alloc_new _ _
  have hsb : wb.heap.size = w.heap.size + 1 := by rw [← hwb]; simp
  have hlb : w.heap.size < wb.heap.size := blk_lt gb
  have c0 : wb.cell? ⟨w.heap.size, 0, none⟩ = some (.int .i64 r.sp) := by rw [cell_of_row _ _ _ _ _ _ gb]; rfl
  have c1 : wb.cell? ⟨w.heap.size, 1, none⟩ = some (.string (tx r.id)) := by rw [cell_of_row _ _ _ _ _ _ gb]; rfl
  have c2 : wb.cell? ⟨w.heap.size, 2, none⟩ = some (.int .i64 r.t) := by rw [cell_of_row _ _ _ _ _ _ gb]; rfl
  have htx := tx_size r.id
  obtain ⟨L, hL⟩ : ∃ L, r.id.length = L := ⟨_, rfl⟩
  rw [hL] at htx hid
  have KL := Lib.hid hL
  have HB := Lib.hid hbb
  have GB := Lib.hid gb
  have HSB := Lib.hid hsb
  have HNUM := Lib.hid hn
  clear hbb gb hsb hL hn
  by_cases a1 : r.sp < 0
  · have HE := Lib.hid (err1 (r := r) (.inl a1))
    go_enter Tryz.func39, Tryz.ntmps39
    go_wp2_with (fail)
    go_ret2
    exact ret_no HE.out (by decide) HB.out
  by_cases a2 : 4 ≤ r.sp
  · have HE := Lib.hid (err1 (r := r) (.inr (.inl a2)))
    go_enter Tryz.func39, Tryz.ntmps39
    go_wp2_with (fail)
    go_ret2
    exact ret_no HE.out (by decide) HB.out
  by_cases a3 : r.t < 0
  · have HE := Lib.hid (err1 (r := r) (.inr (.inr (.inl a3))))
    go_enter Tryz.func39, Tryz.ntmps39
    go_wp2_with (fail)
    go_ret2
    exact ret_no HE.out (by decide) HB.out
  by_cases a4 : 1099511627776 < r.t
  · have HE := Lib.hid (err1 (r := r) (.inr (.inr (.inr a4))))
    go_enter Tryz.func39, Tryz.ntmps39
    go_wp2_with (fail)
    go_ret2
    exact ret_no HE.out (by decide) HB.out
  have hno : ¬ (r.sp < 0 ∨ 4 ≤ r.sp ∨ r.t < 0 ∨ 1099511627776 < r.t) := by omega
  by_cases a5 : L < 1
  · have HE := Lib.hid (err80 hno (.inl (by rw [KL.out]; exact a5)))
    have b5 : (L : Int) < 1 := by omega
    go_enter Tryz.func39, Tryz.ntmps39
    go_wp2_with (fail)
    go_ret2
    exact ret_no HE.out (by decide) HB.out
  have b5 : ¬ (L : Int) < 1 := by omega
  by_cases a6 : 16 < L
  · have HE := Lib.hid (err80 hno (.inr (by rw [KL.out]; exact a6)))
    have b6 : (16 : Int) < (L : Int) := by omega
    go_enter Tryz.func39, Tryz.ntmps39
    go_wp2_with (fail)
    go_ret2
    exact ret_no HE.out (by decide) HB.out
  have b6 : ¬ (16 : Int) < (L : Int) := by omega
  have GOOD := Lib.hid (show Good r from ⟨by omega, by omega, by omega, by omega, by rw [KL.out]; omega, by rw [KL.out]; omega⟩)
  have hE1 : EV w (wb.alloc (.cells #[.slice none 0 0] 28)) r (w.heap.size + 2) [] := by
    refine ⟨blk_below ((Below.refl _ _).alloc (Nat.le_refl _) _) GB.out hlb, ⟨none, 0, ?_, by simp [u8s], .inl ⟨rfl, rfl⟩⟩, HB.out.trans ((Below.refl _ _).alloc (by omega) _), by omega, by simp; omega⟩
    have := alloc_new wb (.cells #[.slice none 0 0] 28)
    rw [HSB.out] at this
    exact this
  have E1 := Lib.hid hE1
  have WB := Lib.hid hwb
  have hsp : ((r.sp.toNat : Nat) : Int) = r.sp := by omega
  have ht : ((r.t.toNat : Nat) : Int) = r.t := by omega
  have HN := Lib.hid (num_c _ (w.heap.size + 1) (w.heap.size + 2) [] r.sp.toNat hE1.out (by omega) hE1.hi (by simp) (by omega))
  rw [hsp] at HN
  have HT := Lib.hid ht
  obtain ⟨i0, hi, hz0, hz1, hz2⟩ := info_parts mem.infoB
  have e0 : uv r.sp.toNat ++ uv L ++ r.id ++ uv r.t.toNat ++ be 8 r.v.toNat ++ be 8 r.s.toNat = body r := by unfold body; rw [KL.out]; simp only [List.append_assoc]
  have EB := Lib.hid e0
  have u1 := uv_len r.sp.toNat
  have u2 := uv_len L
  have u3 := uv_len r.t.toNat
  clear hwb hE1 hsp ht c0 c1 c2 e0 hno
  go_enter Tryz.func39, Tryz.ntmps39
  go_wp2_with (fail)
  rw [WB.out]
  refine HN.out.mono ?_
  rintro e w1 hr
  obtain ⟨rfl, h1⟩ := E1.out.step hr
  rw [List.nil_append] at h1
  have E2 := Lib.hid h1
  obtain ⟨c0, c1, _⟩ := h1.cells
  have HN2 := Lib.hid (num_c w1 (w.heap.size + 1) (w.heap.size + 2) (uv r.sp.toNat) L h1.out (by omega) h1.hi (by omega) (by omega))
  have s1 := h1.bel.size
  have l1 : w.heap.size < w1.heap.size := by have := h1.hi; omega
  clear h1 hr HN E1
  go_wp2_with (fail)
  refine HN2.out.mono ?_
  rintro e w2 hr
  obtain ⟨rfl, h1⟩ := E2.out.step hr
  have E3 := Lib.hid h1
  clear c0 c1
  obtain ⟨c0, c1, c2, _⟩ := h1.cells
  obtain ⟨A, c, cv, fv, hown⟩ := h1.var
  have l2 : w.heap.size + 1 < w2.heap.size := by have := h1.hi; omega
  have hY2 : (uv r.sp.toNat ++ uv L).length ≤ 20 := by rw [List.length_append]; omega
  obtain ⟨Y2, hYe⟩ : ∃ Y, uv r.sp.toNat ++ uv L = Y := ⟨_, rfl⟩
  rw [hYe] at cv hown hY2 E3 h1 EB
  have hB2 := h1.hi
  have HOWN := Lib.hid hown
  clear h1 hr HN2 E2 hYe hown
  go_wp2_with (at_builtin; refine Lib.wpList_append_own_string _ rfl (.tmp 49) (.tmp 51) 28 9 rfl (w.heap.size + 2) 5 i0 Tryz.underlying28 Tryz.underlying9 hi hz0 hz1 hz2 (.slice A Y2.length c) _ _ rfl HOWN.out (tx r.id) rfl (by unfold maxLen; omega) (by omega) hB2 ?_; intro v3 w3 hrow hg hnn; have hkeep := E3.out.keep hg (fun k hk => (HOWN.out.lt k hk).1); have k1 := hkeep.1.trans cv; have k2 := hkeep.2.1; have d2 := (E3.out.keepr hg (fun k hk => (HOWN.out.lt k hk).1) 2).trans c2; clear hkeep; rw [strCells_u8s, tx_list, ← u8s_append, htx] at hrow; have hEV := E3.out.app (l' := Y2 ++ r.id) hg (fun k hk => (HOWN.out.lt k hk).1) hrow (by rw [List.length_append, KL.out]); obtain ⟨A3, c3, rfl, _⟩ := own_fit (by rw [List.length_append, KL.out]) hrow; clear hg hnn hrow)
  have E4 := Lib.hid hEV
  have HN := Lib.hid (num_c _ (w.heap.size + 1) (w.heap.size + 2) (Y2 ++ r.id) r.t.toNat hEV.out (by omega) hEV.hi (by rw [List.length_append, KL.out]; omega) (by omega))
  rw [HT.out] at HN
  have hY4 : (Y2 ++ r.id ++ uv r.t.toNat).length ≤ 50 := by rw [List.length_append, List.length_append, KL.out]; omega
  obtain ⟨Y4, hYe⟩ : ∃ Y, Y2 ++ r.id ++ uv r.t.toNat = Y := ⟨_, rfl⟩
  rw [hYe] at HN EB hY4
  have hn0 := HNUM.out
  obtain ⟨n1, n2, n3, n4⟩ := hn0
  have hvt : ((r.v.toNat : Nat) : Int) = r.v := by omega
  have hst : ((r.s.toNat : Nat) : Int) = r.s := by omega
  have HVT := Lib.hid hvt
  have HST := Lib.hid hst
  clear hEV hYe hvt hst cv fv k1 k2 d2 c0 c1 c2
  refine HN.out.mono ?_
  rintro e w5 hr
  obtain ⟨rfl, h1⟩ := E4.out.step hr
  have E5 := Lib.hid h1
  obtain ⟨_, _, _, c3, _⟩ := h1.cells
  have l5 : w.heap.size + 1 < w5.heap.size := by have := h1.hi; omega
  have HX := Lib.hid (fix_c w5 (w.heap.size + 1) (w.heap.size + 2) Y4 r.v.toNat 8 h1.out (by omega) h1.hi (by omega) (by omega) (by omega))
  rw [HVT.out] at HX
  clear h1 hr HN E4
  go_wp2_with (fail)
  refine HX.out.mono ?_
  rintro e w6 hr
  obtain ⟨rfl, h1⟩ := E5.out.step hr
  have E6 := Lib.hid h1
  obtain ⟨_, _, _, _, c4⟩ := h1.cells
  have l6 : w.heap.size + 1 < w6.heap.size := by have := h1.hi; omega
  have HX2 := Lib.hid (fix_c w6 (w.heap.size + 1) (w.heap.size + 2) _ r.s.toNat 8 h1.out (by omega) h1.hi (by rw [List.length_append, be_len]; omega) (by omega) (by omega))
  rw [HST.out, EB.out] at HX2
  clear h1 hr HX E5 c3
  go_wp2_with (fail)
  refine HX2.out.mono ?_
  rintro e w7 hr
  obtain ⟨rfl, h1⟩ := E6.out.step hr
  have E7 := Lib.hid h1
  have hbl := body_len GOOD.out
  have HE0 := Lib.hid (err_good GOOD.out)
  obtain ⟨A7, c7, cv, fv, hown7⟩ := h1.var
  have l7 : w.heap.size + 1 < w7.heap.size := by have := h1.hi; omega
  have E8 := Lib.hid h1.empty
  obtain ⟨N7, hN7⟩ : ∃ N, (body r).length = N := ⟨_, rfl⟩
  rw [hN7] at cv hown7 hbl
  have HN7 := Lib.hid hN7
  have HOWN7 := Lib.hid hown7
  have HN8 := Lib.hid (num_c _ (w.heap.size + 1) w7.heap.size [] N7 E8.out.out (by omega) E8.out.hi (by simp) (by omega))
  clear h1 hr HX2 E6 c4 hown7 hN7
  go_wp2_with (fail)
  refine HN8.out.mono ?_
  rintro e w9 hr
  have hown9 : w9.ownsRow (w.heap.size + 2) 5 1 (.slice A7 N7 c7) N7 (u8s (body r)) := own_chg (own_chg HOWN7.out (chg_set _ _ _ _) (fun k hk e => by have := (HOWN7.out.lt k hk).1; omega)) hr.2.2 (fun k hk e => by
    have h9 := HOWN7.out.lt k hk
    rcases e with e | e <;> omega)
  obtain ⟨rfl, h1⟩ := E8.out.step hr
  rw [List.nil_append] at h1
  have E9 := Lib.hid h1
  have l9 : w.heap.size + 1 < w9.heap.size := by have := h1.hi; omega
  have hs9 := sum_lt (body r)
  have hAD := adler.adler_x w9 w9.heap.size N7 c7 A7 (body r) (own_bs hown9) (by omega)
  have HX3 := Lib.hid (fix_c w9 (w.heap.size + 1) w7.heap.size (uv N7) (adler.sum (body r)).toNat 4 h1.out (by omega) h1.hi (by have := uv_len N7; omega) (by omega) (by omega))
  have hS0 : (((adler.sum (body r)).toNat : Nat) : Int) = adler.sum (body r) := by omega
  rw [hS0] at HX3
  have henc : uv N7 ++ be 4 (adler.sum (body r)).toNat ++ body r = enc r := by unfold enc; rw [HN7.out, List.append_assoc]
  obtain ⟨S, hS⟩ : ∃ S, adler.sum (body r) = S := ⟨_, rfl⟩
  rw [hS] at hAD HX3 hs9 henc
  have HENC := Lib.hid henc
  have HAD := Lib.hid hAD
  have HOWN9 := Lib.hid hown9
  have hsw : S % 18446744073709551616 = S := by omega
  clear h1 hr HN8 E8 cv fv hown9 hS0 hS hAD henc
  go_wp2_with (fail)
  refine HAD.out.mono ?_
  rintro e w10 ⟨rfl, rfl⟩
  go_wp2_with (fail)
  refine HX3.out.mono ?_
  rintro e w10 hr
  have hown10 : w10.ownsRow (w.heap.size + 2) 5 1 (.slice A7 N7 c7) N7 (u8s (body r)) := own_chg HOWN9.out hr.2.2 (fun k hk e => by
    have h9 := HOWN7.out.lt k hk
    rcases e with e | e <;> omega)
  obtain ⟨rfl, h1⟩ := E9.out.step hr
  have E10 := Lib.hid h1
  obtain ⟨A10, c10, cv, fv, hown⟩ := h1.var
  have l10 : w.heap.size + 1 < w10.heap.size := by have := h1.hi; omega
  have hY9 : (uv N7 ++ be 4 S.toNat).length ≤ 20 := by rw [List.length_append, be_len]; have := uv_len N7; omega
  obtain ⟨Y9, hYe⟩ : ∃ Y, uv N7 ++ be 4 S.toNat = Y := ⟨_, rfl⟩
  rw [hYe] at cv hown hY9 HENC
  have HOWNO := Lib.hid hown
  have HRD := Lib.hid (own_rd hown10)
  have HNIL := Lib.hid (own_fit (HN7.out) hown10)
  have hhi := h1.hi
  clear h1 hr HX3 E9 hYe hown hown10
  go_wp2_with (at_builtin; refine wpList_append_rd rfl (.tmp 78) (.tmp 79) 28 rfl w7.heap.size 5 i0 (.int .u8 0) 1 1 Tryz.underlying28 hi hz0 hz1 hz2 rfl (by decide) (.slice A10 Y9.length c10) Y9.length (u8s Y9) rfl HOWNO.out w10.heap.size A7 N7 c7 (fun e => by
      obtain ⟨A', c', e', h9, _⟩ := HNIL.out
      injection e' with e1 e2 e3
      rw [e3]; exact h9 (by rw [← e1]; exact e)) (u8s (body r)) rfl HRD.out (u8s_one _) (by unfold maxLen; omega) (by omega) hhi ?_; intro v11 w11 hown11 hg11 hnn11)
  have hlen : (enc r).length = Y9.length + N7 := by rw [← HENC.out, List.length_append, HN7.out]
  rw [← u8s_append, HENC.out] at hown11
  have hbel : Below w.heap.size w w11 := E10.out.bel.grown hg11 (by omega) (fun k hk => by have := (HOWNO.out.lt k hk).1; omega)
  obtain ⟨A11, c11, rfl, hnil, _⟩ := own_fit hlen hown11
  go_ret2
  refine ⟨A11, c11, ?_, ?_, hbel, hnil⟩
  · rw [encB_ok HE0.out, HE0.out, hlen]; rfl
  · rw [encB_ok HE0.out, hlen]; exact own_base hown11 (by omega)
end Go.Proofs.YtmegkemileailaaGreatDoor.cl
