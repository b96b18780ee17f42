/-
  The walk of the law PlacementRefuses: for all inputs it returns true.
-/
import Derived.Test.YtnpkhkhchimcnaaPmAdd
import Derived.Test.YtnpkhkhchimcnaaPmRemM
import Derived.Test.YtnpkhkhchimcnaaPmInitM
import Derived.Test.YtnpkhkhchimcnaaPmPend
import Derived.Test.YtnpkhkhchimcnaaLawPlacementEven
namespace Go.Proofs.Ytnpkhkhchimcnaa.lawPlacementRefuses
open Go.ChangeShapes Go.WideShapes Go.ChangeAt Go.RowKit Go.Shelf plain words ord mem pm
open lawPlacementEven (row_ls)

theorem bump1 {p : Pl} (hv : p.ver = 1) : bumpErr p = 0 := if_neg (by rw [hv]; decide)
theorem add_err {p : Pl} (hok : PlOk p) (hb : busy p.ss = false) (hv : p.ver = 1) (a : Int) : addErr p a = if a < 0 ∨ 8 ≤ a ∨ has p.nodes a = true then 140 else 0 := by
  unfold addErr
  rw [if_pos (chk_ok hok), hb, bump1 hv]
  rfl
theorem remove_err {p : Pl} (hok : PlOk p) (hb : busy p.ss = false) (hv : p.ver = 1) (a : Int) : removeErr p a = if has p.nodes a = false ∨ p.nodes.length ≤ 3 then 140 else 0 := by
  unfold removeErr
  rw [if_pos (chk_ok hok), hb, bump1 hv]
  rfl
theorem replace_err {p : Pl} (hok : PlOk p) (a : Int) : replaceErr p a a = 140 := by
  unfold replaceErr
  rw [if_pos (chk_ok hok), if_pos]
  cases h : has p.nodes a with
  | false => exact .inl rfl
  | true => exact .inr (.inr (.inr rfl))
theorem add_busy {p : Pl} (hok : PlOk p) (hb : busy p.ss = true) (b : Int) : addErr p b ≠ 0 := by
  unfold addErr
  rw [if_pos (chk_ok hok), hb]
  split
  · decide
  · simp
theorem remove_busy {p : Pl} (hok : PlOk p) (hb : busy p.ss = true) {a : Int} (h1 : has p.nodes a = true) (h2 : 3 < p.nodes.length) : removeErr p a = 141 := by
  unfold removeErr
  rw [if_pos (chk_ok hok), hb, h1, if_neg (by simp; omega)]
  rfl
theorem has_take_succ {l : List Int} {i : Nat} {x : Int} (hx : l[i]? = some x) (a : Int) : has (l.take (i + 1)) a = (has (l.take i) a || x == a) := by
  rw [take_snoc hx]
  unfold has
  simp
set_option maxHeartbeats 4000000 in
set_option maxRecDepth 100000 in
theorem walk_ok (a0 : Option Addr) (len0 cap0 : Nat) (z0 : List Int) (a1 a2 a3 : Int) (w : World) (w0 : IsRow .i64 w a0 len0 cap0 z0) (w1 : (Lit.int .i64 a1).wf = true) (w2 : (Lit.int .i64 a2).wf = true) (w3 : (Lit.int .i64 a3).wf = true) :
    Calls Try.prog 4 #[.slice a0 len0 cap0, .int .i64 a1, .int .i64 a2, .int .i64 a3] w fun e w' => e = .returned (.bool true) ∧ Below w.heap.size w w' := by
  obtain ⟨hls, hcap, hmost⟩ := row_ls w0
  obtain ⟨l, hl⟩ : ∃ l, z0.take len0 = l := ⟨_, rfl⟩
  rw [hl] at hls
  clear w0 w1 w2 w3 hl
  have HL := Lib.hid hls
  have HLN := Lib.hid hls.1
  clear hls
  by_cases hbig : 256 < len0
  · have hbz : (256 : Int) < (len0 : Int) := by omega
    clear hbig
    go_enter Try.func4, Try.ntmps4
    go_wp2_with (fail)
    go_ret
    exact ⟨rfl, Below.refl _ _⟩
  · have hbz : ¬ (256 : Int) < (len0 : Int) := by omega
    have HPI := Lib.hid (pinit_x w w.heap.size len0 cap0 a0 l HL.out (Nat.le_refl _) (by omega) a1)
    have HRI := Lib.hid (fun (u : World) (hu : Below w.heap.size w u) => rinit_y u w.heap.size len0 cap0 a0 l (HL.out.below hu (Nat.le_refl _)) hu.size (by omega) hcap hmost a1)
    obtain ⟨er, her⟩ : ∃ er, initErr l a1 = er := ⟨_, rfl⟩
    rw [rinitErr_eq, her] at HRI
    rw [her] at HPI
    have HER := Lib.hid her
    clear her
    go_enter Try.func4, Try.ntmps4
    go_wp2_with (fail)
    refine HPI.out.mono ?_
    rintro e w2 ⟨⟨ver, nA, nc, nodes, sA, sc, rs⟩, rfl, hvp, hvok, hb2⟩
    obtain ⟨w3, hw3⟩ : ∃ w3, w2.alloc (.cells #[.int .i64 ver, .slice nA nodes.length nc, .slice sA rs.length sc] 25) = w3 := ⟨_, rfl⟩
    have HB3 := Lib.hid (show Below w.heap.size w w3 by rw [← hw3]; exact hb2.alloc hb2.size _)
    have HV := Lib.hid hvp
    have HOK := Lib.hid (show PVok w3 w2.heap.size (⟨ver, nA, nc, nodes, sA, sc, rs⟩ : PV) by rw [← hw3]; exact hvok.below (below_al _ _) (Nat.le_refl _))
    have HG := Lib.hid (show IsV3 25 w3 w2.heap.size (.int .i64 ver) (.slice nA nodes.length nc) (.slice sA rs.length sc) by rw [← hw3]; exact alloc_new _ _)
    have HW3 := Lib.hid hw3
    have hs2 := hb2.size
    have hs3 : w2.heap.size < w3.heap.size := blk_lt HG.out
    clear hvp hvok hb2 hw3 HPI
    go_wp2_with (fail)
    rw [HW3.out]
    refine (HRI.out w3 HB3.out).mono ?_
    rintro e w4 ⟨v2, rfl, _, _, hb4⟩
    obtain ⟨w5, hw5⟩ : ∃ w5, w4.alloc (boxO v2) = w5 := ⟨_, rfl⟩
    have hb5 : Below w3.heap.size w3 w5 := by rw [← hw5]; exact hb4.alloc hb4.size _
    have HP5 := Lib.hid hb5
    have HB5 := Lib.hid (HB3.out.trans (hb5.mono HB3.out.size))
    have hs5 := hb5.size
    have HG5 := Lib.hid (blk_below hb5 HG.out hs3)
    have HW5 := Lib.hid hw5
    clear hb4 hb5 hw5 HRI
    by_cases he0 : er = 0
    · subst he0
      obtain ⟨hok, hbu, hver, hnd, hlen⟩ := init_ok HER.out
      obtain ⟨p, hp⟩ : ∃ p, initPl l a1 = p := ⟨_, rfl⟩
      rw [hp] at hok hbu hver hnd hlen HV
      have HOKP := Lib.hid hok
      have HBU := Lib.hid hbu
      have HVER := Lib.hid hver
      have HND := Lib.hid hnd
      have hnl : p.nodes.length = len0 := by rw [hnd, srt_len]; exact HLN.out
      have hth : has p.nodes a2 = has l a2 := by rw [hnd, has_srt]
      have HNL := Lib.hid hnl
      have HTH := Lib.hid hth
      have hn3 : 3 ≤ len0 := by rw [← hnl]; exact hok.nodes.many
      have HPV := Lib.hid (show ∀ u, Below w3.heap.size w3 u → PVok u w3.heap.size (⟨ver, nA, nc, nodes, sA, sc, rs⟩ : PV) from fun u hu => (HOK.out.more (C := w3.heap.size) (by omega)).below hu (Nat.le_refl _))
      have hsl := HOK.out.len.1
      clear hok hbu hver hnd hlen hnl hth hp
      go_wp2_with (fail)
      rw [HW5.out]
      go_loopg [13, 14] len0 (fun gg s13 s14 wr => ∃ i : Nat, s14 = .int .i64 i ∧ i ≤ len0 ∧ len0 - i ≤ gg ∧ (∃ bt : Bool, s13 = .bool bt ∧ Aside (has (l.take i) a2 = bt)) ∧ wr = w5)
      case atStart => exact ⟨0, rfl, by omega, by omega, ⟨false, rfl, rfl⟩, rfl⟩
      case round =>
        obtain ⟨i, rfl, hi, hg, ⟨bt, rfl, HBT⟩, rfl⟩ := hrel
        by_cases hlt : i < len0
        · have hltz : (i : Int) < (len0 : Int) := by omega
          have i0 : (0 : Int) ≤ (i : Int) := by omega
          obtain ⟨x, hx⟩ := HL.out.get hlt
          obtain ⟨b2, off2, rfl, hb2, l1⟩ := num_at (HL.out.below HB5.out (Nat.le_refl _)) hx
          have hbw2 : b2 < wr.heap.size := by have := HB5.out.size; omega
          have HX := Lib.hid (has_take_succ hx a2)
          clear hx
          cases bt with
          | true =>
            go_wp2_with (fail)
            go_roundg (len0 - (i + 1))
            case measure => omega
            case rel => exact ⟨i + 1, by go_num, by omega, by omega, ⟨true, rfl, by show _ = _; rw [HX.out, HBT.out]; rfl⟩, rfl⟩
          | false =>
            obtain ⟨bx, hbx⟩ : ∃ bx, (x == a2) = bx := ⟨_, rfl⟩
            have HBX := Lib.hid hbx
            go_wp2_with (fail)
            go_roundg (len0 - (i + 1))
            case measure => omega
            case rel => exact ⟨i + 1, by go_num, by omega, by omega, ⟨bx, rfl, by show _ = _; rw [HX.out, HBT.out, HBX.out]; rfl⟩, rfl⟩
        · obtain rfl : i = len0 := by omega
          have hltz : ¬ (i : Int) < (i : Int) := by omega
          have HTB := Lib.hid (show has p.nodes a2 = bt by rw [HTH.out, ← HBT.out, List.take_of_length_le (by rw [HLN.out]; exact Nat.le_refl _)])
          have HPA := Lib.hid (padd_x wr w3.heap.size _ (HPV.out wr HP5.out) HP5.out.size a2)
          have HPR := Lib.hid (fun (u : World) (hu : Below w3.heap.size w3 u) => premove_x u w3.heap.size _ (HPV.out u hu) hu.size a2)
          have HPP := Lib.hid (fun (u : World) (hu : Below w3.heap.size w3 u) => preplace_x u w3.heap.size _ (HPV.out u hu) hu.size a2 a2)
          rw [HV.out] at HPA HPR HPP
          rw [replace_err HOKP.out] at HPP
          rw [remove_err HOKP.out HBU.out HVER.out, HTB.out, HNL.out] at HPR
          simp only [PV.val] at HPA HPR HPP
          have HVC := Lib.hid (fun (u : World) (hu : Below w3.heap.size w3 u) => (isv3_cells (blk_below hu HG.out hs3)).1)
          obtain ⟨c0, c1, c2⟩ := HVC.out wr HP5.out
          have hw2r : w2.heap.size < wr.heap.size := by omega
          cases bt with
          | true =>
            have HAE := Lib.hid (show addErr p a2 = 140 by rw [add_err HOKP.out HBU.out HVER.out, if_pos (.inr (.inr HTB.out))])
            have hm1 : decide ((0 : Int) ≤ a2) = true := decide_eq_true (((HOKP.out.nodes.each a2 ((has_iff' _ _).1 HTB.out))).1)
            have hm2 : decide (a2 < 8) = true := decide_eq_true (((HOKP.out.nodes.each a2 ((has_iff' _ _).1 HTB.out))).2)
            by_cases h3 : 3 < i
            · have h3z : decide ((3 : Int) < (i : Int)) = true := decide_eq_true (by omega)
              have HRE := Lib.hid (show (if true = false ∨ i ≤ 3 then (140 : Int) else 0) = 0 from if_neg (by simp; omega))
              have HPA2 := HPA.out
              rw [HAE.out] at HPA2
              have HPA3 := Lib.hid HPA2
              clear HPA2
              have HPR2 := HPR.out
              simp only [HRE.out] at HPR2
              have HPR3 := Lib.hid HPR2
              clear HPR2
              go_wp2_with (fail)
              refine (HPA3.out).mono ?_
              rintro e w6 ⟨⟨qv, qA, qc, qn, qB, qd, qr⟩, rfl, hplq, hokq, hbrq⟩
              obtain ⟨w7, hw7⟩ : ∃ w7, w6.alloc (.cells #[.int .i64 qv, .slice qA qn.length qc, .slice qB qr.length qd] 25) = w7 := ⟨_, rfl⟩
              have hbaq : Below w6.heap.size w6 w7 := by rw [← hw7]; exact below_al _ _
              have hgq : IsV3 25 w7 w6.heap.size (.int .i64 qv) (.slice qA qn.length qc) (.slice qB qr.length qd) := by rw [← hw7]; exact alloc_new _ _
              have HS7 := Lib.hid (show Below (wr).heap.size (wr) w7 from hbrq.trans (hbaq.mono hbrq.size))
              have HP7 := Lib.hid (HP5.out.trans (HS7.out.mono HP5.out.size))
              have hs7 := HP7.out.size
              have ht7 := HS7.out.size
              have hz7 : w6.heap.size < w7.heap.size := blk_lt hgq
              have HPLq := Lib.hid hplq
              have HOKq := Lib.hid (hokq.below hbaq (Nat.le_refl _))
              have HGq := Lib.hid hgq
              clear hplq hokq hbrq hbaq hgq c0 c1 c2
              obtain ⟨c0, c1, c2⟩ := HVC.out w7 HP7.out
              have hw27 : w2.heap.size < w7.heap.size := by omega
              go_wp2_with (fail)
              refine (HPR3.out w7 HP7.out).mono ?_
              rintro e w8 ⟨⟨xv, xA, xc, xn, xB, xd, xr⟩, rfl, hplx, hokx, hbrx⟩
              obtain ⟨w9, hw9⟩ : ∃ w9, w8.alloc (.cells #[.int .i64 xv, .slice xA xn.length xc, .slice xB xr.length xd] 25) = w9 := ⟨_, rfl⟩
              have hbax : Below w8.heap.size w8 w9 := by rw [← hw9]; exact below_al _ _
              have hgx : IsV3 25 w9 w8.heap.size (.int .i64 xv) (.slice xA xn.length xc) (.slice xB xr.length xd) := by rw [← hw9]; exact alloc_new _ _
              have HS9 := Lib.hid (show Below (w7).heap.size (w7) w9 from hbrx.trans (hbax.mono hbrx.size))
              have HP9 := Lib.hid (HP7.out.trans (HS9.out.mono HP7.out.size))
              have hs9 := HP9.out.size
              have ht9 := HS9.out.size
              have hz9 : w8.heap.size < w9.heap.size := blk_lt hgx
              have HPLx := Lib.hid hplx
              have HOKx := Lib.hid (hokx.below hbax (Nat.le_refl _))
              have HGx := Lib.hid hgx
              clear hplx hokx hbrx hbax hgx c0 c1 c2
              obtain ⟨c0, c1, c2⟩ := HVC.out w9 HP9.out
              have hw29 : w2.heap.size < w9.heap.size := by omega
              go_wp2_with (fail)
              refine (HPP.out w9 HP9.out).mono ?_
              rintro e w10 ⟨⟨yv, yA, yc, yn, yB, yd, yr⟩, rfl, hply, hoky, hbry⟩
              obtain ⟨w11, hw11⟩ : ∃ w11, w10.alloc (.cells #[.int .i64 yv, .slice yA yn.length yc, .slice yB yr.length yd] 25) = w11 := ⟨_, rfl⟩
              have hbay : Below w10.heap.size w10 w11 := by rw [← hw11]; exact below_al _ _
              have hgy : IsV3 25 w11 w10.heap.size (.int .i64 yv) (.slice yA yn.length yc) (.slice yB yr.length yd) := by rw [← hw11]; exact alloc_new _ _
              have HS11 := Lib.hid (show Below (w9).heap.size (w9) w11 from hbry.trans (hbay.mono hbry.size))
              have HP11 := Lib.hid (HP9.out.trans (HS11.out.mono HP9.out.size))
              have hs11 := HP11.out.size
              have ht11 := HS11.out.size
              have hz11 : w10.heap.size < w11.heap.size := blk_lt hgy
              have HPLy := Lib.hid hply
              have HOKy := Lib.hid (hoky.below hbay (Nat.le_refl _))
              have HGy := Lib.hid hgy
              clear hply hoky hbry hbay hgy c0 c1 c2
              obtain ⟨c0, c1, c2⟩ := HVC.out w11 HP11.out
              have hw211 : w2.heap.size < w11.heap.size := by omega
              have HQ11 := Lib.hid (blk_below (HS9.out.trans (HS11.out.mono HS9.out.size)) HGq.out hz7)
              have HQO := Lib.hid (HOKq.out.below (HS9.out.trans (HS11.out.mono HS9.out.size)) (by omega))
              have HPE := Lib.hid (pending_l w11 w6.heap.size (⟨qv, qA, qc, qn, qB, qd, qr⟩ : PV) HQO.out (by omega))
              have hz0 : addPl p a2 = ⟨0, [], []⟩ := if_neg (by rw [HAE.out]; decide)
              have hpe : pend (⟨qv, qA, qc, qn, qB, qd, qr⟩ : PV).pl.ss = (-1, -1) := by rw [HPLq.out, hz0]; exact pend_none rfl
              rw [hpe] at HPE
              simp only [PV.val] at HPE
              obtain ⟨⟨y0, y1, y2⟩, _⟩ := isv3_cells HQ11.out
              have hq11 : w6.heap.size < w11.heap.size := by omega
              clear hz0 hpe
              go_wp2_with (fail)
              refine HPE.out.mono ?_
              rintro e w12 ⟨rfl, hb12⟩
              have HB12 := Lib.hid (HB3.out.trans ((HP11.out.trans (hb12.mono HP11.out.size)).mono HB3.out.size))
              clear hb12
              go_wp2_with (fail)
              go_ret
              exact ⟨rfl, HB12.out⟩
            · have h3z : decide ((3 : Int) < (i : Int)) = false := decide_eq_false (by omega)
              have HRE := Lib.hid (show (if true = false ∨ i ≤ 3 then (140 : Int) else 0) = 140 from if_pos (.inr (by omega)))
              have HPA2 := HPA.out
              rw [HAE.out] at HPA2
              have HPA3 := Lib.hid HPA2
              clear HPA2
              have HPR2 := HPR.out
              simp only [HRE.out] at HPR2
              have HPR3 := Lib.hid HPR2
              clear HPR2
              go_wp2_with (fail)
              refine (HPA3.out).mono ?_
              rintro e w6 ⟨⟨qv, qA, qc, qn, qB, qd, qr⟩, rfl, hplq, hokq, hbrq⟩
              obtain ⟨w7, hw7⟩ : ∃ w7, w6.alloc (.cells #[.int .i64 qv, .slice qA qn.length qc, .slice qB qr.length qd] 25) = w7 := ⟨_, rfl⟩
              have hbaq : Below w6.heap.size w6 w7 := by rw [← hw7]; exact below_al _ _
              have hgq : IsV3 25 w7 w6.heap.size (.int .i64 qv) (.slice qA qn.length qc) (.slice qB qr.length qd) := by rw [← hw7]; exact alloc_new _ _
              have HS7 := Lib.hid (show Below (wr).heap.size (wr) w7 from hbrq.trans (hbaq.mono hbrq.size))
              have HP7 := Lib.hid (HP5.out.trans (HS7.out.mono HP5.out.size))
              have hs7 := HP7.out.size
              have ht7 := HS7.out.size
              have hz7 : w6.heap.size < w7.heap.size := blk_lt hgq
              have HPLq := Lib.hid hplq
              have HOKq := Lib.hid (hokq.below hbaq (Nat.le_refl _))
              have HGq := Lib.hid hgq
              clear hplq hokq hbrq hbaq hgq c0 c1 c2
              obtain ⟨c0, c1, c2⟩ := HVC.out w7 HP7.out
              have hw27 : w2.heap.size < w7.heap.size := by omega
              go_wp2_with (fail)
              refine (HPR3.out w7 HP7.out).mono ?_
              rintro e w8 ⟨⟨xv, xA, xc, xn, xB, xd, xr⟩, rfl, hplx, hokx, hbrx⟩
              obtain ⟨w9, hw9⟩ : ∃ w9, w8.alloc (.cells #[.int .i64 xv, .slice xA xn.length xc, .slice xB xr.length xd] 25) = w9 := ⟨_, rfl⟩
              have hbax : Below w8.heap.size w8 w9 := by rw [← hw9]; exact below_al _ _
              have hgx : IsV3 25 w9 w8.heap.size (.int .i64 xv) (.slice xA xn.length xc) (.slice xB xr.length xd) := by rw [← hw9]; exact alloc_new _ _
              have HS9 := Lib.hid (show Below (w7).heap.size (w7) w9 from hbrx.trans (hbax.mono hbrx.size))
              have HP9 := Lib.hid (HP7.out.trans (HS9.out.mono HP7.out.size))
              have hs9 := HP9.out.size
              have ht9 := HS9.out.size
              have hz9 : w8.heap.size < w9.heap.size := blk_lt hgx
              have HPLx := Lib.hid hplx
              have HOKx := Lib.hid (hokx.below hbax (Nat.le_refl _))
              have HGx := Lib.hid hgx
              clear hplx hokx hbrx hbax hgx c0 c1 c2
              obtain ⟨c0, c1, c2⟩ := HVC.out w9 HP9.out
              have hw29 : w2.heap.size < w9.heap.size := by omega
              go_wp2_with (fail)
              refine (HPP.out w9 HP9.out).mono ?_
              rintro e w10 ⟨⟨yv, yA, yc, yn, yB, yd, yr⟩, rfl, hply, hoky, hbry⟩
              obtain ⟨w11, hw11⟩ : ∃ w11, w10.alloc (.cells #[.int .i64 yv, .slice yA yn.length yc, .slice yB yr.length yd] 25) = w11 := ⟨_, rfl⟩
              have hbay : Below w10.heap.size w10 w11 := by rw [← hw11]; exact below_al _ _
              have hgy : IsV3 25 w11 w10.heap.size (.int .i64 yv) (.slice yA yn.length yc) (.slice yB yr.length yd) := by rw [← hw11]; exact alloc_new _ _
              have HS11 := Lib.hid (show Below (w9).heap.size (w9) w11 from hbry.trans (hbay.mono hbry.size))
              have HP11 := Lib.hid (HP9.out.trans (HS11.out.mono HP9.out.size))
              have hs11 := HP11.out.size
              have ht11 := HS11.out.size
              have hz11 : w10.heap.size < w11.heap.size := blk_lt hgy
              have HPLy := Lib.hid hply
              have HOKy := Lib.hid (hoky.below hbay (Nat.le_refl _))
              have HGy := Lib.hid hgy
              clear hply hoky hbry hbay hgy c0 c1 c2
              obtain ⟨c0, c1, c2⟩ := HVC.out w11 HP11.out
              have hw211 : w2.heap.size < w11.heap.size := by omega
              have HQ11 := Lib.hid (blk_below (HS9.out.trans (HS11.out.mono HS9.out.size)) HGq.out hz7)
              have HQO := Lib.hid (HOKq.out.below (HS9.out.trans (HS11.out.mono HS9.out.size)) (by omega))
              have HPE := Lib.hid (pending_l w11 w6.heap.size (⟨qv, qA, qc, qn, qB, qd, qr⟩ : PV) HQO.out (by omega))
              have hz0 : addPl p a2 = ⟨0, [], []⟩ := if_neg (by rw [HAE.out]; decide)
              have hpe : pend (⟨qv, qA, qc, qn, qB, qd, qr⟩ : PV).pl.ss = (-1, -1) := by rw [HPLq.out, hz0]; exact pend_none rfl
              rw [hpe] at HPE
              simp only [PV.val] at HPE
              obtain ⟨⟨y0, y1, y2⟩, _⟩ := isv3_cells HQ11.out
              have hq11 : w6.heap.size < w11.heap.size := by omega
              clear hz0 hpe
              go_wp2_with (fail)
              refine HPE.out.mono ?_
              rintro e w12 ⟨rfl, hb12⟩
              have HB12 := Lib.hid (HB3.out.trans ((HP11.out.trans (hb12.mono HP11.out.size)).mono HB3.out.size))
              clear hb12
              go_wp2_with (fail)
              go_ret
              exact ⟨rfl, HB12.out⟩
          | false =>
            have HRE := Lib.hid (show (if false = false ∨ i ≤ 3 then (140 : Int) else 0) = 140 from if_pos (.inl rfl))
            by_cases hm : 0 ≤ a2
            · have hm1 : decide ((0 : Int) ≤ a2) = true := decide_eq_true hm
              by_cases hn : a2 < 8
              · have hm2 : decide (a2 < 8) = true := decide_eq_true hn
                have HAE := Lib.hid (show addErr p a2 = 0 by rw [add_err HOKP.out HBU.out HVER.out, if_neg (by rw [HTB.out]; simp; omega)])
                have HPA2 := HPA.out
                rw [HAE.out] at HPA2
                have HPA3 := Lib.hid HPA2
                clear HPA2
                have HPR2 := HPR.out
                simp only [HRE.out] at HPR2
                have HPR3 := Lib.hid HPR2
                clear HPR2
                go_wp2_with (fail)
                refine (HPA3.out).mono ?_
                rintro e w6 ⟨⟨qv, qA, qc, qn, qB, qd, qr⟩, rfl, hplq, hokq, hbrq⟩
                obtain ⟨w7, hw7⟩ : ∃ w7, w6.alloc (.cells #[.int .i64 qv, .slice qA qn.length qc, .slice qB qr.length qd] 25) = w7 := ⟨_, rfl⟩
                have hbaq : Below w6.heap.size w6 w7 := by rw [← hw7]; exact below_al _ _
                have hgq : IsV3 25 w7 w6.heap.size (.int .i64 qv) (.slice qA qn.length qc) (.slice qB qr.length qd) := by rw [← hw7]; exact alloc_new _ _
                have HS7 := Lib.hid (show Below (wr).heap.size (wr) w7 from hbrq.trans (hbaq.mono hbrq.size))
                have HP7 := Lib.hid (HP5.out.trans (HS7.out.mono HP5.out.size))
                have hs7 := HP7.out.size
                have ht7 := HS7.out.size
                have hz7 : w6.heap.size < w7.heap.size := blk_lt hgq
                have HPLq := Lib.hid hplq
                have HOKq := Lib.hid (hokq.below hbaq (Nat.le_refl _))
                have HGq := Lib.hid hgq
                clear hplq hokq hbrq hbaq hgq c0 c1 c2
                obtain ⟨c0, c1, c2⟩ := HVC.out w7 HP7.out
                have hw27 : w2.heap.size < w7.heap.size := by omega
                go_wp2_with (fail)
                refine (HPR3.out w7 HP7.out).mono ?_
                rintro e w8 ⟨⟨xv, xA, xc, xn, xB, xd, xr⟩, rfl, hplx, hokx, hbrx⟩
                obtain ⟨w9, hw9⟩ : ∃ w9, w8.alloc (.cells #[.int .i64 xv, .slice xA xn.length xc, .slice xB xr.length xd] 25) = w9 := ⟨_, rfl⟩
                have hbax : Below w8.heap.size w8 w9 := by rw [← hw9]; exact below_al _ _
                have hgx : IsV3 25 w9 w8.heap.size (.int .i64 xv) (.slice xA xn.length xc) (.slice xB xr.length xd) := by rw [← hw9]; exact alloc_new _ _
                have HS9 := Lib.hid (show Below (w7).heap.size (w7) w9 from hbrx.trans (hbax.mono hbrx.size))
                have HP9 := Lib.hid (HP7.out.trans (HS9.out.mono HP7.out.size))
                have hs9 := HP9.out.size
                have ht9 := HS9.out.size
                have hz9 : w8.heap.size < w9.heap.size := blk_lt hgx
                have HPLx := Lib.hid hplx
                have HOKx := Lib.hid (hokx.below hbax (Nat.le_refl _))
                have HGx := Lib.hid hgx
                clear hplx hokx hbrx hbax hgx c0 c1 c2
                obtain ⟨c0, c1, c2⟩ := HVC.out w9 HP9.out
                have hw29 : w2.heap.size < w9.heap.size := by omega
                go_wp2_with (fail)
                refine (HPP.out w9 HP9.out).mono ?_
                rintro e w10 ⟨⟨yv, yA, yc, yn, yB, yd, yr⟩, rfl, hply, hoky, hbry⟩
                obtain ⟨w11, hw11⟩ : ∃ w11, w10.alloc (.cells #[.int .i64 yv, .slice yA yn.length yc, .slice yB yr.length yd] 25) = w11 := ⟨_, rfl⟩
                have hbay : Below w10.heap.size w10 w11 := by rw [← hw11]; exact below_al _ _
                have hgy : IsV3 25 w11 w10.heap.size (.int .i64 yv) (.slice yA yn.length yc) (.slice yB yr.length yd) := by rw [← hw11]; exact alloc_new _ _
                have HS11 := Lib.hid (show Below (w9).heap.size (w9) w11 from hbry.trans (hbay.mono hbry.size))
                have HP11 := Lib.hid (HP9.out.trans (HS11.out.mono HP9.out.size))
                have hs11 := HP11.out.size
                have ht11 := HS11.out.size
                have hz11 : w10.heap.size < w11.heap.size := blk_lt hgy
                have HPLy := Lib.hid hply
                have HOKy := Lib.hid (hoky.below hbay (Nat.le_refl _))
                have HGy := Lib.hid hgy
                clear hply hoky hbry hbay hgy c0 c1 c2
                obtain ⟨c0, c1, c2⟩ := HVC.out w11 HP11.out
                have hw211 : w2.heap.size < w11.heap.size := by omega
                have HQ11 := Lib.hid (blk_below (HS9.out.trans (HS11.out.mono HS9.out.size)) HGq.out hz7)
                have HQO := Lib.hid (HOKq.out.below (HS9.out.trans (HS11.out.mono HS9.out.size)) (by omega))
                have HPE := Lib.hid (pending_l w11 w6.heap.size (⟨qv, qA, qc, qn, qB, qd, qr⟩ : PV) HQO.out (by omega))
                have HQP := Lib.hid (add_ok HAE.out)
                rw [HPLq.out] at HPE
                obtain ⟨⟨y0, y1, y2⟩, _⟩ := isv3_cells HQ11.out
                have hq11 : w6.heap.size < w11.heap.size := by omega
                cases hbq : busy (addPl p a2).ss with
                | false =>
                  rw [pend_none hbq] at HPE
                  simp only [PV.val] at HPE
                  clear hbq
                  go_wp2_with (fail)
                  refine HPE.out.mono ?_
                  rintro e w12 ⟨rfl, hb12⟩
                  have HB12 := Lib.hid (HB3.out.trans ((HP11.out.trans (hb12.mono HP11.out.size)).mono HB3.out.size))
                  clear hb12
                  go_wp2_with (fail)
                  go_ret
                  exact ⟨rfl, HB12.out⟩
                | true =>
                  obtain ⟨pi, pl', pn, pf, hpe, _, _⟩ := pend_some hbq
                  rw [hpe] at HPE
                  simp only [PV.val] at HPE
                  have HPA4 := Lib.hid (fun (u : World) (hu : Below w11.heap.size w11 u) => padd_x u w11.heap.size (⟨qv, qA, qc, qn, qB, qd, qr⟩ : PV) ((HQO.out.more (C := w11.heap.size) (by omega)).below hu (Nat.le_refl _)) hu.size a3)
                  have HPR4 := Lib.hid (fun (u : World) (hu : Below w11.heap.size w11 u) => premove_x u w11.heap.size (⟨qv, qA, qc, qn, qB, qd, qr⟩ : PV) ((HQO.out.more (C := w11.heap.size) (by omega)).below hu (Nat.le_refl _)) hu.size a2)
                  rw [HPLq.out] at HPA4 HPR4
                  have hre : removeErr (addPl p a2) a2 = 141 := remove_busy HQP.out.1 hbq (by rw [HQP.out.2.2.1, (addErr_zero HAE.out).nodes.2.1]; simp) (by rw [HQP.out.2.2.1, (addErr_zero HAE.out).nodes.2.2, HNL.out]; omega)
                  rw [hre] at HPR4
                  obtain ⟨x, hx⟩ : ∃ x, addErr (addPl p a2) a3 = x := ⟨_, rfl⟩
                  have hx0 : x ≠ 0 := by rw [← hx]; exact add_busy HQP.out.1 hbq a3
                  rw [hx] at HPA4
                  have hx1 : (x != 0) = true := by simpa using hx0
                  have hx2 : (x == 0) = false := by simpa using hx0
                  simp only [PV.val] at HPA4 HPR4
                  have HQC := Lib.hid (fun (u : World) (hu : Below w11.heap.size w11 u) => (isv3_cells (blk_below hu HQ11.out hq11)).1)
                  have hpi : ¬ ((pi : Int) < 0) := by omega
                  clear hbq hpe hre hx hx0 c0 c1 c2
                  go_wp2_with (fail)
                  refine HPE.out.mono ?_
                  rintro e w12 ⟨rfl, hb12⟩
                  have HP12 := Lib.hid hb12
                  have hs12 := hb12.size
                  clear hb12 y0 y1 y2
                  obtain ⟨y0, y1, y2⟩ := HQC.out w12 HP12.out
                  have hq12 : w6.heap.size < w12.heap.size := by omega
                  go_wp2_with (fail)
                  refine (HPA4.out w12 HP12.out).mono ?_
                  rintro e w13 ⟨⟨zv, zA, zc, zn, zB, zd, zr⟩, rfl, _, _, hb13⟩
                  obtain ⟨w14, hw14⟩ : ∃ w14, w13.alloc (.cells #[.int .i64 zv, .slice zA zn.length zc, .slice zB zr.length zd] 25) = w14 := ⟨_, rfl⟩
                  have hb14 : Below w13.heap.size w13 w14 := by rw [← hw14]; exact below_al _ _
                  have HP14 := Lib.hid (HP12.out.trans ((hb13.trans (hb14.mono hb13.size)).mono hs12))
                  have hs14 := HP14.out.size
                  clear hb13 hb14 y0 y1 y2
                  obtain ⟨y0, y1, y2⟩ := HQC.out w14 HP14.out
                  have hq14 : w6.heap.size < w14.heap.size := by omega
                  go_wp2_with (fail)
                  refine (HPR4.out w14 HP14.out).mono ?_
                  rintro e w15 ⟨⟨uv, uA, uc, un, uB, ud, ur⟩, rfl, _, _, hb15⟩
                  have HB15 := Lib.hid (HB3.out.trans ((HP11.out.trans ((HP14.out.trans (hb15.mono hs14)).mono HP11.out.size)).mono HB3.out.size))
                  clear hb15 y0 y1 y2
                  go_wp2_with (fail)
                  go_ret
                  exact ⟨by simp, HB15.out.alloc HB15.out.size _⟩
              · have hm2 : decide (a2 < 8) = false := decide_eq_false hn
                have HAE := Lib.hid (show addErr p a2 = 140 by rw [add_err HOKP.out HBU.out HVER.out, if_pos (.inr (.inl (by omega)))])
                have HPA2 := HPA.out
                rw [HAE.out] at HPA2
                have HPA3 := Lib.hid HPA2
                clear HPA2
                have HPR2 := HPR.out
                simp only [HRE.out] at HPR2
                have HPR3 := Lib.hid HPR2
                clear HPR2
                go_wp2_with (fail)
                refine (HPA3.out).mono ?_
                rintro e w6 ⟨⟨qv, qA, qc, qn, qB, qd, qr⟩, rfl, hplq, hokq, hbrq⟩
                obtain ⟨w7, hw7⟩ : ∃ w7, w6.alloc (.cells #[.int .i64 qv, .slice qA qn.length qc, .slice qB qr.length qd] 25) = w7 := ⟨_, rfl⟩
                have hbaq : Below w6.heap.size w6 w7 := by rw [← hw7]; exact below_al _ _
                have hgq : IsV3 25 w7 w6.heap.size (.int .i64 qv) (.slice qA qn.length qc) (.slice qB qr.length qd) := by rw [← hw7]; exact alloc_new _ _
                have HS7 := Lib.hid (show Below (wr).heap.size (wr) w7 from hbrq.trans (hbaq.mono hbrq.size))
                have HP7 := Lib.hid (HP5.out.trans (HS7.out.mono HP5.out.size))
                have hs7 := HP7.out.size
                have ht7 := HS7.out.size
                have hz7 : w6.heap.size < w7.heap.size := blk_lt hgq
                have HPLq := Lib.hid hplq
                have HOKq := Lib.hid (hokq.below hbaq (Nat.le_refl _))
                have HGq := Lib.hid hgq
                clear hplq hokq hbrq hbaq hgq c0 c1 c2
                obtain ⟨c0, c1, c2⟩ := HVC.out w7 HP7.out
                have hw27 : w2.heap.size < w7.heap.size := by omega
                go_wp2_with (fail)
                refine (HPR3.out w7 HP7.out).mono ?_
                rintro e w8 ⟨⟨xv, xA, xc, xn, xB, xd, xr⟩, rfl, hplx, hokx, hbrx⟩
                obtain ⟨w9, hw9⟩ : ∃ w9, w8.alloc (.cells #[.int .i64 xv, .slice xA xn.length xc, .slice xB xr.length xd] 25) = w9 := ⟨_, rfl⟩
                have hbax : Below w8.heap.size w8 w9 := by rw [← hw9]; exact below_al _ _
                have hgx : IsV3 25 w9 w8.heap.size (.int .i64 xv) (.slice xA xn.length xc) (.slice xB xr.length xd) := by rw [← hw9]; exact alloc_new _ _
                have HS9 := Lib.hid (show Below (w7).heap.size (w7) w9 from hbrx.trans (hbax.mono hbrx.size))
                have HP9 := Lib.hid (HP7.out.trans (HS9.out.mono HP7.out.size))
                have hs9 := HP9.out.size
                have ht9 := HS9.out.size
                have hz9 : w8.heap.size < w9.heap.size := blk_lt hgx
                have HPLx := Lib.hid hplx
                have HOKx := Lib.hid (hokx.below hbax (Nat.le_refl _))
                have HGx := Lib.hid hgx
                clear hplx hokx hbrx hbax hgx c0 c1 c2
                obtain ⟨c0, c1, c2⟩ := HVC.out w9 HP9.out
                have hw29 : w2.heap.size < w9.heap.size := by omega
                go_wp2_with (fail)
                refine (HPP.out w9 HP9.out).mono ?_
                rintro e w10 ⟨⟨yv, yA, yc, yn, yB, yd, yr⟩, rfl, hply, hoky, hbry⟩
                obtain ⟨w11, hw11⟩ : ∃ w11, w10.alloc (.cells #[.int .i64 yv, .slice yA yn.length yc, .slice yB yr.length yd] 25) = w11 := ⟨_, rfl⟩
                have hbay : Below w10.heap.size w10 w11 := by rw [← hw11]; exact below_al _ _
                have hgy : IsV3 25 w11 w10.heap.size (.int .i64 yv) (.slice yA yn.length yc) (.slice yB yr.length yd) := by rw [← hw11]; exact alloc_new _ _
                have HS11 := Lib.hid (show Below (w9).heap.size (w9) w11 from hbry.trans (hbay.mono hbry.size))
                have HP11 := Lib.hid (HP9.out.trans (HS11.out.mono HP9.out.size))
                have hs11 := HP11.out.size
                have ht11 := HS11.out.size
                have hz11 : w10.heap.size < w11.heap.size := blk_lt hgy
                have HPLy := Lib.hid hply
                have HOKy := Lib.hid (hoky.below hbay (Nat.le_refl _))
                have HGy := Lib.hid hgy
                clear hply hoky hbry hbay hgy c0 c1 c2
                obtain ⟨c0, c1, c2⟩ := HVC.out w11 HP11.out
                have hw211 : w2.heap.size < w11.heap.size := by omega
                have HQ11 := Lib.hid (blk_below (HS9.out.trans (HS11.out.mono HS9.out.size)) HGq.out hz7)
                have HQO := Lib.hid (HOKq.out.below (HS9.out.trans (HS11.out.mono HS9.out.size)) (by omega))
                have HPE := Lib.hid (pending_l w11 w6.heap.size (⟨qv, qA, qc, qn, qB, qd, qr⟩ : PV) HQO.out (by omega))
                have hz0 : addPl p a2 = ⟨0, [], []⟩ := if_neg (by rw [HAE.out]; decide)
                have hpe : pend (⟨qv, qA, qc, qn, qB, qd, qr⟩ : PV).pl.ss = (-1, -1) := by rw [HPLq.out, hz0]; exact pend_none rfl
                rw [hpe] at HPE
                simp only [PV.val] at HPE
                obtain ⟨⟨y0, y1, y2⟩, _⟩ := isv3_cells HQ11.out
                have hq11 : w6.heap.size < w11.heap.size := by omega
                clear hz0 hpe
                go_wp2_with (fail)
                refine HPE.out.mono ?_
                rintro e w12 ⟨rfl, hb12⟩
                have HB12 := Lib.hid (HB3.out.trans ((HP11.out.trans (hb12.mono HP11.out.size)).mono HB3.out.size))
                clear hb12
                go_wp2_with (fail)
                go_ret
                exact ⟨rfl, HB12.out⟩
            · have hm1 : decide ((0 : Int) ≤ a2) = false := decide_eq_false hm
              have HAE := Lib.hid (show addErr p a2 = 140 by rw [add_err HOKP.out HBU.out HVER.out, if_pos (.inl (by omega))])
              have HPA2 := HPA.out
              rw [HAE.out] at HPA2
              have HPA3 := Lib.hid HPA2
              clear HPA2
              have HPR2 := HPR.out
              simp only [HRE.out] at HPR2
              have HPR3 := Lib.hid HPR2
              clear HPR2
              go_wp2_with (fail)
              refine (HPA3.out).mono ?_
              rintro e w6 ⟨⟨qv, qA, qc, qn, qB, qd, qr⟩, rfl, hplq, hokq, hbrq⟩
              obtain ⟨w7, hw7⟩ : ∃ w7, w6.alloc (.cells #[.int .i64 qv, .slice qA qn.length qc, .slice qB qr.length qd] 25) = w7 := ⟨_, rfl⟩
              have hbaq : Below w6.heap.size w6 w7 := by rw [← hw7]; exact below_al _ _
              have hgq : IsV3 25 w7 w6.heap.size (.int .i64 qv) (.slice qA qn.length qc) (.slice qB qr.length qd) := by rw [← hw7]; exact alloc_new _ _
              have HS7 := Lib.hid (show Below (wr).heap.size (wr) w7 from hbrq.trans (hbaq.mono hbrq.size))
              have HP7 := Lib.hid (HP5.out.trans (HS7.out.mono HP5.out.size))
              have hs7 := HP7.out.size
              have ht7 := HS7.out.size
              have hz7 : w6.heap.size < w7.heap.size := blk_lt hgq
              have HPLq := Lib.hid hplq
              have HOKq := Lib.hid (hokq.below hbaq (Nat.le_refl _))
              have HGq := Lib.hid hgq
              clear hplq hokq hbrq hbaq hgq c0 c1 c2
              obtain ⟨c0, c1, c2⟩ := HVC.out w7 HP7.out
              have hw27 : w2.heap.size < w7.heap.size := by omega
              go_wp2_with (fail)
              refine (HPR3.out w7 HP7.out).mono ?_
              rintro e w8 ⟨⟨xv, xA, xc, xn, xB, xd, xr⟩, rfl, hplx, hokx, hbrx⟩
              obtain ⟨w9, hw9⟩ : ∃ w9, w8.alloc (.cells #[.int .i64 xv, .slice xA xn.length xc, .slice xB xr.length xd] 25) = w9 := ⟨_, rfl⟩
              have hbax : Below w8.heap.size w8 w9 := by rw [← hw9]; exact below_al _ _
              have hgx : IsV3 25 w9 w8.heap.size (.int .i64 xv) (.slice xA xn.length xc) (.slice xB xr.length xd) := by rw [← hw9]; exact alloc_new _ _
              have HS9 := Lib.hid (show Below (w7).heap.size (w7) w9 from hbrx.trans (hbax.mono hbrx.size))
              have HP9 := Lib.hid (HP7.out.trans (HS9.out.mono HP7.out.size))
              have hs9 := HP9.out.size
              have ht9 := HS9.out.size
              have hz9 : w8.heap.size < w9.heap.size := blk_lt hgx
              have HPLx := Lib.hid hplx
              have HOKx := Lib.hid (hokx.below hbax (Nat.le_refl _))
              have HGx := Lib.hid hgx
              clear hplx hokx hbrx hbax hgx c0 c1 c2
              obtain ⟨c0, c1, c2⟩ := HVC.out w9 HP9.out
              have hw29 : w2.heap.size < w9.heap.size := by omega
              go_wp2_with (fail)
              refine (HPP.out w9 HP9.out).mono ?_
              rintro e w10 ⟨⟨yv, yA, yc, yn, yB, yd, yr⟩, rfl, hply, hoky, hbry⟩
              obtain ⟨w11, hw11⟩ : ∃ w11, w10.alloc (.cells #[.int .i64 yv, .slice yA yn.length yc, .slice yB yr.length yd] 25) = w11 := ⟨_, rfl⟩
              have hbay : Below w10.heap.size w10 w11 := by rw [← hw11]; exact below_al _ _
              have hgy : IsV3 25 w11 w10.heap.size (.int .i64 yv) (.slice yA yn.length yc) (.slice yB yr.length yd) := by rw [← hw11]; exact alloc_new _ _
              have HS11 := Lib.hid (show Below (w9).heap.size (w9) w11 from hbry.trans (hbay.mono hbry.size))
              have HP11 := Lib.hid (HP9.out.trans (HS11.out.mono HP9.out.size))
              have hs11 := HP11.out.size
              have ht11 := HS11.out.size
              have hz11 : w10.heap.size < w11.heap.size := blk_lt hgy
              have HPLy := Lib.hid hply
              have HOKy := Lib.hid (hoky.below hbay (Nat.le_refl _))
              have HGy := Lib.hid hgy
              clear hply hoky hbry hbay hgy c0 c1 c2
              obtain ⟨c0, c1, c2⟩ := HVC.out w11 HP11.out
              have hw211 : w2.heap.size < w11.heap.size := by omega
              have HQ11 := Lib.hid (blk_below (HS9.out.trans (HS11.out.mono HS9.out.size)) HGq.out hz7)
              have HQO := Lib.hid (HOKq.out.below (HS9.out.trans (HS11.out.mono HS9.out.size)) (by omega))
              have HPE := Lib.hid (pending_l w11 w6.heap.size (⟨qv, qA, qc, qn, qB, qd, qr⟩ : PV) HQO.out (by omega))
              have hz0 : addPl p a2 = ⟨0, [], []⟩ := if_neg (by rw [HAE.out]; decide)
              have hpe : pend (⟨qv, qA, qc, qn, qB, qd, qr⟩ : PV).pl.ss = (-1, -1) := by rw [HPLq.out, hz0]; exact pend_none rfl
              rw [hpe] at HPE
              simp only [PV.val] at HPE
              obtain ⟨⟨y0, y1, y2⟩, _⟩ := isv3_cells HQ11.out
              have hq11 : w6.heap.size < w11.heap.size := by omega
              clear hz0 hpe
              go_wp2_with (fail)
              refine HPE.out.mono ?_
              rintro e w12 ⟨rfl, hb12⟩
              have HB12 := Lib.hid (HB3.out.trans ((HP11.out.trans (hb12.mono HP11.out.size)).mono HB3.out.size))
              clear hb12
              go_wp2_with (fail)
              go_ret
              exact ⟨rfl, HB12.out⟩
    · have hez : (er == 0) = false := by simp [he0]
      have hz0 : initPl l a1 = ⟨0, [], []⟩ := if_neg (by rw [HER.out]; exact he0)
      have hrs : rs.length = 0 := by
        have := HV.out
        rw [hz0] at this
        have := congrArg (fun q : Pl => q.ss.length) this
        simpa [PV.pl] using this
      have hr2 : (er != 0) = true := by simp [he0]
      have HRS := Lib.hid hrs
      obtain ⟨⟨c0, c1, c2⟩, _⟩ := isv3_cells HG5.out
      rw [hrs] at c2
      have hw2r : w2.heap.size < w5.heap.size := by omega
      clear hrs hz0 he0
      have hW5 := HW5.out
      go_wp2_with (fail)
      go_ret
      exact ⟨by simp, HB5.out⟩
end Go.Proofs.Ytnpkhkhchimcnaa.lawPlacementRefuses
