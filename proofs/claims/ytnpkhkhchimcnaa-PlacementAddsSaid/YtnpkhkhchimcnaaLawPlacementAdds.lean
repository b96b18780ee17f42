/-
  The walk of the law PlacementAdds: for all inputs it returns true.
-/
import Derived.Test.YtnpkhkhchimcnaaPmAdd
import Derived.Test.YtnpkhkhchimcnaaPmRemM
import Derived.Test.YtnpkhkhchimcnaaPmInitM
import Derived.Test.YtnpkhkhchimcnaaPmPend
import Derived.Test.YtnpkhkhchimcnaaLawPlacementEven
import Derived.Test.YtnpkhkhchimcnaaPmAddY
namespace Go.Proofs.Ytnpkhkhchimcnaa.lawPlacementAdds
open Go.ChangeShapes Go.WideShapes Go.ChangeAt Go.RowKit Go.Shelf plain words ord mem pm
open lawPlacementEven (row_ls)

theorem load_le_of (x : Int) : ∀ (X Y : List (List O)), X.length = Y.length → (∀ (i : Nat) (l l' : List O), X[i]? = some l → Y[i]? = some l' → holds l' x = true → holds l x = true) → pm.load Y x ≤ pm.load X x
  | [], [], _, _ => Nat.le_refl _
  | [], _ :: _, h, _ => by simp at h
  | _ :: _, [], h, _ => by simp at h
  | a :: X, b :: Y, h, hh => by
    have := load_le_of x X Y (by simpa using h) (fun i l l' h1 h2 => hh (i + 1) l l' (by simpa using h1) (by simpa using h2))
    have h0 := hh 0 a b rfl rfl
    unfold pm.load at this ⊢
    rw [List.countP_cons, List.countP_cons]
    cases hb : holds b x with
    | false => simp; omega
    | true => rw [h0 hb]; simp; exact this
theorem holds_give_other {l : List O} {f t x : Int} (hx : x ≠ t) (h : holds (give l f t) x = true) : holds l x = true := by
  obtain ⟨o, ho, e1, e2⟩ := (holds_iff _ _).1 h
  rcases mem_give.1 ho with rfl | rfl | ⟨ho, _⟩
  · exact absurd e1.symm hx
  · exact absurd rfl e2
  · exact (holds_iff _ _).2 ⟨o, ho, e1, e2⟩
theorem add_load_other {p : Pl} {n x : Int} (h : addErr p n = 0) (hx : has p.nodes x = true) : pm.load (addPl p n).ss x ≤ pm.load p.ss x := by
  have hm := addErr_zero h
  have hne : x ≠ n := fun e => by rw [e, hm.new] at hx; cases hx
  obtain ⟨_, _, _, ha⟩ := add_ok h
  refine load_le_of x p.ss (addPl p n).ss ha.len.symm fun i l l' h1 h2 hh => ?_
  rcases ha.at_ i l l' h1 h2 with ⟨e, _⟩ | ⟨f, t, ht, _, _, _, _, _, e⟩
  · rw [← e]; exact hh
  · rw [e, ht] at hh; exact holds_give_other hne hh
theorem go_load {p : Pl} {n : Int} (hm : MayAdd p n) {part : Nat} (hp : part < p.ss.length) (g : Nat) {X : List (List O)} (hi : AddInv p.ss n X) (h1 : pm.load X n ≤ part) (h2 : part ≤ g + pm.load X n) : pm.load (addGo (addNodes p n) n part g X) n = part := by
  induction g generalizing X with
  | zero => unfold addGo; omega
  | succ g ih =>
    by_cases hlt : pm.load X n < part
    · rcases givers_spec X n (nodes := addNodes p n) (fun x hx => (hm.nodes.1.each x hx).1) with ⟨_, hall⟩ | ⟨f, k, l, eg, _, _, hX, hh1, hh2⟩
      · exfalso
        have hex : ∃ l ∈ X, holds l n = false := by
          refine Classical.byContradiction fun hno => ?_
          have : pm.load X n = X.length := List.countP_eq_length.2 fun l hl => by
            cases hh : holds l n with
            | true => rfl
            | false => exact absurd ⟨l, hl, hh⟩ hno
          rw [hi.len] at this
          omega
        obtain ⟨l, hl, hln⟩ := hex
        obtain ⟨k, hk⟩ := List.mem_iff_getElem?.1 hl
        have hs := hi.fresh hk hln
        have hc := hm.calm l (List.mem_of_getElem? hs)
        obtain ⟨o, ho⟩ : ∃ o, o ∈ l := List.exists_mem_of_length_pos (by rw [hc.three]; decide)
        have hho : holds l o.1 = true := (hc.holds_iff o.1).2 ⟨o, ho, rfl⟩
        have hin : has (addNodes p n) o.1 = true := by
          rw [hm.nodes.2.1, ((hm.ok.each l (List.mem_of_getElem? hs)).each o ho).2.2 (by rw [(hc.each o ho).2]; simp)]; rfl
        have := hall o.1 ((has_iff' _ _).1 hin) l hl
        unfold gp at this
        rw [hho, hln] at this; cases this
      · obtain ⟨g', hg, e⟩ := addGo_step (nodes := addNodes p n) (g := g + 1) hlt h2 eg hX
        obtain rfl : g' = g := by omega
        rw [e]
        have hl2 := load_give (f := f) hX hh2
        exact ih (hi.step hX hh2 hh1) (by rw [hl2]; omega) (by rw [hl2]; omega)
    · rw [addGo_stop (.inl hlt)]; omega
theorem add_load {p : Pl} {n : Int} (h : addErr p n = 0) : pm.load (addPl p n).ss n = addPart p n ∧ pm.load p.ss n = 0 ∧ addPart p n ≤ p.ss.length := by
  have hm := addErr_zero h
  have e : addPl p n = ⟨p.ver + 1, addNodes p n, addGo (addNodes p n) n (addPart p n) (addPart p n) p.ss⟩ := if_pos h
  have h0 : pm.load p.ss n = 0 := List.countP_eq_zero.2 fun l hl => by rw [hm.holds_new hl]; simp
  have h4 : 4 ≤ (addNodes p n).length := by rw [hm.nodes.2.2]; have := hm.ok.nodes.many; omega
  have hlt : addPart p n < p.ss.length := by
    unfold addPart
    have := hm.ok.some_
    exact Nat.div_lt_of_lt_mul (by have := Nat.mul_le_mul_right p.ss.length h4; omega)
  refine ⟨?_, h0, by omega⟩
  rw [e]
  exact go_load hm hlt _ (AddInv.start _ _) (by rw [h0]; omega) (by omega)
set_option maxHeartbeats 4000000 in
set_option maxRecDepth 100000 in
theorem walk_ok (a0 : Option Addr) (len0 cap0 : Nat) (z0 : List Int) (a1 : Int) (a2 : Int) (w : World) (w0 : IsRow .i64 w a0 len0 cap0 z0) (w1 : (Lit.int .i64 a1).wf = true) (w2 : (Lit.int .i64 a2).wf = true) :
    Calls Try.prog 3 #[.slice a0 len0 cap0, .int .i64 a1, .int .i64 a2] w fun e w' => e = .returned (.bool true) ∧ Below w.heap.size w w' := by
  obtain ⟨hls, hcap, hmost⟩ := row_ls w0
  obtain ⟨l, hl⟩ : ∃ l, z0.take len0 = l := ⟨_, rfl⟩
  rw [hl] at hls
  clear w0 w1 w2 hl
  have HL := Lib.hid hls
  have HLN := Lib.hid hls.1
  clear hls
  by_cases hbig : 256 < len0
  · have hbz : (256 : Int) < (len0 : Int) := by omega
    clear hbig
    go_enter Try.func3, Try.ntmps3
    go_wp2_with (fail)
    go_ret
    exact ⟨rfl, Below.refl _ _⟩
  · have hbz : ¬ (256 : Int) < (len0 : Int) := by omega
    have HPI := Lib.hid (pinit_x w w.heap.size len0 cap0 a0 l HL.out (Nat.le_refl _) (by omega) a1)
    have HRI := Lib.hid (fun (u : World) (hu : Below w.heap.size w u) => rinit_y u w.heap.size len0 cap0 a0 l (HL.out.below hu (Nat.le_refl _)) hu.size (by omega) hcap hmost a1)
    obtain ⟨er, her⟩ : ∃ er, initErr l a1 = er := ⟨_, rfl⟩
    rw [rinitErr_eq, her, rinit_pl] at HRI
    rw [her] at HPI
    have HER := Lib.hid her
    clear her
    go_enter Try.func3, Try.ntmps3
    go_wp2_with (fail)
    refine HPI.out.mono ?_
    rintro e w2 ⟨⟨ver, nA, nc, nodes, sA, sc, rs⟩, rfl, hvp, hvok, hb2⟩
    obtain ⟨w3, hw3⟩ : ∃ w3, w2.alloc (.cells #[.int .i64 ver, .slice nA nodes.length nc, .slice sA rs.length sc] 25) = w3 := ⟨_, rfl⟩
    have HB3 := Lib.hid (show Below w.heap.size w w3 by rw [← hw3]; exact hb2.alloc hb2.size _)
    have HV := Lib.hid hvp
    have HOK := Lib.hid (show PVok w3 w2.heap.size (⟨ver, nA, nc, nodes, sA, sc, rs⟩ : PV) by rw [← hw3]; exact hvok.below (below_al _ _) (Nat.le_refl _))
    have HG := Lib.hid (show IsV3 25 w3 w2.heap.size (.int .i64 ver) (.slice nA nodes.length nc) (.slice sA rs.length sc) by rw [← hw3]; exact alloc_new _ _)
    have HW3 := Lib.hid hw3
    have hs2 := hb2.size
    have hs3 : w2.heap.size < w3.heap.size := blk_lt HG.out
    clear hvp hvok hb2 hw3 HPI
    go_wp2_with (fail)
    rw [HW3.out]
    refine (HRI.out w3 HB3.out).mono ?_
    rintro e w4 ⟨⟨ver2, nA2, nc2, nodes2, sA2, sc2, rs2⟩, rfl, hvp2, hvok2, hb4⟩
    obtain ⟨w5, hw5⟩ : ∃ w5, w4.alloc (.cells #[.int .i64 ver2, .slice nA2 nodes2.length nc2, .slice sA2 rs2.length sc2] 25) = w5 := ⟨_, rfl⟩
    have hb5 : Below w3.heap.size w3 w5 := by rw [← hw5]; exact hb4.alloc hb4.size _
    have HV2 := Lib.hid hvp2
    have HOK2 := Lib.hid (show PVok w5 w4.heap.size (⟨ver2, nA2, nc2, nodes2, sA2, sc2, rs2⟩ : PV) by rw [← hw5]; exact hvok2.below (below_al _ _) (Nat.le_refl _))
    have HG2 := Lib.hid (show IsV3 25 w5 w4.heap.size (.int .i64 ver2) (.slice nA2 nodes2.length nc2) (.slice sA2 rs2.length sc2) by rw [← hw5]; exact alloc_new _ _)
    have HP5 := Lib.hid hb5
    have HB5 := Lib.hid (HB3.out.trans (hb5.mono HB3.out.size))
    have hs5 := hb5.size
    have hs4 := hb4.size
    have hs45 : w4.heap.size < w5.heap.size := blk_lt HG2.out
    have HG5 := Lib.hid (blk_below hb5 HG.out hs3)
    have HW5 := Lib.hid hw5
    clear hb4 hb5 hw5 HRI hvp2 hvok2
    by_cases he0 : er = 0
    · subst he0
      obtain ⟨hok, hbu, hver, hnd, hlen⟩ := init_ok HER.out
      obtain ⟨p, hp⟩ : ∃ p, initPl l a1 = p := ⟨_, rfl⟩
      rw [hp] at hok hbu hver hnd hlen HV HV2
      have HOKP := Lib.hid hok
      have HBU := Lib.hid hbu
      have HVER := Lib.hid hver
      have HND := Lib.hid hnd
      have HLEN := Lib.hid hlen
      have hnl : p.nodes.length = len0 := by rw [hnd, srt_len]; exact HLN.out
      have HNL := Lib.hid hnl
      have hn3 : 3 ≤ len0 := by rw [← hnl]; exact hok.nodes.many
      have HPV := Lib.hid (show ∀ u, Below w3.heap.size w3 u → PVok u w3.heap.size (⟨ver, nA, nc, nodes, sA, sc, rs⟩ : PV) from fun u hu => (HOK.out.more (C := w3.heap.size) (by omega)).below hu (Nat.le_refl _))
      have hsl := HOK.out.len.1
      have HVC := Lib.hid (fun (u : World) (hu : Below w3.heap.size w3 u) => (isv3_cells (blk_below hu HG.out hs3)).1)
      have hw25 : w2.heap.size < w5.heap.size := by omega
      clear hok hbu hver hnd hlen hnl hp
      have HPA := Lib.hid (padd_x w5 w3.heap.size _ (HPV.out w5 HP5.out) HP5.out.size a2)
      have HPY := Lib.hid (fun (u : World) (hu : Below w3.heap.size w3 u) => radd_y u w3.heap.size _ (HPV.out u hu) hu.size a2)
      rw [HV.out] at HPA HPY
      simp only [PV.val] at HPA HPY
      obtain ⟨ea, hea⟩ : ∃ ea, addErr p a2 = ea := ⟨_, rfl⟩
      rw [hea] at HPA HPY
      have HEA := Lib.hid hea
      clear hea
      obtain ⟨c0, c1, c2⟩ := HVC.out w5 HP5.out
      have hW5 := HW5.out
      go_wp2_with (fail)
      refine (HPA.out).mono ?_
      rintro e w6 ⟨⟨qv, qA, qc, qn, qB, qd, qr⟩, rfl, hplq, hokq, hbrq⟩
      obtain ⟨w7, hw7⟩ : ∃ w7, w6.alloc (.cells #[.int .i64 qv, .slice qA qn.length qc, .slice qB qr.length qd] 25) = w7 := ⟨_, rfl⟩
      have hbaq : Below w6.heap.size w6 w7 := by rw [← hw7]; exact below_al _ _
      have hgq : IsV3 25 w7 w6.heap.size (.int .i64 qv) (.slice qA qn.length qc) (.slice qB qr.length qd) := by rw [← hw7]; exact alloc_new _ _
      have HS7 := Lib.hid (show Below (w5).heap.size (w5) w7 from hbrq.trans (hbaq.mono hbrq.size))
      have HP7 := Lib.hid (HP5.out.trans (HS7.out.mono HP5.out.size))
      have hs7 := HP7.out.size
      have ht7 := HS7.out.size
      have hu6 := hbrq.size
      have hz7 : w6.heap.size < w7.heap.size := blk_lt hgq
      have HPLq := Lib.hid hplq
      have HOKq := Lib.hid (hokq.below hbaq (Nat.le_refl _))
      have HGq := Lib.hid hgq
      clear hW5 hplq hokq hbrq hbaq hgq c0 c1 c2
      obtain ⟨c0, c1, c2⟩ := HVC.out w7 HP7.out
      have hw27 : w2.heap.size < w7.heap.size := by omega
      go_wp2_with (fail)
      refine (HPY.out w7 HP7.out).mono ?_
      rintro e w8 ⟨⟨yv, yA, yc, yn, yB, yd, yr⟩, rfl, hply, hoky, hbry⟩
      obtain ⟨w9, hw9⟩ : ∃ w9, w8.alloc (.cells #[.int .i64 yv, .slice yA yn.length yc, .slice yB yr.length yd] 25) = w9 := ⟨_, rfl⟩
      have hbay : Below w8.heap.size w8 w9 := by rw [← hw9]; exact below_al _ _
      have hgy : IsV3 25 w9 w8.heap.size (.int .i64 yv) (.slice yA yn.length yc) (.slice yB yr.length yd) := by rw [← hw9]; exact alloc_new _ _
      have HS9 := Lib.hid (show Below (w7).heap.size (w7) w9 from hbry.trans (hbay.mono hbry.size))
      have HP9 := Lib.hid (HP7.out.trans (HS9.out.mono HP7.out.size))
      have hs9 := HP9.out.size
      have ht9 := HS9.out.size
      have hu8 := hbry.size
      have hz9 : w8.heap.size < w9.heap.size := blk_lt hgy
      have HPLy := Lib.hid hply
      have HOKy := Lib.hid (hoky.below hbay (Nat.le_refl _))
      have HGy := Lib.hid hgy
      clear hply hoky hbry hbay hgy c0 c1 c2
      obtain ⟨c0, c1, c2⟩ := HVC.out w9 HP9.out
      have hw29 : w2.heap.size < w9.heap.size := by omega
      by_cases hea0 : ea = 0
      · subst hea0
        obtain ⟨hq1, hq2, hq3⟩ := add_load HEA.out
        have hqn : qn = addNodes p a2 := by
          have h1 := (add_ok HEA.out).2.2.1
          have h2 := HPLq.out
          rw [← h2] at h1
          exact h1
        have hm := addErr_zero HEA.out
        have hqn1 : qn.length = len0 + 1 := by rw [hqn, hm.nodes.2.2, HNL.out]
        have hvn : nodes = p.nodes := congrArg Pl.nodes HV.out
        have hvl : nodes.length = len0 := by rw [hvn]; exact HNL.out
        have HOT := Lib.hid (fun (x : Int) (hx : has p.nodes x = true) => add_load_other HEA.out hx)
        obtain ⟨P, hP⟩ : ∃ P, addPart p a2 = P := ⟨_, rfl⟩
        rw [hP] at hq1 hq3
        have hPp : (3 * a1).tdiv ((len0 + 1 : Nat) : Int) = (P : Int) := by
          rw [← hP, ← HLEN.out]
          unfold addPart
          rw [hm.nodes.2.2, HNL.out, Int.tdiv_eq_ediv_of_nonneg (by omega)]
          simp
        have hP8 : p.ss.length ≤ 8 := HOKP.out.few
        have hA1 := HLEN.out
        have hmin : min a1 (P : Int) = (P : Int) := by omega
        have ha18 : a1 ≤ 8 := by omega
        have ha10 : 0 ≤ a1 := by omega
        have HLQ := Lib.hid (fun (u : World) (hu : Below w9.heap.size w9 u) (x : Int) => pload_x u w7.heap.size (⟨qv, qA, qc, qn, qB, qd, qr⟩ : PV) (((HOKq.out.more (C := w7.heap.size) (by omega)).below HS9.out (Nat.le_refl _)).below hu (by omega)) (by have := hu.size; omega) x)
        have HLP := Lib.hid (fun (u : World) (hu : Below w9.heap.size w9 u) (x : Int) => pload_x u w3.heap.size (⟨ver, nA, nc, nodes, sA, sc, rs⟩ : PV) ((HPV.out w9 HP9.out).below hu (by omega)) (by have := hu.size; omega) x)
        rw [HPLq.out] at HLQ
        rw [HV.out] at HLP
        simp only [PV.val, hqn1, hvl] at HLQ HLP
        have HQ9 := Lib.hid (blk_below HS9.out HGq.out hz7)
        have HNN := Lib.hid (show Ls NE w9 w3.heap.size nA len0 p.nodes by have := (HPV.out w9 HP9.out).n; simp only [hvn, HNL.out] at this; exact this)
        have HQC := Lib.hid (fun (u : World) (hu : Below w9.heap.size w9 u) => (show u.cell? ⟨w6.heap.size, 0, none⟩ = some (.int .i64 qv) ∧ u.cell? ⟨w6.heap.size, 1, none⟩ = some (.slice qA (len0 + 1) qc) ∧ u.cell? ⟨w6.heap.size, 2, none⟩ = some (.slice qB qr.length qd) from by
          have := (isv3_cells (blk_below hu HQ9.out (by omega))).1
          rw [hqn1] at this
          exact this))
        have HPC := Lib.hid (fun (u : World) (hu : Below w9.heap.size w9 u) => (show u.cell? ⟨w2.heap.size, 0, none⟩ = some (.int .i64 ver) ∧ u.cell? ⟨w2.heap.size, 1, none⟩ = some (.slice nA len0 nc) ∧ u.cell? ⟨w2.heap.size, 2, none⟩ = some (.slice sA rs.length sc) from by
          have := HVC.out u (HP9.out.trans (hu.mono hs9))
          rw [hvl] at this
          exact this))
        have HQ1 := Lib.hid hq1
        have HQ2 := Lib.hid hq2
        have HB9 := Lib.hid (HB3.out.trans (HP9.out.mono HB3.out.size))
        have HPP := Lib.hid hPp
        have HMN := Lib.hid hmin
        clear hq1 hq2 hqn hm hvn hvl hP hA1 hqn1 c0 c1 c2 hPp hmin
        obtain ⟨c0, c1, c2⟩ := HPC.out w9 (Below.refl _ _)
        obtain ⟨y0, y1, y2⟩ := HQC.out w9 (Below.refl _ _)
        have hq69 : w6.heap.size < w9.heap.size := by omega
        go_wp2_with (fail)
        clear c0 c1 c2 y0 y1 y2
        go_loopg [6, 15] len0 (fun gg s6 s15 wr => ∃ i : Nat, s15 = .int .i64 i ∧ s6 = .bool false ∧ i ≤ len0 ∧ len0 - i ≤ gg ∧ Aside (Below w9.heap.size w9 wr))
        case atStart => exact ⟨0, rfl, rfl, by omega, by omega, Below.refl _ _⟩
        case round =>
          obtain ⟨i, rfl, rfl, hi, hg, HBR⟩ := hrel
          have hbr := HBR.out.size
          obtain ⟨c0, c1, c2⟩ := HPC.out wr HBR.out
          obtain ⟨y0, y1, y2⟩ := HQC.out wr HBR.out
          have hq6r : w6.heap.size < wr.heap.size := by omega
          have hq2r : w2.heap.size < wr.heap.size := by omega
          by_cases hlt : i < len0
          · have hltz : (i : Int) < (len0 : Int) := by omega
            have i0 : (0 : Int) ≤ (i : Int) := by omega
            obtain ⟨x, hx⟩ := HNN.out.get hlt
            obtain ⟨b, off, rfl, hb, l0⟩ := num_at (HNN.out.below HBR.out (by omega)) hx
            have hbw : b < wr.heap.size := by omega
            have hle := HOT.out x ((has_iff' _ _).2 (List.mem_of_getElem? hx))
            obtain ⟨L1, hL1⟩ : ∃ L1, pm.load (addPl p a2).ss x = L1 := ⟨_, rfl⟩
            obtain ⟨L2, hL2⟩ : ∃ L2, pm.load p.ss x = L2 := ⟨_, rfl⟩
            rw [hL1, hL2] at hle
            have HLQ2 := Lib.hid (fun (u : World) (hu : Below w9.heap.size w9 u) => hL1 ▸ HLQ.out u hu x)
            have HLP2 := Lib.hid (fun (u : World) (hu : Below w9.heap.size w9 u) => hL2 ▸ HLP.out u hu x)
            have hnl : ¬ ((L2 : Int) < (L1 : Int)) := by omega
            clear hx hL1 hL2
            go_wp2_with (fail)
            have q0 := Wb.at_ c0
            have q1 := Wb.at_ c1
            have q2 := Wb.at_ c2
            have q3 := Wb.at_ y0
            have q4 := Wb.at_ y1
            have q5 := Wb.at_ y2
            have q6 := Wb.at_ l0
            refine wp_region_plan [([0, 1, 2, 3, 4, 5, 7, 8, 9, 10, 11, 12], some (6, false)), ([], some (13, false)), ([14], none)] (by kernel_rfl) (by kernel_rfl) ?_
            refine seg_act _ (by dsimp only [pick, ord.at_]) _ (by dsimp only [pick, ord.at_]) ?_
            repeat (go_big_quiet_step (fail))
            refine wpQuiet_nil ?_
            intro K h1 h2
            clear h2
            go_wp2_with (fail)
            refine (HLQ2.out wr.drew HBR.out.drew).mono ?_
            rintro e w10 ⟨rfl, hb10⟩
            have HB10 := Lib.hid (show Below wr.heap.size wr w10 from (Below.refl _ _).drew.trans hb10)
            have HB910 := Lib.hid (HBR.out.trans (HB10.out.mono hbr))
            clear hb10
            go_wp2_with (fail)
            refine h1 _ _ HB10.out ?_
            clear h1
            refine seg_act _ (by dsimp only [pick, ord.at_]) _ (by dsimp only [pick, ord.at_]) ?_
            repeat (go_big_quiet_step (fail))
            refine wpQuiet_nil ?_
            intro K h1 h2
            clear h2
            go_wp2_with (fail)
            refine (HLP2.out w10 HB910.out).mono ?_
            rintro e w11 ⟨rfl, hb11⟩
            have HB11 := Lib.hid (HB10.out.trans (hb11.mono HB10.out.size))
            have HB911 := Lib.hid (HB910.out.trans (hb11.mono HB910.out.size))
            clear hb11
            go_wp2_with (fail)
            refine h1 _ _ HB11.out ?_
            clear h1
            refine seg_end _ (by dsimp only [pick, ord.at_]) ?_
            repeat (go_big_quiet_step (fail))
            refine wpQuiet_nil ?_
            refine NoPanic.normal ?_
            clear q0 q1 q2 q3 q4 q5 q6 c0 c1 c2 y0 y1 y2 l0
            go_wp2_with (fail)
            go_roundg (len0 - (i + 1))
            case measure => omega
            case rel => exact ⟨i + 1, by go_num, rfl, by omega, by omega, HB911.out⟩
          · obtain rfl : i = len0 := by omega
            have hltz : ¬ (i : Int) < (i : Int) := by omega
            have HLQ2 := Lib.hid (fun (u : World) (hu : Below w9.heap.size w9 u) => HQ1.out ▸ HLQ.out u hu a2)
            have HLP2 := Lib.hid (fun (u : World) (hu : Below w9.heap.size w9 u) => HQ2.out ▸ HLP.out u hu a2)
            have hPp := HPP.out
            have hnz : ¬ (((i + 1 : Nat) : Int) = 0) := by omega
            have hnz2 : ¬ ((i : Int) + 1 = 0) := by omega
            have hPp2 : (3 * a1).tdiv ((i : Int) + 1) = (P : Int) := hPp
            have hmin := HMN.out
            go_wp2_with (fail)
            have q0 := Wb.at_ c0
            have q1 := Wb.at_ c1
            have q2 := Wb.at_ c2
            have q3 := Wb.at_ y0
            have q4 := Wb.at_ y1
            have q5 := Wb.at_ y2
            refine wp_region_plan [([0, 1, 3, 4, 5, 6, 7, 8, 9, 10], some (2, false)), ([11, 12, 13, 14], some (15, false)), ([16, 17, 18], none)] (by kernel_rfl) (by kernel_rfl) ?_
            refine seg_act _ (by dsimp only [pick, ord.at_]) _ (by dsimp only [pick, ord.at_]) ?_
            repeat (go_big_quiet_step (fail))
            refine wpQuiet_nil ?_
            intro K h1 h2
            clear h2
            go_wp2_with (fail)
            refine (HLQ2.out wr.drew HBR.out.drew).mono ?_
            rintro e w10 ⟨rfl, hb10⟩
            have HB10 := Lib.hid (show Below wr.heap.size wr w10 from (Below.refl _ _).drew.trans hb10)
            have HB910 := Lib.hid (HBR.out.trans (HB10.out.mono hbr))
            clear hb10
            go_wp2_with (fail)
            refine h1 _ _ HB10.out ?_
            clear h1
            refine seg_act _ (by dsimp only [pick, ord.at_]) _ (by dsimp only [pick, ord.at_]) ?_
            repeat (go_big_quiet_step (fail))
            refine wpQuiet_nil ?_
            intro K h1 h2
            clear h2
            go_wp2_with (fail)
            refine (HLP2.out w10 HB910.out).mono ?_
            rintro e w11 ⟨rfl, hb11⟩
            have HB11 := Lib.hid (HB10.out.trans (hb11.mono HB10.out.size))
            have HB911 := Lib.hid (HB910.out.trans (hb11.mono HB910.out.size))
            clear hb11
            go_wp2_with (fail)
            refine h1 _ _ HB11.out ?_
            clear h1
            refine seg_end _ (by dsimp only [pick, ord.at_]) ?_
            repeat (go_big_quiet_step (fail))
            refine wpQuiet_nil ?_
            refine NoPanic.normal ?_
            clear q0 q1 q2 q3 q4 q5 c0 c1 c2 y0 y1 y2
            go_wp2_with (fail)
            go_ret
            exact ⟨by simp, HB9.out.trans (HB911.out.mono HB9.out.size)⟩
      · have hez : (ea == 0) = false := by simp [hea0]
        have hr2 : (ea != 0) = true := by simp [hea0]
        have HB9 := Lib.hid (HB3.out.trans (HP9.out.mono HB3.out.size))
        clear hea0
        go_wp2_with (fail)
        go_ret
        exact ⟨by simp, HB9.out⟩
    · have hez : (er == 0) = false := by simp [he0]
      have hr2 : (er != 0) = true := by simp [he0]
      clear he0
      have hW5 := HW5.out
      go_wp2_with (fail)
      go_ret
      exact ⟨by simp, HB5.out⟩
end Go.Proofs.Ytnpkhkhchimcnaa.lawPlacementAdds
