/-
  The walk of the law PlacementSources: for all inputs it returns true.
-/
import Derived.Test.YtnpkhkhchimcnaaPmTake
import Derived.Test.YtnpkhkhchimcnaaPmOpenP
import Derived.Test.YtnpkhkhchimcnaaPmCheckY
namespace Go.Proofs.Ytnpkhkhchimcnaa.lawPlacementSources
open Go.ChangeShapes Go.WideShapes Go.ChangeAt Go.RowKit Go.Shelf plain words ord mem pm

def kind3 (k : Int) : Int := (k.tmod 3 + 3).tmod 3
theorem kind3_cases (k : Int) : kind3 k = 0 ∨ kind3 k = 1 ∨ kind3 k = 2 := by
  unfold kind3
  have h1 := Int.tmod_lt_of_pos k (show (0 : Int) < 3 by decide)
  have h2 := Int.lt_tmod_of_pos k (show (0 : Int) < 3 by decide)
  have h3 := Int.tmod_nonneg 3 (show 0 ≤ k.tmod 3 + 3 by omega)
  have h4 := Int.tmod_lt_of_pos (k.tmod 3 + 3) (show (0 : Int) < 3 by decide)
  omega
theorem kind3_wrap (k : Int) : IntKind.i64.wrap (k.tmod 3 + 3) = k.tmod 3 + 3 := by
  have h1 := Int.tmod_lt_of_pos k (show (0 : Int) < 3 by decide)
  have h2 := Int.lt_tmod_of_pos k (show (0 : Int) < 3 by decide)
  rw [IntWalk.i64_in _ (by omega)]
theorem fnd_of {l : List O} (h : RiseO l) {o : O} (ho : o ∈ l) : fnd (byNode o.1) l = o ∧ fis (byNode o.1) l = true := by
  have h1 : find l o.1 = some o := (find_iff h o.1 o).2 ⟨ho, rfl⟩
  unfold find at h1
  unfold fnd fis byNode
  rw [h1]
  exact ⟨rfl, rfl⟩
theorem fis_not {l : List O} {n : Int} (h : ∀ o ∈ l, o.1 ≠ n) : fis (byNode n) l = false := by
  unfold fis
  have : l.find? (byNode n) = none := List.find?_eq_none.2 fun o ho => by simpa [byNode] using h o ho
  rw [this]; rfl
/-- what is asked of an owner of the new placement -/
structure Src (l l' : List O) (x : O) : Prop where
  come : x.2.1 = 1 → fis (byNode x.1) l = false ∧ fis (byNode x.2.2) l' = true ∧ (fnd (byNode x.2.2) l').2.1 = 3 ∧ fis (byNode x.2.2) l = true ∧ (fnd (byNode x.2.2) l).2.1 = 2
  stay : x.2.1 ≠ 1 → fis (byNode x.1) l = true ∧ (x.2.1 = 2 → fnd (byNode x.1) l = x)
theorem src_of {nodes : List Int} {U : List O → Prop} {P : Int → Int → Prop} {l l' : List O} (hc : pm.Calm l) (h : Moved nodes U P l l') {x : O} (hx : x ∈ l') : Src l l' x := by
  rcases h with ⟨rfl, _, _⟩ | ⟨f, t, _, h1, h2, _, _, _, rfl⟩
  · have h2 := (hc.each x hx).2
    have hf := fnd_of hc.rise hx
    exact ⟨fun e => by rw [h2] at e; simp at e, fun _ => ⟨hf.2, fun _ => hf.1⟩⟩
  · have hfm := hc.mem h1
    have hft : f ≠ t := fun e => hc.not h2 _ hfm e
    have hr := give_rise hc.rise (hc.not h2) hft
    have hff := fnd_of hc.rise hfm
    simp only at hff
    rcases mem_give.1 hx with rfl | rfl | ⟨hx, hne⟩
    · refine ⟨fun _ => ?_, fun e => absurd rfl e⟩
      have hg := fnd_of hr (mem_give.2 (.inr (.inl rfl)) : (f, 3, -1) ∈ give l f t)
      simp only at hg ⊢
      exact ⟨fis_not (hc.not h2), hg.2, by rw [hg.1], hff.2, by rw [hff.1]⟩
    · exact ⟨fun e => by simp at e, fun _ => ⟨hff.2, fun e => by simp at e⟩⟩
    · have h3 := (hc.each x hx).2
      have hf := fnd_of hc.rise hx
      exact ⟨fun e => by rw [h3] at e; simp at e, fun _ => ⟨hf.2, fun _ => hf.1⟩⟩
theorem step_src {p : Pl} {K a b : Int} (he : stepErr p K a b = 0) (hK : K = 0 ∨ K = 1 ∨ K = 2) {i : Nat} {l' : List O} {x : O} (hl' : (stepPl p K a b).ss[i]? = some l') (hx : x ∈ l') : ∃ l, p.ss[i]? = some l ∧ Src l l' x := by
  have key : ∀ {nodes : List Int} {U : List O → Prop} {P : Int → Int → Prop}, AllMoved nodes U P p.ss (stepPl p K a b).ss → (∀ l ∈ p.ss, pm.Calm l) → ∃ l, p.ss[i]? = some l ∧ Src l l' x := fun hm hc => by
    have hi : i < p.ss.length := by rw [← hm.len]; exact (List.getElem?_eq_some_iff.1 hl').1
    have hl : p.ss[i]? = some p.ss[i] := List.getElem?_eq_getElem hi
    exact ⟨_, hl, src_of (hc _ (List.mem_of_getElem? hl)) (hm.at_ i _ _ hl hl') hx⟩
  rcases hK with rfl | rfl | rfl
  · have h' : addErr p a = 0 := he
    exact key (add_ok h').2.2.2 (addErr_zero h').calm
  · have h' : removeErr p a = 0 := he
    exact key (remove_ok h').2.2.2 (removeErr_zero h').1.calm
  · have h' : replaceErr p a b = 0 := he
    exact key (replace_ok h').2.2.2 (replaceErr_zero h').1.calm
set_option maxHeartbeats 4000000 in
set_option maxRecDepth 100000 in
theorem walk_ok (a0 : PV) (a10 a11 a12 : Int) (w : World) (h0 : PVok w w.heap.size a0) (w10 : (Lit.int .i64 a10).wf = true) (w11 : (Lit.int .i64 a11).wf = true) (w12 : (Lit.int .i64 a12).wf = true) :
    Calls Try.prog 5 #[a0.val, .agg #[.int .i64 a10, .int .i64 a11, .int .i64 a12]] w fun e w' => e = .returned (.bool true) ∧ Below w.heap.size w w' := by
  clear w10 w11 w12
  obtain ⟨w3, hw3⟩ : ∃ w3, (w.alloc (boxO a0)).alloc (.cells #[.int .i64 a10, .int .i64 a11, .int .i64 a12] 37) = w3 := ⟨_, rfl⟩
  have hb3 : Below w.heap.size w w3 := by rw [← hw3]; exact (below_al _ _).trans ((below_al _ _).mono (by simp))
  have gp : pm.Boxed w3 w.heap.size a0 := by rw [← hw3]; exact alloc_old _ (alloc_new _ _)
  have gs : IsV3 37 w3 (w.heap.size + 1) (.int .i64 a10) (.int .i64 a11) (.int .i64 a12) := by rw [← hw3]; have := alloc_new (w.alloc (boxO a0)) (.cells #[.int .i64 a10, .int .i64 a11, .int .i64 a12] 37); rwa [World.size_alloc] at this
  have hl3 : w.heap.size + 1 < w3.heap.size := blk_lt gs
  have HOK := Lib.hid (fun (u : World) (hu : Below w3.heap.size w3 u) => ((h0.below hb3 (Nat.le_refl _)).below hu (by omega)))
  have HHV := Lib.hid (fun (u : World) (hu : Below w3.heap.size w3 u) => heavy_l u w.heap.size a0 (HOK.out u hu) (by have := hu.size; omega))
  have HCK := Lib.hid (fun (u : World) (hu : Below w3.heap.size w3 u) => pcheck_x u w.heap.size a0 (HOK.out u hu) (by have := hu.size; omega))
  have HCY := Lib.hid (fun (u : World) (hu : Below w3.heap.size w3 u) => rcheck_y u w.heap.size a0 (HOK.out u hu) (by have := hu.size; omega))
  have HST := Lib.hid (fun (u : World) (hu : Below w3.heap.size w3 u) => step_l u w.heap.size a0 (HOK.out u hu) (by have := hu.size; omega) (kind3 a10) a11 a12)
  have HFP := Lib.hid (fun (u : World) (hu : Below w3.heap.size w3 u) (s n : Int) => rfind_y u w.heap.size a0 (HOK.out u hu) (by have := hu.size; omega) s n)
  have HB3 := Lib.hid hb3
  have HGP := Lib.hid gp
  have HGS := Lib.hid gs
  have HW3 := Lib.hid hw3
  have HK := Lib.hid (kind3_cases a10)
  obtain ⟨K, hK⟩ : ∃ K, kind3 a10 = K := ⟨_, rfl⟩
  rw [hK] at HST HK
  have HKR := Lib.hid (show (a10.tmod 3 + 3).tmod 3 = K from hK)
  have HKW := Lib.hid (kind3_wrap a10)
  obtain ⟨p, hp⟩ : ∃ p, a0.pl = p := ⟨_, rfl⟩
  rw [hp] at HCK HCY HST HFP
  have HPV := Lib.hid hp
  obtain ⟨ck, hck⟩ : ∃ ck, chk p = ck := ⟨_, rfl⟩
  obtain ⟨hv, hhv⟩ : ∃ hv, heavyB a0 = hv := ⟨_, rfl⟩
  obtain ⟨er, her⟩ : ∃ er, stepErr p K a11 a12 = er := ⟨_, rfl⟩
  obtain ⟨pl, hpl⟩ : ∃ pl, stepPl p K a11 a12 = pl := ⟨_, rfl⟩
  rw [hck] at HCK HCY
  rw [hhv] at HHV
  rw [her, hpl] at HST
  have HCKE := Lib.hid hck
  have HER := Lib.hid her
  have HPL := Lib.hid hpl
  obtain ⟨ver, nA, nc, nodes, sA, sc, rs⟩ := a0
  simp only [PV.val, boxO, pm.Boxed] at HHV HCK HCY HST HFP HW3 ⊢
  have HVC := Lib.hid (fun (u : World) (hu : Below w3.heap.size w3 u) => (isv3_cells (blk_below hu HGP.out (by omega))).1)
  have HSC := Lib.hid (fun (u : World) (hu : Below w3.heap.size w3 u) => (isv3_cells (blk_below hu HGS.out (by omega))).1)
  obtain ⟨c0, c1, c2⟩ := HVC.out w3 (Below.refl _ _)
  have HR3 := Lib.hid (Below.refl w3.heap.size w3)
  clear h0 hw3 hb3 gp gs hck her hpl hK hp hhv
  go_enter Try.func5, Try.ntmps5
  go_wp2_with (fail)
  rw [HW3.out]
  go_wp2_with (fail)
  refine (HHV.out w3 HR3.out).mono ?_
  rintro e w4 ⟨rfl, hb4⟩
  have HB4 := Lib.hid hb4
  have hs4 := hb4.size
  clear hb4 c0 c1 c2
  obtain ⟨c0, c1, c2⟩ := HVC.out w4 HB4.out
  have hl4 : w.heap.size < w4.heap.size := by omega
  cases hv with
  | true =>
    go_wp2_with (fail)
    refine (HCK.out w4 HB4.out).mono ?_
    rintro e w5 ⟨rfl, hb5⟩
    have HB5 := Lib.hid (HB4.out.trans (hb5.mono hs4))
    have hs5 := HB5.out.size
    clear hb5 c0 c1 c2
    obtain ⟨c0, c1, c2⟩ := HVC.out w5 HB5.out
    have hl5 : w.heap.size < w5.heap.size := by omega
    by_cases hk0 : ck = 0
    · subst hk0
      go_wp2_with (fail)
      refine (HHV.out w5 HB5.out).mono ?_
      rintro e w6 ⟨rfl, hb6⟩
      have HBW := Lib.hid (HB3.out.trans ((HB5.out.trans (hb6.mono hs5)).mono (by omega)))
      clear hb6
      go_wp2_with (fail)
      go_ret
      exact ⟨by simp, HBW.out⟩
    · have hkz : (ck != 0) = true := by simp [hk0]
      have HBW := Lib.hid (HB3.out.trans (HB5.out.mono (by omega)))
      clear hk0
      go_wp2_with (fail)
      go_ret
      exact ⟨by simp, HBW.out⟩
  | false =>
    go_wp2_with (fail)
    refine (HCY.out w4 HB4.out).mono ?_
    rintro e w5 ⟨rfl, hb5⟩
    have HB5 := Lib.hid (HB4.out.trans (hb5.mono hs4))
    have hs5 := HB5.out.size
    clear hb5 c0 c1 c2
    obtain ⟨c0, c1, c2⟩ := HVC.out w5 HB5.out
    have hl5 : w.heap.size < w5.heap.size := by omega
    by_cases hk0 : ck = 0
    · subst hk0
      have hpok := chk_iff.1 HCKE.out
      have HPOK := Lib.hid hpok
      obtain ⟨s0, s1, s2⟩ := HSC.out w5 HB5.out
      have hl5b : w.heap.size + 1 < w5.heap.size := by omega
      have hKr := HKR.out
      have hKw := HKW.out
      have HST5 := Lib.hid (HST.out w5 HB5.out)
      clear hpok
      go_wp2_with (fail)
      refine HST5.out.mono ?_
      rintro e w7 ⟨⟨qv, qA, qc, qn, qB, qd, qr⟩, ⟨yv, yA, yc, yn, yB, yd, yr⟩, rfl, hplq, hply, hopq, hopy, hb7⟩
      clear c0 c1 c2 s0 s1 s2 hKr hKw hply hopy
      obtain ⟨wq, hwq⟩ : ∃ wq, (w7.alloc (.cells #[.int .i64 0, .slice none 0 0, .slice none 0 0] 25)).alloc (.cells #[.int .i64 0, .slice none 0 0, .slice none 0 0] 25) = wq := ⟨_, rfl⟩
      have hbq : Below w7.heap.size w7 wq := by rw [← hwq]; exact (below_al _ _).trans ((below_al _ _).mono (by simp))
      have ga : IsV3 25 wq w7.heap.size (.int .i64 0) (.slice none 0 0) (.slice none 0 0) := by rw [← hwq]; exact alloc_old _ (alloc_new _ _)
      have gb : IsV3 25 wq (w7.heap.size + 1) (.int .i64 0) (.slice none 0 0) (.slice none 0 0) := by rw [← hwq]; have := alloc_new (w7.alloc (.cells #[.int .i64 0, .slice none 0 0, .slice none 0 0] 25)) (.cells #[.int .i64 0, .slice none 0 0, .slice none 0 0] 25); rwa [World.size_alloc] at this
      have hlb : w7.heap.size + 1 < wq.heap.size := blk_lt gb
      obtain ⟨⟨a0', a1', a2'⟩, af0, af1, af2⟩ := isv3_cells ga
      obtain ⟨⟨b0', b1', b2'⟩, bf0, bf1, bf2⟩ := isv3_cells gb
      obtain ⟨w8, hw8⟩ : ∃ w8, (((((wq.setCell ⟨w7.heap.size, 0, none⟩ (.int .i64 qv)).setCell ⟨w7.heap.size, 1, none⟩ (.slice qA qn.length qc)).setCell ⟨w7.heap.size, 2, none⟩ (.slice qB qr.length qd)).setCell ⟨w7.heap.size + 1, 0, none⟩ (.int .i64 yv)).setCell ⟨w7.heap.size + 1, 1, none⟩ (.slice yA yn.length yc)).setCell ⟨w7.heap.size + 1, 2, none⟩ (.slice yB yr.length yd) = w8 := ⟨_, rfl⟩
      have hb8 : Below w7.heap.size w7 w8 := by rw [← hw8]; exact below_set3 (below_set3 hbq (Nat.le_refl _) _ _ _) (by omega) _ _ _
      have g8 : IsV3 25 w8 w7.heap.size (.int .i64 qv) (.slice qA qn.length qc) (.slice qB qr.length qd) := by rw [← hw8]; exact set3_ne (set3 ga) (by omega) _ _ _
      have hs7 := hb7.size
      have hs8 := hb8.size
      have hl8 : w7.heap.size < w8.heap.size := blk_lt g8
      have HP8 := Lib.hid (HB5.out.trans ((hb7.trans (hb8.mono hs7)).mono hs5))
      have HBW8 := Lib.hid (HB3.out.trans (HP8.out.mono (by omega)))
      have HOQ := Lib.hid (hopq.ok.below hb8 (Nat.le_refl _))
      have HG8 := Lib.hid g8
      have HPLQ := Lib.hid hplq
      have hs38 := HP8.out.size
      have hqN8 := HOQ.out.len.1
      clear hb7 hb8 g8 hplq hopq hbq ga gb
      by_cases hea0 : er = 0
      · subst hea0
        have HSO := Lib.hid (step_ok HER.out)
        have HSR := Lib.hid (fun (i : Nat) (l' : List O) (x : O) (h1 : pl.ss[i]? = some l') (h2 : x ∈ l') => step_src HER.out HK.out (by rw [HPL.out]; exact h1) h2)
        have HQC := Lib.hid (fun (u : World) (hu : Below w8.heap.size w8 u) => (isv3_cells (blk_below hu HG8.out hl8)).1)
        have HPC := Lib.hid (fun (u : World) (hu : Below w8.heap.size w8 u) => HVC.out u (HP8.out.trans (hu.mono hs38)))
        have HFQ := Lib.hid (fun (u : World) (hu : Below w8.heap.size w8 u) (s n : Int) => rfind_y u w7.heap.size (⟨qv, qA, qc, qn, qB, qd, qr⟩ : PV) (HOQ.out.below hu (by omega)) (by have := hu.size; omega) s n)
        have HFP8 := Lib.hid (fun (u : World) (hu : Below w8.heap.size w8 u) (s n : Int) => HFP.out u (HP8.out.trans (hu.mono hs38)) s n)
        rw [HPLQ.out] at HFQ
        simp only [PV.val] at HFQ
        obtain ⟨N, hN⟩ : ∃ N, qr.length = N := ⟨_, rfl⟩
        have HN := Lib.hid hN
        rw [hN] at HFQ HQC hqN8
        have HR8 := Lib.hid (Below.refl w8.heap.size w8)
        have hver : qv = ver + 1 := by
          have h1 := HSO.out.2.1
          rw [HPL.out, ← HPLQ.out, ← HPV.out] at h1
          exact h1
        have HVER := Lib.hid hver
        clear hN hver
        go_wp2_with (fail)
        clear a0' a1' a2' af0 af1 af2 b0' b1' b2' bf0 bf1 bf2 hwq hw8
        go_loopg [4, 9, 10, 11, 12, 13, 14, 15, 16, 17] N (fun gg s4 s9 s10 s11 s12 s13 s14 s15 s16 s17 wr => ∃ i : Nat, s9 = .int .i64 i ∧ s4 = .bool false ∧ i ≤ N ∧ N - i ≤ gg ∧ Aside (Below w8.heap.size w8 wr))
        case atStart => exact ⟨0, rfl, rfl, by omega, by omega, HR8.out⟩
        case round =>
          obtain ⟨i, rfl, rfl, hi, hg, HB⟩ := hrel
          have hsr := HB.out.size
          obtain ⟨c0, c1, c2⟩ := HPC.out wr HB.out
          obtain ⟨d0, d1, d2⟩ := HQC.out wr HB.out
          have hlpr : w.heap.size < wr.heap.size := by omega
          have hlqr : w7.heap.size < wr.heap.size := by omega
          by_cases hlt : i < N
          · have hltz : (i : Int) < (N : Int) := by omega
            have i0 : (0 : Int) ≤ (i : Int) := by omega
            obtain ⟨r, hr⟩ : ∃ r, qr[i]? = some r := ⟨_, List.getElem?_eq_getElem (by rw [HN.out]; exact hlt)⟩
            have hli : pl.ss[i]? = some r.l := by rw [← HPLQ.out]; simp [PV.pl, hr]
            obtain ⟨b, off, hA, hb, l0, ho⟩ := ((HOQ.out.below HB.out (by omega)).s).at_ hr
            simp only at hA
            subst hA
            have HO := Lib.hid (show ∀ u, Below wr.heap.size wr u → Ls OE u w7.heap.size r.A r.l.length r.l from fun u hu => (ho.below hu (by omega)).ls)
            have hol := ho.len
            obtain ⟨rA, rc, L⟩ := r
            obtain ⟨m, hm⟩ : ∃ m, L.length = m := ⟨_, rfl⟩
            simp only [Rw3.val, hm] at l0 HO hol hli
            have HM := Lib.hid hm
            have HLI := Lib.hid hli
            have hbw : b < wr.heap.size := by omega
            have HL0 := Lib.hid (fun (u : World) (hu : Below wr.heap.size wr u) => (hu.cell (p := ⟨b, off + i, none⟩) hbw).trans l0)
            have HR0 := Lib.hid (Below.refl wr.heap.size wr)
            obtain ⟨wv, hwv⟩ : ∃ wv, wv = wr := ⟨wr, rfl⟩
            obtain rfl := hwv
            clear hr hli ho hm
            go_wp2_with (fail)
            clear c0 c1 c2 d0 d1 d2 l0
            go_loopg [4, 10, 11, 12, 13, 14, 15, 16, 17] m (fun gg3 s4 s10 s11 s12 s13 s14 s15 s16 s17 wz => ∃ k : Nat, s10 = .int .i64 k ∧ s4 = .bool false ∧ k ≤ m ∧ m - k ≤ gg3 ∧ Aside (Below wv.heap.size wv wz))
            case atStart => exact ⟨0, rfl, rfl, by omega, by omega, HR0.out⟩
            case round =>
              obtain ⟨k, rfl, rfl, hk, hg3, HB3r⟩ := hrel
              have hsr3 := HB3r.out.size
              have HBQ := Lib.hid (HB.out.trans (HB3r.out.mono hsr))
              have l0 := HL0.out wr HB3r.out
              have hbw5 : b < wr.heap.size := by omega
              obtain ⟨c0, c1, c2⟩ := HPC.out wr HBQ.out
              obtain ⟨d0, d1, d2⟩ := HQC.out wr HBQ.out
              have hlp3 : w.heap.size < wr.heap.size := by omega
              have hlq3 : w7.heap.size < wr.heap.size := by omega
              by_cases hlt3 : k < m
              · have hltz3 : (k : Int) < (m : Int) := by omega
                have k0 : (0 : Int) ≤ (k : Int) := by omega
                obtain ⟨x, hx⟩ : ∃ x, L[k]? = some x := ⟨_, List.getElem?_eq_getElem (by rw [HM.out]; exact hlt3)⟩
                obtain ⟨b3, off3, hA3, hb3, y0, y1, y2⟩ := own_at (HO.out wr HB3r.out) hx
                subst hA3
                obtain ⟨l, hl, hsrc⟩ := HSR.out i L x HLI.out (List.mem_of_getElem? hx)
                obtain ⟨x1, x2, x3⟩ := x
                simp only at y0 y1 y2
                have hbw7 : b3 < wr.heap.size := by omega
                have hshp : shardAt p.ss (i : Int) = l := shardAt_in hl
                have hshq : shardAt pl.ss (i : Int) = L := shardAt_in HLI.out
                obtain ⟨wa, hwa⟩ : ∃ wa, wr.alloc (.cells #[.int .i64 x1, .int .i64 x2, .int .i64 x3] 44) = wa := ⟨_, rfl⟩
                have hba : Below wr.heap.size wr wa := by rw [← hwa]; exact below_al _ _
                have Gx := Lib.hid (show IsV3 44 wa wr.heap.size (.int .i64 x1) (.int .i64 x2) (.int .i64 x3) by rw [← hwa]; exact alloc_new _ _)
                have hya : wr.heap.size < wa.heap.size := blk_lt Gx.out
                have HVa := Lib.hid hba
                have HUa := Lib.hid (HBQ.out.trans (hba.mono HBQ.out.size))
                have hza := hba.size
                obtain ⟨v, hv⟩ : ∃ v, fnd (byNode x1) l = v := ⟨_, rfl⟩
                obtain ⟨bv, hbv⟩ : ∃ bv, fis (byNode x1) l = bv := ⟨_, rfl⟩
                have HF1 := Lib.hid (fun (u : World) (hu : Below w8.heap.size w8 u) => HFP8.out u hu (i : Int) x1)
                rw [hshp, hv, hbv] at HF1
                obtain ⟨v1, v2, v3⟩ := v
                obtain ⟨pc0, pc1, pc2⟩ := HPC.out wa HUa.out
                obtain ⟨⟨x0', x1', x2'⟩, _⟩ := isv3_cells Gx.out
                have hlpa : w.heap.size < wa.heap.size := by omega
                by_cases hs1 : x2 = 1
                · subst hs1
                  obtain ⟨s1, s2, s3, s4, s5⟩ := hsrc.come rfl
                  simp only at s1 s2 s3 s4 s5
                  rw [s1] at hbv
                  subst hbv
                  obtain ⟨y, hy⟩ : ∃ y, fnd (byNode x3) L = y := ⟨_, rfl⟩
                  obtain ⟨z, hz⟩ : ∃ z, fnd (byNode x3) l = z := ⟨_, rfl⟩
                  have HF2 := Lib.hid (fun (u : World) (hu : Below w8.heap.size w8 u) => HFQ.out u hu (i : Int) x3)
                  have HF3 := Lib.hid (fun (u : World) (hu : Below w8.heap.size w8 u) => HFP8.out u hu (i : Int) x3)
                  rw [hshq, hy, s2] at HF2
                  rw [hshp, hz, s4] at HF3
                  rw [hy] at s3
                  rw [hz] at s5
                  obtain ⟨y1', y2', y3'⟩ := y
                  obtain ⟨z1', z2', z3'⟩ := z
                  simp only at s3 s5
                  subst s3 s5
                  clear hsrc hl hv hy hz hshp hshq s1 s2 s4 hx hba
                  go_wp2_with (fail)
                  refine (HF1.out wa HUa.out).mono ?_
                  rintro e wba ⟨rfl, hbb⟩
                  obtain ⟨wb, hwb⟩ : ∃ wb, wba.alloc (.cells #[.int .i64 v1, .int .i64 v2, .int .i64 v3] 44) = wb := ⟨_, rfl⟩
                  have hbb2 : Below wba.heap.size wba wb := by rw [← hwb]; exact below_al _ _
                  have Gv := Lib.hid (show IsV3 44 wb wba.heap.size (.int .i64 v1) (.int .i64 v2) (.int .i64 v3) by rw [← hwb]; exact alloc_new _ _)
                  have HTb := Lib.hid (hbb.trans (hbb2.mono hbb.size))
                  have HUb := Lib.hid (HUa.out.trans (HTb.out.mono HUa.out.size))
                  have hzb := HTb.out.size
                  have hyb : wba.heap.size < wb.heap.size := blk_lt Gv.out
                  clear hbb hbb2 c0 c1 c2 d0 d1 d2 pc0 pc1 pc2 x0' x1' x2' y0 y1 y2 l0
                  obtain ⟨d0, d1, d2⟩ := HQC.out wb HUb.out
                  obtain ⟨⟨x0', x1', x2'⟩, _⟩ := isv3_cells (blk_below HTb.out Gx.out hya)
                  have hlqb : w7.heap.size < wb.heap.size := by omega
                  have hlxb : wr.heap.size < wb.heap.size := by omega
                  go_wp2_with (fail)
                  refine (HF2.out wb HUb.out).mono ?_
                  rintro e wca ⟨rfl, hbb⟩
                  obtain ⟨wc, hwc⟩ : ∃ wc, wca.alloc (.cells #[.int .i64 y1', .int .i64 3, .int .i64 y3'] 44) = wc := ⟨_, rfl⟩
                  have hbb2 : Below wca.heap.size wca wc := by rw [← hwc]; exact below_al _ _
                  have Gy := Lib.hid (show IsV3 44 wc wca.heap.size (.int .i64 y1') (.int .i64 3) (.int .i64 y3') by rw [← hwc]; exact alloc_new _ _)
                  have HTc := Lib.hid (hbb.trans (hbb2.mono hbb.size))
                  have HUc := Lib.hid (HUb.out.trans (HTc.out.mono HUb.out.size))
                  have hzc := HTc.out.size
                  have hyc : wca.heap.size < wc.heap.size := blk_lt Gy.out
                  clear hbb hbb2 d0 d1 d2 x0' x1' x2'
                  obtain ⟨c0, c1, c2⟩ := HPC.out wc HUc.out
                  obtain ⟨⟨x0', x1', x2'⟩, _⟩ := isv3_cells (blk_below (HTb.out.trans (HTc.out.mono HTb.out.size)) Gx.out hya)
                  have hlpc : w.heap.size < wc.heap.size := by omega
                  have hlxc : wr.heap.size < wc.heap.size := by omega
                  go_wp2_with (fail)
                  refine (HF3.out wc HUc.out).mono ?_
                  rintro e wda ⟨rfl, hbb⟩
                  obtain ⟨wd, hwd⟩ : ∃ wd, wda.alloc (.cells #[.int .i64 z1', .int .i64 2, .int .i64 z3'] 44) = wd := ⟨_, rfl⟩
                  have hbb2 : Below wda.heap.size wda wd := by rw [← hwd]; exact below_al _ _
                  have Gz := Lib.hid (show IsV3 44 wd wda.heap.size (.int .i64 z1') (.int .i64 2) (.int .i64 z3') by rw [← hwd]; exact alloc_new _ _)
                  have HTd := Lib.hid (hbb.trans (hbb2.mono hbb.size))
                  have HUd := Lib.hid (HUc.out.trans (HTd.out.mono HUc.out.size))
                  have hzd := HTd.out.size
                  have hyd : wda.heap.size < wd.heap.size := blk_lt Gz.out
                  clear hbb hbb2 c0 c1 c2 x0' x1' x2'
                  obtain ⟨⟨_, gy, _⟩, _⟩ := isv3_cells (blk_below HTd.out Gy.out hyc)
                  obtain ⟨⟨_, gz, _⟩, _⟩ := isv3_cells Gz.out
                  have hlyd : wca.heap.size < wd.heap.size := by omega
                  have HLST := Lib.hid (HB3r.out.trans ((HVa.out.trans ((HTb.out.trans ((HTc.out.trans (HTd.out.mono HTc.out.size)).mono HTb.out.size)).mono HVa.out.size)).mono hsr3))
                  go_wp2_with (fail)
                  clear gy gz
                  go_roundg (m - (k + 1))
                  case measure => omega
                  case rel => exact ⟨k + 1, by go_num, rfl, by omega, by omega, HLST.out⟩
                · have hsz : (x2 == 1) = false := by simp [hs1]
                  obtain ⟨s1, s2⟩ := hsrc.stay hs1
                  simp only at s1 s2
                  rw [s1] at hbv
                  subst hbv
                  have HEQ := Lib.hid (fun (e : x2 = 2) => by have := s2 e; rw [hv] at this; exact this)
                  clear hsrc hl hv hshp hshq s1 s2 hx hba hs1
                  go_wp2_with (fail)
                  refine (HF1.out wa HUa.out).mono ?_
                  rintro e wba ⟨rfl, hbb⟩
                  obtain ⟨wb, hwb⟩ : ∃ wb, wba.alloc (.cells #[.int .i64 v1, .int .i64 v2, .int .i64 v3] 44) = wb := ⟨_, rfl⟩
                  have hbb2 : Below wba.heap.size wba wb := by rw [← hwb]; exact below_al _ _
                  have Gv := Lib.hid (show IsV3 44 wb wba.heap.size (.int .i64 v1) (.int .i64 v2) (.int .i64 v3) by rw [← hwb]; exact alloc_new _ _)
                  have HTb := Lib.hid (hbb.trans (hbb2.mono hbb.size))
                  have HUb := Lib.hid (HUa.out.trans (HTb.out.mono HUa.out.size))
                  have hzb := HTb.out.size
                  have hyb : wba.heap.size < wb.heap.size := blk_lt Gv.out
                  clear hbb hbb2 c0 c1 c2 d0 d1 d2 pc0 pc1 pc2 x0' x1' x2' y0 y1 y2 l0
                  have HLST := Lib.hid (HB3r.out.trans ((HVa.out.trans (HTb.out.mono HVa.out.size)).mono hsr3))
                  obtain ⟨⟨x0', x1', x2'⟩, _⟩ := isv3_cells (blk_below HTb.out Gx.out hya)
                  obtain ⟨⟨v0', v1', v2'⟩, _⟩ := isv3_cells Gv.out
                  have hlxb : wr.heap.size < wb.heap.size := by omega
                  by_cases hs2 : x2 = 2
                  · have e := HEQ.out hs2
                    simp only [Prod.mk.injEq] at e
                    obtain ⟨rfl, rfl, rfl⟩ := e
                    subst hs2
                    have hE : ∀ u : World, (binOp .neq 44 (.agg #[.int .i64 v1, .int .i64 2, .int .i64 v3]) (.agg #[.int .i64 v1, .int .i64 2, .int .i64 v3])).run Try.prog u = .ok (.bool false) u := fun u => neq_owner v1 2 v3 u
                    have hG := guard_owner
                    go_wp2_with (fail)
                    clear hE hG x0' x1' x2' v0' v1' v2'
                    go_roundg (m - (k + 1))
                    case measure => omega
                    case rel => exact ⟨k + 1, by go_num, rfl, by omega, by omega, HLST.out⟩
                  · have hs3 : (x2 == 2) = false := by simp [hs2]
                    clear hs2
                    go_wp2_with (fail)
                    clear x0' x1' x2' v0' v1' v2'
                    go_roundg (m - (k + 1))
                    case measure => omega
                    case rel => exact ⟨k + 1, by go_num, rfl, by omega, by omega, HLST.out⟩
              · obtain rfl : k = m := by omega
                have hltz3 : ¬ (k : Int) < (k : Int) := by omega
                go_wp2_with (fail)
                go_roundg (N - (i + 1))
                case measure => omega
                case rel => exact ⟨i + 1, by go_num, rfl, by omega, by omega, HBQ.out⟩
          · obtain rfl : i = N := by omega
            have hltz : ¬ (i : Int) < (i : Int) := by omega
            have hmx : ver < 1099511627776 := by
              have h1 := HSO.out.1.hi
              rw [HPL.out, ← HPLQ.out] at h1
              have h2 : qv ≤ 1099511627776 := h1
              have := HVER.out
              omega
            have hmn : 1 ≤ ver := by have := HPOK.out.lo; rw [← HPV.out] at this; exact this
            have wr1 : IntKind.i64.wrap (ver + 1) = ver + 1 := by rw [IntWalk.i64_in _ (by omega)]
            rw [HVER.out] at d0
            have HBW := Lib.hid (HBW8.out.trans (HB.out.mono (by omega)))
            go_wp2_with (fail)
            go_ret
            exact ⟨by simp, HBW.out⟩
      · have hez : (er == 0) = false := by simp [hea0]
        have hr2 : (er != 0) = true := by simp [hea0]
        clear hea0
        go_wp2_with (fail)
        go_ret
        exact ⟨by simp, HBW8.out⟩
    · have hkz : (ck != 0) = true := by simp [hk0]
      clear hk0
      go_wp2_with (fail)
      refine (HCK.out w5 HB5.out).mono ?_
      rintro e w6 ⟨rfl, hb6⟩
      have HBW := Lib.hid (HB3.out.trans ((HB5.out.trans (hb6.mono hs5)).mono (by omega)))
      clear hb6
      go_wp2_with (fail)
      go_ret
      exact ⟨by simp, HBW.out⟩
end Go.Proofs.Ytnpkhkhchimcnaa.lawPlacementSources
