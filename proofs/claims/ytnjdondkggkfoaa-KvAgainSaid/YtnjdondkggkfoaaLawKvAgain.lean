/-
  The walk of the law KvAgain: for all inputs it returns true.
-/
import Derived.Test.YtnjdondkggkfoaaKs2
import Derived.Test.YtnjdondkggkfoaaKsIn
namespace Go.Proofs.Ytnjdondkggkfoaa.lawKvAgain
open Go.ChangeShapes Go.WideShapes Go.ChangeAt Go.RowKit Go.Shelf plain words ord mem pm ks

/-- steps as a list -/
def VE : El SV := ⟨SV.cells, 7, 39, fun _ => rfl, fun x v hv => by
  simp only [SV.cells, List.mem_cons, List.not_mem_nil, or_false] at hv
  rcases hv with rfl | rfl | rfl | rfl | rfl | rfl | rfl <;> rfl, by decide⟩
theorem svs_of {H : Type} {enc : TypeId × Value → H} {W : World} {a : Option Addr} {len cap : Nat} {d : DataW H} {p : List MemPlace}
    (h0 : DataW.Trod enc Try.prog W 0 (fun _ => true) true 23 (.slice a len cap) d p) : IsLs VE (fun _ => True) W a len cap :=
  lists_of VE (fun _ => True) Try.underlying23 (by kernel_rfl) (fun cs _ h => by
    obtain ⟨n, y, h⟩ := h
    obtain ⟨a, ha, _⟩ := sv_reads h
    exact ⟨a, ha, trivial⟩) h0
/-- what a store may hold -/
def Good (o : Option al.Nm) : Prop := o = none ∨ ∃ P, chk P = 0 ∧ o = some (kv.encP P)
theorem Good.len {o : Option al.Nm} (h : Good o) : olen o ≤ 1000 := by
  rcases h with rfl | ⟨P, hc, rfl⟩
  · show 0 ≤ 1000; decide
  · exact olen_enc hc
theorem good_set {o : Option al.Nm} (h : Good o) (R ex : Int) (P : Pl) : Good (setO o R ex P) := by
  unfold setO
  split
  · rename_i e
    refine .inr ⟨P, ?_, rfl⟩
    unfold setE at e
    split at e
    · assumption
    · exact absurd e (by decide)
  · exact h
/-- next, whatever is there -/
noncomputable def nextQ (b : Bool) (p : Pl) (k a c : Int) : Pl := if b then nextP p k a c else rinitPl [0, 1, 2] 2
theorem next_a (w : World) (B : Nat) (v : PV) (x : SV) (b : Bool) (h : PVok w B v) (hB : B ≤ w.heap.size) :
    Calls Try.prog 11 #[v.val, .bool b, x.val] w (RetN w (nextQ b v.pl x.a x.n x.b)) := by
  cases b with
  | true => exact next_l w B v x.u x.k x.n x.a x.b h hB
  | false => exact next0_l w v x.u x.k x.n x.a x.b
theorem op_other {w w' : World} {B g : Nat} {v : PV} {cur : Array Value} (h : OP w B v) (hc : Chg (fun k => k = g) w w') (hg : w.heap[g]? = some (.cells cur 26 (0, 0))) : OP w' B v :=
  ⟨ow_other h.n hc hg (by decide), ow_other h.s hc hg (by decide), fun r hr => ow_other (h.each r hr) hc hg (by decide)⟩
/-- Set where nothing is -/
theorem set_one {P : Pl} {er : Int} (h0 : er = 0 → chk P = 0 ∧ P.ver = 1) (h1 : er ≠ 0 → chk P ≠ 0) : setE none 8192 0 P = (if er = 0 then 0 else 50) ∧ (er ≠ 0 → setO none 8192 0 P = none) := by
  by_cases e : er = 0
  · obtain ⟨hc, hv⟩ := h0 e
    have hl := encP_small (chk_iff.1 hc)
    refine ⟨?_, fun h => absurd e h⟩
    rw [if_pos e]
    unfold setE
    rw [if_pos hc, if_pos ⟨by show (0 : Int) = (kv.decP []).ver; rw [dec_nil.2]; rfl, by rw [hv]; rfl⟩, if_pos (by show ((0 : Nat) : Int) + _ ≤ _; omega)]
  · have hc := h1 e
    have e5 : setE none 8192 0 P = 50 := by unfold setE; rw [if_neg hc]
    refine ⟨by rw [if_neg e]; exact e5, fun _ => ?_⟩
    unfold setO
    rw [e5, if_neg (by decide)]
theorem KC.mono {X : Nat → Prop} {w0 w : World} {s p : Nat} {o : Option al.Nm} {R n m : Int} (h : KC X w0 w s p o R n) (hm : n ≤ m) : KC X w0 w s p o R m := by
  obtain ⟨st, h1, h2⟩ := h
  exact ⟨st, h1, h2.mono hm⟩
set_option maxHeartbeats 8000000 in
set_option maxRecDepth 100000 in
theorem walk (a0 : Option Addr) (len0 cap0 : Nat) (z0 : List Int) (a1 : Int) (a2 : Option Addr) (len2 cap2 : Nat) (w : World) (w0 : IsRow .i64 w a0 len0 cap0 z0) (ws : IsLs VE (fun _ => True) w a2 len2 cap2) :
    Calls Try.prog 3 #[.slice a0 len0 cap0, .int .i64 a1, .slice a2 len2 cap2] w fun e w' => e = .returned (.bool true) ∧ Below w.heap.size w w' := by
  obtain ⟨hls, hcap, hmost⟩ := row_ls w0
  obtain ⟨l, hl⟩ : ∃ l, z0.take len0 = l := ⟨_, rfl⟩
  rw [hl] at hls
  clear w0 hl
  obtain ⟨sv, hsv, _, hcap2, hmost2, hnil2⟩ := ws
  have HST := Lib.hid hsv
  clear hsv
  by_cases hbig : 64 < len0
  · have hbz : (64 : Int) < (len0 : Int) := by omega
    clear hbig hls
    go_enter Try.func3, Try.ntmps3
    go_wp2_with (fail)
    go_ret
    exact ⟨rfl, Below.refl _ _⟩
  have hbz : ¬ (64 : Int) < (len0 : Int) := by omega
  by_cases hbig2 : 64 < len2
  · have hbz2 : (64 : Int) < (len2 : Int) := by omega
    clear hbig2 hls
    go_enter Try.func3, Try.ntmps3
    go_wp2_with (fail)
    go_ret
    exact ⟨rfl, Below.refl _ _⟩
  have hbz2 : ¬ (64 : Int) < (len2 : Int) := by omega
  have HI := Lib.hid (rinit_sy w w.heap.size len0 cap0 a0 l hls (Nat.le_refl _) (by omega) hcap hmost a1)
  obtain ⟨er, her⟩ : ∃ er, rinitErr l a1 = er := ⟨_, rfl⟩
  obtain ⟨P, hP⟩ : ∃ P, rinitPl l a1 = P := ⟨_, rfl⟩
  rw [her, hP] at HI
  have HP := Lib.hid (And.intro her hP)
  clear hls her hP hcap hmost
  go_enter Try.func3, Try.ntmps3
  go_wp2_with (fail)
  refine HI.out.mono ?_
  rintro e w3 ⟨v, rfl, hpl, hop, hb3⟩
  obtain ⟨w4, hw4⟩ : ∃ w4, w3.alloc (boxO v) = w4 := ⟨_, rfl⟩
  have hb34 : Below w3.heap.size w3 w4 := by rw [← hw4]; exact (Below.refl _ _).alloc (Nat.le_refl _) _
  have gv : pm.Boxed w4 w3.heap.size v := by rw [← hw4]; exact alloc_new _ _
  have hb04 : Below w.heap.size w w4 := hb3.trans (hb34.mono hb3.size)
  have hv4 : PVok w4 w3.heap.size v := hop.ok.below hb34 (Nat.le_refl _)
  obtain ⟨V, hV⟩ : ∃ V, w3.heap.size = V := ⟨_, rfl⟩
  have HV := Lib.hid (And.intro hpl (And.intro hv4 (And.intro gv (And.intro hb34 hb04))))
  have HW4 := Lib.hid hw4
  have lv4 : V < w4.heap.size := by rw [← hV]; exact blk_lt gv
  have s04 := hb04.size
  rw [hV] at HV
  have HO := Lib.hid (new_oc w4 8192 (by decide))
  clear hpl hop hb3 hw4 hb34 gv hv4 hb04
  go_wp2_with (fail)
  rw [HW4.out]
  refine HO.out.mono ?_
  rintro e w5 ⟨p, rfl, hoc5, hb5⟩
  have HOP := Lib.hid hoc5.open
  have HB5 := Lib.hid hb5
  clear hoc5 hb5
  go_wp2_with (fail)
  refine HOP.out.mono ?_
  rintro e w6 ⟨s, rfl, hk6, hc6⟩
  have hC6 : Chg (fun k => ¬ k < w4.heap.size) w4 w6 := ((Chg.of_below HB5.out).mono (fun _ _ e => e.elim)).trans hc6 (fun _ _ e => e)
  have hb46 := hk6.below
  have gv6 := hC6.blk HV.out.2.2.1 (fun e => e lv4)
  obtain ⟨⟨c0, c1, c2⟩, _, _, _⟩ := isv3_cells gv6
  have lv6 := blk_lt gv6
  have hset := hk6.set 0 V v (HV.out.2.1.below hb46 (Nat.le_of_lt lv4)) (by have := hb46.size; omega) (by decide) (by decide) (by show 0 ≤ 1000; decide) (by decide)
  have hone := set_one (P := P) (er := er) (fun e => by
    have := rinit_ok (l := l) (z := a1) (by rw [HP.out.1]; exact e)
    rwa [HP.out.2] at this) (fun e => by
    have := rinit_no (l := l) (z := a1) (by rw [HP.out.1]; exact e)
    rwa [HP.out.2] at this)
  rw [HV.out.1, hone.1] at hset
  have HSET := Lib.hid hset
  have HON := Lib.hid hone.2
  have HSE := Lib.hid hone.1
  have HC6 := Lib.hid hC6
  have HGO := Lib.hid (good_set (o := none) (.inl rfl) 8192 0 P)
  clear hk6 hc6 hC6 hb46 gv6 hset hone HOP
  go_upto_region 6 with (fail)
  go_cut [53] (fun s53 wx => s53 = .bool false ∧ ∃ o, Good o ∧ KC (fun k => k < w4.heap.size) w4 wx s p o 8192 8)
  case first =>
    by_cases e0 : er = 0
    · subst e0
      rw [if_pos rfl] at HSET
      go_wp2_with (fail)
      refine HSET.out.mono ?_
      rintro e w7 ⟨rfl, hk7, hc7⟩
      have HK7 := Lib.hid hk7
      clear hk7 hc7
      go_wp2_with (fail)
      go_meet
      exact ⟨rfl, _, HGO.out, KC.mono HK7.out (by decide)⟩
    · rw [if_neg e0] at HSET
      have hnn := HON.out e0
      rw [hnn] at HSET
      clear hnn
      by_cases e5 : er = 50
      · subst e5
        go_wp2_with (fail)
        refine HSET.out.mono ?_
        rintro e w7 ⟨rfl, hk7, hc7⟩
        have gv7 := (HC6.out.trans hc7 (fun _ _ e => e)).blk HV.out.2.2.1 (fun e => e lv4)
        clear c0 c1 c2 lv6
        obtain ⟨⟨c0, c1, c2⟩, _, _, _⟩ := isv3_cells gv7
        have lv7 := blk_lt gv7
        have hb47 := hk7.below
        have hset := hk7.set 0 V v (HV.out.2.1.below hb47 (Nat.le_of_lt lv4)) (by have := hb47.size; omega) (by decide) (by decide) (by show 0 ≤ 1000; decide) (by decide)
        rw [HV.out.1, HSE.out, if_neg e0, HON.out e0] at hset
        have HSET2 := Lib.hid hset
        clear hk7 hc7 gv7 hb47 hset
        go_wp2_with (fail)
        refine HSET2.out.mono ?_
        rintro e w8 ⟨rfl, hk8, hc8⟩
        have HK8 := Lib.hid hk8
        clear hk8 hc8
        go_wp2_with (fail)
        go_meet
        exact ⟨rfl, none, .inl rfl, KC.mono HK8.out (by decide)⟩
      · have e6 : ¬ (50 : Int) = er := fun e => e5 e.symm
        go_wp2_with (fail)
        refine HSET.out.mono ?_
        rintro e w7 ⟨rfl, hk7, hc7⟩
        have gv7 := (HC6.out.trans hc7 (fun _ _ e => e)).blk HV.out.2.2.1 (fun e => e lv4)
        clear c0 c1 c2 lv6
        obtain ⟨⟨c0, c1, c2⟩, _, _, _⟩ := isv3_cells gv7
        have lv7 := blk_lt gv7
        have hb47 := hk7.below
        have hset := hk7.set 0 V v (HV.out.2.1.below hb47 (Nat.le_of_lt lv4)) (by have := hb47.size; omega) (by decide) (by decide) (by show 0 ≤ 1000; decide) (by decide)
        rw [HV.out.1, HSE.out, if_neg e0, HON.out e0] at hset
        have HSET2 := Lib.hid hset
        clear hk7 hc7 gv7 hb47 hset
        go_wp2_with (fail)
        refine HSET2.out.mono ?_
        rintro e w8 ⟨rfl, hk8, hc8⟩
        have HK8 := Lib.hid hk8
        clear hk8 hc8
        go_wp2_with (fail)
        go_meet
        exact ⟨by show Value.bool (50 != er && er == 0) = Value.bool false; simp [e0], none, .inl rfl, KC.mono HK8.out (by decide)⟩
  case rest =>
    clear c0 c1 c2 lv6 HSET HON HGO HI HO
    obtain ⟨rfl, o, hgo, hkc⟩ := hcut
    have HK0 := Lib.hid (And.intro hgo hkc)
    clear hgo hkc
    go_wp2_with (fail)
    go_loopg [6, 10, 11, 12, 13, 14, 15, 16, 17] len2 (fun gg s6 s10 s11 s12 s13 s14 s15 s16 s17 wr => ∃ (i t : Nat) (y : Option al.Nm), s6 = .bool false ∧ s10 = dk.ptr t ∧ s11 = .int .i64 i ∧ i ≤ len2 ∧ len2 - i ≤ gg ∧ Aside (Good y ∧ KC (fun k => k < w4.heap.size) w4 wr t p y 8192 (8 + 4 * (i : Int))))
    case atStart => exact ⟨0, s, o, rfl, rfl, rfl, by omega, by omega, HK0.out.1, HK0.out.2⟩
    case round =>
      clear HK0
      obtain ⟨i, t, y, rfl, rfl, rfl, hi, hg, HK⟩ := hrel
      have HK := Lib.hid HK
      by_cases hlt : i < len2
      · have hltz : (i : Int) < (len2 : Int) := by omega
        have i0 : (0 : Int) ≤ (i : Int) := by omega
        obtain ⟨x, hx⟩ := HST.out.get hlt
        have HX := Lib.hid hx
        have hget := HK.out.2.get HK.out.1.len
        obtain ⟨b, hb⟩ : ∃ b, decide (kv.decE (y.getD []) = 0) = b := ⟨_, rfl⟩
        unfold RetGet at hget
        rw [hb] at hget
        have HGET := Lib.hid hget
        have HBB := Lib.hid hb
        have hb4r := HK.out.2.below
        have s4r := hb4r.size
        have HB4R := Lib.hid hb4r
        obtain ⟨bs, os, hAs, hbs, hcs⟩ := HST.out.at_ hx
        subst hAs
        have HSC := Lib.hid (fun (u : World) (hu : Below w.heap.size w u) (j : Nat) (hj : j < 7) => (hu.cell (p := ⟨bs, os + (i * 7 + j), none⟩) hbs).trans (hcs j hj))
        clear hx hget hb hb4r hcs
        go_wp2_with (fail)
        refine HGET.out.mono ?_
        rintro e wa ⟨r, rfl, hrp, hro, hba⟩
        obtain ⟨wb, hwb⟩ : ∃ wb, wa.alloc (boxO r) = wb := ⟨_, rfl⟩
        have hbab : Below wa.heap.size wa wb := by rw [← hwb]; exact (Below.refl _ _).alloc (Nat.le_refl _) _
        have gr : pm.Boxed wb wa.heap.size r := by rw [← hwb]; exact alloc_new _ _
        have sra := hba.size
        have sab := hbab.size
        have hbrb : Below wr.heap.size wr wb := hba.trans (hbab.mono sra)
        have hr1 : OP wb wr.heap.size r := (show OP wa wr.heap.size r from ⟨hro.n, hro.s, hro.each⟩).below hbab (Nat.le_refl _)
        obtain ⟨A, hA⟩ : ∃ A, wa.heap.size = A := ⟨_, rfl⟩
        rw [hA] at gr
        have lrb : A < wb.heap.size := blk_lt gr
        have HR := Lib.hid (And.intro hrp (And.intro hr1 (And.intro gr hbrb)))
        have HWB := Lib.hid hwb
        obtain ⟨⟨c0, c1, c2⟩, _, _, _⟩ := isv3_cells gr
        have hb0b : Below w.heap.size w wb := (HV.out.2.2.2.2.trans (HB4R.out.mono s04)).trans (hbrb.mono (by omega))
        have k0 : wb.cell? ⟨bs, os + i * 7, none⟩ = some (.int .i64 x.k) := HSC.out wb hb0b 0 (by decide)
        have k1 : wb.cell? ⟨bs, os + i * 7 + 1, none⟩ = some (.int .i64 x.n) := HSC.out wb hb0b 1 (by decide)
        have k2 : wb.cell? ⟨bs, os + i * 7 + 2, none⟩ = some (.int .i64 x.a) := HSC.out wb hb0b 2 (by decide)
        have k3 : wb.cell? ⟨bs, os + i * 7 + 3, none⟩ = some (.int .i64 x.b) := HSC.out wb hb0b 3 (by decide)
        have k4 : wb.cell? ⟨bs, os + i * 7 + 4, none⟩ = some (.int .i64 x.u.ver) := HSC.out wb hb0b 4 (by decide)
        have k5 : wb.cell? ⟨bs, os + i * 7 + 5, none⟩ = some (.slice x.u.nA x.u.nodes.length x.u.nc) := HSC.out wb hb0b 5 (by decide)
        have k6 : wb.cell? ⟨bs, os + i * 7 + 6, none⟩ = some (.slice x.u.sA x.u.rs.length x.u.sc) := HSC.out wb hb0b 6 (by decide)
        have hbsw : bs < wb.heap.size := by omega
        have HNX := Lib.hid (fun (u : World) (hu : Below wb.heap.size wb u) => next_a u wb.heap.size r x b (hr1.ok.below hu (Nat.le_refl _)) hu.size)
        obtain ⟨Q, hQ⟩ : ∃ Q, nextQ b r.pl x.a x.n x.b = Q := ⟨_, rfl⟩
        rw [hQ] at HNX
        have HQQ := Lib.hid hQ
        clear hrp hro hba hbab gr hbrb hr1 hb0b hQ HGET
        go_upto_region 12 with (fail)
        have q0 := Wf.at_ (F := fun _ => False) c0 (fun e => e)
        have q1 := Wf.at_ (F := fun _ => False) c1 (fun e => e)
        have q2 := Wf.at_ (F := fun _ => False) c2 (fun e => e)
        have j0 := Wf.at_ (F := fun _ => False) k0 (fun e => e)
        have j1 := Wf.at_ (F := fun _ => False) k1 (fun e => e)
        have j2 := Wf.at_ (F := fun _ => False) k2 (fun e => e)
        have j3 := Wf.at_ (F := fun _ => False) k3 (fun e => e)
        have j4 := Wf.at_ (F := fun _ => False) k4 (fun e => e)
        have j5 := Wf.at_ (F := fun _ => False) k5 (fun e => e)
        have j6 := Wf.at_ (F := fun _ => False) k6 (fun e => e)
        clear hwb
        go_cut [14] (fun s14 wx => ∃ (ga : Nat) (q : PV), s14 = .pointer (some ⟨ga, 0, none⟩) ∧ pm.Boxed wx ga q ∧ q.pl = Q ∧ OP wx wb.heap.size q ∧ wb.heap.size ≤ ga ∧ Below wb.heap.size wb wx)
        case first =>
          refine fr.wp_region_tree (F := fun _ => False) (.reads [0, 1, 2, 3, 4, 5] (.two 6 false (.one 7 false (.one 8 true .stop)) 7 false (.one 6 false (.one 8 true .stop)))) (by kernel_rfl) (by kernel_rfl) ?_
          refine fr.tr_reads _ (by dsimp only [pick, ord.at_]) ?_
          repeat (go_big_quiet_step (fail))
          refine wpQuiet_nil ?_
          refine fr.tr_two ?_ ?_
          · refine fr.act_s _ (by dsimp only [pick, ord.at_]) ?_
            intro K1 g1 g2
            clear g1
            go_wp2_with (fail)
            refine (HNX.out wb.drew (Below.refl _ _).drew).mono ?_
            rintro e w1 ⟨q, rfl, hqp, hqo, hqb⟩
            have hb1 : Below wb.heap.size wb w1 := (Below.refl _ _).drew.trans hqb
            have HQ1 := Lib.hid (And.intro hqp (And.intro hqo hb1))
            have z1 := hb1.size
            clear hqp hqo hqb
            go_wp2_with (fail)
            refine g2 _ _ (Chg.of_below hb1) ?_
            clear g2 hb1
            refine fr.tr_one _ (by dsimp only [pick, ord.at_]) ?_
            intro K1 g1 g2
            clear g1
            go_wp2_with (fail)
            refine g2 _ _ (Chg.of_below (below_al _ _)) ?_
            clear g2
            obtain ⟨w2, hw2⟩ : ∃ w2, w1.alloc (.cells #[.int .i64 0, .slice none 0 0, .slice none 0 0] 26) = w2 := ⟨_, rfl⟩
            have hb2 : Below w1.heap.size w1 w2 := by rw [← hw2]; exact below_al _ _
            have GA := Lib.hid (show IsV3 26 w2 w1.heap.size (.int .i64 0) (.slice none 0 0) (.slice none 0 0) by rw [← hw2]; exact alloc_new w1 _)
            rw [hw2]
            clear hw2
            have z2 := hb2.size
            have hb02 : Below wb.heap.size wb w2 := HQ1.out.2.2.trans (hb2.mono z1)
            have HB2 := Lib.hid hb02
            have HQ2 := Lib.hid ((HQ1.out.2.1.below hb2 (Nat.le_refl _)).base (C := wb.heap.size) (Nat.le_refl _))
            obtain ⟨ga, hga⟩ : ∃ ga, w1.heap.size = ga := ⟨_, rfl⟩
            have hgz : wb.heap.size ≤ ga := by rw [← hga]; exact z1
            have GB := Lib.hid (show IsV3 26 w2 ga (.int .i64 0) (.slice none 0 0) (.slice none 0 0) by rw [← hga]; exact GA.out)
            simp only [hga]
            clear hga hb2 hb02 GA z2
            obtain ⟨⟨d0, d1, d2⟩, df0, df1, df2⟩ := isv3_cells GB.out
            have hlA : ga < w2.heap.size := blk_lt GB.out
            refine fr.tr_write _ (by dsimp only [pick, ord.at_]) ?_
            intro K2 g3
            go_wp2_with (fail)
            refine fr.tr_stop ?_
            refine NoPanic.normal ?_
            go_wp2_with (fail)
            go_meet
            refine ⟨ga, q, rfl, set3 GB.out, HQ1.out.1, op_other HQ2.out (chg_set3 _ _ _) GB.out, hgz, ?_⟩
            exact below_set3 HB2.out hgz _ _ _
          · refine fr.act_s _ (by dsimp only [pick, ord.at_]) ?_
            intro K1 g1 g2
            clear g1
            go_wp2_with (fail)
            refine g2 _ _ (Chg.of_below (below_al wb _).drew) ?_
            clear g2
            obtain ⟨w1, hw1⟩ : ∃ w1, (wb.alloc (.cells #[.int .i64 0, .slice none 0 0, .slice none 0 0] 26)).drew = w1 := ⟨_, rfl⟩
            have hb1 : Below wb.heap.size wb w1 := by rw [← hw1]; exact (below_al wb _).drew
            have GA := Lib.hid (show IsV3 26 w1 wb.heap.size (.int .i64 0) (.slice none 0 0) (.slice none 0 0) by rw [← hw1]; exact alloc_new wb _)
            rw [hw1]
            clear hw1
            have z1 := hb1.size
            have HB1 := Lib.hid hb1
            have HN1 := Lib.hid (HNX.out w1 hb1)
            clear hb1
            refine fr.tr_one _ (by dsimp only [pick, ord.at_]) ?_
            intro K1 g1 g2
            clear g1
            go_wp2_with (fail)
            refine HN1.out.mono ?_
            rintro e w2 ⟨q, rfl, hqp, hqo, hqb⟩
            have HQ1 := Lib.hid (And.intro hqp (And.intro hqo hqb))
            go_wp2_with (fail)
            refine g2 _ _ (Chg.of_below hqb) ?_
            clear g2
            have hb02 : Below wb.heap.size wb w2 := HB1.out.trans (hqb.mono z1)
            have HB2 := Lib.hid hb02
            have hgl1 := blk_lt GA.out
            have HQ2 := Lib.hid (hqo.base (C := wb.heap.size) z1)
            have GA2 := Lib.hid (blk_below hqb GA.out hgl1)
            obtain ⟨ga, hga⟩ : ∃ ga, wb.heap.size = ga := ⟨_, rfl⟩
            have hgz : wb.heap.size ≤ ga := by rw [← hga]; exact Nat.le_refl _
            have GB := Lib.hid (show IsV3 26 w2 ga (.int .i64 0) (.slice none 0 0) (.slice none 0 0) by rw [← hga]; exact GA2.out)
            clear hqp hqo hqb hb02 GA GA2 hgl1
            simp only [World.size_drew, hga]
            clear hga
            obtain ⟨⟨d0, d1, d2⟩, df0, df1, df2⟩ := isv3_cells GB.out
            have hlA : ga < w2.heap.size := blk_lt GB.out
            refine fr.tr_write _ (by dsimp only [pick, ord.at_]) ?_
            intro K2 g3
            go_wp2_with (fail)
            refine fr.tr_stop ?_
            refine NoPanic.normal ?_
            go_wp2_with (fail)
            go_meet
            refine ⟨ga, q, rfl, set3 GB.out, HQ1.out.1, op_other HQ2.out (chg_set3 _ _ _) GB.out, hgz, ?_⟩
            exact below_set3 HB2.out hgz _ _ _
        case rest =>
          clear q0 q1 q2 j0 j1 j2 j3 j4 j5 j6 c0 c1 c2 k0 k1 k2 k3 k4 k5 k6 HNX HWB
          obtain ⟨ga, q, rfl, hgq, hqp, hqo, hgz, hbc⟩ := hcut
          have sbc := hbc.size
          have hbrc : Below wr.heap.size wr wc := HR.out.2.2.2.trans (hbc.mono HR.out.2.2.2.size)
          have gr := blk_below hbc HR.out.2.2.1 lrb
          obtain ⟨⟨c0, c1, c2⟩, _, _, _⟩ := isv3_cells gr
          obtain ⟨⟨d0, d1, d2⟩, _, _, _⟩ := isv3_cells hgq
          have lrc := blk_lt gr
          have lqc := blk_lt hgq
          have hkc := HK.out.2.mark hbrc (Y := (fun k => k < w4.heap.size ∨ (wr.heap.size ≤ k ∧ k < wc.heap.size))) (fun k hk => by
            rcases hk with e | e
            · exact .inl e
            · exact .inr e.1) (fun k hk => by
            rcases hk with e | e
            · have := hbrc.size; omega
            · exact e.2)
          have hrc := HR.out.2.1.below hbc (Nat.le_refl _)
          have hset := hkc.set r.ver wc.heap.size q hqo.ok (Nat.le_refl _) (by decide) (by decide) HK.out.1.len (by omega)
          rw [hqp] at hset
          obtain ⟨f, hf⟩ : ∃ f, setE y 8192 r.ver Q = f := ⟨_, rfl⟩
          obtain ⟨z, hz⟩ : ∃ z, setO y 8192 r.ver Q = z := ⟨_, rfl⟩
          have hgood := good_set HK.out.1 8192 r.ver Q
          rw [hf, hz] at hset
          rw [hz] at hgood
          have HFZ := Lib.hid (And.intro hf (And.intro hz hgood))
          have HSET := Lib.hid hset
          have HQC := Lib.hid (And.intro hqp (And.intro hqo (And.intro hrc (And.intro hgq gr))))
          have HBRC := Lib.hid hbrc
          have src := hbrc.size
          clear hgq hqp hqo hbc gr hkc hrc hset hf hz hgood hbrc
          go_wp2_with (fail)
          refine HSET.out.mono ?_
          rintro e wy ⟨rfl, hky, hcy⟩
          have HCY := Lib.hid hcy
          have scy := hcy.size
          have hb0y : Below w.heap.size w wy := HV.out.2.2.2.2.trans (hky.below.mono s04)
          have k2 : wy.cell? ⟨bs, os + i * 7 + 2, none⟩ = some (.int .i64 x.a) := HSC.out wy hb0y 2 (by decide)
          have k3 : wy.cell? ⟨bs, os + i * 7 + 3, none⟩ = some (.int .i64 x.b) := HSC.out wy hb0y 3 (by decide)
          have hbsy : bs < wy.heap.size := by have := hb0y.size; omega
          have HCR := Lib.hid ((hky.disk.quiet (Below.refl _ wy).drew).crash HFZ.out.2.2.len (by omega) x.a x.b)
          have j2 := Wb.at_ k2
          have j3 := Wb.at_ k3
          clear hky hcy hb0y HSET c0 c1 c2 d0 d1 d2 lrc lqc
          go_wp2_with (fail)
          refine wp_region_plan [([0, 1, 2, 3, 4, 5, 6, 7, 8, 9, 10], some (11, true)), ([], none)] (by kernel_rfl) (by kernel_rfl) ?_
          refine seg_write _ (by dsimp only [pick, ord.at_]) _ (by dsimp only [pick, ord.at_]) ?_
          repeat (go_big_quiet_step (fail))
          refine wpQuiet_nil ?_
          intro K1 h2
          clear j2 j3 k2 k3
          go_wp2_with (fail)
          refine HCR.out.mono ?_
          rintro e wd ⟨rfl, hpd, hcd⟩
          have HPW := Lib.hid hpd.power
          have HCD := Lib.hid (HCY.out.trans ((Chg.refl _ _).drew.trans hcd (fun _ _ e => e)) (fun _ _ e => e))
          clear hpd hcd HCR
          go_wp2_with (fail)
          refine seg_end _ (by dsimp only [pick, ord.at_]) ?_
          repeat (go_big_quiet_step (fail))
          refine wpQuiet_nil (NoPanic.normal ?_)
          go_wp2_with (fail)
          refine HPW.out.mono ?_
          rintro e we ⟨rfl, hoe, hce⟩
          have HOE := Lib.hid hoe.open
          have HCE := Lib.hid (HCD.out.trans hce (fun _ _ e => e))
          clear hoe hce HPW
          go_wp2_with (fail)
          refine HOE.out.mono ?_
          rintro e wf ⟨t2, rfl, hkf, hcf⟩
          have hget := hkf.get HFZ.out.2.2.len
          obtain ⟨b2, hb2⟩ : ∃ b, decide (kv.decE (z.getD []) = 0) = b := ⟨_, rfl⟩
          unfold RetGet at hget
          rw [hb2] at hget
          have HGET := Lib.hid hget
          have HB2 := Lib.hid hb2
          have HKF := Lib.hid hkf
          have HCF := Lib.hid (HCE.out.trans hcf (fun _ _ e => e))
          clear hget hb2 hkf hcf HOE
          go_wp2_with (fail)
          refine HGET.out.mono ?_
          rintro e wg ⟨r2, rfl, hnp, hno, hbg⟩
          obtain ⟨wh, hwh⟩ : ∃ wh, wg.alloc (boxO r2) = wh := ⟨_, rfl⟩
          have hbgh : Below wg.heap.size wg wh := by rw [← hwh]; exact (Below.refl _ _).alloc (Nat.le_refl _) _
          have gn : pm.Boxed wh wg.heap.size r2 := by rw [← hwh]; exact alloc_new _ _
          have sfg := hbg.size
          have sgh := hbgh.size
          have hbfh : Below wf.heap.size wf wh := hbg.trans (hbgh.mono sfg)
          have hch : Chg (fun k => ¬ (fun k => k < w4.heap.size ∨ (wr.heap.size ≤ k ∧ k < wc.heap.size)) k) wc wh := HCF.out.trans ((Chg.of_below hbfh).mono (fun _ _ e => e.elim)) (fun _ _ e => e)
          have sch := hch.size
          have hqh := (op_keep HQC.out.2.1 hch (fun k a b e => e (.inr ⟨by omega, b⟩))).ok
          have hrh := (op_keep HQC.out.2.2.1 hch (fun k a b e => e (.inr ⟨a, b⟩))).ok
          have gqh := hch.blk HQC.out.2.2.2.1 (fun e => e (.inr ⟨by omega, blk_lt HQC.out.2.2.2.1⟩))
          have grh := hch.blk HQC.out.2.2.2.2 (fun e => e (.inr ⟨by omega, blk_lt HQC.out.2.2.2.2⟩))
          have hnh := (OP.ok ⟨hno.n, hno.s, hno.each⟩ : PVok wg wg.heap.size r2).below hbgh (Nat.le_refl _)
          have HSQ := Lib.hid (fun (he : r2.pl = q.pl) => kv.same_k wh wh.heap.size r2 q (hnh.more sgh) hqh (Nat.le_refl _) he)
          have HSR := Lib.hid (fun (he : r2.pl = r.pl) => kv.same_k wh wh.heap.size r2 r (hnh.more sgh) hrh (Nat.le_refl _) he)
          obtain ⟨⟨c0, c1, c2⟩, _, _, _⟩ := isv3_cells grh
          obtain ⟨⟨d0, d1, d2⟩, _, _, _⟩ := isv3_cells gqh
          obtain ⟨⟨n0, n1, n2⟩, _, _, _⟩ := isv3_cells gn
          have lrh := blk_lt grh
          have lqh := blk_lt gqh
          have lnh := blk_lt gn
          have HN := Lib.hid hnp
          have HKH := Lib.hid ((HKF.out.quiet hbfh).mark (Below.refl _ wh) (Y := fun k => k < w4.heap.size) (fun k hk => .inl (.inl hk)) (fun k hk => by have := (HKF.out.quiet hbfh).below.size; omega))
          clear hno hnp hbg hbgh gn hbfh hch hqh hrh gqh grh hnh HGET HKF
          by_cases hF : f = 0
          · subst hF
            have hz : chk Q = 0 ∧ z = some (kv.encP Q) := by
              have h1 := HFZ.out.1
              have h2 := HFZ.out.2.1
              unfold setO at h2
              rw [if_pos h1] at h2
              refine ⟨?_, h2.symm⟩
              unfold setE at h1
              split at h1
              · assumption
              · exact absurd h1 (by decide)
            obtain rfl : b2 = true := by rw [← HB2.out, hz.2]; show decide (kv.decE (kv.encP Q) = 0) = true; rw [(dec_enc hz.1).1]; rfl
            have HSS := Lib.hid (HSQ.out (by rw [HN.out, HQC.out.1, hz.2]; exact (dec_enc hz.1).2))
            clear hz HSQ HSR
            go_wp2_with (fail)
            clear hwh
            refine HSS.out.mono ?_
            rintro e wz ⟨rfl, hbz⟩
            have HKZ := Lib.hid (HKH.out.quiet hbz)
            clear hbz
            go_wp2_with (fail)
            go_roundg (len2 - (i + 1))
            case measure => omega
            case rel => exact ⟨i + 1, t2, z, rfl, rfl, by go_num, by omega, by omega, HFZ.out.2.2, KC.mono HKZ.out (by omega)⟩
          · have hz : z = y := by
              have h2 := HFZ.out.2.1
              unfold setO at h2
              rw [if_neg (by rw [HFZ.out.1]; exact hF)] at h2
              exact h2.symm
            obtain rfl : b2 = b := by rw [← HB2.out, ← HBB.out, hz]
            have HSS := Lib.hid (HSR.out (by rw [HN.out, HR.out.1, hz]))
            clear hz HSQ HSR
            have hbne : (b2 != b2) = false := by cases b2 <;> rfl
            go_wp2_with (fail)
            clear hwh
            refine HSS.out.mono ?_
            rintro e wz ⟨rfl, hbz⟩
            have HKZ := Lib.hid (HKH.out.quiet hbz)
            clear hbz
            go_wp2_with (fail)
            go_roundg (len2 - (i + 1))
            case measure => omega
            case rel => exact ⟨i + 1, t2, z, rfl, rfl, by go_num, by omega, by omega, HFZ.out.2.2, KC.mono HKZ.out (by omega)⟩
      · obtain rfl : i = len2 := by omega
        have hltz : ¬ (i : Int) < (i : Int) := by omega
        have HPN := Lib.hid HK.out.2.disk.pending
        have HBW := Lib.hid (HV.out.2.2.2.2.trans (HK.out.2.below.mono s04))
        go_wp2_with (fail)
        refine HPN.out.mono ?_
        rintro e wz ⟨rfl, rfl⟩
        go_wp2_with (fail)
        go_ret
        exact ⟨rfl, HBW.out⟩
theorem walk_ok (a0 : Option Addr) (len0 cap0 : Nat) (z0 : List Int) (a1 : Int) (a2 : Option Addr) (len2 cap2 : Nat) (w : World) (w0 : IsRow .i64 w a0 len0 cap0 z0) (w1 : (Lit.int .i64 a1).wf = true) (w2 : IsLs VE (fun _ => True) w a2 len2 cap2) :
    Calls Try.prog 3 #[.slice a0 len0 cap0, .int .i64 a1, .slice a2 len2 cap2] w fun e w' => e = .returned (.bool true) ∧ Below w.heap.size w w' :=
  walk a0 len0 cap0 z0 a1 a2 len2 cap2 w w0 w2
end Go.Proofs.Ytnjdondkggkfoaa.lawKvAgain
