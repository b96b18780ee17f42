/-
  A placement as bytes: the document's Encode.
-/
import Derived.Test.YtnjdondkggkfoaaGreatKvX
import Derived.Test.YtnjdondkggkfoaaGreatPmCheckY
namespace Go.Proofs.YtnjdondkggkfoaaGreat.kv
open Go.ChangeShapes Go.WideShapes Go.ChangeAt Go.RowKit plain words ord mem uvs uvc pm

/-- the placement's copy, and the bytes so far -/
structure KY (w0 w : World) (v : PV) (A : Option Addr) (n c : Nat) (l : List UInt8) : Prop where
  row : pm.Boxed w w0.heap.size v
  own : w.ownsRow w0.heap.size 5 1 (.slice A n c) n (u8s l)
  len : l.length = n
  bel : Below w0.heap.size w0 w
  sz : n ≤ 1000000
theorem KY.put {w0 w : World} {v : PV} {A : Option Addr} {n c : Nat} {l : List UInt8} (h : KY w0 w v A n c l) (z : Int) (h0 : 0 ≤ z) (h1 : z ≤ 1099511627776) (hl : n ≤ 999990) :
    Calls Tryz.prog 39 #[.slice A n c, .int .u64 z] w fun e w' => ∃ A' n' c', e = .returned (.slice A' n' c') ∧ KY w0 w' v A' n' c' (l ++ num z) ∧ n' ≤ n + 10 := by
  have hA : A = none → c = 0 := by
    obtain ⟨A2, c2, e, h2, _⟩ := own_fit h.len h.own
    injection e with e1 _ e3
    rw [e1, e3]; exact h2
  have hu := uvarint_y w w.heap.size n c A l z.toNat (own_bs h.own) hA (Nat.le_refl _) (by omega) (by omega)
  rw [Int.toNat_of_nonneg h0] at hu
  refine hu.mono fun e w' hr => ?_
  obtain ⟨A', c', rfl, ho, hb⟩ := hr
  have hs := h.bel.size
  have hn := num_len z
  have hlen : (l ++ uv z.toNat).length ≤ n + 10 := by rw [List.length_append, h.len]; unfold num at hn; omega
  exact ⟨A', _, c', rfl, ⟨blk_below hb h.row (by have := blk_lt h.row; omega), own_base ho hs, rfl, h.bel.trans (hb.mono hs), by omega⟩, hlen⟩
theorem KY.first {w0 w : World} {v : PV} (hr : pm.Boxed w w0.heap.size v) (hb : Below w0.heap.size w0 w) : KY w0 w v none 0 0 [] :=
  ⟨hr, ⟨by simp [u8s], .inl ⟨rfl, rfl⟩⟩, rfl, hb, by omega⟩
set_option maxHeartbeats 4000000 in
set_option maxRecDepth 100000 in
theorem encode_y (w : World) (B : Nat) (v : PV) (h : PVok w B v) (hB : B ≤ w.heap.size) :
    Calls Tryz.prog 9 #[v.val] w (RetEnc w v.pl) := by
  obtain ⟨wa, hwa⟩ : ∃ wa, w.alloc (boxO v) = wa := ⟨_, rfl⟩
  have hba : Below w.heap.size w wa := by rw [← hwa]; exact below_al _ _
  have gp : pm.Boxed wa w.heap.size v := by rw [← hwa]; exact alloc_new _ _
  have hsa := hba.size
  have hla : w.heap.size < wa.heap.size := blk_lt gp
  have HCK := Lib.hid (rcheck_y wa B v (h.below hba hB) (by omega))
  have HOK := Lib.hid (fun (u : World) (hu : Below w.heap.size w u) => h.below hu hB)
  obtain ⟨ck, hck⟩ : ∃ ck, chk v.pl = ck := ⟨_, rfl⟩
  rw [hck] at HCK
  have HCKE := Lib.hid hck
  have HBA := Lib.hid hba
  have GP := Lib.hid gp
  have HWA := Lib.hid hwa
  obtain ⟨⟨c0, c1, c2⟩, _⟩ := isv3_cells gp
  clear hck hba gp hwa h
  obtain ⟨p, hp⟩ : ∃ p, v.pl = p := ⟨_, rfl⟩
  rw [hp] at HCKE ⊢
  have HP := Lib.hid hp
  have hvl : v.rs.length = p.ss.length := by rw [← hp]; simp [PV.pl]
  have hvn : v.nodes = p.nodes := by rw [← hp]; rfl
  have HVL := Lib.hid hvl
  have HVN := Lib.hid hvn
  clear hp hvl hvn
  obtain ⟨v', hv'⟩ : ∃ v', v = v' := ⟨_, rfl⟩
  have HV := Lib.hid hv'
  obtain ⟨ver, nA, nc, nodes, sA, sc, rs⟩ := v
  simp only [PV.val, boxO] at HCK HWA c0 c1 c2 ⊢
  clear hv'
  have HBA2 := Lib.hid (fun (u : World) (hu : Below wa.heap.size wa u) => HBA.out.trans (hu.mono hsa))
  go_enter Tryz.func9, Tryz.ntmps9
  go_wp2_with (fail)
  rw [HWA.out]
  refine HCK.out.mono ?_
  rintro e wb ⟨rfl, hb⟩
  have HBB := Lib.hid (HBA2.out wb hb)
  have hsb := hb.size
  by_cases hk0 : ck = 0
  · subst hk0
    have hpok := chk_iff.1 HCKE.out
    have HPOK := Lib.hid hpok
    have HS := Lib.hid (small_ok hpok)
    have KWC := Lib.hid (show KY w wb v' none 0 0 [] by
      rw [← HV.out]
      exact KY.first (blk_below hb GP.out hla) HBB.out)
    obtain ⟨N, hN⟩ : ∃ N, nodes.length = N := ⟨_, rfl⟩
    have hnN : nodes = p.nodes := HVN.out
    have HN := Lib.hid hN
    obtain ⟨M, hM⟩ : ∃ M, rs.length = M := ⟨_, rfl⟩
    have HM := Lib.hid hM
    rw [hN] at c1
    rw [hM] at c2
    have hN8 : N ≤ 8 := by rw [← hN, hnN]; exact ok_nl hpok
    have hM8 : M ≤ 8 := by rw [← hM]; exact Nat.le_trans (Nat.le_of_eq HVL.out) hpok.few
    have HVC := Lib.hid (fun (A : Option Addr) (n c : Nat) (l : List UInt8) (u : World) (hu : KY w u v' A n c l) => by
      have := hu.row
      rw [← HV.out] at this
      simpa only [hN, hM] using (isv3_cells this).1)
    have HNN := Lib.hid hnN
    have hvb := HS.out.ver
    rw [← HP.out] at hvb
    simp only [PV.pl] at hvb
    clear hpok hb hN hM c0 c1 c2 hnN
    obtain ⟨c0, c1, c2⟩ := HVC.out _ _ _ _ _ KWC.out
    have hlc : w.heap.size < wb.heap.size := blk_lt KWC.out.row
    have HP1 := Lib.hid (KWC.out.put ver hvb.1 hvb.2 (by omega))
    have m1 : ver % 18446744073709551616 = ver := by omega
    have m2 : (N : Int) % 18446744073709551616 = (N : Int) := by omega
    have m3 : (M : Int) % 18446744073709551616 = (M : Int) := by omega
    go_wp2_with (fail)
    refine HP1.out.mono ?_
    rintro e w1 ⟨A1, n1, k1, rfl, hk, hn1⟩
    have K1 := Lib.hid hk
    have hl1 : w.heap.size < w1.heap.size := blk_lt hk.row
    clear hk c0 c1 c2
    obtain ⟨c0, c1, c2⟩ := HVC.out _ _ _ _ _ K1.out
    have HP2 := Lib.hid (K1.out.put (N : Int) (by omega) (by omega) (by omega))
    go_wp2_with (fail)
    refine HP2.out.mono ?_
    rintro e w2 ⟨A2, n2, k2, rfl, hk, hn2⟩
    have hl2 : w.heap.size < w2.heap.size := blk_lt hk.row
    obtain ⟨P, hP⟩ : ∃ P, [] ++ num ver ++ num (N : Int) = P := ⟨_, rfl⟩
    rw [hP] at hk
    have hPl : P.length ≤ 20 := by rw [← hP]; have := num_len ver; have := num_len (N : Int); simp; omega
    have HPP := Lib.hid hP
    have K2 := Lib.hid hk
    clear hk c0 c1 c2 hP
    have K2' := Lib.hid (show KY w w2 v' A2 n2 k2 (P ++ encN (nodes.take 0)) by simpa [encN] using K2.out)
    go_wp2_with (fail)
    go_loopg [4, 5] N (fun gg s4 s5 wr => ∃ (i : Nat) (A : Option Addr) (n c : Nat), s5 = .int .i64 i ∧ s4 = .slice A n c ∧ i ≤ N ∧ N - i ≤ gg ∧ Aside (KY w wr v' A n c (P ++ encN (nodes.take i))))
    case atStart => exact ⟨0, A2, n2, k2, rfl, rfl, by omega, by omega, K2'.out⟩
    case round =>
      obtain ⟨i, A, n, c, rfl, rfl, hi, hgg, HK⟩ := hrel
      have hlr : w.heap.size < wr.heap.size := blk_lt HK.out.row
      obtain ⟨c0, c1, c2⟩ := HVC.out _ _ _ _ _ HK.out
      by_cases hlt : i < N
      · have hltz : (i : Int) < (N : Int) := by omega
        have i0 : (0 : Int) ≤ (i : Int) := by omega
        obtain ⟨x, hx⟩ : ∃ x, nodes[i]? = some x := ⟨_, List.getElem?_eq_getElem (by rw [HN.out]; exact hlt)⟩
        have hxs := HS.out.nodes x (by rw [← HNN.out]; exact List.mem_of_getElem? hx)
        have hok := HOK.out wr HK.out.bel
        obtain ⟨b, off, hA, hb, y0⟩ := num_at hok.n hx
        simp only at hA y0
        subst hA
        have hbw : b < wr.heap.size := by omega
        have hnl := encN_len (nodes.take i)
        have htl := List.length_take_le i nodes
        have hkl := HK.out.len
        have m4 : x % 18446744073709551616 = x := by omega
        have HP3 := Lib.hid (HK.out.put x hxs.1 hxs.2 (by rw [← hkl, List.length_append]; omega))
        have HES := Lib.hid (encN_succ hx)
        clear hok hx hxs hnl htl hkl
        go_wp2_with (fail)
        refine HP3.out.mono ?_
        rintro e w3 ⟨A3, n3, k3, rfl, hk, hn3⟩
        rw [List.append_assoc, ← HES.out] at hk
        have K3 := Lib.hid hk
        clear hk y0 c0 c1 c2
        go_wp2_with (fail)
        go_roundg (N - (i + 1))
        case measure => omega
        case rel => exact ⟨i + 1, A3, n3, k3, by go_num, rfl, by omega, by omega, K3.out⟩
      · obtain rfl : i = N := by omega
        have hltz : ¬ (i : Int) < (i : Int) := by omega
        obtain ⟨P2, hP2⟩ : ∃ P2, P ++ encN nodes = P2 := ⟨_, rfl⟩
        have HK4 := Lib.hid (show KY w wr v' A n c P2 by
          have := HK.out
          rw [show nodes.take i = nodes from List.take_of_length_le (by rw [HN.out]; exact Nat.le_refl _), hP2] at this
          exact this)
        have hP2l : P2.length ≤ 100 := by rw [← hP2, List.length_append]; have := encN_len nodes; rw [HN.out] at this; omega
        have HPP2 := Lib.hid hP2
        have HP3 := Lib.hid (HK4.out.put (M : Int) (by omega) (by omega) (by rw [← HK4.out.len]; omega))
        clear HK hP2
        go_wp2_with (fail)
        refine HP3.out.mono ?_
        rintro e w4 ⟨A4, n4, k4, rfl, hk, hn4⟩
        have hl4 : w.heap.size < w4.heap.size := blk_lt hk.row
        obtain ⟨P3, hP3⟩ : ∃ P3, P2 ++ num (M : Int) = P3 := ⟨_, rfl⟩
        rw [hP3] at hk
        have hP3l : P3.length ≤ 110 := by rw [← hP3, List.length_append]; have := num_len (M : Int); omega
        have HPP3 := Lib.hid hP3
        have K4 := Lib.hid hk
        clear hk c0 c1 c2 hP3
        have K4' := Lib.hid (show KY w w4 v' A4 n4 k4 (P3 ++ encSs (p.ss.take 0)) by simpa [encSs] using K4.out)
        go_wp2_with (fail)
        go_loopg [4, 6, 7, 8] M (fun gg s4 s6 s7 s8 wr => ∃ (i : Nat) (A : Option Addr) (n c : Nat), s6 = .int .i64 i ∧ s4 = .slice A n c ∧ i ≤ M ∧ M - i ≤ gg ∧ Aside (KY w wr v' A n c (P3 ++ encSs (p.ss.take i))))
        case atStart => exact ⟨0, A4, n4, k4, rfl, rfl, by omega, by omega, K4'.out⟩
        case round =>
          obtain ⟨i, A, n, c, rfl, rfl, hi, hgg, HK⟩ := hrel
          obtain ⟨wx, hwx⟩ : ∃ wx, wx = wr := ⟨wr, rfl⟩
          obtain rfl := hwx
          have hlr : w.heap.size < wx.heap.size := blk_lt HK.out.row
          obtain ⟨c0, c1, c2⟩ := HVC.out _ _ _ _ _ HK.out
          by_cases hlt : i < M
          · have hltz : (i : Int) < (M : Int) := by omega
            have i0 : (0 : Int) ≤ (i : Int) := by omega
            obtain ⟨r, hr⟩ : ∃ r, rs[i]? = some r := ⟨_, List.getElem?_eq_getElem (by rw [HM.out]; exact hlt)⟩
            have hli : p.ss[i]? = some r.l := by rw [← HP.out]; simp [PV.pl, hr]
            have hll := ok_ll (HPOK.out.each r.l (List.mem_of_getElem? hli))
            have hsm := (HS.out.each r.l (List.mem_of_getElem? hli)).2
            have hok := HOK.out wx HK.out.bel
            obtain ⟨b, off, hA, hb, l0, ho⟩ := hok.s.at_ hr
            simp only at hA
            subst hA
            have HO := Lib.hid (fun (u : World) (hu : Below w.heap.size w u) => show Ls OE u B r.A r.l.length r.l by obtain ⟨_, _, _, _, _, ho⟩ := (HOK.out u hu).s.at_ hr; exact ho.ls)
            have hol := ho.len
            have hsl := encSs_len (p.ss.take i) (fun q hq => ok_ll (HPOK.out.each q (List.mem_of_mem_take hq)))
            have htl := List.length_take_le i p.ss
            obtain ⟨rA, rc, L⟩ := r
            obtain ⟨m, hm⟩ : ∃ m, L.length = m := ⟨_, rfl⟩
            simp only [Rw3.val, hm] at l0 HO hol hli hll hsm
            have HSS := Lib.hid (encSs_succ hli)
            rw [hm] at HSS
            have HMm := Lib.hid hm
            have HSM := Lib.hid hsm
            have hbw : b < wx.heap.size := by omega
            obtain ⟨Q, hQ⟩ : ∃ Q, P3 ++ encSs (p.ss.take i) = Q := ⟨_, rfl⟩
            have hQl : Q.length ≤ 2200 := by rw [← hQ, List.length_append]; omega
            have HQ := Lib.hid hQ
            have HKQ := Lib.hid (show KY w wx v' A n c Q by rw [← hQ]; exact HK.out)
            have HP4 := Lib.hid (HKQ.out.put (m : Int) (by omega) (by omega) (by rw [← HKQ.out.len]; omega))
            have m5 : (m : Int) % 18446744073709551616 = (m : Int) := by omega
            clear HK hr hli hm hok ho hsm hQ hsl htl
            go_wp2_with (fail)
            refine HP4.out.mono ?_
            rintro e w5 ⟨A5, n5, k5, rfl, hk, hn5⟩
            obtain ⟨Q2, hQ2⟩ : ∃ Q2, Q ++ num (m : Int) = Q2 := ⟨_, rfl⟩
            rw [hQ2] at hk
            have hQ2l : Q2.length ≤ 2210 := by rw [← hQ2, List.length_append]; have := num_len (m : Int); omega
            have HQ2 := Lib.hid hQ2
            have K5 := Lib.hid (show KY w w5 v' A5 n5 k5 (Q2 ++ encOs (L.take 0)) by simpa [encOs] using hk)
            clear hk l0 hQ2 c0 c1 c2
            go_wp2_with (fail)
            go_loopg [4, 8] m (fun gg3 s4 s8 wr => ∃ (k : Nat) (A : Option Addr) (n c : Nat), s8 = .int .i64 k ∧ s4 = .slice A n c ∧ k ≤ m ∧ m - k ≤ gg3 ∧ Aside (KY w wr v' A n c (Q2 ++ encOs (L.take k))))
            case atStart => exact ⟨0, A5, n5, k5, rfl, rfl, by omega, by omega, K5.out⟩
            case round =>
              obtain ⟨k, A, n, c, rfl, rfl, hk, hgg3, HK⟩ := hrel
              by_cases hlt3 : k < m
              · have hltz3 : (k : Int) < (m : Int) := by omega
                have k0 : (0 : Int) ≤ (k : Int) := by omega
                obtain ⟨x, hx⟩ : ∃ x, L[k]? = some x := ⟨_, List.getElem?_eq_getElem (by rw [HMm.out]; exact hlt3)⟩
                obtain ⟨b3, off3, hA3, hb3, y0, y1, y2⟩ := own_at (HO.out wr HK.out.bel) hx
                subst hA3
                have HY := Lib.hid (fun (u : World) (hu : Below w.heap.size w u) => own_at (HO.out u hu) hx)
                have hxs := HSM.out x (List.mem_of_getElem? hx)
                have hol2 := encOs_len (L.take k)
                have htl := List.length_take_le k L
                have HES := Lib.hid (encOs_succ hx)
                obtain ⟨x1, x2, x3⟩ := x
                simp only at y0 y1 y2 HES HY
                have hb3w : b3 < wr.heap.size := by have := HK.out.bel.size; omega
                have w1b : (-1 : Int) ≤ x3 ∧ x3 < 1099511627776 := hxs.2.2
                have hwrp : IntKind.i64.wrap (x3 + 1) = x3 + 1 := by rw [IntWalk.i64_in _ (by omega)]
                have hwrp2 : wrap64 (x3 + 1) = x3 + 1 := by rw [IntWalk.wrap64_in _ (by omega)]
                have m6 : x1 % 18446744073709551616 = x1 := by have : 0 ≤ x1 ∧ x1 ≤ 1099511627776 := hxs.1; omega
                have m7 : x2 % 18446744073709551616 = x2 := by have : 0 ≤ x2 ∧ x2 ≤ 1099511627776 := hxs.2.1; omega
                have m8 : (x3 + 1) % 18446744073709551616 = x3 + 1 := by omega
                have hTl : (Q2 ++ encOs (L.take k)).length ≤ 2500 := by rw [List.length_append]; omega
                have hkl := HK.out.len
                have hnT : n ≤ 2500 := by omega
                have HP5 := Lib.hid (HK.out.put x1 hxs.1.1 hxs.1.2 (by omega))
                have hxs2 := hxs.2.1
                clear hx hxs hol2 htl hkl hTl
                go_wp2_with (fail)
                refine HP5.out.mono ?_
                rintro e w6 ⟨A6, n6, k6, rfl, hk6, hn6⟩
                have HP6 := Lib.hid (hk6.put x2 hxs2.1 hxs2.2 (by omega))
                clear y0 y1 y2
                obtain ⟨b4, off4, hA4, hb4, y0, y1, y2⟩ := HY.out w6 hk6.bel
                cases hA4
                have hb4w : b3 < w6.heap.size := by have := hk6.bel.size; omega
                clear hk6
                go_wp2_with (fail)
                refine HP6.out.mono ?_
                rintro e w7 ⟨A7, n7, k7, rfl, hk7, hn7⟩
                have HP7 := Lib.hid (hk7.put (x3 + 1) (by omega) (by omega) (by omega))
                clear y0 y1 y2
                obtain ⟨b4, off4, hA4, hb4, y0, y1, y2⟩ := HY.out w7 hk7.bel
                cases hA4
                have hb5w : b3 < w7.heap.size := by have := hk7.bel.size; omega
                clear hk7
                go_wp2_with (fail)
                refine HP7.out.mono ?_
                rintro e w8 ⟨A8, n8, k8, rfl, hk8, hn8⟩
                have K8 := Lib.hid (show KY w w8 v' A8 n8 k8 (Q2 ++ encOs (L.take (k + 1))) by rw [HES.out]; simpa only [List.append_assoc] using hk8)
                clear hk8 y0 y1 y2
                go_wp2_with (fail)
                go_roundg (m - (k + 1))
                case measure => omega
                case rel => exact ⟨k + 1, A8, n8, k8, by go_num, rfl, by omega, by omega, K8.out⟩
              · obtain rfl : k = m := by omega
                have hltz3 : ¬ (k : Int) < (k : Int) := by omega
                have K9 := Lib.hid (show KY w wr v' A n c (P3 ++ encSs (p.ss.take (i + 1))) by
                  have := HK.out
                  rw [show L.take k = L from List.take_of_length_le (by rw [HMm.out]; exact Nat.le_refl _), ← HQ2.out, ← HQ.out] at this
                  rw [HSS.out]
                  simpa only [List.append_assoc] using this)
                go_wp2_with (fail)
                go_roundg (M - (i + 1))
                case measure => omega
                case rel => exact ⟨i + 1, A, n, c, by go_num, rfl, by omega, by omega, K9.out⟩
          · obtain rfl : i = M := by omega
            have hltz : ¬ (i : Int) < (i : Int) := by omega
            have hfin : P3 ++ encSs (p.ss.take i) = encP p := by
              rw [show p.ss.take i = p.ss from List.take_of_length_le (by rw [← HVL.out, HM.out]; exact Nat.le_refl _), ← HPP3.out, ← HPP2.out, ← HPP.out, ← HM.out, ← HN.out, HVL.out, HNN.out]
              have hver : ver = p.ver := by rw [← HP.out]; rfl
              rw [hver]
              unfold encP
              simp only [List.append_assoc, List.nil_append]
            have HKF := HK.out
            rw [hfin] at HKF
            have HKF2 := Lib.hid HKF
            have e1 := Lib.hid (show encB p = encP p by unfold encB; rw [if_pos HCKE.out])
            have e2 := Lib.hid (show encE p = 0 by unfold encE; rw [if_pos HCKE.out])
            clear hfin HKF HK
            go_wp2_with (fail)
            go_ret2
            refine ⟨A, c, by rw [e1.out, e2.out, HKF2.out.len]; rfl, ?_, HKF2.out.bel, fun e => ?_⟩
            · rw [e1.out, HKF2.out.len]; exact HKF2.out.own
            · obtain ⟨A2, c2, h1, h2, _⟩ := own_fit HKF2.out.len HKF2.out.own
              injection h1 with h1 _ h3
              rw [h3]; exact h2 (by rw [← h1]; exact e)
  · have hez : (ck == 0) = false := by simp [hk0]
    have hr2 : (ck != 0) = true := by simp [hk0]
    have HNZ := Lib.hid hk0
    clear hk0
    go_wp2_with (fail)
    go_ret2
    exact ret_bad (by rw [HCKE.out]; exact HNZ.out) HBB.out
end Go.Proofs.YtnjdondkggkfoaaGreat.kv
