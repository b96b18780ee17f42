/-
  A placement as bytes: the document's Encode.
-/
import Derived.Test.YtnjdondkggkfoaaGreatKvX
import Derived.Test.YtnjdondkggkfoaaGreatPmCheckY
import Derived.Deep.CutBlock
namespace Go.Proofs.YtnjdondkggkfoaaGreat.kv
open Go.ChangeShapes Go.WideShapes Go.ChangeAt Go.RowKit plain words ord mem uvs uvc pm

/-- the placement's copy, and the bytes so far -/
structure KY (w0 w : World) (v : PV) (A : Option Addr) (n c : Nat) (l : List UInt8) : Prop where
  row : pm.Boxed w w0.heap.size v
  own : w.ownsRow w0.heap.size 5 1 (.slice A n c) n (u8s l)
  len : l.length = n
  bel : Below w0.heap.size w0 w
  sz : n ≤ 1000000
theorem KY.put {w0 w : World} {v : PV} {A : Option Addr} {n c : Nat} {l : List UInt8} (h : KY w0 w v A n c l) (z : Int) (h0 : 0 ≤ z) (h1 : z ≤ 1099511627776) (hl : n ≤ 999990) :
    Calls Tryz.prog 39 #[.slice A n c, .int .u64 z] w fun e w' => ∃ A' n' c', e = .returned (.slice A' n' c') ∧ KY w0 w' v A' n' c' (l ++ num z) ∧ n' ≤ n + 10 := by
  have hA : A = none → c = 0 := by
    obtain ⟨A2, c2, e, h2, _⟩ := own_fit h.len h.own
    injection e with e1 _ e3
    rw [e1, e3]; exact h2
  have hu := uvarint_y w w.heap.size n c A l z.toNat (own_bs h.own) hA (Nat.le_refl _) (by omega) (by omega)
  rw [Int.toNat_of_nonneg h0] at hu
  refine hu.mono fun e w' hr => ?_
  obtain ⟨A', c', rfl, ho, hb⟩ := hr
  have hs := h.bel.size
  have hn := num_len z
  have hlen : (l ++ uv z.toNat).length ≤ n + 10 := by rw [List.length_append, h.len]; unfold num at hn; omega
  exact ⟨A', _, c', rfl, ⟨blk_below hb h.row (by have := blk_lt h.row; omega), own_base ho hs, rfl, h.bel.trans (hb.mono hs), by omega⟩, hlen⟩
theorem KY.first {w0 w : World} {v : PV} (hr : pm.Boxed w w0.heap.size v) (hb : Below w0.heap.size w0 w) : KY w0 w v none 0 0 [] :=
  ⟨hr, ⟨by simp [u8s], .inl ⟨rfl, rfl⟩⟩, rfl, hb, by omega⟩
set_option maxHeartbeats 4000000 in
set_option maxRecDepth 100000 in
theorem encode_y (w : World) (B : Nat) (v : PV) (h : PVok w B v) (hB : B ≤ w.heap.size) :
    Calls Tryz.prog 9 #[v.val] w (RetEnc w v.pl) := by
  obtain ⟨wa, hwa⟩ : ∃ wa, w.alloc (boxO v) = wa := ⟨_, rfl⟩
  have hba : Below w.heap.size w wa := by rw [← hwa]; exact below_al _ _
  have gp : pm.Boxed wa w.heap.size v := by rw [← hwa]; exact alloc_new _ _
  have hsa := hba.size
  have hla : w.heap.size < wa.heap.size := blk_lt gp
  have HCK := Lib.hid (rcheck_y wa B v (h.below hba hB) (by omega))
  have HOK := Lib.hid (fun (u : World) (hu : Below w.heap.size w u) => h.below hu hB)
  obtain ⟨ck, hck⟩ : ∃ ck, chk v.pl = ck := ⟨_, rfl⟩
  rw [hck] at HCK
  have HCKE := Lib.hid hck
  have HBA := Lib.hid hba
  have GP := Lib.hid gp
  have HWA := Lib.hid hwa
  obtain ⟨⟨c0, c1, c2⟩, _⟩ := isv3_cells gp
  clear hck hba gp hwa h
  obtain ⟨p, hp⟩ : ∃ p, v.pl = p := ⟨_, rfl⟩
  rw [hp] at HCKE ⊢
  have HP := Lib.hid hp
  have hvl : v.rs.length = p.ss.length := by rw [← hp]; simp [PV.pl]
  have hvn : v.nodes = p.nodes := by rw [← hp]; rfl
  have HVL := Lib.hid hvl
  have HVN := Lib.hid hvn
  clear hp hvl hvn
  obtain ⟨v', hv'⟩ : ∃ v', v = v' := ⟨_, rfl⟩
  have HV := Lib.hid hv'
  obtain ⟨ver, nA, nc, nodes, sA, sc, rs⟩ := v
  simp only [PV.val, boxO] at HCK HWA c0 c1 c2 ⊢
  clear hv'
  have HBA2 := Lib.hid (fun (u : World) (hu : Below wa.heap.size wa u) => HBA.out.trans (hu.mono hsa))
  go_enter Tryz.func9, Tryz.ntmps9
  go_wp2_with (fail)
  rw [HWA.out]
  refine HCK.out.mono ?_
  rintro e wb ⟨rfl, hb⟩
  have HBB := Lib.hid (HBA2.out wb hb)
  have hsb := hb.size
  by_cases hk0 : ck = 0
  · subst hk0
    have hpok := chk_iff.1 HCKE.out
    have HPOK := Lib.hid hpok
    have HS := Lib.hid (small_ok hpok)
    have KWC := Lib.hid (show KY w wb v' none 0 0 [] by
      rw [← HV.out]
      exact KY.first (blk_below hb GP.out hla) HBB.out)
    obtain ⟨N, hN⟩ : ∃ N, nodes.length = N := ⟨_, rfl⟩
    have hnN : nodes = p.nodes := HVN.out
    have HN := Lib.hid hN
    obtain ⟨M, hM⟩ : ∃ M, rs.length = M := ⟨_, rfl⟩
    have HM := Lib.hid hM
    rw [hN] at c1
    rw [hM] at c2
    have hN8 : N ≤ 8 := by rw [← hN, hnN]; exact ok_nl hpok
    have hM8 : M ≤ 8 := by rw [← hM]; exact Nat.le_trans (Nat.le_of_eq HVL.out) hpok.few
    have HVC := Lib.hid (fun (A : Option Addr) (n c : Nat) (l : List UInt8) (u : World) (hu : KY w u v' A n c l) => by
      have := hu.row
      rw [← HV.out] at this
      simpa only [hN, hM] using (isv3_cells this).1)
    have HNN := Lib.hid hnN
    have hvb := HS.out.ver
    rw [← HP.out] at hvb
    simp only [PV.pl] at hvb
    clear hpok hb hN hM c0 c1 c2 hnN
    obtain ⟨c0, c1, c2⟩ := HVC.out _ _ _ _ _ KWC.out
    have hlc : w.heap.size < wb.heap.size := blk_lt KWC.out.row
    have HP1 := Lib.hid (KWC.out.put ver hvb.1 hvb.2 (by omega))
    have m1 : ver % 18446744073709551616 = ver := by omega
    have m2 : (N : Int) % 18446744073709551616 = (N : Int) := by omega
    have m3 : (M : Int) % 18446744073709551616 = (M : Int) := by omega
    go_wp2_with (fail)
    refine HP1.out.mono ?_
    rintro e w1 ⟨A1, n1, k1, rfl, hk, hn1⟩
    have K1 := Lib.hid hk
    have hl1 : w.heap.size < w1.heap.size := blk_lt hk.row
    clear hk c0 c1 c2
    obtain ⟨c0, c1, c2⟩ := HVC.out _ _ _ _ _ K1.out
    have HP2 := Lib.hid (K1.out.put (N : Int) (by omega) (by omega) (by omega))
    go_wp2_with (fail)
    refine HP2.out.mono ?_
    rintro e w2 ⟨A2, n2, k2, rfl, hk, hn2⟩
    have hl2 : w.heap.size < w2.heap.size := blk_lt hk.row
    obtain ⟨P, hP⟩ : ∃ P, [] ++ num ver ++ num (N : Int) = P := ⟨_, rfl⟩
    rw [hP] at hk
    have hPl : P.length ≤ 20 := by rw [← hP]; have := num_len ver; have := num_len (N : Int); simp; omega
    have HPP := Lib.hid hP
    have K2 := Lib.hid hk
    clear hk c0 c1 c2 hP
    have K2' := Lib.hid (show KY w w2 v' A2 n2 k2 (P ++ encN (nodes.take 0)) by simpa [encN] using K2.out)
    go_wp2_with (fail)
    go_loopg [4, 5] N (fun gg s4 s5 wr => ∃ (i : Nat) (A : Option Addr) (n c : Nat), s5 = .int .i64 i ∧ s4 = .slice A n c ∧ i ≤ N ∧ N - i ≤ gg ∧ Aside (KY w wr v' A n c (P ++ encN (nodes.take i))))
    case atStart => exact ⟨0, A2, n2, k2, rfl, rfl, by omega, by omega, K2'.out⟩
    case round =>
      obtain ⟨i, A, n, c, rfl, rfl, hi, hgg, HK⟩ := hrel
      have hlr : w.heap.size < wr.heap.size := blk_lt HK.out.row
      obtain ⟨c0, c1, c2⟩ := HVC.out _ _ _ _ _ HK.out
      by_cases hlt : i < N
      · have hltz : (i : Int) < (N : Int) := by omega
        have i0 : (0 : Int) ≤ (i : Int) := by omega
        obtain ⟨x, hx⟩ : ∃ x, nodes[i]? = some x := ⟨_, List.getElem?_eq_getElem (by rw [HN.out]; exact hlt)⟩
        have hxs := HS.out.nodes x (by rw [← HNN.out]; exact List.mem_of_getElem? hx)
        have hok := HOK.out wr HK.out.bel
        obtain ⟨b, off, hA, hb, y0⟩ := num_at hok.n hx
        simp only at hA y0
        subst hA
        have hbw : b < wr.heap.size := by omega
        have hnl := encN_len (nodes.take i)
        have htl := List.length_take_le i nodes
        have hkl := HK.out.len
        have m4 : x % 18446744073709551616 = x := by omega
        have HP3 := Lib.hid (HK.out.put x hxs.1 hxs.2 (by rw [← hkl, List.length_append]; omega))
        have HES := Lib.hid (encN_succ hx)
        clear hok hx hxs hnl htl hkl
        go_wp2_with (fail)
        refine HP3.out.mono ?_
        rintro e w3 ⟨A3, n3, k3, rfl, hk, hn3⟩
        rw [List.append_assoc, ← HES.out] at hk
        have K3 := Lib.hid hk
        clear hk y0 c0 c1 c2
        go_wp2_with (fail)
        go_roundg (N - (i + 1))
        case measure => omega
        case rel => exact ⟨i + 1, A3, n3, k3, by go_num, rfl, by omega, by omega, K3.out⟩
      · obtain rfl : i = N := by omega
        have hltz : ¬ (i : Int) < (i : Int) := by omega
        obtain ⟨P2, hP2⟩ : ∃ P2, P ++ encN nodes = P2 := ⟨_, rfl⟩
        have HK4 := Lib.hid (show KY w wr v' A n c P2 by
          have := HK.out
          rw [show nodes.take i = nodes from List.take_of_length_le (by rw [HN.out]; exact Nat.le_refl _), hP2] at this
          exact this)
        have hP2l : P2.length ≤ 100 := by rw [← hP2, List.length_append]; have := encN_len nodes; rw [HN.out] at this; omega
        have HPP2 := Lib.hid hP2
        have HP3 := Lib.hid (HK4.out.put (M : Int) (by omega) (by omega) (by rw [← HK4.out.len]; omega))
        clear HK hP2
        go_wp2_with (fail)
        refine HP3.out.mono ?_
        rintro e w4 ⟨A4, n4, k4, rfl, hk, hn4⟩
        have hl4 : w.heap.size < w4.heap.size := blk_lt hk.row
        obtain ⟨P3, hP3⟩ : ∃ P3, P2 ++ num (M : Int) = P3 := ⟨_, rfl⟩
        rw [hP3] at hk
        have hP3l : P3.length ≤ 110 := by rw [← hP3, List.length_append]; have := num_len (M : Int); omega
        have HPP3 := Lib.hid hP3
        have K4 := Lib.hid hk
        clear hk c0 c1 c2 hP3
        have K4' := Lib.hid (show KY w w4 v' A4 n4 k4 (P3 ++ encSs (p.ss.take 0)) by simpa [encSs] using K4.out)
        go_wp2_with (fail)
        go_loopg [4, 6, 7, 8] M (fun gg s4 s6 s7 s8 wr => ∃ (i : Nat) (A : Option Addr) (n c : Nat), s6 = .int .i64 i ∧ s4 = .slice A n c ∧ i ≤ M ∧ M - i ≤ gg ∧ Aside (KY w wr v' A n c (P3 ++ encSs (p.ss.take i))))
        case atStart => exact ⟨0, A4, n4, k4, rfl, rfl, by omega, by omega, K4'.out⟩
        case round =>
          obtain ⟨i, A, n, c, rfl, rfl, hi, hgg, HK⟩ := hrel
          obtain ⟨wx, hwx⟩ : ∃ wx, wx = wr := ⟨wr, rfl⟩
          obtain rfl := hwx
          have hlr : w.heap.size < wx.heap.size := blk_lt HK.out.row
          obtain ⟨c0, c1, c2⟩ := HVC.out _ _ _ _ _ HK.out
          by_cases hlt : i < M
          · have hltz : (i : Int) < (M : Int) := by omega
            have i0 : (0 : Int) ≤ (i : Int) := by omega
            obtain ⟨r, hr⟩ : ∃ r, rs[i]? = some r := ⟨_, List.getElem?_eq_getElem (by rw [HM.out]; exact hlt)⟩
            have hli : p.ss[i]? = some r.l := by rw [← HP.out]; simp [PV.pl, hr]
            have hll := ok_ll (HPOK.out.each r.l (List.mem_of_getElem? hli))
            have hsm := (HS.out.each r.l (List.mem_of_getElem? hli)).2
            have hok := HOK.out wx HK.out.bel
            obtain ⟨b, off, hA, hb, l0, ho⟩ := hok.s.at_ hr
            simp only at hA
            subst hA
            have HO := Lib.hid (fun (u : World) (hu : Below w.heap.size w u) => show Ls OE u B r.A r.l.length r.l by obtain ⟨_, _, _, _, _, ho⟩ := (HOK.out u hu).s.at_ hr; exact ho.ls)
            have hol := ho.len
            have hsl := encSs_len (p.ss.take i) (fun q hq => ok_ll (HPOK.out.each q (List.mem_of_mem_take hq)))
            have htl := List.length_take_le i p.ss
            obtain ⟨rA, rc, L⟩ := r
            obtain ⟨m, hm⟩ : ∃ m, L.length = m := ⟨_, rfl⟩
            simp only [Rw3.val, hm] at l0 HO hol hli hll hsm
            have HSS := Lib.hid (encSs_succ hli)
            rw [hm] at HSS
            have HMm := Lib.hid hm
            have HSM := Lib.hid hsm
            have hbw : b < wx.heap.size := by omega
            obtain ⟨Q, hQ⟩ : ∃ Q, P3 ++ encSs (p.ss.take i) = Q := ⟨_, rfl⟩
            have hQl : Q.length ≤ 2200 := by rw [← hQ, List.length_append]; omega
            have HQ := Lib.hid hQ
            have HKQ := Lib.hid (show KY w wx v' A n c Q by rw [← hQ]; exact HK.out)
            have HP4 := Lib.hid (HKQ.out.put (m : Int) (by omega) (by omega) (by rw [← HKQ.out.len]; omega))
            have m5 : (m : Int) % 18446744073709551616 = (m : Int) := by omega
            clear HK hr hli hm hok ho hsm hQ hsl htl
            go_wp2_with (fail)
            refine HP4.out.mono ?_
            rintro e w5 ⟨A5, n5, k5, rfl, hk, hn5⟩
            obtain ⟨Q2, hQ2⟩ : ∃ Q2, Q ++ num (m : Int) = Q2 := ⟨_, rfl⟩
            rw [hQ2] at hk
            have hQ2l : Q2.length ≤ 2210 := by rw [← hQ2, List.length_append]; have := num_len (m : Int); omega
            have HQ2 := Lib.hid hQ2
            have K5 := Lib.hid (show KY w w5 v' A5 n5 k5 (Q2 ++ encOs (L.take 0)) by simpa [encOs] using hk)
            clear hk l0 hQ2 c0 c1 c2
            go_wp2_with (fail)
            go_loopg [4, 8] m (fun gg3 s4 s8 wr => ∃ (k : Nat) (A : Option Addr) (n c : Nat), s8 = .int .i64 k ∧ s4 = .slice A n c ∧ k ≤ m ∧ m - k ≤ gg3 ∧ Aside (KY w wr v' A n c (Q2 ++ encOs (L.take k))))
            case atStart => exact ⟨0, A5, n5, k5, rfl, rfl, by omega, by omega, K5.out⟩
            case round =>
              obtain ⟨k, A, n, c, rfl, rfl, hk, hgg3, HK⟩ := hrel
              by_cases hlt3 : k < m
              · have hltz3 : (k : Int) < (m : Int) := by omega
                have k0 : (0 : Int) ≤ (k : Int) := by omega
                obtain ⟨x, hx⟩ : ∃ x, L[k]? = some x := ⟨_, List.getElem?_eq_getElem (by rw [HMm.out]; exact hlt3)⟩
                obtain ⟨b3, off3, hA3, hb3, y0, y1, y2⟩ := own_at (HO.out wr HK.out.bel) hx
                subst hA3
                have HY := Lib.hid (fun (u : World) (hu : Below w.heap.size w u) => own_at (HO.out u hu) hx)
                have hxs := HSM.out x (List.mem_of_getElem? hx)
                have hol2 := encOs_len (L.take k)
                have htl := List.length_take_le k L
                have HES := Lib.hid (encOs_succ hx)
                obtain ⟨x1, x2, x3⟩ := x
                simp only at y0 y1 y2 HES HY
                have hb3w : b3 < wr.heap.size := by have := HK.out.bel.size; omega
                have w1b : (-1 : Int) ≤ x3 ∧ x3 < 1099511627776 := hxs.2.2
                have hwrp : IntKind.i64.wrap (x3 + 1) = x3 + 1 := by rw [IntWalk.i64_in _ (by omega)]
                have hwrp2 : wrap64 (x3 + 1) = x3 + 1 := by rw [IntWalk.wrap64_in _ (by omega)]
                have m6 : x1 % 18446744073709551616 = x1 := by have : 0 ≤ x1 ∧ x1 ≤ 1099511627776 := hxs.1; omega
                have m7 : x2 % 18446744073709551616 = x2 := by have : 0 ≤ x2 ∧ x2 ≤ 1099511627776 := hxs.2.1; omega
                have m8 : (x3 + 1) % 18446744073709551616 = x3 + 1 := by omega
                have hTl : (Q2 ++ encOs (L.take k)).length ≤ 2500 := by rw [List.length_append]; omega
                have hkl := HK.out.len
                have hnT : n ≤ 2500 := by omega
                have HP5 := Lib.hid (HK.out.put x1 hxs.1.1 hxs.1.2 (by omega))
                have hxs2 := hxs.2.1
                clear hx hxs hol2 htl hkl hTl
                go_wp2_with (fail)
                refine HP5.out.mono ?_
                rintro e w6 ⟨A6, n6, k6, rfl, hk6, hn6⟩
                have HP6 := Lib.hid (hk6.put x2 hxs2.1 hxs2.2 (by omega))
                clear y0 y1 y2
                obtain ⟨b4, off4, hA4, hb4, y0, y1, y2⟩ := HY.out w6 hk6.bel
                cases hA4
                have hb4w : b3 < w6.heap.size := by have := hk6.bel.size; omega
                clear hk6
                go_wp2_with (fail)
                refine HP6.out.mono ?_
                rintro e w7 ⟨A7, n7, k7, rfl, hk7, hn7⟩
                have HP7 := Lib.hid (hk7.put (x3 + 1) (by omega) (by omega) (by omega))
                clear y0 y1 y2
                obtain ⟨b4, off4, hA4, hb4, y0, y1, y2⟩ := HY.out w7 hk7.bel
                cases hA4
                have hb5w : b3 < w7.heap.size := by have := hk7.bel.size; omega
                clear hk7
                go_wp2_with (fail)
                refine HP7.out.mono ?_
                rintro e w8 ⟨A8, n8, k8, rfl, hk8, hn8⟩
                have K8 := Lib.hid (show KY w w8 v' A8 n8 k8 (Q2 ++ encOs (L.take (k + 1))) by rw [HES.out]; simpa only [List.append_assoc] using hk8)
                clear hk8 y0 y1 y2
                go_wp2_with (fail)
                go_roundg (m - (k + 1))
                case measure => omega
                case rel => exact ⟨k + 1, A8, n8, k8, by go_num, rfl, by omega, by omega, K8.out⟩
              · obtain rfl : k = m := by omega
                have hltz3 : ¬ (k : Int) < (k : Int) := by omega
                have K9 := Lib.hid (show KY w wr v' A n c (P3 ++ encSs (p.ss.take (i + 1))) by
                  have := HK.out
                  rw [show L.take k = L from List.take_of_length_le (by rw [HMm.out]; exact Nat.le_refl _), ← HQ2.out, ← HQ.out] at this
                  rw [HSS.out]
                  simpa only [List.append_assoc] using this)
                go_wp2_with (fail)
                go_roundg (M - (i + 1))
                case measure => omega
                case rel => exact ⟨i + 1, A, n, c, by go_num, rfl, by omega, by omega, K9.out⟩
          · obtain rfl : i = M := by omega
            have hltz : ¬ (i : Int) < (i : Int) := by omega
            have hfin : P3 ++ encSs (p.ss.take i) = encP p := by
              rw [show p.ss.take i = p.ss from List.take_of_length_le (by rw [← HVL.out, HM.out]; exact Nat.le_refl _), ← HPP3.out, ← HPP2.out, ← HPP.out, ← HM.out, ← HN.out, HVL.out, HNN.out]
              have hver : ver = p.ver := by rw [← HP.out]; rfl
              rw [hver]
              unfold encP
              simp only [List.append_assoc, List.nil_append]
            have HKF := HK.out
            rw [hfin] at HKF
            have HKF2 := Lib.hid HKF
            have e1 := Lib.hid (show encB p = encP p by unfold encB; rw [if_pos HCKE.out])
            have e2 := Lib.hid (show encE p = 0 by unfold encE; rw [if_pos HCKE.out])
            clear hfin HKF HK
            go_wp2_with (fail)
            go_ret2
            refine ⟨A, c, by rw [e1.out, e2.out, HKF2.out.len]; rfl, ?_, HKF2.out.bel, fun e => ?_⟩
            · rw [e1.out, HKF2.out.len]; exact HKF2.out.own
            · obtain ⟨A2, c2, h1, h2, _⟩ := own_fit HKF2.out.len HKF2.out.own
              injection h1 with h1 _ h3
              rw [h3]; exact h2 (by rw [← h1]; exact e)
  · have hez : (ck == 0) = false := by simp [hk0]
    have hr2 : (ck != 0) = true := by simp [hk0]
    have HNZ := Lib.hid hk0
    clear hk0
    go_wp2_with (fail)
    go_ret2
    exact ret_bad (by rw [HCKE.out]; exact HNZ.out) HBB.out
end Go.Proofs.YtnjdondkggkfoaaGreat.kv
/-
  Bytes as a placement: the document's Decode: its reader.
-/
namespace Go.Proofs.YtnjdondkggkfoaaGreat.kv
open Go.ChangeShapes Go.WideShapes Go.ChangeAt Go.RowKit Go.Shelf plain words ord mem uvs uvc pm

/-- the reader: what is left, and whether all was well -/
def DSy (w : World) (gi B : Nat) (s : St) : Prop := ∃ A n c, w.heap[gi]? = some (.cells #[.slice A n c, .bool (!s.2)] 131 (0, 0)) ∧ Bs w B A n s.1 ∧ n ≤ c ∧ c ≤ 9223372036854775807 ∧ n ≤ 1099511627776 ∧ B ≤ gi
theorem cseto (w : World) (g o : Nat) (u : Value) : Chg (fun k => k = g) w (w.setCell ⟨g, o, none⟩ u) := Chg.setCell (S := fun k => k = g) (Chg.refl _ _) (p := ⟨g, o, none⟩) (fun _ => rfl) u
theorem DSy.chg {S : Nat → Prop} {w w' : World} {gi B : Nat} {s : St} (h : DSy w gi B s) (hc : Chg S w w') (hB : B ≤ w.heap.size) (h1 : ¬ S gi) (h3 : ∀ k, S k → B ≤ k) : DSy w' gi B s := by
  obtain ⟨A, n, c, hg, hb, k1, k2, k3, k4⟩ := h
  exact ⟨A, n, c, hc.blk hg h1, hb.below (hc.below hB h3) (Nat.le_refl _), k1, k2, k3, k4⟩
theorem DSy.flag {w : World} {gi B : Nat} {s : St} (h : DSy w gi B s) (hB : B ≤ w.heap.size) : DSy (w.setCell ⟨gi, 1, none⟩ (.bool true)) gi B (s.1, false) ∧ Chg (fun k => k = gi) w (w.setCell ⟨gi, 1, none⟩ (.bool true)) := by
  obtain ⟨A, n, c, hg, hb, h1, h2, h3, h4⟩ := h
  have hc := cseto w gi 1 (.bool true)
  refine ⟨⟨A, n, c, ?_, hb.below (hc.below hB (fun k e => by omega)) (Nat.le_refl _), h1, h2, h3, h4⟩, hc⟩
  have := heap_setCell_same w gi 1 _ _ (.bool true) hg
  simpa using this
theorem DSy.left {w : World} {gi B : Nat} {s : St} (h : DSy w gi B s) (hB : B ≤ w.heap.size) {A : Option Addr} {n c : Nat} {r : List UInt8} (hb : Bs w B A n r) (h1 : n ≤ c) (h2 : c ≤ 9223372036854775807) (h3 : n ≤ 1099511627776) : DSy (w.setCell ⟨gi, 0, none⟩ (.slice A n c)) gi B (r, s.2) ∧ Chg (fun k => k = gi) w (w.setCell ⟨gi, 0, none⟩ (.slice A n c)) := by
  obtain ⟨A0, n0, c0, hg, _, _, _, _, h4⟩ := h
  have hc := cseto w gi 0 (.slice A n c)
  refine ⟨⟨A, n, c, ?_, hb.below (hc.below hB (fun k e => by omega)) (Nat.le_refl _), h1, h2, h3, h4⟩, hc⟩
  have := heap_setCell_same w gi 0 _ _ (.slice A n c) hg
  simpa using this
def RetRdy (w : World) (gi B : Nat) (s : St) (e : Ending) (w' : World) : Prop := e = .returned (.int .i64 (rd s).1) ∧ DSy w' gi B (rd s).2 ∧ Chg (fun k => k = gi) w w'
set_option maxHeartbeats 1000000 in
theorem number_y (w : World) (gi B : Nat) (s : St) (h : DSy w gi B s) (hB : B ≤ w.heap.size) :
    Calls Tryz.prog 84 #[.pointer (some ⟨gi, 0, none⟩)] w (RetRdy w gi B s) := by
  have HDS := Lib.hid h
  obtain ⟨A, n, c, hg, hb, hnc, hc, hn, hgB⟩ := h
  have c0 : w.cell? ⟨gi, 0, none⟩ = some (.slice A n c) := by rw [cell_of_row _ _ _ _ _ _ hg]; rfl
  have hgl := blk_lt hg
  have HR := Lib.hid (readuv_y w B n c A s.1 hb hB hnc hc hn)
  obtain ⟨r, hr⟩ : ∃ r, ru s.1 0 0 = r := ⟨_, rfl⟩
  rw [hr] at HR
  have HRE := Lib.hid hr
  have HG := Lib.hid hg
  have HBS := Lib.hid hb
  obtain ⟨v, k⟩ := r
  simp only [RetNum] at HR
  have HNX := Lib.hid (fun (u : World) (hu : Below w.heap.size w u) => And.intro (HDS.out.chg (Chg.of_below hu) hB (fun e => e) (fun k e => e.elim)) (And.intro (blk_below hu HG.out hgl) (HBS.out.below hu hB)))
  clear hg hb hr
  by_cases h0 : k = 0
  · subst h0
    have HD := Lib.hid (rd_no (s := s) (.inl (by rw [HRE.out])))
    go_enter Tryz.func84, Tryz.ntmps84
    go_wp2_with (fail)
    refine HR.out.mono ?_
    rintro e w' ⟨rfl, hb⟩
    obtain ⟨n1, n2, n3⟩ := HNX.out w' hb
    have f1 := frozen_of_row w' gi 1 _ _ n2
    have b1 : w'.cell? ⟨gi, 1, none⟩ = some (.bool (!s.2)) := by rw [cell_of_row _ _ _ _ _ _ n2]; rfl
    have hgl' := blk_lt n2
    have HN1 := Lib.hid n1
    have HBB := Lib.hid hb
    have hs := hb.size
    clear n1 n2 n3 hb c0
    go_wp2_with (fail)
    go_ret
    obtain ⟨t1, t2⟩ := HN1.out.flag (by omega)
    exact ⟨by rw [HD.out]; rfl, by rw [HD.out]; exact t1, ((Chg.of_below HBB.out).mono (fun _ _ e => e.elim)).trans t2 (fun _ _ e => e)⟩
  · by_cases hv : 1099511627776 < v
    · have HD := Lib.hid (rd_no (s := s) (.inr (by rw [HRE.out]; exact hv)))
      have hvi : (1099511627776 : Int) < (v : Int) := by omega
      have hki : ((k : Int) == 0) = false := by simp; omega
      go_enter Tryz.func84, Tryz.ntmps84
      go_wp2_with (fail)
      refine HR.out.mono ?_
      rintro e w' ⟨rfl, hb⟩
      obtain ⟨n1, n2, n3⟩ := HNX.out w' hb
      have f1 := frozen_of_row w' gi 1 _ _ n2
      have b1 : w'.cell? ⟨gi, 1, none⟩ = some (.bool (!s.2)) := by rw [cell_of_row _ _ _ _ _ _ n2]; rfl
      have hgl' := blk_lt n2
      have HN1 := Lib.hid n1
      have HBB := Lib.hid hb
      have hs := hb.size
      clear n1 n2 n3 hb c0
      go_wp2_with (fail)
      go_ret
      obtain ⟨t1, t2⟩ := HN1.out.flag (by omega)
      exact ⟨by rw [HD.out]; rfl, by rw [HD.out]; exact t1, ((Chg.of_below HBB.out).mono (fun _ _ e => e.elim)).trans t2 (fun _ _ e => e)⟩
    · have HD := Lib.hid (rd_yes (s := s) (by rw [HRE.out]; exact h0) (by rw [HRE.out]; omega))
      have hvi : ¬ (1099511627776 : Int) < (v : Int) := by omega
      have hki : ((k : Int) == 0) = false := by simp; omega
      have hkn : k ≤ n := by
        obtain ⟨_, h2, _⟩ := ru_back0 s.1 v k HRE.out h0
        rw [HBS.out.len_] at h2
        exact h2
      obtain ⟨b, off, hA, hbB⟩ := Rd.some_of HBS.out (n := 0) (by omega)
      subst hA
      go_enter Tryz.func84, Tryz.ntmps84
      go_wp2_with (fail)
      refine HR.out.mono ?_
      rintro e w' ⟨rfl, hb⟩
      obtain ⟨n1, n2, n3⟩ := HNX.out w' hb
      have f0 := frozen_of_row w' gi 0 _ _ n2
      have b0 : w'.cell? ⟨gi, 0, none⟩ = some (.slice (some ⟨b, off, none⟩) n c) := by rw [cell_of_row _ _ _ _ _ _ n2]; rfl
      have hgl' := blk_lt n2
      have HN1 := Lib.hid n1
      have HN3 := Lib.hid n3
      have HBB := Lib.hid hb
      have hs := hb.size
      clear n1 n2 n3 hb c0
      go_wp2_with (fail)
      · go_ret
        obtain ⟨t1, t2⟩ := HN1.out.left (by omega) (A := some ⟨b, off, none⟩) (n := n - k) (c := 0) (by have := bs_cut2 HN3.out hkn hnc; rwa [if_pos (by assumption)] at this) (by omega) (by omega) (by omega)
        exact ⟨by rw [HD.out, HRE.out]; rfl, by rw [HD.out, HRE.out]; exact t1, ((Chg.of_below HBB.out).mono (fun _ _ e => e.elim)).trans t2 (fun _ _ e => e)⟩
      · go_ret
        obtain ⟨t1, t2⟩ := HN1.out.left (by omega) (A := some ⟨b, off + k, none⟩) (n := n - k) (c := c - k) (by have := bs_cut2 HN3.out hkn hnc; rwa [if_neg (by assumption)] at this) (by omega) (by omega) (by omega)
        exact ⟨by rw [HD.out, HRE.out]; rfl, by rw [HD.out, HRE.out]; exact t1, ((Chg.of_below HBB.out).mono (fun _ _ e => e.elim)).trans t2 (fun _ _ e => e)⟩
end Go.Proofs.YtnjdondkggkfoaaGreat.kv
/-
  Bytes as a placement: the document's Decode: what its loops keep.
-/
namespace Go.Proofs.YtnjdondkggkfoaaGreat.kv
open Go.ChangeShapes Go.WideShapes Go.ChangeAt Go.RowKit Go.Shelf plain words ord mem uvs uvc pm

/-- the reader, and the placement that is made in the variable pb -/
structure DIy (w4 w : World) (gi B0 D pb : Nat) (s : St) (v : PV) : Prop where
  ds : DSy w gi B0 s
  wd : WD w D pb v
  ch : Chg (fun k => k = gi ∨ D ≤ k) w4 w
  lb : gi < D
  b0 : B0 ≤ w4.heap.size
  ll : B0 ≤ gi
/-- within a round: the reader; what lay when the round began stays, but for it -/
structure DJy (wx w : World) (gi B0 : Nat) (s : St) : Prop where
  ds : DSy w gi B0 s
  ch : Chg (fun k => k = gi ∨ wx.heap.size ≤ k) wx w
  lb : gi < wx.heap.size
  b0 : B0 ≤ wx.heap.size
  ll : B0 ≤ gi
section
variable {w4 wx w w' : World} {gi B0 D pb : Nat} {s : St} {v : PV}
theorem DSy.cells (h : DSy w gi B0 s) : ∃ A n c, w.cell? ⟨gi, 0, none⟩ = some (.slice A n c) ∧ w.cell? ⟨gi, 1, none⟩ = some (.bool (!s.2)) ∧ Bs w B0 A n s.1 ∧ gi < w.heap.size := by
  obtain ⟨A, n, c, hg, hb, _⟩ := h
  exact ⟨A, n, c, by rw [cell_of_row _ _ _ _ _ _ hg]; rfl, by rw [cell_of_row _ _ _ _ _ _ hg]; rfl, hb, blk_lt hg⟩
theorem DIy.b1 (h : DIy w4 w gi B0 D pb s v) : B0 ≤ w.heap.size := Nat.le_trans h.b0 h.ch.size
theorem DIy.step {v' : PV} (h : DIy w4 w gi B0 D pb s v) (hc : Chg (fun k => D ≤ k) w w') (hw : WD w' D pb v') : DIy w4 w' gi B0 D pb s v' := by
  have h1 := h.lb; have h3 := h.ll
  exact ⟨h.ds.chg hc h.b1 (by omega) (fun k hk => by omega), hw, h.ch.trans hc (fun _ _ e => .inr e), h.lb, h.b0, h.ll⟩
theorem DIy.below (h : DIy w4 w gi B0 D pb s v) (hb : Below w.heap.size w w') : DIy w4 w' gi B0 D pb s v :=
  h.step ((Chg.of_below hb).mono (fun _ _ e => e.elim)) (h.wd.below hb (Nat.le_refl _))
theorem DIy.drew (h : DIy w4 w gi B0 D pb s v) : DIy w4 w.drew gi B0 D pb s v := h.below (Below.refl _ _).drew
theorem DIy.next (h : DIy w4 w gi B0 D pb s v) : Calls Tryz.prog 84 #[.pointer (some ⟨gi, 0, none⟩)] w fun e w' => e = .returned (.int .i64 (rd s).1) ∧ DIy w4 w' gi B0 D pb (rd s).2 v ∧ Chg (fun k => k = gi) w w' := by
  refine (number_y w gi B0 s h.ds h.b1).mono fun e w' hr => ?_
  obtain ⟨h1, h2, h3⟩ := hr
  have hb := h.lb
  exact ⟨h1, ⟨h2, wd_chg h.wd h3 (fun k e => by omega), h.ch.trans h3 (fun k _ e => .inl e), h.lb, h.b0, h.ll⟩, h3⟩
theorem DJy.b1 (h : DJy wx w gi B0 s) : B0 ≤ w.heap.size := Nat.le_trans h.b0 h.ch.size
theorem DIy.dj (h : DIy w4 w gi B0 D pb s v) : DJy w w gi B0 s := by
  have h1 := h.lb; have h3 := h.wd.wp.le; have h4 := h.wd.wp.lt
  exact ⟨h.ds, Chg.refl _ _, by omega, h.b1, h.ll⟩
theorem DJy.step (h : DJy wx w gi B0 s) (hc : Chg (fun k => wx.heap.size ≤ k) w w') : DJy wx w' gi B0 s := by
  have h1 := h.lb; have h3 := h.b0
  exact ⟨h.ds.chg hc h.b1 (by omega) (fun k hk => by omega), h.ch.trans hc (fun _ _ e => .inr e), h.lb, h.b0, h.ll⟩
theorem DJy.below (h : DJy wx w gi B0 s) (hb : Below w.heap.size w w') : DJy wx w' gi B0 s := h.step ((Chg.of_below hb).mono (fun _ _ e => e.elim))
theorem DJy.next (h : DJy wx w gi B0 s) : Calls Tryz.prog 84 #[.pointer (some ⟨gi, 0, none⟩)] w fun e w' => e = .returned (.int .i64 (rd s).1) ∧ DJy wx w' gi B0 (rd s).2 ∧ Chg (fun k => k = gi) w w' := by
  refine (number_y w gi B0 s h.ds h.b1).mono fun e w' hr => ?_
  obtain ⟨h1, h2, h3⟩ := hr
  exact ⟨h1, ⟨h2, h.ch.trans h3 (fun k _ e => .inl e), h.lb, h.b0, h.ll⟩, h3⟩
theorem DJy.wd (h : DJy wx w gi B0 s) (hw : WD wx D pb v) (h1 : gi < D) : WD w D pb v := by
  have no : ∀ k, D ≤ k → k < wx.heap.size → ¬ (k = gi ∨ wx.heap.size ≤ k) := fun k hk hs e => by omega
  have hc := h.ch
  exact ⟨⟨hw.wp.le, hc.blk hw.wp.var (no _ hw.wp.le hw.wp.lt), hw.wp.n.chg hc (fun g hg => no g (hw.wp.n.lt g hg).1 (hw.wp.n.lt g hg).2), hw.wp.s.chg hc (fun g hg => no g (hw.wp.s.lt g hg).1 (hw.wp.s.lt g hg).2), fun r hr => (hw.wp.each r hr).chg hc (fun g hg => no g ((hw.wp.each r hr).lt g hg).1 ((hw.wp.each r hr).lt g hg).2)⟩, hw.apart⟩
theorem DJy.di {s0 : St} (h : DJy wx w gi B0 s) (hi : DIy w4 wx gi B0 D pb s0 v) : DIy w4 w gi B0 D pb s v := by
  have h1 := hi.lb; have h3 := hi.wd.wp.le; have h4 := hi.wd.wp.lt
  exact ⟨h.ds, h.wd hi.wd hi.lb, hi.ch.trans h.ch (fun k _ e => by omega), hi.lb, hi.b0, hi.ll⟩
/-- a row laid behind the others -/
theorem DJy.push {s0 : St} {r' : Rw3} {A' : Option Addr} {c2 : Nat} (h : DJy wx w gi B0 s) (hi : DIy w4 wx gi B0 D pb s0 v) (hr : Ow OE w wx.heap.size r'.val r'.l.length r'.l)
    (hs : Ow SE w' D (.slice A' (v.rs.length + 1) c2) (v.rs.length + 1) (v.rs ++ [r'])) (hg : w.grownBy w' (Value.slice v.sA v.rs.length v.sc).ownBlock) :
    DIy w4 (w'.setCell ⟨pb, 2, none⟩ (.slice A' (v.rs.length + 1) c2)) gi B0 D pb s { v with sA := A', sc := c2, rs := v.rs ++ [r'] } := by
  have hd := h.di hi
  have hw := WD.push2 hi.wd hd.wd hr hs hg
  have hc : Chg (fun k => D ≤ k) w w' := (Chg.refl _ w).grown hg (fun k hk _ => (hd.wd.wp.s.lt k hk).1)
  have hc2 : Chg (fun k => D ≤ k) w (w'.setCell ⟨pb, 2, none⟩ (.slice A' (v.rs.length + 1) c2)) := hc.setCell (p := ⟨pb, 2, none⟩) (fun _ => hd.wd.wp.le) _
  exact hd.step hc2 hw
end
end Go.Proofs.YtnjdondkggkfoaaGreat.kv
/-
  Bytes as a placement: the document's Decode.
-/
namespace Go.Proofs.YtnjdondkggkfoaaGreat.kv
open Go.ChangeShapes Go.WideShapes Go.ChangeAt Go.RowKit Go.Shelf plain words ord mem uvs uvc pm

theorem good_iff {b r : List UInt8} {ok : Bool} {p : Pl} (h5 : s5 b = (r, ok)) (hp : ok = true → p = rdP b) : GoodB b ↔ ok = true ∧ chk p = 0 ∧ encP p = b := by
  unfold GoodB
  rw [h5]
  constructor
  · rintro ⟨h1, h2, h3⟩
    simp only at h1 h2
    have e := hp h1
    have hb := rdP_back (b := b) (by rw [h5]; exact h1)
    rw [h5, h2, List.append_nil] at hb
    rw [e]
    exact ⟨h1, h3, hb.symm⟩
  · rintro ⟨h1, h2, h3⟩
    have e := hp h1
    have hb := rdP_back (b := b) (by rw [h5]; exact h1)
    rw [h5, ← e, h3] at hb
    refine ⟨h1, ?_, by rw [← e]; exact h2⟩
    have := congrArg List.length hb
    rw [List.length_append] at this
    exact List.eq_nil_of_length_eq_zero (by simp only at this ⊢; omega)
set_option maxHeartbeats 4000000 in
set_option maxRecDepth 100000 in
theorem decode_y (w : World) (B n c : Nat) (A : Option Addr) (b : List UInt8) (h : Bs w B A n b) (hB : B ≤ w.heap.size) (hnc : n ≤ c) (hc : c ≤ 9223372036854775807) (hn : n ≤ 1099511627776) :
    Calls Tryz.prog 47 #[.slice A n c] w (RetDec w b) := by
  obtain ⟨w3, hw3⟩ : ∃ w3, (w.alloc (.cells #[.int .i64 0, .slice none 0 0, .slice none 0 0] 25)).alloc (.cells #[.slice A n c, .bool false] 131) = w3 := ⟨_, rfl⟩
  have hsz3 : w3.heap.size = w.heap.size + 2 := by rw [← hw3]; simp
  have hb3 : Below w.heap.size w w3 := by rw [← hw3]; exact (below_al _ _).alloc (by simp) _
  have gr3 : IsV3 25 w3 w.heap.size (.int .i64 0) (.slice none 0 0) (.slice none 0 0) := by rw [← hw3]; exact alloc_old _ (alloc_new _ _)
  have gk3 : w3.heap[w.heap.size + 1]? = some (.cells #[.slice A n c, .bool false] 131 (0, 0)) := by
    rw [← hw3]
    have := alloc_new (w.alloc (.cells #[.int .i64 0, .slice none 0 0, .slice none 0 0] 25)) (.cells #[.slice A n c, .bool false] 131)
    rwa [World.size_alloc] at this
  have hds : DSy w3 (w.heap.size + 1) B (b, true) := ⟨A, n, c, gk3, h.below hb3 hB, hnc, hc, hn, by omega⟩
  have HN0 := Lib.hid (number_y w3 (w.heap.size + 1) B (b, true) hds (by omega))
  have HB3 := Lib.hid hb3
  have GR3 := Lib.hid gr3
  have HW3 := Lib.hid hw3
  have HBS := Lib.hid h
  have HFIN := Lib.hid (fun (u : World) (hu : Chg (fun k => k = w.heap.size + 1 ∨ w.heap.size + 2 ≤ k) w3 u) => And.intro (hb3.trans (hu.below (B := w.heap.size) (by omega) (fun k e => by omega))) (hu.blk gr3 (by omega)))
  clear hw3 hb3 gr3 gk3 hds h
  go_enter Tryz.func47, Tryz.ntmps47
  go_wp2_with (fail)
  rw [HW3.out]
  refine HN0.out.mono ?_
  rintro e w4 ⟨rfl, hd4, hc4⟩
  obtain ⟨z0, hz0⟩ : ∃ z0, (rd (b, true)).1 = z0 := ⟨_, rfl⟩
  rw [hz0]
  have hs4 := hc4.size
  obtain ⟨w5, hw5⟩ : ∃ w5, w4.alloc (.cells #[.int .i64 z0, .slice none 0 0, .slice none 0 0] 25) = w5 := ⟨_, rfl⟩
  obtain ⟨pb, hpb⟩ : ∃ pb, w4.heap.size = pb := ⟨_, rfl⟩
  have hpb3 : w.heap.size + 2 ≤ pb := by omega
  have K5 := Lib.hid (show DIy w3 w5 (w.heap.size + 1) B (w.heap.size + 2) pb (s1 b) ⟨z0, none, 0, [], none, 0, []⟩ by
    have hwd := wd_new (w := w4) (B := w.heap.size + 2) z0 (by omega)
    rw [hw5, hpb] at hwd
    have hal : Below w4.heap.size w4 w5 := by rw [← hw5]; exact below_al _ _
    refine ⟨hd4.chg (Chg.of_below hal) (by omega) (fun e => e) (fun k e => e.elim), hwd, ?_, by omega, by omega, by omega⟩
    exact (hc4.mono (S' := fun k => k = w.heap.size + 1 ∨ w.heap.size + 2 ≤ k) (fun k _ e => .inl e)).trans (Chg.of_below hal) (fun _ _ e => e.elim))
  have HZ0 := Lib.hid hz0
  have HP1 := Lib.hid K5.out.next
  have HPB := Lib.hid hpb
  have HW5 := Lib.hid hw5
  clear hd4 hc4 hz0 hpb hw5
  go_wp2_with (fail)
  rw [HW5.out]
  simp only [HPB.out]
  refine HP1.out.mono ?_
  rintro e w6 ⟨rfl, hk6, _⟩
  have K6 := Lib.hid (show DIy w3 w6 (w.heap.size + 1) B (w.heap.size + 2) pb (s2 b) ⟨z0, none, 0, [], none, 0, []⟩ from hk6)
  clear hk6
  have hr2 := rd_range (s1 b)
  obtain ⟨N1, hN1⟩ : ∃ N1 : Nat, nN b = N1 := ⟨_, rfl⟩
  have he2 : (rd (s1 b)).1 = (N1 : Int) := by rw [← hN1]; exact rd_nat _
  have hN1b : N1 ≤ 1099511627776 := by omega
  rw [he2]
  have HN1 := Lib.hid hN1
  clear he2 hr2 hN1
  go_upto_block 0 with (fail)
  go_cut [] (fun wx => ∃ (l : List Int) (A : Option Addr) (c : Nat) (s : St), Aside (rdN (nN b) (s2 b) = (l, s)) ∧ Aside (DIy w3 wx (w.heap.size + 1) B (w.heap.size + 2) pb (s3 b) ⟨z0, A, c, l, none, 0, []⟩))
  case first =>
    go_wp2_with (fail)
    go_loopg [7] N1 (fun gg s7 wr => ∃ (i : Nat) (s : St) (l : List Int) (A : Option Addr) (c : Nat), s7 = .int .i64 i ∧ N1 - i ≤ gg ∧ i ≤ N1 ∧ Aside (LN N1 (s2 b) i s l) ∧ Aside (DIy w3 wr (w.heap.size + 1) B (w.heap.size + 2) pb s ⟨z0, A, c, l, none, 0, []⟩))
    case atStart => exact ⟨0, _, [], none, 0, rfl, by omega, by omega, LN.zero _ _, K6.out⟩
    case round =>
      obtain ⟨i, s, l, A1, c1, rfl, hg, hi, HL, HK⟩ := hrel
      obtain ⟨r, ok⟩ := s
      obtain ⟨_, _, _, _, k0, _, hkr⟩ := HK.out.ds.cells
      simp only at k0
      by_cases hgo : ok = true ∧ i < N1
      · obtain ⟨rfl, hlt⟩ := hgo
        have hltz : (i : Int) < (N1 : Int) := by omega
        simp only [Bool.not_true] at k0
        have hli := HL.out.len
        have hwd := HK.out.wd
        obtain ⟨⟨_, d1, _⟩, _, f1, _⟩ := isv3_cells hwd.wp.var
        have hpl := hwd.wp.lt
        simp only [hli] at d1
        have HLI := Lib.hid hli
        obtain ⟨z, hz⟩ : ∃ z, (rd (r, true)).1 = z := ⟨_, rfl⟩
        have HS := Lib.hid (HL.out.succ hlt)
        rw [hz] at HS
        have HP2 := Lib.hid (HK.out.drew.next)
        rw [hz] at HP2
        have q0 := Wf.at_ (F := fun k => k = w.heap.size + 1) d1 (fun e => by simp only at e; omega)
        clear hwd hli hz
        go_wp2_with (fail)
        refine fr.wp_region_tree (F := fun k => k = w.heap.size + 1) (.reads [0, 1, 2] (.one 3 false (.one 4 false (.one 5 true (.reads [6] (.one 7 true .stop)))))) (by kernel_rfl) (by kernel_rfl) ?_
        refine fr.tr_reads _ (by dsimp only [pick, ord.at_]) ?_
        repeat (go_big_quiet_step (fail))
        refine wpQuiet_nil ?_
        refine fr.tr_one _ (by dsimp only [pick, ord.at_]) ?_
        intro K1 g1 g2
        clear g1
        go_wp2_with (fail)
        refine HP2.out.mono ?_
        rintro e w7 ⟨rfl, hk7, hc7⟩
        have hc7' : Chg (fun k => k = w.heap.size + 1) wr w7 := (Chg.refl _ wr).drew.trans hc7 (fun _ _ e => e)
        have hs7 := hc7'.size
        have HC7 := Lib.hid hc7'
        have K7 := Lib.hid hk7
        clear hk7 hc7 hc7' q0 d1 f1 k0
        go_wp2_with (fail)
        refine g2 _ _ HC7.out ?_
        clear g2
        refine fr.tr_one _ (by dsimp only [pick, ord.at_]) ?_
        intro K1 g1 g2
        clear g1
        go_wp2_with (fail)
        obtain ⟨w8, hw8⟩ : ∃ w8, w7.alloc (.cells #[.int .i64 z] 3) = w8 := ⟨_, rfl⟩
        have hb8 : Below w7.heap.size w7 w8 := by rw [← hw8]; exact below_al _ _
        have HL8 := Lib.hid (show Ls NE w8 (w7.heap.size + 1) (some ⟨w7.heap.size, 0, none⟩) 1 [z] by rw [← hw8]; exact ls_new (E := NE) (w := w7) 3 z)
        have K8 := Lib.hid (K7.out.below hb8)
        have hs8 := hb8.size
        rw [hw8]
        refine g2 _ _ ((Chg.of_below hb8).mono (fun _ _ e => e.elim)) ?_
        clear g2 hw8
        have HB8 := Lib.hid hb8
        clear hb8
        have hO8 := K8.out.wd.wp.n
        simp only [HLI.out] at hO8
        refine fr.tr_write _ (by dsimp only [pick, ord.at_]) ?_
        intro K2 g3
        go_wp2_with (at_builtin; refine app_n rfl (.tmp 36) (.tmp 39) rfl (w.heap.size + 2) _ i l rfl hO8 (w7.heap.size + 1) (some ⟨w7.heap.size, 0, none⟩) 1 1 (fun e => by cases e) [z] (by rfl) HL8.out (by omega) (by omega) ?_; intro A9 c9 w9 hown9 hg9 _ h9a h9b hs9; have HO9 := Lib.hid hown9; have HG9 := Lib.hid hg9; clear hown9 hg9)
        obtain ⟨hwd9, hvar9, hch9⟩ := wd_appN (w' := w9) (A := A9) (m := i + 1) (c := c9) (l := l ++ [z]) K8.out.wd (by simp only [HLI.out]; exact HG9.out) HO9.out
        have K9 := Lib.hid (K8.out.step hch9 hwd9)
        obtain ⟨⟨_, e1, _⟩, _, e1f, _⟩ := isv3_cells hvar9
        simp only [HLI.out] at e1
        have hpl9 : pb < w9.heap.size := blk_lt hvar9
        clear hO8 hwd9 hvar9 hch9
        refine fr.tr_reads _ (by dsimp only [pick, ord.at_]) ?_
        repeat (go_big_quiet_step (fail))
        refine wpQuiet_nil ?_
        refine fr.tr_write _ (by dsimp only [pick, ord.at_]) ?_
        intro K3 g4
        go_wp2_with (fail)
        refine fr.tr_stop ?_
        refine NoPanic.normal ?_
        clear e1 e1f
        go_wp2_with (fail)
        go_roundg (N1 - (i + 1))
        case measure => omega
        case rel => exact ⟨i + 1, _, l ++ [z], A9, c9, by go_num, by omega, by omega, HS.out, K9.out⟩
      · have hdone := Lib.hid (HL.out.done (by rcases Classical.em (ok = true) with h | h; exact .inr (fun e => hgo ⟨h, e⟩); exact .inl (by simpa using h)))
        have HND := Lib.hid (show rdN (nN b) (s2 b) = (l, (r, ok)) by rw [HN1.out]; exact hdone.out)
        have K10 := Lib.hid (show DIy w3 wr (w.heap.size + 1) B (w.heap.size + 2) pb (s3 b) ⟨z0, A1, c1, l, none, 0, []⟩ by unfold s3; rw [HND.out]; exact HK.out)
        by_cases hi9 : i < N1
        · have hltz : (i : Int) < (N1 : Int) := by omega
          have hok' : ok = false := by cases ok with | false => rfl | true => exact absurd ⟨rfl, hi9⟩ hgo
          subst hok'
          simp only [Bool.not_false] at k0
          clear hgo
          go_wp2_with (fail)
          go_meet
          exact ⟨l, A1, c1, _, HND.out, K10.out⟩
        · have hltz : ¬ (i : Int) < (N1 : Int) := by omega
          clear hgo
          go_wp2_with (fail)
          go_meet
          exact ⟨l, A1, c1, _, HND.out, K10.out⟩
  case rest =>
    obtain ⟨l, A1, c1, sE, HND, HK10⟩ := hcut
    clear K6
    have HP2 := Lib.hid HK10.out.next
    obtain ⟨N2, hN2⟩ : ∃ N2 : Nat, nS b = N2 := ⟨_, rfl⟩
    have hr4 := rd_range (s3 b)
    have he4 : (rd (s3 b)).1 = (N2 : Int) := by rw [← hN2]; exact rd_nat _
    have hN2b : N2 ≤ 1099511627776 := by omega
    rw [he4] at HP2
    have HN2 := Lib.hid hN2
    clear hr4 he4 hN2
    go_wp2_with (fail)
    refine HP2.out.mono ?_
    rintro e w11 ⟨rfl, hk11, _⟩
    have K11 := Lib.hid (show DIy w3 w11 (w.heap.size + 1) B (w.heap.size + 2) pb (s4 b) ⟨z0, A1, c1, l, none, 0, []⟩ from hk11)
    clear hk11
    go_upto_block 2 with (fail)
    go_cut [] (fun wx => ∃ (X : List Rw3) (A' : Option Addr) (c' : Nat) (s : St), Aside (s5 b = s) ∧ Aside (s.2 = true → (⟨z0, A1, c1, l, A', c', X⟩ : PV).pl = rdP b) ∧ Aside (DIy w3 wx (w.heap.size + 1) B (w.heap.size + 2) pb s ⟨z0, A1, c1, l, A', c', X⟩))
    case first =>
      go_wp2_with (fail)
      go_loopg [8, 9, 10, 11, 12] N2 (fun gg s8 s9 s10 s11 s12 wr => ∃ (i : Nat) (s : St) (L : List (List O)) (X : List Rw3) (A' : Option Addr) (c' : Nat), s8 = .int .i64 i ∧ N2 - i ≤ gg ∧ i ≤ N2 ∧ Aside (LS N2 (s4 b) i s L) ∧ Aside (X.map (·.l) = L) ∧ Aside (DIy w3 wr (w.heap.size + 1) B (w.heap.size + 2) pb s ⟨z0, A1, c1, l, A', c', X⟩))
      case atStart => exact ⟨0, _, [], [], none, 0, rfl, by omega, by omega, LS.zero _ _, rfl, K11.out⟩
      case round =>
        obtain ⟨i, s, L, X, A2, c2, rfl, hg2, hi2, HLS, HXL, HK⟩ := hrel
        obtain ⟨wx, hwx⟩ : ∃ wx, wx = wr := ⟨wr, rfl⟩
        obtain rfl := hwx
        obtain ⟨r2, ok2⟩ := s
        obtain ⟨_, _, _, _, k0, _, hkr2⟩ := HK.out.ds.cells
        have hplx := HK.out.wd.wp.lt
        simp only at k0
        by_cases hgo2 : ok2 = true ∧ i < N2
        · obtain ⟨rfl, hlt2⟩ := hgo2
          simp only [Bool.not_true] at k0
          have hltz2 : (i : Int) < (N2 : Int) := by omega
          obtain ⟨wl, hwl⟩ : ∃ wl, wx.alloc (.cells #[] 68) = wl := ⟨_, rfl⟩
          have HOL := Lib.hid (show Ow OE wl wx.heap.size (.slice (some ⟨wx.heap.size, 0, none⟩) 0 0) 0 [] by rw [← hwl]; exact Ow.lit (E := OE) wx)
          have HJ0 := Lib.hid (HK.out.dj.below (show Below wx.heap.size wx wl by rw [← hwl]; exact below_al _ _))
          have HP3 := Lib.hid HJ0.out.next
          obtain ⟨N3, hN3⟩ : ∃ N3 : Nat, (rd (r2, true)).1.toNat = N3 := ⟨_, rfl⟩
          have hr6 := rd_range (r2, true)
          have he6 : (rd (r2, true)).1 = (N3 : Int) := by rw [← hN3]; exact rd_nat _
          have hN3b : N3 ≤ 1099511627776 := by omega
          rw [he6] at HP3
          have HN3 := Lib.hid hN3
          have HWL := Lib.hid hwl
          clear hr6 he6 hN3 hwl
          go_wp2_with (fail)
          rw [HWL.out]
          refine HP3.out.mono ?_
          rintro e w12 ⟨rfl, hj12, hc12⟩
          have J12 := Lib.hid hj12
          have HO12 := Lib.hid (HOL.out.chg hc12 (fun g hg e => by have := (HOL.out.lt g hg).1; omega))
          clear hj12 hc12 k0
          go_wp2_with (fail)
          go_loopg [9, 11, 12] N3 (fun gg3 s9 s11 s12 wr => ∃ (j : Nat) (s : St) (q : List O) (A : Option Addr) (c : Nat), s11 = .int .i64 j ∧ s9 = .slice A j c ∧ N3 - j ≤ gg3 ∧ j ≤ N3 ∧ Aside (LO N3 (rd (r2, true)).2 j s q) ∧ Aside (DJy wx wr (w.heap.size + 1) B s) ∧ Aside (Ow OE wr wx.heap.size (.slice A j c) j q))
          case atStart => exact ⟨0, _, [], _, 0, rfl, rfl, by omega, by omega, LO.zero _ _, J12.out, HO12.out⟩
          case round =>
            obtain ⟨j, s, q, A3, c3, rfl, rfl, hg3, hj3, HLO, HJ, HO⟩ := hrel
            obtain ⟨wz, hwz⟩ : ∃ wz, wz = wr := ⟨wr, rfl⟩
            obtain rfl := hwz
            obtain ⟨r3, ok3⟩ := s
            obtain ⟨_, _, _, _, k0, _, hkz⟩ := HJ.out.ds.cells
            have hxz := HJ.out.ch.size
            simp only at k0
            by_cases hgo3 : ok3 = true ∧ j < N3
            · obtain ⟨rfl, hlt3⟩ := hgo3
              simp only [Bool.not_true] at k0
              have hltz3 : (j : Int) < (N3 : Int) := by omega
              have HLO2 := Lib.hid (HLO.out.succ hlt3)
              obtain ⟨x1, hx1⟩ : ∃ x1, (rd (r3, true)).1 = x1 := ⟨_, rfl⟩
              obtain ⟨x2, hx2⟩ : ∃ x2, (rd (rd (r3, true)).2).1 = x2 := ⟨_, rfl⟩
              obtain ⟨x3, hx3⟩ : ∃ x3, (rd (rd (rd (r3, true)).2).2).1 = x3 := ⟨_, rfl⟩
              have hb3 := rd_range (rd (rd (r3, true)).2).2
              rw [hx3] at hb3
              have w1 : IntKind.i64.wrap (x3 - 1) = x3 - 1 := by rw [IntWalk.i64_in _ (by omega)]
              have w2 : wrap64 (x3 - 1) = x3 - 1 := by rw [IntWalk.wrap64_in _ (by omega)]
              have hOe : (rdO (r3, true)).1 = (x1, x2, x3 - 1) := by unfold rdO; rw [hx1, hx2, hx3]
              rw [hOe] at HLO2
              have HP4 := Lib.hid (HJ.out.next)
              rw [hx1] at HP4
              have HX2 := Lib.hid hx2
              have HX3 := Lib.hid hx3
              clear hx1 hx2 hx3 hOe
              go_wp2_with (fail)
              refine HP4.out.mono ?_
              rintro e wA ⟨rfl, hjA, hcA⟩
              have HOA := Lib.hid (HO.out.chg hcA (fun g hg e => by have := (HO.out.lt g hg).1; omega))
              have hsA := hjA.ch.size
              obtain ⟨wo, hwo⟩ : ∃ wo, wA.alloc (.cells #[.int .i64 x1, .int .i64 0, .int .i64 0] 68) = wo := ⟨_, rfl⟩
              have hbo : Below wA.heap.size wA wo := by rw [← hwo]; exact below_al _ _
              have Go := Lib.hid (show IsV3 68 wo wA.heap.size (.int .i64 x1) (.int .i64 0) (.int .i64 0) by rw [← hwo]; exact alloc_new _ _)
              have HOo := Lib.hid (HOA.out.below hbo (Nat.le_refl _))
              have HJo := Lib.hid (hjA.below hbo)
              have HP5 := Lib.hid HJo.out.next
              rw [HX2.out] at HP5
              obtain ⟨go, hgo⟩ : ∃ go, wA.heap.size = go := ⟨_, rfl⟩
              have hgx : wx.heap.size ≤ go := by omega
              have HWo := Lib.hid hwo
              have HGo := Lib.hid hgo
              have hgi : w.heap.size + 1 < wx.heap.size := HJ.out.lb
              clear hjA hcA k0 hbo hwo hgo
              go_wp2_with (fail)
              rw [HWo.out]
              simp only [HGo.out]
              refine HP5.out.mono ?_
              rintro e wB ⟨rfl, hjB, hcB⟩
              have HOB := Lib.hid (HOo.out.chg hcB (fun g hg e => by have := (HOo.out.lt g hg).1; omega))
              have GB1 := hcB.blk (show IsV3 68 wo go (.int .i64 x1) (.int .i64 0) (.int .i64 0) by rw [← HGo.out]; exact Go.out) (by omega)
              have hlB := blk_lt GB1
              obtain ⟨⟨g0, g1, g2⟩, gf0, gf1, gf2⟩ := isv3_cells GB1
              have HOB2 := Lib.hid (HOB.out.chg (cseto wB go 1 (.int .i64 x2)) (fun g hg e => by have := (HOA.out.lt g hg).2; have := HGo.out; omega))
              have JB2 := Lib.hid (hjB.step (w' := wB.setCell ⟨go, 1, none⟩ (.int .i64 x2)) ((cseto wB go 1 (.int .i64 x2)).mono (fun k _ e => by rw [e]; exact hgx)))
              have GB2 := Lib.hid (show IsV3 68 (wB.setCell ⟨go, 1, none⟩ (.int .i64 x2)) go (.int .i64 x1) (.int .i64 x2) (.int .i64 0) by
                have := heap_setCell_same wB go 1 _ _ (.int .i64 x2) GB1
                simpa [IsV3] using this)
              have HP6 := Lib.hid JB2.out.next
              rw [HX3.out] at HP6
              clear hjB hcB GB1
              go_wp2_with (fail)
              refine HP6.out.mono ?_
              rintro e wC ⟨rfl, hjC, hcC⟩
              have HOC := Lib.hid (HOB2.out.chg hcC (fun g hg e => by have := (HOB2.out.lt g hg).1; omega))
              have GC1 := hcC.blk GB2.out (by omega)
              have hlC := blk_lt GC1
              clear g0 g1 g2 gf0 gf1 gf2
              obtain ⟨⟨g0, g1, g2⟩, gf0, gf1, gf2⟩ := isv3_cells GC1
              obtain ⟨wD, hwD⟩ : ∃ wD, wC.setCell ⟨go, 2, none⟩ (.int .i64 (x3 - 1)) = wD := ⟨_, rfl⟩
              have GD := Lib.hid (show IsV3 68 wD go (.int .i64 x1) (.int .i64 x2) (.int .i64 (x3 - 1)) by
                rw [← hwD]
                have := heap_setCell_same wC go 2 _ _ (.int .i64 (x3 - 1)) GC1
                simpa [IsV3] using this)
              have HOD := Lib.hid (show Ow OE wD wx.heap.size (.slice A3 j c3) j q by
                rw [← hwD]
                exact HOC.out.chg (cseto wC go 2 (.int .i64 (x3 - 1))) (fun g hg e => by have := (HOA.out.lt g hg).2; have := HGo.out; omega))
              have JD := Lib.hid (show DJy wx wD (w.heap.size + 1) B _ by
                rw [← hwD]
                exact hjC.step ((cseto wC go 2 (.int .i64 (x3 - 1))).mono (fun k _ e => by rw [e]; exact hgx)))
              have hlD := blk_lt GD.out
              obtain ⟨⟨y0, y1, y2⟩, _⟩ := isv3_cells GD.out
              obtain ⟨w16, hw16⟩ : ∃ w16, wD.alloc (.cells #[.int .i64 x1, .int .i64 x2, .int .i64 (x3 - 1)] 68) = w16 := ⟨_, rfl⟩
              have hb16 : Below wD.heap.size wD w16 := by rw [← hw16]; exact below_al _ _
              have hs16 := hb16.size
              have hsD := JD.out.ch.size
              have HL16 := Lib.hid (show Ls OE w16 (wD.heap.size + 1) (some ⟨wD.heap.size, 0, none⟩) 1 [((x1, x2, x3 - 1) : O)] by rw [← hw16]; exact ls_new (E := OE) (w := wD) 68 ((x1, x2, x3 - 1) : O))
              have HO16 := Lib.hid (HOD.out.below hb16 (Nat.le_refl _))
              have J16 := Lib.hid (JD.out.below hb16)
              clear hb16 hjC hcC GC1
              go_wp2_with (at_builtin; refine app_o rfl (.tmp 81) (.tmp 83) rfl wx.heap.size _ j q rfl HO16.out (wD.heap.size + 1) (some ⟨wD.heap.size, 0, none⟩) 1 1 (fun e => by cases e) [((x1, x2, x3 - 1) : O)] (by rfl) HL16.out (by omega) (by omega) ?_; intro A9 c9 w17 hown9 hg9 _ h9a h9b hs9; have HO17 := Lib.hid hown9; have J17 := Lib.hid (J16.out.step ((Chg.refl _ _).grown hg9 (fun k hk _ => (HO16.out.lt k hk).1))); clear hown9 hg9)
              go_roundg (N3 - (j + 1))
              case measure => omega
              case rel => exact ⟨j + 1, _, q ++ [(x1, x2, x3 - 1)], A9, c9, by go_num, rfl, by omega, by omega, HLO2.out, J17.out, HO17.out⟩
            · have hdone := HLO.out.done (by rcases Classical.em (ok3 = true) with h | h; exact .inr (fun e => hgo3 ⟨h, e⟩); exact .inl (by simpa using h))
              have hrs : rdS (r2, true) = (q, (r3, ok3)) := by unfold rdS; rw [HN3.out]; exact hdone
              have HLS2 := Lib.hid (HLS.out.succ hlt2 hrs)
              have hgi : w.heap.size + 1 < wx.heap.size := HJ.out.lb
              clear hdone hrs
              by_cases hj : j < N3
              · have hltz3 : (j : Int) < (N3 : Int) := by omega
                have hok' : ok3 = false := by cases ok3 with | false => rfl | true => exact absurd ⟨rfl, hj⟩ hgo3
                subst hok'
                simp only [Bool.not_false] at k0
                clear hgo3
                have hjq := HLO.out.len
                have hwz := HJ.out.wd HK.out.wd (by omega)
                obtain ⟨⟨_, _, d2⟩, _, _, f2⟩ := isv3_cells hwz.wp.var
                have hXi : X.length = i := by have h1 := HXL.out; have h2 := HLS.out.len; rw [← h1, List.length_map] at h2; exact h2
                simp only [hXi] at d2
                have HXI := Lib.hid hXi
                have hplz := hwz.wp.lt
                obtain ⟨w18, hw18⟩ : ∃ w18, wz.alloc (.cells #[.slice A3 j c3] 64) = w18 := ⟨_, rfl⟩
                have hb18 : Below wz.heap.size wz w18 := by rw [← hw18]; exact below_al _ _
                have hs18 := hb18.size
                have HL18 := Lib.hid (show Ls SE w18 (wz.heap.size + 1) (some ⟨wz.heap.size, 0, none⟩) 1 [(⟨A3, c3, q⟩ : Rw3)] by
                  rw [← hw18, ← hjq]; exact ls_new (E := SE) (w := wz) 64 (⟨A3, c3, q⟩ : Rw3))
                have J18 := Lib.hid (HJ.out.below hb18)
                have HO18 := Lib.hid (show Ow OE w18 wx.heap.size (⟨A3, c3, q⟩ : Rw3).val (⟨A3, c3, q⟩ : Rw3).l.length (⟨A3, c3, q⟩ : Rw3).l by
                  have := HO.out.below hb18 (Nat.le_refl _)
                  simpa only [Rw3.val, hjq] using this)
                have hS18 := (hwz.below hb18 (Nat.le_refl _)).wp.s
                simp only [hXi] at hS18
                have HS18 := Lib.hid hS18
                have hdx : w.heap.size + 2 ≤ w18.heap.size := by have := J18.out.ch.size; omega
                clear hwz hb18 hS18 hXi hjq
                go_wp2_with (at_builtin; refine app_s rfl (.tmp 86) (.tmp 88) rfl (w.heap.size + 2) _ i X rfl HS18.out (wz.heap.size + 1) (some ⟨wz.heap.size, 0, none⟩) 1 1 (fun e => by cases e) [(⟨A3, c3, q⟩ : Rw3)] (by rfl) HL18.out (by omega) (by omega) ?_; intro A9 c9 w19 hown9 hg9 _ h9a h9b hs9; have HO19 := Lib.hid hown9; have HG19 := Lib.hid hg9; clear hown9 hg9; have K19 := Lib.hid (J18.out.push (r' := (⟨A3, c3, q⟩ : Rw3)) (A' := A9) (c2 := c9) HK.out HO18.out (by simp only [HXI.out]; exact HO19.out) (by simp only [HXI.out]; exact HG19.out)); have hv19 := var_grown (J18.out.di HK.out).wd (w7 := w19) (by simp only [HXI.out]; exact HG19.out); have hl19 := blk_lt hv19; have hcc := isv3_cells hv19; simp only [HXI.out] at hcc; have e2 := hcc.1.2.2; have e2f := hcc.2.2.2; clear hcc hv19 d2 f2)
                go_roundg (N2 - (i + 1))
                case measure => omega
                case rel =>
                  have := K19.out
                  simp only [HXI.out] at this
                  exact ⟨i + 1, (r3, false), L ++ [q], X ++ [(⟨A3, c3, q⟩ : Rw3)], A9, c9, by go_num, by omega, by omega, HLS2.out, by rw [List.map_append, HXL.out]; rfl, this⟩
              · have hltz3 : ¬ (j : Int) < (N3 : Int) := by omega
                clear hgo3
                have hjq := HLO.out.len
                have hwz := HJ.out.wd HK.out.wd (by omega)
                obtain ⟨⟨_, _, d2⟩, _, _, f2⟩ := isv3_cells hwz.wp.var
                have hXi : X.length = i := by have h1 := HXL.out; have h2 := HLS.out.len; rw [← h1, List.length_map] at h2; exact h2
                simp only [hXi] at d2
                have HXI := Lib.hid hXi
                have hplz := hwz.wp.lt
                obtain ⟨w18, hw18⟩ : ∃ w18, wz.alloc (.cells #[.slice A3 j c3] 64) = w18 := ⟨_, rfl⟩
                have hb18 : Below wz.heap.size wz w18 := by rw [← hw18]; exact below_al _ _
                have hs18 := hb18.size
                have HL18 := Lib.hid (show Ls SE w18 (wz.heap.size + 1) (some ⟨wz.heap.size, 0, none⟩) 1 [(⟨A3, c3, q⟩ : Rw3)] by
                  rw [← hw18, ← hjq]; exact ls_new (E := SE) (w := wz) 64 (⟨A3, c3, q⟩ : Rw3))
                have J18 := Lib.hid (HJ.out.below hb18)
                have HO18 := Lib.hid (show Ow OE w18 wx.heap.size (⟨A3, c3, q⟩ : Rw3).val (⟨A3, c3, q⟩ : Rw3).l.length (⟨A3, c3, q⟩ : Rw3).l by
                  have := HO.out.below hb18 (Nat.le_refl _)
                  simpa only [Rw3.val, hjq] using this)
                have hS18 := (hwz.below hb18 (Nat.le_refl _)).wp.s
                simp only [hXi] at hS18
                have HS18 := Lib.hid hS18
                have hdx : w.heap.size + 2 ≤ w18.heap.size := by have := J18.out.ch.size; omega
                clear hwz hb18 hS18 hXi hjq
                go_wp2_with (at_builtin; refine app_s rfl (.tmp 86) (.tmp 88) rfl (w.heap.size + 2) _ i X rfl HS18.out (wz.heap.size + 1) (some ⟨wz.heap.size, 0, none⟩) 1 1 (fun e => by cases e) [(⟨A3, c3, q⟩ : Rw3)] (by rfl) HL18.out (by omega) (by omega) ?_; intro A9 c9 w19 hown9 hg9 _ h9a h9b hs9; have HO19 := Lib.hid hown9; have HG19 := Lib.hid hg9; clear hown9 hg9; have K19 := Lib.hid (J18.out.push (r' := (⟨A3, c3, q⟩ : Rw3)) (A' := A9) (c2 := c9) HK.out HO18.out (by simp only [HXI.out]; exact HO19.out) (by simp only [HXI.out]; exact HG19.out)); have hv19 := var_grown (J18.out.di HK.out).wd (w7 := w19) (by simp only [HXI.out]; exact HG19.out); have hl19 := blk_lt hv19; have hcc := isv3_cells hv19; simp only [HXI.out] at hcc; have e2 := hcc.1.2.2; have e2f := hcc.2.2.2; clear hcc hv19 d2 f2)
                go_roundg (N2 - (i + 1))
                case measure => omega
                case rel =>
                  have := K19.out
                  simp only [HXI.out] at this
                  exact ⟨i + 1, (r3, ok3), L ++ [q], X ++ [(⟨A3, c3, q⟩ : Rw3)], A9, c9, by go_num, by omega, by omega, HLS2.out, by rw [List.map_append, HXL.out]; rfl, this⟩
        · have hdone := HLS.out.done (by rcases Classical.em (ok2 = true) with h | h; exact .inr (fun e => hgo2 ⟨h, e⟩); exact .inl (by simpa using h))
          have HSD := Lib.hid (show rdSs (nS b) (s4 b) = (L, (r2, ok2)) by rw [HN2.out]; exact hdone)
          have HS5 := Lib.hid (show s5 b = (r2, ok2) by unfold s5; rw [HSD.out])
          have HPLE := Lib.hid (show ok2 = true → (⟨z0, A1, c1, l, A2, c2, X⟩ : PV).pl = rdP b from fun _ => by
            unfold PV.pl rdP
            rw [HZ0.out, HND.out, HSD.out, HXL.out])
          clear hdone
          by_cases hi9 : i < N2
          · have hltz2 : (i : Int) < (N2 : Int) := by omega
            have hok' : ok2 = false := by cases ok2 with | false => rfl | true => exact absurd ⟨rfl, hi9⟩ hgo2
            subst hok'
            simp only [Bool.not_false] at k0
            clear hgo2
            go_wp2_with (fail)
            go_meet
            exact ⟨X, A2, c2, _, HS5.out, HPLE.out, HK.out⟩
          · have hltz2 : ¬ (i : Int) < (N2 : Int) := by omega
            clear hgo2
            go_wp2_with (fail)
            go_meet
            exact ⟨X, A2, c2, _, HS5.out, HPLE.out, HK.out⟩
    case rest =>
      obtain ⟨X, A2, c2, ⟨r2, ok2⟩, HS5, HPLE, HK⟩ := hcut
      clear K11
      cases ok2 with
      | false =>
        have HE := Lib.hid (encode_y wc wc.heap.size (⟨z0, A1, c1, l, A2, c2, X⟩ : PV) HK.out.wd.wp.ok (Nat.le_refl _))
        have HGI := Lib.hid (good_iff HS5.out HPLE.out)
        obtain ⟨p, hp⟩ : ∃ p, (⟨z0, A1, c1, l, A2, c2, X⟩ : PV).pl = p := ⟨_, rfl⟩
        rw [hp] at HE HGI HPLE
        have HPE := Lib.hid hp
        simp only [PV.val] at HE
        have hpl := HK.out.wd.wp.lt
        obtain ⟨⟨p0, p1, p2⟩, _⟩ := isv3_cells HK.out.wd.wp.var
        clear hp
        go_wp2_with (fail)
        refine HE.out.mono ?_
        rintro e wf ⟨Ae, ce, rfl, hown, hbf, hAn⟩
        have KF := Lib.hid (HK.out.below hbf)
        obtain ⟨hbg, hgrf⟩ := HFIN.out wf KF.out.ch
        have HBF := Lib.hid hbg
        have HGRF := Lib.hid hgrf
        have hgrl := blk_lt hgrf
        have hsf := hbg.size
        obtain ⟨⟨v0, v1, v2⟩, u0, u1, u2⟩ := isv3_cells hgrf
        obtain ⟨_, _, _, _, k0, _, hkf⟩ := KF.out.ds.cells
        have HBE := Lib.hid (own_bs hown)
        have HBI := Lib.hid (HBS.out.below hbg hB)
        obtain ⟨ee, hee⟩ : ∃ ee, encE p = ee := ⟨_, rfl⟩
        obtain ⟨bb, hbb⟩ : ∃ bb, encB p = bb := ⟨_, rfl⟩
        rw [hee, hbb]
        rw [hbb] at HBE
        obtain ⟨nb, hnb⟩ : ∃ nb, bb.length = nb := ⟨_, rfl⟩
        rw [hnb] at HBE
        have HNB := Lib.hid hnb
        have HEE := Lib.hid hee
        have HBB := Lib.hid hbb
        have PF := Lib.hid (KF.out.wd)
        obtain ⟨⟨q0, q1, q2⟩, _⟩ := isv3_cells PF.out.wp.var
        have hplf := PF.out.wp.lt
        simp only [hnb]
        clear hown hbf hAn hbg hgrf hee hbb hnb p0 p1 p2
        simp only [Bool.not_false] at k0
        have HBAD := Lib.hid (show ¬ GoodB b from fun hg => by have := (HGI.out.1 hg).1; cases this)
        go_wp2_with (fail)
        (try simp only [Exit.inBlock, Exit.then])
        refine bodyPost_ret (ret_cell rfl _ _ w.heap.size 25 _ _ _ rfl (set3 HGRF.out) Tryz.underlying25 rfl sizeP) rfl ?_
        exact ret_bad_dec HBAD.out (below_set3 HBF.out (by omega) _ _ _)
      | true =>
        have HE := Lib.hid (encode_y wc wc.heap.size (⟨z0, A1, c1, l, A2, c2, X⟩ : PV) HK.out.wd.wp.ok (Nat.le_refl _))
        have HGI := Lib.hid (good_iff HS5.out HPLE.out)
        obtain ⟨p, hp⟩ : ∃ p, (⟨z0, A1, c1, l, A2, c2, X⟩ : PV).pl = p := ⟨_, rfl⟩
        rw [hp] at HE HGI HPLE
        have HPE := Lib.hid hp
        simp only [PV.val] at HE
        have hpl := HK.out.wd.wp.lt
        obtain ⟨⟨p0, p1, p2⟩, _⟩ := isv3_cells HK.out.wd.wp.var
        clear hp
        go_wp2_with (fail)
        refine HE.out.mono ?_
        rintro e wf ⟨Ae, ce, rfl, hown, hbf, hAn⟩
        have KF := Lib.hid (HK.out.below hbf)
        obtain ⟨hbg, hgrf⟩ := HFIN.out wf KF.out.ch
        have HBF := Lib.hid hbg
        have HGRF := Lib.hid hgrf
        have hgrl := blk_lt hgrf
        have hsf := hbg.size
        obtain ⟨⟨v0, v1, v2⟩, u0, u1, u2⟩ := isv3_cells hgrf
        obtain ⟨_, _, _, _, k0, _, hkf⟩ := KF.out.ds.cells
        have HBE := Lib.hid (own_bs hown)
        have HBI := Lib.hid (HBS.out.below hbg hB)
        obtain ⟨ee, hee⟩ : ∃ ee, encE p = ee := ⟨_, rfl⟩
        obtain ⟨bb, hbb⟩ : ∃ bb, encB p = bb := ⟨_, rfl⟩
        rw [hee, hbb]
        rw [hbb] at HBE
        obtain ⟨nb, hnb⟩ : ∃ nb, bb.length = nb := ⟨_, rfl⟩
        rw [hnb] at HBE
        have HNB := Lib.hid hnb
        have HEE := Lib.hid hee
        have HBB := Lib.hid hbb
        have PF := Lib.hid (KF.out.wd)
        obtain ⟨⟨q0, q1, q2⟩, _⟩ := isv3_cells PF.out.wp.var
        have hplf := PF.out.wp.lt
        simp only [hnb]
        clear hown hbf hAn hbg hgrf hee hbb hnb p0 p1 p2
        simp only [Bool.not_true] at k0
        by_cases hck : chk p = 0
        · have hee : ee = 0 := by rw [← HEE.out]; unfold encE; rw [if_pos hck]
          have hbb : bb = encP p := by rw [← HBB.out]; unfold encB; rw [if_pos hck]
          subst hee
          have x1 := conv_string (P := Tryz.prog) (c := ce) HBE.out 36 9 5 Tryz.underlying36 Tryz.underlying9 Tryz.underlying5
          have x2 := conv_string (P := Tryz.prog) (c := c) HBI.out 36 9 5 Tryz.underlying36 Tryz.underlying9 Tryz.underlying5
          by_cases heq : bb = b
          · have HGD := Lib.hid (HGI.out.2 ⟨by trivial, hck, by rw [← hbb]; exact heq⟩)
            subst heq
            clear hbb hck
            go_wp2_with (fail)
            (try simp only [Exit.inBlock, Exit.then])
            refine bodyPost_ret (ret_cell rfl _ _ w.heap.size 25 _ _ _ rfl (set3 HGRF.out) Tryz.underlying25 rfl sizeP) rfl ?_
            refine ⟨⟨z0, A1, c1, l, A2, c2, X⟩, ?_, ?_, (PF.out.od.other (chg_set3 _ _ _) HGRF.out).base (by omega), below_set3 HBF.out (by omega) _ _ _⟩
            · rw [show decE bb = 0 by unfold decE; rw [if_pos HGD.out]]; rfl
            · rw [show decP bb = rdP bb by unfold decP; rw [if_pos HGD.out], HPE.out]; exact HPLE.out (by trivial)
          · have hne : ((⟨bb.toArray⟩ : ByteArray).toList == (⟨b.toArray⟩ : ByteArray).toList) = false := by rw [ByteArray.toList_eq, ByteArray.toList_eq]; simpa using heq
            have hne2 : (encP p == b) = false := by rw [← hbb]; exact beq_eq_false_iff_ne.2 heq
            have hne3 : (!encP p == b) = true := by rw [hne2]; rfl
            have HBAD := Lib.hid (show ¬ GoodB b from fun hg => by have := (HGI.out.1 hg).2.2; exact heq (by rw [hbb]; exact this))
            go_wp2_with (fail)
            (try simp only [Exit.inBlock, Exit.then])
            refine bodyPost_ret (ret_cell rfl _ _ w.heap.size 25 _ _ _ rfl (set3 HGRF.out) Tryz.underlying25 rfl sizeP) rfl ?_
            exact ret_bad_dec HBAD.out (below_set3 HBF.out (by omega) _ _ _)
        · have hee : ee = 50 := by rw [← HEE.out]; unfold encE; rw [if_neg hck]
          subst hee
          have HBAD := Lib.hid (show ¬ GoodB b from fun hg => by exact hck (HGI.out.1 hg).2.1)
          go_wp2_with (fail)
          (try simp only [Exit.inBlock, Exit.then])
          refine bodyPost_ret (ret_cell rfl _ _ w.heap.size 25 _ _ _ rfl (set3 HGRF.out) Tryz.underlying25 rfl sizeP) rfl ?_
          exact ret_bad_dec HBAD.out (below_set3 HBF.out (by omega) _ _ _)
end Go.Proofs.YtnjdondkggkfoaaGreat.kv
