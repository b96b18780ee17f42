/-
  The walk of the law BitsReads.
-/
import Derived.Test.YtnjhdifnjkcmcaaRefGet
namespace Go.Proofs.Ytnjhdifnjkcmcaa.lawBitsReads
open Go.ChangeShapes Go.WideShapes Go.ChangeAt Go.RowKit plain words bitm bitc

/-- a slice of ints that came in -/
theorem i64s_of {w : World} {a : Option Addr} {len cap : Nat} {zs : List Int} (h : IsRow .i64 w a len cap zs) :
    ∃ vs : List Int, vs.length = len ∧ len ≤ maxLen ∧ ∀ j, j < len → ∃ b off z, a = some ⟨b, off, none⟩ ∧ b < w.heap.size ∧ vs[j]? = some z ∧ w.cell? ⟨b, off + j, none⟩ = some (.int .i64 z) ∧ (-9223372036854775808 ≤ z ∧ z ≤ 9223372036854775807) := by
  rcases h with ⟨rfl, rfl, rfl, rfl⟩ | ⟨x, rfl, hl, hm, hz, hcell, hwz⟩
  · exact ⟨[], rfl, by simp, fun j h => absurd h (by omega)⟩
  · refine ⟨zs.take len, by rw [List.length_take]; omega, by omega, fun j hj => ?_⟩
    have hc := hcell j (by omega)
    obtain ⟨b, off, spot⟩ := x
    have hspot : spot = none := by simpa [Addr.add] using World.cell?_spot (hcell 0 (by omega))
    subst hspot
    rw [words.add_plain] at hc
    have hx : b < w.heap.size := by
      rcases Nat.lt_or_ge b w.heap.size with hlt | hge
      · exact hlt
      · simp [World.cell?, Array.getElem?_eq_none hge] at hc
    have hjz : j < zs.length := by omega
    have hg : zs.getD j 0 = zs[j] := by simp [List.getD, List.getElem?_eq_getElem hjz]
    rw [hg] at hc
    exact ⟨b, off, zs[j], rfl, hx, by rw [List.getElem?_take, if_pos hj, List.getElem?_eq_getElem hjz], hc, wf_i64 (hwz _ (List.getElem_mem hjz))⟩

set_option maxHeartbeats 8000000 in
set_option maxRecDepth 100000 in
theorem walk_core (a0 a1 : Option Addr) (n c n1 c1 : Nat) (bs : List UInt8) (vs : List Int) (w : World) (h : Bs w w.heap.size a0 n bs) (hA : a0 = none → c = 0) (hn' : n ≤ 16384) (hn1' : n1 ≤ 4096) (hvl : vs.length = n1)
    (hv : ∀ j, j < n1 → ∃ b off z, a1 = some ⟨b, off, none⟩ ∧ b < w.heap.size ∧ vs[j]? = some z ∧ w.cell? ⟨b, off + j, none⟩ = some (.int .i64 z) ∧ (-9223372036854775808 ≤ z ∧ z ≤ 9223372036854775807)) :
    Calls Try.prog 6 #[.slice a0 n c, .slice a1 n1 c1] w fun e w' => e = .returned (.bool true) ∧ Below w.heap.size w w' := by
  obtain ⟨i0, hi, hz0, hz1, hz2⟩ := info_parts infoBits
  have hrd := h.alloc (Nat.le_refl _) (.cells #[] 5)
  have hown := World.ownsRow_lit (w := w) (base := w.heap.size) (e := 5) (size := 1) #[] 0 (Nat.le_refl _) (by simp) rfl
  have hb0 : Below w.heap.size w (w.alloc (.cells #[] 5)) := (Below.refl _ _).alloc (Nat.le_refl _) _
  have HV := Lib.hid hv
  have HLN := Lib.hid h.len_
  clear hv hvl
  go_enter Try.func6, Try.ntmps6
  go_wp2_with ((at_builtin; refine wpList_append_rd rfl (.tmp 24) (.tmp 25) 23 rfl w.heap.size 5 i0 (.int .u8 0) 1 1 Try.underlying23 hi hz0 hz1 hz2 rfl (by decide) _ 0 [] rfl hown w.heap.size a0 n c hA (u8s bs) rfl (by rw [Nat.mul_one]; exact hrd) (u8s_one bs) (by unfold maxLen; omega) (by omega) (by simp) ?_; intro v1 w1 hown1 hg1 hnn1; have hbel1 := own_below hb0 hown (by simp) hg1; simp only [Nat.zero_add, List.nil_append] at hown1; obtain ⟨g1, cap1, rfl, hbg1, hgl1, hnc1, hcm1⟩ := own_some hown1 rfl hnn1; clear hg1 hnn1))
  clear hrd hown hb0
  have hxr : Bs w1 w1.heap.size (some ⟨g1, 0, none⟩) n bs := own_bs hown1
  have hbr := h.below hbel1 (Nat.le_refl _)
  refine (newreader_x _ _ n cap1 _ bs hxr (fun e => by cases e) (Nat.le_refl _) (by omega)).mono ?_
  rintro e w2 ⟨p, r, rfl, hR, hp, hr, hb2⟩
  go_wp2_with fail
  obtain ⟨M, hM⟩ : ∃ M, 8 * n = M := ⟨_, rfl⟩
  have hbr2 := hbr.below hb2 hbel1.size
  refine (refof_x _ w.heap.size n c a0 bs hbr2 (Nat.le_trans hbel1.size hb2.size) (by omega) M hM).mono ?_
  rintro e w3 ⟨A3, c3, rfl, hown3, hb3⟩
  have hbel3 : Below w.heap.size w w3 := below_step (below_step hbel1 hb2) hb3
  have hR3 := keepR hR hb3
  have hx3 := own_keep (own_keep hown1 hb2 (Nat.le_refl _)) hb3 (Nat.le_refl _)
  have hgp : g1 ≠ p := by omega
  have hrg : ∀ g, r = some g → g ≠ g1 := fun g hg => by have := hr g hg; omega
  have hlt3 : ∀ g, (Value.slice A3 M c3).ownBlock = some g → w2.heap.size ≤ g := fun g hg => (hown3.lt g hg).1
  have hl3 : ∀ b off, A3 = some ⟨b, off, none⟩ → w2.heap.size ≤ b := fun b off e => by
    rcases own_form hown3 with ⟨e1, _⟩ | ⟨g, cc, e1, hg, _⟩
    · injection e1 with e1; rw [e1] at e; cases e
    · injection e1 with e1; rw [e1] at e; cases e; exact hg
  have hA3 : A3 = none → c3 = 0 := fun e => by
    rcases own_form hown3 with ⟨e1, _⟩ | ⟨_, _, e1, _⟩
    · injection e1
    · injection e1 with e1; rw [e] at e1; cases e1
  have hoc3 := own_cap hown3
  have hbs3 := own_bs hown3
  have hpl := hR.lt
  have hrl : ∀ g, r = some g → g < w2.heap.size := fun g hg => by subst hg; exact hR.row_lt
  have hs1 := hbel1.size
  have hs2 := hb2.size
  have hs3 := hb3.size
  have hR3' := hR3
  have HR3 := Lib.hid hR3
  have HX3 := Lib.hid hx3
  have HBS3 := Lib.hid hbs3
  clear hlt3 hown1 hown3 hxr hbr hbr2 hR hR3 hR3' hx3 hbs3 hb2 hb3 hbel1 hi hz0 hz1 hz2 i0
  go_wp2_with fail
  go_loopw [8] (fun i wr => ∃ (k : Nat) (ys : List UInt8), k ≤ n ∧ i = .int .i64 k ∧ ys.length = n ∧ wr.ownsRow w.heap.size 5 1 (.slice (some ⟨g1, 0, none⟩) n cap1) n (u8s ys) ∧ Chg (fun b => b = g1) w3 wr) (fun i _ => n - (intOf i).toNat)
  case atStart => exact ⟨0, bs, Nat.zero_le _, rfl, HLN.out, HX3.out, Chg.refl _ _⟩
  case round =>
    clear HX3
    obtain ⟨k, ys, hk, rfl, hys, hown, hch⟩ := hrel
    by_cases hlt : k < n
    · have hy : ys[k]? = some (ys[k]'(by omega)) := List.getElem?_eq_getElem _
      obtain ⟨y, hye⟩ : ∃ y, ys[k]'(by omega) = y := ⟨_, rfl⟩
      rw [hye] at hy
      have hcell := hown.cellAt k (by omega)
      rw [show (u8s ys)[k]? = some (.int .u8 (y.toNat : Int)) from by simp only [u8s, List.getElem?_map, hy]; rfl] at hcell
      have hfr := hown.frozenAt k
      obtain ⟨y2, hy2⟩ := byte_of ((y.toNat : Int) + 1)
      have hst := (hown.stored k (.int .u8 (y2.toNat : Int))).1
      rw [u8s_set] at hst
      have hc2 := hch.setCell (p := ⟨g1, k, none⟩) (fun _ => rfl) (.int .u8 (y2.toNat : Int))
      have hy3 : ((y.toNat : Int) + 1) % 256 = (y2.toNat : Int) := hy2.symm
      have hyl := y.toNat_lt
      have i1 : (0 : Int) ≤ (k : Int) := by omega
      have i2 : (k : Int) < (n : Int) := by omega
      have hysl : (ys.set k y2).length = n := by rw [List.length_set]; exact hys
      have HST := Lib.hid hst
      have HC2 := Lib.hid hc2
      have HYS := Lib.hid hysl
      clear hst hc2 hysl hy hye hown hys hy2
      go_wp2_with fail
      go_roundw
      case rel => exact ⟨k + 1, ys.set k y2, by omega, by go_num, HYS.out, HST.out, HC2.out⟩
      case measure => simp [intOf]; omega
    · have hR4 := HR3.out.chg hch (fun e => by omega) (fun g hg e => hrg g hg e)
      have hB4 := rd_chg HBS3.out hch (Nat.le_refl _) (fun b off e hb => by have := hl3 b off e; omega)
      have hbel4 : Below w.heap.size w wr := hbel3.trans (hch.below (by omega) (fun b hb => by omega))
      have hs4 := hch.size
      obtain ⟨w4, rfl⟩ : ∃ w4, w4 = wr := ⟨wr, rfl⟩
      have HR4 := Lib.hid hR4
      have HB4 := Lib.hid hB4
      clear hR4 hB4 hown hch hys HR3 HBS3
      go_wp2_with fail
      go_loopw [7, 9] (fun v i wr => ∃ (j K L' c' : Nat) (A' : Option Addr), j ≤ n1 ∧ i = .int .i64 j ∧ v = .slice A' L' c' ∧ K ≤ M ∧ M - K = L' ∧ IsR wr p r bs K ∧ Bs wr w3.heap.size A' L' (bys ((ofBytes bs).drop K)) ∧ (A' = none → c' = 0) ∧ L' ≤ c' ∧ c' ≤ 9223372036854775807 ∧ (∀ b off, A' = some ⟨b, off, none⟩ → w2.heap.size ≤ b) ∧ Chg (fun b => b = p) w4 wr) (fun _ i _ => n1 - (intOf i).toNat)
      case atStart => exact ⟨0, 0, M, c3, A3, Nat.zero_le _, rfl, rfl, Nat.zero_le _, Nat.sub_zero _, HR4.out, HB4.out, hA3, hoc3.1, hoc3.2, hl3, Chg.refl _ _⟩
      case round =>
        clear HR4 HB4
        obtain ⟨j, K, L', c', A', hj, rfl, rfl, hK, hL', hRq, hBq, hAq, hc1q, hc2q, hlq, hch⟩ := hrel
        have hbelq : Below w.heap.size w wr := hbel4.trans (hch.below (by omega) (fun b hb => by omega))
        have hsq := hch.size
        have hlX : ((ofBytes bs).drop K).length = L' := by rw [List.length_drop, ofBytes_len, HLN.out, hM, hL']
        have HLX := Lib.hid hlX
        have HRQ := Lib.hid hRq
        have HBQ := Lib.hid hBq
        have HL' := Lib.hid hL'
        clear hlX hRq hBq hL'
        have hL'M : L' ≤ M := by have := HL'.out; omega
        by_cases hlt : j < n1
        · obtain ⟨b, off, z, rfl, hbB, hz0, hcw, hz⟩ := HV.out j hlt
          have hcell : wr.cell? ⟨b, off + j, none⟩ = some (.int .i64 z) := (hbelq.cell (p := ⟨b, off + j, none⟩) hbB).trans hcw
          have i1 : (0 : Int) ≤ (j : Int) := by omega
          have i2 : (j : Int) < (n1 : Int) := by omega
          clear hz0
          by_cases hyes : cl z ≤ L'
          · have hget := get_x wr p r bs K z hz HRQ.out (by rw [HLN.out]; omega) (by rw [HLN.out]; omega) (by rw [HLN.out, hM, HL'.out]; exact hyes)
            have hrg2 := fun w h => refget_x w w3.heap.size A' L' c' ((ofBytes bs).drop K) z hz h HLX.out hAq ⟨hc1q, hc2q⟩ (by omega) hyes
            obtain ⟨V, hVe⟩ : ∃ V, val (nxt bs K (cl z)) = V := ⟨_, rfl⟩
            have hVe2 : val (((ofBytes bs).drop K).take (cl z)) = V := hVe
            have hdd : ((ofBytes bs).drop K).drop (cl z) = (ofBytes bs).drop (K + cl z) := List.drop_drop
            rw [hVe] at hget
            rw [hVe2, hdd] at hrg2
            obtain ⟨N, hN⟩ : ∃ N, cl z = N := ⟨_, rfl⟩
            rw [hN] at hyes hget hrg2
            obtain ⟨L2, hL2⟩ : ∃ L2, L' - N = L2 := ⟨_, rfl⟩
            rw [hL2] at hrg2
            have hKN : K + N ≤ M := by have := HL'.out; omega
            have hMKN : M - (K + N) = L2 := by have := HL'.out; omega
            have hsame := nat_same V
            have hsame2 := nat_same L2
            have HG := Lib.hid hget
            have HRG := Lib.hid hrg2
            have HMKN := Lib.hid hMKN
            clear hget hrg2 hVe hVe2 hdd hN hL2 hMKN
            go_wp2_with fail
            refine HG.out.mono ?_
            rintro e w5 ⟨rfl, hR5, hch5⟩
            have hcell5 : w5.cell? ⟨b, off + j, none⟩ = some (.int .i64 z) := by
              have hlt : b < wr.heap.size := by omega
              have : w5.heap[b]? = wr.heap[b]? := hch5.block b hlt (fun e => by omega)
              rw [← hcell]
              simp only [World.cell?, this]
            have hB5 := rd_chg HBQ.out hch5 (by omega) (fun b off e hb => by have := hlq b off e; omega)
            have hch6 := hch.trans hch5 (fun _ _ h => h)
            have HR5 := Lib.hid hR5
            clear hcell hch hch5 hR5
            go_wp2_with fail
            refine (HRG.out _ hB5).mono ?_
            rintro e w6 ⟨A6, c6, rfl, hB6, hA6, hc6, hl6, mm, rfl⟩
            have hleft := left_s (w5.drewN mm) p r bs (K + N) (HR5.out.drewN mm) (by rw [HLN.out]; omega) (by rw [HLN.out]; omega) L2 (by rw [HLN.out, hM]; exact HMKN.out)
            have HLEFT := Lib.hid hleft
            have hl6' : ∀ b off, A6 = some ⟨b, off, none⟩ → w2.heap.size ≤ b := fun b off e => by
              obtain ⟨off0, e0⟩ := hl6 b off e
              exact hlq b off0 e0
            have HB6 := Lib.hid hB6
            clear hleft hB5 hB6 hcell5 hl6
            go_wp2_with fail
            refine HLEFT.out.mono ?_
            rintro e w7 ⟨rfl, m2, rfl⟩
            go_wp2_with fail
            go_roundw
            case rel => exact ⟨j + 1, K + N, L2, c6, A6, by omega, by go_num, rfl, hKN, HMKN.out, HR5.out.drewN _, rd_chg HB6.out (chg_drewN (fun _ => False) _ _) (by have := hch6.size; omega) (fun _ _ _ h => h), hA6, hc6.1, hc6.2, hl6', hch6.trans (chg_drewN (fun _ => False) _ _) (fun _ _ h => h.elim)⟩
            case measure => simp [intOf]; omega
          · have hget := get_no wr p r bs K z hz HRQ.out (by rw [HLN.out]; omega) (by rw [HLN.out]; omega) (by rw [HLN.out, hM, HL'.out]; exact hyes)
            have hrg2 := fun w => refget_no w A' L' c' z hz (by omega) hyes
            have hsame2 := nat_same L'
            have HG := Lib.hid hget
            have HRG := Lib.hid hrg2
            clear hget hrg2
            go_wp2_with fail
            refine HG.out.mono ?_
            rintro e w5 ⟨rfl, m1, rfl⟩
            go_wp2_with fail
            refine (HRG.out _).mono ?_
            rintro e w6 ⟨rfl, rfl⟩
            have hleft := left_s (wr.drewN m1) p r bs K (HRQ.out.drewN m1) (by rw [HLN.out]; omega) (by rw [HLN.out]; omega) L' (by rw [HLN.out, hM]; exact HL'.out)
            have HLEFT := Lib.hid hleft
            clear hleft hcell
            go_wp2_with fail
            refine HLEFT.out.mono ?_
            rintro e w7 ⟨rfl, m2, rfl⟩
            go_wp2_with fail
            go_roundw
            case rel => exact ⟨j + 1, K, L', c', A', by omega, by go_num, rfl, hK, HL'.out, HRQ.out.drewN _, rd_chg HBQ.out (chg_drewN (fun _ => False) _ _) (by omega) (fun _ _ _ h => h), hAq, hc1q, hc2q, hlq, hch.trans (chg_drewN (fun _ => False) _ _) (fun _ _ h => h.elim)⟩
            case measure => simp [intOf]; omega
        · have hjn : j = n1 := by omega
          subst hjn
          have hleft := left_s wr p r bs K HRQ.out (by rw [HLN.out]; omega) (by rw [HLN.out]; omega) L' (by rw [HLN.out, hM]; exact HL'.out)
          have HLEFT := Lib.hid hleft
          have hfin : ((L' : Int) == (L' : Int)) = true := by simp
          clear hleft hch
          go_wp2_with fail
          refine HLEFT.out.mono ?_
          rintro e w7 ⟨rfl, m2, rfl⟩
          go_wp2_with fail
          go_ret
          exact ⟨rfl, hbelq.trans (words.below_drewN _ _ _)⟩

set_option maxRecDepth 100000 in
theorem walk_ok (a0 : Option Addr) (len0 cap0 : Nat) (z0 : List Int) (a1 : Option Addr) (len1 cap1 : Nat) (z1 : List Int) (w : World) (w0 : IsRow .u8 w a0 len0 cap0 z0) (w1 : IsRow .i64 w a1 len1 cap1 z1) :
    Calls Try.prog 6 #[.slice a0 len0 cap0, .slice a1 len1 cap1] w fun e w' => e = .returned (.bool true) ∧ Below w.heap.size w w' := by
  obtain ⟨bs, hb, _, _, hA⟩ := w0.bytes
  obtain ⟨vs, hvl, _, hv⟩ := i64s_of w1
  by_cases h1 : len0 ≤ 16384
  · by_cases h2 : len1 ≤ 4096
    · exact walk_core a0 a1 len0 cap0 len1 cap1 bs vs w hb hA h1 h2 hvl hv
    · have h1' : ¬ (16384 : Int) < (len0 : Int) := by omega
      have h2' : (4096 : Int) < (len1 : Int) := by omega
      go_enter Try.func6, Try.ntmps6
      go_wp2_with fail
      go_ret
      exact ⟨rfl, Below.refl _ _⟩
  · have h1' : (16384 : Int) < (len0 : Int) := by omega
    go_enter Try.func6, Try.ntmps6
    go_wp2_with fail
    go_ret
    exact ⟨rfl, Below.refl _ _⟩
end Go.Proofs.Ytnjhdifnjkcmcaa.lawBitsReads
