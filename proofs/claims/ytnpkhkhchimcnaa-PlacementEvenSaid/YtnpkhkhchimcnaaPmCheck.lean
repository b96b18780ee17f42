/-
  Placements: the program's Check.
-/
import Derived.Test.YtnpkhkhchimcnaaPmOwners
namespace Go.Proofs.Ytnpkhkhchimcnaa.pm
open Go.ChangeShapes Go.WideShapes Go.ChangeAt Go.RowKit Go.Shelf plain words ord mem

noncomputable def chk (p : Pl) : Int := if tb (PlOk p) = true then 0 else 50
theorem chk_ok {p : Pl} (h : PlOk p) : chk p = 0 := by unfold chk; rw [if_pos (tb_true h)]
theorem chk_bad {p : Pl} (h : ¬ PlOk p) : chk p = 50 := by unfold chk; rw [tb_false h]; rfl
theorem chk_iff {p : Pl} : chk p = 0 ↔ PlOk p := by
  by_cases h : PlOk p
  · simp [chk_ok h, h]
  · simp [chk_bad h, h]
theorem pl_more {p : Pl} {i : Nat} {l : List O} (h : ∀ (j : Nat) (l : List O), j < i → p.ss[j]? = some l → ShardOk p.nodes l) (hl : p.ss[i]? = some l) (ho : ShardOk p.nodes l) : ∀ (j : Nat) (l : List O), j < i + 1 → p.ss[j]? = some l → ShardOk p.nodes l := fun j m hj hm => by
  rcases Nat.lt_or_ge j i with h1 | h1
  · exact h j m h1 hm
  · obtain rfl : j = i := by omega
    rw [hl] at hm; cases hm; exact ho
set_option maxHeartbeats 2000000 in
theorem pcheck_x (w : World) (B : Nat) (v : PV) (h : PVok w B v) (hB : B ≤ w.heap.size) :
    Calls Try.prog 21 #[v.val] w fun e w' => e = .returned (.int .i64 (chk v.pl)) ∧ Below w.heap.size w w' := by
  obtain ⟨wa, hwa⟩ : ∃ wa, w.alloc (boxO v) = wa := ⟨_, rfl⟩
  have hba : Below w.heap.size w wa := by rw [← hwa]; exact below_al _ _
  have gp : Boxed wa w.heap.size v := by rw [← hwa]; exact alloc_new _ _
  have hsa : w.heap.size < wa.heap.size := blk_lt gp
  have hl := h.len
  have CB := Lib.hid (chk_bad (p := v.pl))
  have CO := Lib.hid (chk_ok (p := v.pl))
  have HNV := Lib.hid (nodesValid_x wa B v.nodes.length v.nc v.nA v.nodes (h.n.below hba hB) (by omega) hl.2)
  have HOV := Lib.hid (fun (u : World) (hu : Below w.heap.size w u) (r : Rw3) (hr : RwOk u B r) => ownersValid_x u B r.l.length r.c r.A r.l hr.ls (by have := hu.size; omega) hr.len v.nodes.length v.nc v.nA v.nodes (h.n.below hu hB) hl.2)
  have hP : v.pl.ss = v.rs.map (·.l) := rfl
  have hP1 : v.pl.ver = v.ver := rfl
  have hP2 : v.pl.nodes = v.nodes := rfl
  have hs := h.s
  obtain ⟨p, hp⟩ : ∃ p, v.pl = p := ⟨_, rfl⟩
  rw [hp] at CB CO hP hP1 hP2 ⊢
  obtain ⟨ver, nA, nc, nodes, sA, sc, rs⟩ := v
  obtain ⟨N, hN⟩ : ∃ N, rs.length = N := ⟨_, rfl⟩
  obtain ⟨nl, hnl⟩ : ∃ nl, nodes.length = nl := ⟨_, rfl⟩
  have hsl : p.ss.length = N := by rw [hP, List.length_map, hN]
  simp only [PV.val, boxO, Boxed, hN, hnl] at hl hwa hs gp HNV HOV hP hP1 hP2 ⊢
  have HWA := Lib.hid hwa
  have HBA := Lib.hid hba
  have GP := Lib.hid gp
  have HH := Lib.hid hs
  have HN := Lib.hid hN
  have HP := Lib.hid (And.intro hP (And.intro hP1 hP2))
  have HSL := Lib.hid hsl
  clear h hwa hba hN hs hnl gp hP hP1 hP2 hsl hp
  by_cases g1 : ver < 1
  · have t1 : decide (ver < 1) = true := decide_eq_true g1
    have HQ := Lib.hid (show ¬ PlOk p from fun h => by have := h.lo; rw [HP.out.2.1] at this; omega)
    go_enter Try.func21, Try.ntmps21
    go_wp2_with (fail)
    rw [HWA.out]
    go_ret
    rw [CB.out HQ.out]
    exact ⟨rfl, HBA.out⟩
  · have t1 : decide (ver < 1) = false := decide_eq_false g1
    by_cases g2 : (1099511627776 : Int) < ver
    · have t2 : decide ((1099511627776 : Int) < ver) = true := decide_eq_true g2
      have HQ := Lib.hid (show ¬ PlOk p from fun h => by have := h.hi; rw [HP.out.2.1] at this; omega)
      go_enter Try.func21, Try.ntmps21
      go_wp2_with (fail)
      rw [HWA.out]
      go_ret
      rw [CB.out HQ.out]
      exact ⟨rfl, HBA.out⟩
    · have t2 : decide ((1099511627776 : Int) < ver) = false := decide_eq_false g2
      have HV := Lib.hid (show 1 ≤ p.ver ∧ p.ver ≤ 1099511627776 by rw [HP.out.2.1]; omega)
      by_cases hno : NodesOk nodes
      · rw [tb_true hno] at HNV
        have HNO := Lib.hid hno
        clear hno
        by_cases g3 : N < 1
        · have t3 : decide ((N : Int) < 1) = true := decide_eq_true (by omega)
          have HQ := Lib.hid (show ¬ PlOk p from fun h => by have := h.some_; rw [HSL.out] at this; omega)
          go_enter Try.func21, Try.ntmps21
          go_wp2_with (fail)
          rw [HWA.out]
          refine HNV.out.mono ?_
          rintro e w2 ⟨rfl, hb2⟩
          have HB2 := Lib.hid (HBA.out.trans (hb2.mono (by omega)))
          have GP2 := Lib.hid (blk_below hb2 GP.out hsa)
          have hlw : w.heap.size < w2.heap.size := blk_lt GP2.out
          obtain ⟨⟨c0, c1, c2⟩, _⟩ := isv3_cells GP2.out
          clear hb2
          go_wp2_with (fail)
          go_ret
          rw [CB.out HQ.out]
          exact ⟨rfl, HB2.out⟩
        · have t3 : ¬ (N : Int) < 1 := by omega
          by_cases g4 : 8 < N
          · have t4 : (8 : Int) < (N : Int) := by omega
            have HQ := Lib.hid (show ¬ PlOk p from fun h => by have := h.few; rw [HSL.out] at this; omega)
            go_enter Try.func21, Try.ntmps21
            go_wp2_with (fail)
            rw [HWA.out]
            refine HNV.out.mono ?_
            rintro e w2 ⟨rfl, hb2⟩
            have HB2 := Lib.hid (HBA.out.trans (hb2.mono (by omega)))
            have GP2 := Lib.hid (blk_below hb2 GP.out hsa)
            have hlw : w.heap.size < w2.heap.size := blk_lt GP2.out
            obtain ⟨⟨c0, c1, c2⟩, _⟩ := isv3_cells GP2.out
            clear hb2
            go_wp2_with (fail)
            go_ret
            rw [CB.out HQ.out]
            exact ⟨rfl, HB2.out⟩
          · have t4 : ¬ (8 : Int) < (N : Int) := by omega
            go_enter Try.func21, Try.ntmps21
            go_wp2_with (fail)
            rw [HWA.out]
            refine HNV.out.mono ?_
            rintro e w2 ⟨rfl, hb2⟩
            have HB2 := Lib.hid (HBA.out.trans (hb2.mono (by omega)))
            have GP2 := Lib.hid (blk_below hb2 GP.out hsa)
            have hlw : w.heap.size < w2.heap.size := blk_lt GP2.out
            obtain ⟨⟨c0, c1, c2⟩, _⟩ := isv3_cells GP2.out
            clear hb2
            go_wp2_with (fail)
            go_loopg [2, 4, 34] N (fun gg s2 s4 s34 wr => ∃ i : Nat, s34 = .int .i64 i ∧ i ≤ N ∧ N - i ≤ gg ∧ s2 = .int .i64 0 ∧ Aside (∀ (j : Nat) (l : List O), j < i → p.ss[j]? = some l → ShardOk p.nodes l) ∧ Aside (Below w.heap.size w wr) ∧ Aside (IsV3 25 wr w.heap.size (.int .i64 ver) (.slice nA nl nc) (.slice sA N sc)))
            case atStart => exact ⟨0, rfl, by omega, by omega, rfl, fun j l hj => by omega, HB2.out, GP2.out⟩
            case round =>
              obtain ⟨i, rfl, hi, hg, rfl, HU, HB, HV3⟩ := hrel
              clear HBA GP HB2 GP2 c0 c1 c2
              have hs := HB.out.size
              by_cases hlt : i < N
              · have hltz : (i : Int) < (N : Int) := by omega
                obtain ⟨r, hr⟩ : ∃ r, rs[i]? = some r := ⟨_, List.getElem?_eq_getElem (by rw [HN.out]; exact hlt)⟩
                obtain ⟨b, off, rfl, hb, l0, ho⟩ := (HH.out.below HB.out hB).at_ hr
                have hbw : b < wr.heap.size := by omega
                have HS := Lib.hid (HOV.out wr HB.out r ho)
                have HL := Lib.hid (show p.ss[i]? = some r.l by rw [HP.out.1]; simp [hr])
                rw [show r.val = .slice r.A r.l.length r.c from rfl] at l0
                have hpw : w.heap.size < wr.heap.size := blk_lt HV3.out
                obtain ⟨⟨c0, c1, c2⟩, _⟩ := isv3_cells HV3.out
                clear hr ho
                go_wp2_with (fail)
                refine HS.out.mono ?_
                rintro e w3 ⟨rfl, hb3⟩
                have HB3 := Lib.hid (HB.out.trans (hb3.mono hs))
                have GP3 := Lib.hid (blk_below hb3 HV3.out hpw)
                clear hb3 HS
                by_cases hv : ShardOk nodes r.l
                · rw [tb_true hv]
                  have HU2 := Lib.hid (pl_more HU.out HL.out (by rw [HP.out.2.2]; exact hv))
                  clear hv
                  go_wp2_with (fail)
                  go_roundg (N - (i + 1))
                  case measure => omega
                  case rel => exact ⟨i + 1, by go_num, by omega, by omega, rfl, HU2.out, HB3.out, GP3.out⟩
                · rw [tb_false hv]
                  have HQ := Lib.hid (show ¬ PlOk p from fun h => hv (by have := h.each _ (List.mem_of_getElem? HL.out); rw [HP.out.2.2] at this; exact this))
                  clear hv
                  go_wp2_with (fail)
                  go_ret
                  rw [CB.out HQ.out]
                  exact ⟨rfl, HB3.out⟩
              · obtain rfl : i = N := by omega
                have hltz : ¬ (i : Int) < (i : Int) := by omega
                have HQ := Lib.hid (show PlOk p from ⟨HV.out.1, HV.out.2, by rw [HP.out.2.2]; exact HNO.out, by rw [HSL.out]; omega, by rw [HSL.out]; omega, fun l hl => by
                  obtain ⟨j, hj, rfl⟩ := List.getElem_of_mem hl
                  exact HU.out j _ (by rw [← HSL.out]; exact hj) (List.getElem?_eq_getElem hj)⟩)
                go_wp2_with (fail)
                go_ret
                rw [CO.out HQ.out]
                exact ⟨rfl, HB.out⟩
      · rw [tb_false hno] at HNV
        have HQ := Lib.hid (show ¬ PlOk p from fun h => hno (by have := h.nodes; rw [HP.out.2.2] at this; exact this))
        clear hno
        go_enter Try.func21, Try.ntmps21
        go_wp2_with (fail)
        rw [HWA.out]
        refine HNV.out.mono ?_
        rintro e w2 ⟨rfl, hb2⟩
        have HB2 := Lib.hid (HBA.out.trans (hb2.mono (by omega)))
        have GP2 := Lib.hid (blk_below hb2 GP.out hsa)
        have hlw : w.heap.size < w2.heap.size := blk_lt GP2.out
        obtain ⟨⟨c0, c1, c2⟩, _⟩ := isv3_cells GP2.out
        clear hb2
        go_wp2_with (fail)
        go_ret
        rw [CB.out HQ.out]
        exact ⟨rfl, HB2.out⟩
end Go.Proofs.Ytnpkhkhchimcnaa.pm
