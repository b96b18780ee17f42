/-
  Placements: Find and Load, the program's.
-/
import Derived.Test.YtnpkhkhchimcnaaPmSearch
namespace Go.Proofs.Ytnpkhkhchimcnaa.pm
open Go.ChangeShapes Go.WideShapes Go.ChangeAt Go.RowKit Go.Shelf plain words ord mem

/-- a placement in a variable -/
abbrev Boxed (w : World) (g : Nat) (v : PV) : Prop := IsV3 25 w g (.int .i64 v.ver) (.slice v.nA v.nodes.length v.nc) (.slice v.sA v.rs.length v.sc)
abbrev boxO (v : PV) : Obj := .cells #[.int .i64 v.ver, .slice v.nA v.nodes.length v.nc, .slice v.sA v.rs.length v.sc] 25
abbrev zeroO : Obj := .cells #[.int .i64 0, .int .i64 0, .int .i64 0] 44
def shardAt (ss : List (List O)) (s : Int) : List O := if s < 0 then [] else (ss[s.toNat]?).getD []
abbrev byNode (n : Int) : O → Bool := fun o => o.1 == n
theorem shardAt_neg {ss : List (List O)} {s : Int} (h : s < 0) : shardAt ss s = [] := by unfold shardAt; rw [if_pos h]
theorem shardAt_out {ss : List (List O)} {k : Nat} (h : ss.length ≤ k) : shardAt ss (k : Int) = [] := by unfold shardAt; rw [if_neg (by omega)]; simp [h]
theorem shardAt_in {ss : List (List O)} {k : Nat} {l : List O} (h : ss[k]? = some l) : shardAt ss (k : Int) = l := by unfold shardAt; rw [if_neg (by omega)]; simp [h]
theorem pl_at {v : PV} {k : Nat} {r : Rw3} (h : v.rs[k]? = some r) : v.pl.ss[k]? = some r.l := by simp [PV.pl, h]
theorem PVok.len {w : World} {B : Nat} {v : PV} (h : PVok w B v) : v.rs.length ≤ 9223372036854775807 ∧ v.nodes.length ≤ 9223372036854775807 := ⟨Nat.le_trans h.sc h.sm, Nat.le_trans h.nc h.nm⟩
theorem RwOk.len {w : World} {B : Nat} {r : Rw3} (h : RwOk w B r) : r.l.length ≤ 9223372036854775807 := Nat.le_trans h.cap h.most
set_option maxHeartbeats 1000000 in
theorem pfind_x (w : World) (B : Nat) (v : PV) (h : PVok w B v) (hB : B ≤ w.heap.size) (s n : Int) :
    Calls Try.prog 26 #[v.val, .int .i64 s, .int .i64 n] w fun e w' => e = .returned (.tuple #[oV (fnd (byNode n) (shardAt v.pl.ss s)), .bool (fis (byNode n) (shardAt v.pl.ss s))]) ∧ Below w.heap.size w w' := by
  have eg : ∀ args w, (callFunc 58 args).run Try.prog w = .ok (.enter 58 args) w := enters_of Try.func58 (by kernel_rfl) rfl
  obtain ⟨wa, hwa⟩ : ∃ wa, ((w.alloc (boxO v)).alloc (.cells #[.int .i64 n] 3)).alloc zeroO = wa := ⟨_, rfl⟩
  have hba : Below w.heap.size w wa := by rw [← hwa]; exact ((below_al _ _).alloc (by simp) _).alloc (by simp; omega) _
  have gr : IsV3 44 wa (w.heap.size + 2) (.int .i64 0) (.int .i64 0) (.int .i64 0) := by rw [← hwa]; have := alloc_new ((w.alloc (boxO v)).alloc (.cells #[.int .i64 n] 3)) zeroO; rwa [World.size_alloc, World.size_alloc] at this
  have gn : wa.cell? ⟨w.heap.size + 1, 0, none⟩ = some (.int .i64 n) := by
    rw [cell_of_row _ _ _ _ _ _ (show wa.heap[w.heap.size + 1]? = some (.cells #[.int .i64 n] 3 (0, 0)) from by rw [← hwa]; have := alloc_new (w.alloc (boxO v)) (.cells #[.int .i64 n] 3); rw [World.size_alloc] at this; exact alloc_old _ this)]
    rfl
  have hsz : w.heap.size + 2 < wa.heap.size := blk_lt gr
  have hl := h.len
  have HWA := Lib.hid hwa
  have HBA := Lib.hid hba
  have GR := Lib.hid gr
  have GN := Lib.hid gn
  have HH := Lib.hid h
  clear h hwa hba gr gn
  by_cases hneg : s < 0
  · have HS := Lib.hid (fnd_none (p := byNode n) (l := []) (by simp))
    have he := Lib.hid (shardAt_neg (ss := v.pl.ss) hneg)
    go_enter Try.func26, Try.ntmps26
    go_wp2_with (fail)
    (try simp only [Exit.inBlock, Exit.then])
    rw [HWA.out]
    refine bodyPost_ret (ret_cell rfl _ _ (w.heap.size + 2) 44 _ _ _ rfl GR.out Try.underlying44 rfl sizeO) rfl ?_
    rw [he.out, HS.out.1, HS.out.2]
    exact ⟨rfl, HBA.out⟩
  · obtain ⟨k, rfl⟩ : ∃ k : Nat, s = (k : Int) := ⟨s.toNat, by omega⟩
    have hneg2 : decide ((k : Int) < 0) = false := by simp
    by_cases hout : v.rs.length ≤ k
    · have HS := Lib.hid (fnd_none (p := byNode n) (l := []) (by simp))
      have he := Lib.hid (shardAt_out (ss := v.pl.ss) (k := k) (by simpa [PV.pl] using hout))
      have hge : ((v.rs.length : Nat) : Int) ≤ (k : Int) := by omega
      go_enter Try.func26, Try.ntmps26
      go_wp2_with (fail)
      (try simp only [Exit.inBlock, Exit.then])
      rw [HWA.out]
      refine bodyPost_ret (ret_cell rfl _ _ (w.heap.size + 2) 44 _ _ _ rfl GR.out Try.underlying44 rfl sizeO) rfl ?_
      rw [he.out, HS.out.1, HS.out.2]
      exact ⟨rfl, HBA.out⟩
    · have hlt : k < v.rs.length := by omega
      have hge : ¬ ((v.rs.length : Nat) : Int) ≤ (k : Int) := by omega
      obtain ⟨r, hr⟩ : ∃ r, v.rs[k]? = some r := ⟨_, List.getElem?_eq_getElem hlt⟩
      have he := Lib.hid (shardAt_in (pl_at hr))
      obtain ⟨b, off, hAe, hb, l0, ho⟩ := HH.out.s.at_ hr
      have hbw : b < w.heap.size := by omega
      have hbw1 : b < w.heap.size + 1 := by omega
      have hbw2 : b < w.heap.size + 1 + 1 := by omega
      have hs := search_x wa B r.l.length r.c r.A r.l (ho.ls.below HBA.out hB) (by omega) ho.len 58 #[.pointer (some ⟨w.heap.size + 1, 0, none⟩)] (byNode n) eg
        (fun W o hW => find1_x W (w.heap.size + 1) n o (by have := hW.size; omega) ((hW.cell (p := ⟨w.heap.size + 1, 0, none⟩) (by show w.heap.size + 1 < _; omega)).trans GN.out))
      have HS := Lib.hid hs
      rw [show r.val = .slice r.A r.l.length r.c from rfl] at l0
      clear hs hr ho
      go_enter Try.func26, Try.ntmps26
      simp only [PV.val, hAe]
      go_wp2_with (fail)
      have HWA2 := HWA.out
      simp only [boxO, zeroO, hAe] at HWA2
      rw [HWA2]
      clear HWA2
      refine HS.out.mono ?_
      rintro e w2 ⟨rfl, hb2⟩
      have GR2 := Lib.hid (blk_below hb2 GR.out hsz)
      have HB2 := Lib.hid (HBA.out.trans (hb2.mono (by omega)))
      obtain ⟨⟨c0, c1, c2⟩, f0, f1, f2⟩ := isv3_cells GR2.out
      clear hb2
      go_wp2_with (fail)
      (try simp only [Exit.inBlock, Exit.then])
      refine bodyPost_ret (ret_cell rfl _ _ (w.heap.size + 2) 44 _ _ _ rfl (set3 GR2.out) Try.underlying44 rfl sizeO) rfl ?_
      rw [he.out]
      exact ⟨rfl, below_set3 HB2.out (by omega) _ _ _⟩
theorem load_succ {ss : List (List O)} {i : Nat} {l : List O} (n : Int) (h : ss[i]? = some l) : load (ss.take (i + 1)) n = load (ss.take i) n + (if holds l n then 1 else 0) := by
  unfold load
  rw [List.take_add_one, h, List.countP_append]
  simp [List.countP_cons]
theorem load_le (ss : List (List O)) (n : Int) : load ss n ≤ ss.length := List.countP_le_length
set_option maxHeartbeats 1000000 in
theorem pload_x (w : World) (B : Nat) (v : PV) (h : PVok w B v) (hB : B ≤ w.heap.size) (n : Int) :
    Calls Try.prog 15 #[v.val, .int .i64 n] w fun e w' => e = .returned (.int .i64 (load v.pl.ss n)) ∧ Below w.heap.size w w' := by
  obtain ⟨ver, nA, nc, nodes, sA, sc, rs⟩ := v
  obtain ⟨wa, hwa⟩ : ∃ wa, w.alloc (boxO ⟨ver, nA, nc, nodes, sA, sc, rs⟩) = wa := ⟨_, rfl⟩
  have hba : Below w.heap.size w wa := by rw [← hwa]; exact below_al _ _
  have hsa := hba.size
  have hl := h.len.1
  obtain ⟨N, hN⟩ : ∃ N, rs.length = N := ⟨_, rfl⟩
  obtain ⟨ss, hss⟩ : ∃ ss, rs.map (·.l) = ss := ⟨_, rfl⟩
  obtain ⟨nl, hnl⟩ : ∃ nl, nodes.length = nl := ⟨_, rfl⟩
  have hsl : ss.length = N := by rw [← hss, List.length_map, hN]
  have hs := h.s
  simp only [PV.pl, PV.val, boxO, hN, hss, hnl] at hl hwa hs ⊢
  have HWA := Lib.hid hwa
  have HBA := Lib.hid hba
  have HH := Lib.hid hs
  have HN := Lib.hid hN
  have HSS := Lib.hid hss
  have HSL := Lib.hid hsl
  clear h hwa hba hN hss hs hnl hsl
  go_enter Try.func15, Try.ntmps15
  go_wp2_with (fail)
  rw [HWA.out]
  go_loopg [5, 7, 11] N (fun gg s5 s7 s11 wr => ∃ i : Nat, s11 = .int .i64 i ∧ i ≤ N ∧ N - i ≤ gg ∧ (∃ c : Nat, s5 = .int .i64 c ∧ c ≤ i ∧ Aside (load (ss.take i) n = c)) ∧ Aside (Below w.heap.size w wr))
  case atStart => exact ⟨0, rfl, by omega, by omega, ⟨0, rfl, by omega, by show load _ _ = _; simp [load]⟩, HBA.out⟩
  case round =>
    obtain ⟨i, rfl, hi, hg, ⟨c, rfl, hc, HC⟩, HB⟩ := hrel
    clear HBA
    by_cases hlt : i < N
    · have hltz : (i : Int) < (N : Int) := by omega
      obtain ⟨r, hr⟩ : ∃ r, rs[i]? = some r := ⟨_, List.getElem?_eq_getElem (by rw [HN.out]; exact hlt)⟩
      obtain ⟨b, off, rfl, hb, l0, ho⟩ := (HH.out.below HB.out hB).at_ hr
      have hs := HB.out.size
      have hbw : b < wr.heap.size := by omega
      have HS := Lib.hid (holds_x wr B r.l.length r.c r.A r.l ho.ls (by omega) ho.len n)
      have HL := Lib.hid (load_succ n (show ss[i]? = some r.l by rw [← HSS.out]; simp [hr]))
      rw [show r.val = .slice r.A r.l.length r.c from rfl] at l0
      clear hr ho
      go_wp2_with (fail)
      refine HS.out.mono ?_
      rintro e w2 ⟨rfl, hb2⟩
      have HB2 := Lib.hid (HB.out.trans (hb2.mono hs))
      clear hb2 HS
      cases hq : holds r.l n with
      | true =>
        go_wp2_with (fail)
        go_roundg (N - (i + 1))
        case measure => omega
        case rel => exact ⟨i + 1, by go_num, by omega, by omega, ⟨c + 1, by go_num, by omega, by show load _ _ = _; rw [HL.out, HC.out, if_pos hq]⟩, HB2.out⟩
      | false =>
        go_wp2_with (fail)
        go_roundg (N - (i + 1))
        case measure => omega
        case rel => exact ⟨i + 1, by go_num, by omega, by omega, ⟨c, rfl, by omega, by show load _ _ = _; rw [HL.out, HC.out, hq]; simp⟩, HB2.out⟩
    · obtain rfl : i = N := by omega
      have hltz : ¬ (i : Int) < (i : Int) := by omega
      have hfin : load ss n = c := by
        have := HC.out
        rwa [List.take_of_length_le (by rw [HSL.out]; omega)] at this
      have HF := Lib.hid hfin
      clear hfin
      go_wp2_with (fail)
      go_ret
      rw [HF.out]
      exact ⟨rfl, HB.out⟩
end Go.Proofs.Ytnpkhkhchimcnaa.pm
