/-
  Writer.Put.
-/
import Derived.Test.YtknjejejkgihbaaDoorBitsCode
import Derived.StillTailTactics
import Derived.Maps.AppendAt
namespace Go.Proofs.YtknjejejkgihbaaDoor.bitc
open Go.ChangeShapes Go.WideShapes Go.ChangeAt Go.RowKit plain words bitm

/-- the byte behind the store *-/
theorem new_byte (ob : UInt8) (f k y : Nat) (hob : ob.toNat % 2 ^ f = 0) (hf : f ≤ 8) (hk : k ≤ f) (hy : y < 2 ^ k) :
    ∃ nb : UInt8, nb = UInt8.ofNat (ob.toNat + y * 2 ^ (f - k)) ∧ bits BinOp.or IntKind.u8 (ob.toNat : Int) (IntKind.u8.wrap ((y : Int) * 2 ^ (f - k))) = (nb.toNat : Int) := by
  have hpf : 2 ^ f = 2 ^ k * 2 ^ (f - k) := by rw [← Nat.pow_add, show k + (f - k) = f from by omega]
  have h2 : y * 2 ^ (f - k) < 2 ^ f := by rw [hpf]; exact Nat.mul_lt_mul_of_pos_right hy (Nat.two_pow_pos _)
  have h8 : 2 ^ f * 2 ^ (8 - f) = 256 := by rw [← Nat.pow_add, show f + (8 - f) = 8 from by omega]
  have hobl := ob.toNat_lt
  have hsum : ob.toNat + y * 2 ^ (f - k) < 256 := by
    obtain ⟨a, ha⟩ : ∃ a, ob.toNat = 2 ^ f * a := ⟨ob.toNat / 2 ^ f, by have := Nat.div_add_mod ob.toNat (2 ^ f); omega⟩
    rw [ha] at hobl ⊢
    have hlt : 2 ^ f * a < 2 ^ f * 2 ^ (8 - f) := by rw [h8]; simpa using hobl
    have ha' : a + 1 ≤ 2 ^ (8 - f) := Nat.lt_of_mul_lt_mul_left hlt
    have h3 : 2 ^ f * (a + 1) ≤ 2 ^ f * 2 ^ (8 - f) := Nat.mul_le_mul_left _ ha'
    rw [h8, Nat.mul_add, Nat.mul_one] at h3
    omega
  refine ⟨_, rfl, ?_⟩
  have hp256 : 2 ^ f ≤ 256 := by have := Nat.pow_le_pow_right (n := 2) (by omega) hf; simpa using this
  have e1 : (y : Int) * 2 ^ (f - k) = ((y * 2 ^ (f - k) : Nat) : Int) := by simp
  have e2 : IntKind.u8.wrap ((y * 2 ^ (f - k) : Nat) : Int) = ((y * 2 ^ (f - k) : Nat) : Int) := by rw [IntKind.wrap_u8']; omega
  rw [e1, e2]
  have h4 := or_add_u8 f (2 ^ f) (y * 2 ^ (f - k)) ob.toNat rfl h2 hob (by omega)
  rw [u8_or_nat _ _ (by omega) (by omega)] at h4 ⊢
  rw [Nat.or_comm, h4, show (UInt8.ofNat (ob.toNat + y * 2 ^ (f - k))).toNat = ob.toNat + y * 2 ^ (f - k) from by rw [UInt8.toNat_ofNat']; omega]
  omega
theorem put_done {wc : World} {p g q cap s : Nat} {Bt : List UInt8} {cur x : List Bool} {nb : UInt8}
    (hp : wc.heap[p]? = some (.cells #[.slice (some ⟨g, 0, none⟩) (q + 1) cap, .int .i64 (s : Int)] 77 (0, 0)))
    (hown : wc.ownsRow 0 5 1 (.slice (some ⟨g, 0, none⟩) (q + 1) cap) (q + 1) (u8s Bt)) (hset : Bt.set q nb = pack (cur ++ x)) (hs : cur.length = s) (hq : (s + x.length + 7) / 8 = q + 1) :
    IsW ((wc.setCell ⟨g, q, none⟩ (.int .u8 (nb.toNat : Int))).setCell ⟨p, 1, none⟩ (.int .i64 ((s : Int) + (x.length : Int)))) p (some g) (cur ++ x) := by
  have hpg : p ≠ g := fun e => by
    subst e
    rcases hown.2 with ⟨e, _⟩ | ⟨g', cap', cur', e, _, e3, _⟩
    · cases e
    · cases e
      rw [hp] at e3
      injection e3 with e3
      injection e3 with _ e3
      exact absurd e3 (by decide)
  have hst := (hown.stored q (.int .u8 (nb.toNat : Int))).1
  rw [u8s_set, hset] at hst
  have hp1 : (wc.setCell ⟨g, q, none⟩ (.int .u8 (nb.toNat : Int))).heap[p]? = some (.cells #[.slice (some ⟨g, 0, none⟩) (q + 1) cap, .int .i64 (s : Int)] 77 (0, 0)) :=
    (Below.heap_setCell wc ⟨g, q, none⟩ _ p hpg).trans hp
  have hlen : (cur ++ x).length = s + x.length := by rw [List.length_append, hs]
  refine ⟨.slice (some ⟨g, 0, none⟩) (q + 1) cap, ?_, ?_, rfl⟩
  · rw [heap_setCell_same _ p 1 _ _ _ hp1, hlen]
    simp
  · rw [hlen, hq]
    obtain ⟨h1, h2⟩ := hst
    refine ⟨h1, ?_⟩
    rcases h2 with h2 | ⟨g', cap', cur', e1, e2, e3, e4⟩
    · exact .inl h2
    · cases e1
      exact .inr ⟨g, cap, cur', rfl, e2, (Below.heap_setCell _ ⟨p, 1, none⟩ _ g (fun e => hpg e.symm)).trans e3, e4⟩
theorem IsW.drew {w : World} {p : Nat} {r : Option Nat} {l : List Bool} (h : IsW w p r l) : IsW w.drew p r l := h
theorem low_s (v k : Nat) (w : World) (hk : k ≤ 8) :
    Calls Tryd.prog 53 #[.int .u64 (v : Int), .int .i64 k] w fun e w' => e = .returned (.int .u8 ((v % 2 ^ k : Nat) : Int)) ∧ w' = w :=
  (low_x v k w hk).mono fun _ _ ⟨h, e⟩ => ⟨h, e.symm⟩
theorem byte_toNat (l : List Bool) (j : Nat) : (UInt8.ofNat (byteAt l j)).toNat = byteAt l j := by
  have := byteAt_lt l j
  rw [UInt8.toNat_ofNat']; omega
theorem infoB : (Tryd.prog.info? 5).map (fun i => (i.zero, i.size, i.bytes)) = some (some (.int .u8 0), 1, 1) := by kernel_rfl
set_option maxHeartbeats 2000000 in
set_option maxRecDepth 100000 in
theorem put_x (w : World) (p : Nat) (r : Option Nat) (l : List Bool) (V : Nat) (n : Int) (hn : -9223372036854775808 ≤ n ∧ n ≤ 9223372036854775807) (h : IsW w p r l) (hl : l.length ≤ 1099511627776) (hV : lt64 V) :
    Calls Tryd.prog 40 #[.pointer (some ⟨p, 0, none⟩), .int .u64 (V : Int), .int .i64 n] w fun e w' => e = .returned (.tuple #[]) ∧ Chg (fun k => k = p ∨ some k = r) w w' ∧ ∃ r', IsW w' p r' (l ++ bitsOf V (cl n)) ∧ (r' = r ∨ ∃ g, r' = some g ∧ w.heap.size ≤ g) := by
  obtain ⟨i0, hi, hz0, hz1, hz2⟩ := info_parts infoB
  have hN := cl_le n
  obtain ⟨N, hNe⟩ : ∃ N, cl n = N := ⟨_, rfl⟩
  rw [hNe] at hN
  have hwid := fun w => width_x n w hn
  rw [hNe] at hwid
  rw [hNe]
  have HW := Lib.hid hwid
  clear hwid hNe
  obtain ⟨v0, hp0, hown0, hr0⟩ := h
  have hc0 : w.cell? ⟨p, 1, none⟩ = some (.int .i64 (l.length : Int)) := by rw [cell_of_row _ _ _ _ _ _ hp0]; rfl
  go_enter Tryd.func40, Tryd.ntmps40
  go_wp2_with fail
  refine (HW.out _).mono ?_
  rintro e w' ⟨rfl, rfl⟩
  go_wp2_with fail
  obtain ⟨T, hT⟩ : ∃ T, (l.length % 8 + N + 7) / 8 = T := ⟨_, rfl⟩
  have htou := touched_x l.length N w (by omega) hN
  rw [hT] at htou
  refine htou.mono ?_
  rintro e w' ⟨rfl, rfl⟩
  have HT := Lib.hid hT
  have hT9 : T ≤ 9 := by omega
  clear hT htou
  go_wp2_with fail
  go_loopw [2, 16] (fun nn i wr => ∃ (m j : Nat) (r' : Option Nat), nn = .int .i64 m ∧ i = .int .i64 j ∧ m ≤ N ∧ j ≤ T ∧ IsW wr p r' (l ++ bitsOf (V >>> m) (N - m)) ∧ (r' = r ∨ ∃ g, r' = some g ∧ w.heap.size ≤ g) ∧ Chg (fun k => k = p ∨ some k = r) w wr ∧ ((j < T ∧ ((l.length + (N - m)) % 8 + m + 7) / 8 = T - j) ∨ (j = T ∧ m = 0))) (fun _ i _ => T - (intOf i).toNat)
  case atStart =>
    refine ⟨N, 0, r, rfl, rfl, Nat.le_refl _, Nat.zero_le _, ?_, .inl rfl, Chg.refl _ _, ?_⟩
    · rw [Nat.sub_self]
      simp only [bitsOf, List.append_nil]
      exact ⟨v0, hp0, hown0, hr0⟩
    · have := HT.out
      rw [Nat.sub_self, Nat.add_zero]
      omega
  case round =>
    clear hp0 hown0 hr0 hc0
    obtain ⟨m, j, r', rfl, rfl, hm, hj, hW, hr, hchg, hst⟩ := hrel
    obtain ⟨cur, hcur⟩ : ∃ cur, l ++ bitsOf (V >>> m) (N - m) = cur := ⟨_, rfl⟩
    obtain ⟨s, hs⟩ : ∃ s, cur.length = s := ⟨_, rfl⟩
    have hsl : s = l.length + (N - m) := by rw [← hs, ← hcur, List.length_append, bitsOf_len]
    rw [← hsl] at hst
    rw [hcur] at hW
    obtain ⟨v, hp, hown, hrb⟩ := hW
    rw [hs] at hp hown
    have HCUR := Lib.hid hcur
    have HS := Lib.hid hs
    have HSL := Lib.hid hsl
    have hs40 : s ≤ 1099511627840 := by omega
    have hc0 : wr.cell? ⟨p, 0, none⟩ = some v := by rw [cell_of_row _ _ _ _ _ _ hp]; rfl
    have hc1 : wr.cell? ⟨p, 1, none⟩ = some (.int .i64 (s : Int)) := by rw [cell_of_row _ _ _ _ _ _ hp]; rfl
    have hf0 : wr.frozen? ⟨p, 0, none⟩ = false := frozen_of_row _ _ _ _ _ hp
    have hf1 : wr.frozen? ⟨p, 1, none⟩ = false := frozen_of_row _ _ _ _ _ hp
    clear hcur hs hsl
    by_cases hjT : j < T
    · have hst' : (s % 8 + m + 7) / 8 = T - j := by omega
      have HST := Lib.hid hst'
      clear hst hst'
      have hmz : s % 8 = 0 → 1 ≤ m := fun h => by have := HST.out; omega
      obtain ⟨q, hq⟩ : ∃ q, s / 8 = q := ⟨_, rfl⟩
      have HQ := Lib.hid hq
      have hq40 : q ≤ 1099511627840 := by omega
      clear hq
      go_upto_if 23 with (fail)
      go_cut [] (fun wx => ∃ (g cap : Nat) (Bt : List UInt8) (ob : UInt8), wx.heap[p]? = some (.cells #[.slice (some ⟨g, 0, none⟩) (q + 1) cap, .int .i64 (s : Int)] 77 (0, 0)) ∧ wx.ownsRow 0 5 1 (.slice (some ⟨g, 0, none⟩) (q + 1) cap) (q + 1) (u8s Bt) ∧ Bt[q]? = some ob ∧
        (some g = r' ∨ w.heap.size ≤ g) ∧ Chg (fun k => k = p ∨ some k = r) w wx ∧ (∀ x : List Bool, s % 8 + x.length ≤ 8 → (s % 8 = 0 → 1 ≤ x.length) → Bt.set (q) (UInt8.ofNat (ob.toNat + val x * 2 ^ (8 - s % 8 - x.length))) = pack (cur ++ x)) ∧ ob.toNat % 2 ^ (8 - s % 8) = 0)
      case first =>
        by_cases h8 : s % 8 = 0
        · have h8' : ((s : Int) % 8 == 0) = true := by simp; omega
          have hd8 : (s + 7) / 8 = q := by have := HQ.out; omega
          rw [hd8] at hown
          have hpv : some p ≠ v.ownBlock := fun e => by
            rcases hown.2 with ⟨e1, _⟩ | ⟨g', cap', cur', e1, _, e3, _⟩
            · rw [e1] at e; cases e
            · rw [e1] at e
              injection e with e
              subst e
              rw [hp] at e3
              injection e3 with e3
              injection e3 with _ e3
              exact absurd e3 (by decide)
          have hplt : p < wr.heap.size := by
            rcases Nat.lt_or_ge p wr.heap.size with hlt | hge
            · exact hlt
            · rw [Array.getElem?_eq_none hge] at hp; cases hp
          have hone : ∀ u ∈ [Value.int .u8 0], u.oneCell' = true := by simp [Value.oneCell']
          have hsz := hchg.size
          have HHP := Lib.hid hp
          have HPV := Lib.hid hpv
          clear hp hpv
          go_wp2_with ((at_builtin; refine wpList_append_own_at _ rfl (.tmp 28) (.tmp 29) 23 rfl 0 5 i0 (.int .u8 0) 1 1 Tryd.underlying23 hi hz0 hz1 hz2 rfl (by decide) v q (u8s (pack cur)) rfl (hown.alloc _) ⟨wr.heap.size, 0, none⟩ 1 1 [.int .u8 0] rfl rfl (cells_new rfl _) hone (by unfold maxLen; omega) (by omega) (Nat.zero_le _) ?_; intro v2 w2 hown2 hg2 hnn2 hat2; have hp2 := (hg2.block p (by simp; omega) HPV.out).trans ((Below.heap_alloc wr _ p hplt).trans HHP.out); have hc02 : w2.cell? ⟨p, 0, none⟩ = some v := (cell_of_row w2 p 0 _ _ _ hp2).trans rfl; have hf02 := frozen_of_row w2 p 0 _ _ hp2; obtain ⟨g2, cap2, rfl, hbg2, hgl2, hnc2, hcm2⟩ := (own_form hown2).resolve_left (fun e => by omega)))
          have hpg2 : p ≠ g2 := fun e => by
            subst e
            rcases hown2.2 with ⟨e1, _⟩ | ⟨g', cap', cur', e1, _, e3, _⟩
            · cases e1
            · cases e1
              rw [hp2] at e3
              injection e3 with e3
              injection e3 with _ e3
              exact absurd e3 (by decide)
          have hlp : (pack cur).length = q := by rw [pack_len, HS.out]; exact hd8
          have hp3 := heap_setCell_same w2 p 0 _ _ (.slice (some ⟨g2, 0, none⟩) (q + 1) cap2) hp2
          have hg3 : w2.heap[g2]? = (w2.setCell ⟨p, 0, none⟩ (.slice (some ⟨g2, 0, none⟩) (q + 1) cap2)).heap[g2]? := (Below.heap_setCell w2 ⟨p, 0, none⟩ _ g2 (fun e => hpg2 e.symm)).symm
          have hown3 : (w2.setCell ⟨p, 0, none⟩ (.slice (some ⟨g2, 0, none⟩) (q + 1) cap2)).ownsRow 0 5 1 (.slice (some ⟨g2, 0, none⟩) (q + 1) cap2) (q + 1) (u8s (pack cur ++ [0])) := by
            obtain ⟨h1, h2⟩ := hown2
            refine ⟨by rw [u8s_append]; exact h1, ?_⟩
            rcases h2 with ⟨h2, _⟩ | ⟨g', cap', cur', e1, e2, e3, e4⟩
            · cases h2
            · cases e1
              exact .inr ⟨g2, cap2, cur', rfl, e2, by rw [← hg3]; exact e3, by rw [u8s_append]; exact e4⟩
          have hfresh : v.ownBlock = r ∨ ∃ g, v.ownBlock = some g ∧ w.heap.size ≤ g := by rw [hrb]; exact hr
          have hgr : some g2 = r' ∨ w.heap.size ≤ g2 := by
            rcases hat2 with e | e
            · exact .inl (e.trans hrb)
            · refine .inr ?_
              have : g2 = (wr.alloc (.cells #[.int .u8 0] 5)).heap.size := by injection e
              simp at this
              omega
          have hch : Chg (fun k => k = p ∨ some k = r) w (w2.setCell ⟨p, 0, none⟩ (.slice (some ⟨g2, 0, none⟩) (q + 1) cap2)) :=
            ((hchg.alloc _).grown hg2 (fun k hk hlt => by
              rcases hfresh with e | ⟨g', e, e2⟩
              · exact .inr (by rw [← e, hk])
              · rw [hk] at e; cases e; omega)).setCell (fun _ => .inl rfl) _
          go_meet
          refine ⟨g2, cap2, pack cur ++ [0], 0, hp3, hown3, ?_, hgr, hch, fun x hx h1 => ?_, by simp⟩
          · rw [List.getElem?_append_right (by omega), hlp]; simp
          · rw [h8] at hx ⊢
            rw [pack_new cur x (by rw [HS.out]; exact h8) (h1 h8) (by omega), List.set_append_right _ _ (by omega), hlp]
            simp
        · obtain ⟨g, cap, rfl, hg0, hg1, hnc, hcm⟩ := (own_form hown).resolve_left (fun e => by omega)
          have hd8 : (s + 7) / 8 = s / 8 + 1 := by omega
          rw [hd8] at hown hc0 hnc hp hrb
          have hidx : s / 8 < (pack cur).length := by rw [pack_len, HS.out]; omega
          have h8' : ((s : Int) % 8 == 0) = false := by simp; omega
          have hmid : ∃ (g cap : Nat) (Bt : List UInt8) (ob : UInt8), wr.heap[p]? = some (.cells #[.slice (some ⟨g, 0, none⟩) (s / 8 + 1) cap, .int .i64 (s : Int)] 77 (0, 0)) ∧ wr.ownsRow 0 5 1 (.slice (some ⟨g, 0, none⟩) (s / 8 + 1) cap) (s / 8 + 1) (u8s Bt) ∧ Bt[s / 8]? = some ob ∧
              (some g = r' ∨ w.heap.size ≤ g) ∧ Chg (fun k => k = p ∨ some k = r) w wr ∧ (∀ x : List Bool, s % 8 + x.length ≤ 8 → (s % 8 = 0 → 1 ≤ x.length) → Bt.set (s / 8) (UInt8.ofNat (ob.toNat + val x * 2 ^ (8 - s % 8 - x.length))) = pack (cur ++ x)) ∧ ob.toNat % 2 ^ (8 - s % 8) = 0 := by
            refine ⟨g, cap, pack cur, UInt8.ofNat (byteAt cur (s / 8)), hp, hown, pack_at _ _ (by rw [HS.out]; omega), .inl hrb, hchg, fun x hx _ => ?_, ?_⟩
            · rw [← HS.out] at hx ⊢
              rw [pack_in cur x (by rw [HS.out]; exact h8) hx, byte_toNat]
            · rw [byte_toNat]
              unfold byteAt
              rw [chunk_len, HS.out, show min 8 (s - 8 * (s / 8)) = s % 8 from by omega]
              exact Nat.mul_mod_left _ _
          rw [HQ.out] at hmid
          have HMID := Lib.hid hmid
          clear hmid hp hown
          go_wp2_with fail
          go_meet
          exact HMID.out
      case rest =>
        clear hp hown hc0 hc1 hf0 hf1 hchg hrb
        obtain ⟨g, cap, Bt, ob, hp, hown, hob, hgr, hchg, hset, hobm⟩ := hcut
        have hc0 : wc.cell? ⟨p, 0, none⟩ = some (.slice (some ⟨g, 0, none⟩) (q + 1) cap) := by rw [cell_of_row _ _ _ _ _ _ hp]; rfl
        have hc1 : wc.cell? ⟨p, 1, none⟩ = some (.int .i64 (s : Int)) := by rw [cell_of_row _ _ _ _ _ _ hp]; rfl
        have hf0 : wc.frozen? ⟨p, 0, none⟩ = false := frozen_of_row _ _ _ _ _ hp
        have hf1 : wc.frozen? ⟨p, 1, none⟩ = false := frozen_of_row _ _ _ _ _ hp
        have hold := hown.cellAt q (by omega)
        rw [show (u8s Bt)[q]? = some (.int .u8 (ob.toNat : Int)) from by simp only [u8s, List.getElem?_map, hob]; rfl] at hold
        have hfr := hown.frozenAt q
        have hobl := ob.toNat_lt
        obtain ⟨f, hf⟩ : ∃ f, 8 - s % 8 = f := ⟨_, rfl⟩
        have hfi : (8 : Int) - (s : Int) % 8 = (f : Int) := by omega
        have hf8 : f ≤ 8 := by omega
        have hf1' : 1 ≤ f := by omega
        have HF := Lib.hid hf
        clear hf
        have i1 : (0 : Int) ≤ (q : Int) := by omega
        have i2 : (q : Int) < (q : Int) + 1 := by omega
        have i3 : IntKind.i64.wrap ((q : Int) + 1 - 1) = (q : Int) := by rw [show (q : Int) + 1 - 1 = q from by omega]; exact IntWalk.i64_in _ (by omega)
        have i4 : IntKind.i64.wrap (q : Int) = (q : Int) := IntWalk.i64_in _ (by omega)
        have i5 : IntKind.i64.wrap 0 = 0 := IntWalk.i64_in _ (by omega)
        have hpg : p ≠ g := fun e => by
          subst e
          rcases hown.2 with ⟨e, _⟩ | ⟨g', cap', cur', e, _, e3, _⟩
          · cases e
          · cases e
            rw [hp] at e3
            injection e3 with e3
            injection e3 with _ e3
            exact absurd e3 (by decide)
        have hgp : g ≠ p := fun e => hpg e.symm
        have hrg : ∀ k, k < w.heap.size → (k = g ∨ k = p) → (k = p ∨ some k = r) := fun k hk h => by
          rcases h with rfl | rfl
          · rcases hgr with e | e
            · rcases hr with e2 | ⟨_, e2, e3⟩
              · exact .inr (e.trans e2)
              · rw [e2] at e; cases e; omega
            · omega
          · exact .inl rfl
        by_cases hmf : m < f
        · have hk1 : (m : Int) < (f : Int) := by omega
          have hlow := low_s V m wc.drew (by omega)
          have i6 : IntKind.i64.wrap ((f : Int) - (m : Int)) = (f : Int) - (m : Int) := IntWalk.i64_in _ (by omega)
          have i7 : (0 : Int) ≤ (f : Int) - (m : Int) := by omega
          obtain ⟨nb, hnb, hor⟩ := new_byte ob f m (V % 2 ^ m) (by rw [← HF.out]; exact hobm) hf8 (by omega) (Nat.mod_lt _ (Nat.two_pow_pos m))
          have hset1 := hset (bitsOf V m) (by rw [bitsOf_len]; have := HF.out; omega) (fun h => by rw [bitsOf_len]; exact hmz h)
          rw [bitsOf_len, val_bitsOf, HF.out, ← hnb] at hset1
          have hdone := put_done hp hown hset1 HS.out (by rw [bitsOf_len]; have := HF.out; have := HQ.out; have := hmz; omega)
          rw [bitsOf_len] at hdone
          have hfin : cur ++ bitsOf V m = l ++ bitsOf (V >>> 0) (N - 0) := by
            rw [← HCUR.out, List.append_assoc, ← bitsOf_add]
            simp [Nat.sub_add_cancel hm]
          rw [hfin] at hdone
          have HDONE := Lib.hid hdone
          have hor' : bits BinOp.or IntKind.u8 (ob.toNat : Int) (IntKind.u8.wrap ((V : Int) % 2 ^ m * 2 ^ (f - m))) = (nb.toNat : Int) := by
            rw [← hor]; simp
          have hjT1 : j + 1 = T := by have := HST.out; have := HF.out; omega
          have hcg := (hchg.setCell (p := ⟨g, q, none⟩) (fun h => hrg g h (.inl rfl)) (.int .u8 (nb.toNat : Int))).setCell (p := ⟨p, 1, none⟩) (fun _ => .inl rfl) (.int .i64 ((s : Int) + (m : Int)))
          have HCG := Lib.hid hcg
          clear hset1 hdone hnb hor hset hcg hob hown hp
          go_wp2_with fail
          go_still_tail 25, (by kernel_rfl)
          still_call hlow
          repeat still_step
          refine wpStill_nil ?_
          clear hlow
          change wpList _ _ _ _ _ wc.drew
          clear hor'
          go_wp2_with fail
          have hgf : some g = r ∨ ∃ g', some g = some g' ∧ w.heap.size ≤ g' := by
            rcases hgr with e | e
            · rcases hr with e2 | ⟨g', e2, e3⟩
              · exact .inl (e.trans e2)
              · exact .inr ⟨g', e.trans e2, e3⟩
            · exact .inr ⟨g, rfl, e⟩
          go_roundw
          case rel => exact ⟨0, j + 1, some g, rfl, by go_num, Nat.zero_le _, by omega, IsW.drew HDONE.out, hgf, HCG.out.drew, .inr ⟨hjT1, rfl⟩⟩
          case measure => simp [intOf]; omega
        · have hk1 : ¬ (m : Int) < (f : Int) := by omega
          have hfm : f ≤ m := by omega
          obtain ⟨Y, hY⟩ : ∃ Y, V >>> (m - f) = Y := ⟨_, rfl⟩
          have hsh : (V : Int) / 2 ^ (m - f) = (Y : Int) := by rw [← hY, Nat.shiftRight_eq_div_pow]; simp
          have HY := Lib.hid hY
          clear hY
          have hlow := low_s Y f wc.drew (by omega)
          have i6 : IntKind.i64.wrap ((m : Int) - (f : Int)) = (m : Int) - (f : Int) := IntWalk.i64_in _ (by omega)
          have i7 : (0 : Int) ≤ (m : Int) - (f : Int) := by omega
          obtain ⟨nb, hnb, hor⟩ := new_byte ob f f (Y % 2 ^ f) (by rw [← HF.out]; exact hobm) hf8 (by omega) (Nat.mod_lt _ (Nat.two_pow_pos f))
          have hset1 := hset (bitsOf Y f) (by rw [bitsOf_len]; have := HF.out; omega) (fun h => by rw [bitsOf_len]; exact hf1')
          rw [bitsOf_len, val_bitsOf, HF.out, ← hnb] at hset1
          have hdone := put_done hp hown hset1 HS.out (by rw [bitsOf_len]; have := HF.out; have := HQ.out; omega)
          rw [bitsOf_len] at hdone
          have hfin : cur ++ bitsOf Y f = l ++ bitsOf (V >>> (m - f)) (N - (m - f)) := by
            rw [← HY.out, ← HCUR.out, List.append_assoc, show V >>> m = V >>> (m - f) >>> f from by rw [← Nat.shiftRight_add]; congr 1; omega, ← bitsOf_add]
            congr 2
            omega
          rw [hfin] at hdone
          have HDONE := Lib.hid hdone
          have hcg := (hchg.setCell (p := ⟨g, q, none⟩) (fun h => hrg g h (.inl rfl)) (.int .u8 (nb.toNat : Int))).setCell (p := ⟨p, 1, none⟩) (fun _ => .inl rfl) (.int .i64 ((s : Int) + (f : Int)))
          have HCG := Lib.hid hcg
          have hor' : bits BinOp.or IntKind.u8 (ob.toNat : Int) (IntKind.u8.wrap ((Y : Int) % 2 ^ f)) = (nb.toNat : Int) := by
            rw [← hor]; simp
          have hnext : (j + 1 < T ∧ ((l.length + (N - (m - f))) % 8 + (m - f) + 7) / 8 = T - (j + 1)) ∨ (j + 1 = T ∧ m - f = 0) := by
            have h1 := HST.out
            have h2 := HF.out
            have h3 := HSL.out
            have h4 : l.length + (N - (m - f)) = s + f := by omega
            rw [h4]
            by_cases e : m = f
            · exact .inr ⟨by omega, by omega⟩
            · exact .inl ⟨by omega, by omega⟩
          have HNEXT := Lib.hid hnext
          clear hnext
          clear hset1 hdone hnb hor hset hcg hob hown hp
          go_wp2_with fail
          go_still_tail 25, (by kernel_rfl)
          still_call hlow
          repeat still_step
          refine wpStill_nil ?_
          clear hlow
          clear hor'
          change wpList _ _ _ _ _ wc.drew
          go_wp2_with fail
          have hgf : some g = r ∨ ∃ g', some g = some g' ∧ w.heap.size ≤ g' := by
            rcases hgr with e | e
            · rcases hr with e2 | ⟨g', e2, e3⟩
              · exact .inl (e.trans e2)
              · exact .inr ⟨g', e.trans e2, e3⟩
            · exact .inr ⟨g, rfl, e⟩
          go_roundw
          case rel => exact ⟨m - f, j + 1, some g, by go_num, by go_num, by omega, by omega, IsW.drew HDONE.out, hgf, HCG.out.drew, HNEXT.out⟩
          case measure => simp [intOf]; omega
    · have hm0 : m = 0 := by omega
      have hjT2 : j = T := by omega
      subst hm0
      subst hjT2
      have hWf : IsW wr p r' (l ++ bitsOf V N) := by
        have h1 := HCUR.out
        simp only [Nat.shiftRight_zero, Nat.sub_zero] at h1
        rw [h1]
        exact ⟨v, by rw [HS.out]; exact hp, by rw [HS.out]; exact hown, hrb⟩
      have HWF := Lib.hid hWf
      clear hWf hp hown hst
      go_wp2_with fail
      go_end0
      exact ⟨rfl, hchg, r', HWF.out, hr⟩
end Go.Proofs.YtknjejejkgihbaaDoor.bitc
