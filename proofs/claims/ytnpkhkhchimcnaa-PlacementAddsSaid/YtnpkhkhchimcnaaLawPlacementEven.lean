/-
  The walk of the law PlacementEven: for all nodes and shards it returns true.
-/
import Derived.Test.YtnpkhkhchimcnaaPmInitY
import Derived.Test.YtnpkhkhchimcnaaPmG
import Derived.Lib.Hide
import Derived.Outline
import Derived.Handy
namespace Go.Proofs.Ytnpkhkhchimcnaa.lawPlacementEven
open Go.ChangeShapes Go.WideShapes Go.ChangeAt Go.RowKit Go.Shelf plain words ord mem pm

theorem row_ls {w : World} {a : Option Addr} {len cap : Nat} {zs : List Int} (h : IsRow .i64 w a len cap zs) : Ls NE w w.heap.size a len (zs.take len) ∧ len ≤ cap ∧ cap ≤ 9223372036854775807 := by
  rcases h with ⟨rfl, rfl, rfl, rfl⟩ | ⟨x, rfl, hl, hm, hz, hcell, _⟩
  · exact ⟨Ls.nil _ _ _, Nat.le_refl _, by omega⟩
  · refine ⟨⟨by rw [List.length_take]; omega, ?_, fun j hj => ?_⟩, hl, by unfold maxLen at hm; exact hm⟩
    · rw [cs_len NE.len, List.length_take]; show _ * 1 = _ * 1; omega
    · have hj' : j < len := by rw [show len * NE.k = len from Nat.mul_one len] at hj; exact hj
      have hc := hcell j (by omega)
      obtain ⟨b, off, spot⟩ := x
      have hspot : spot = none := by simpa [Addr.add] using World.cell?_spot (hcell 0 (by omega))
      subst hspot
      have e : (⟨b, off, none⟩ : Addr).add j = ⟨b, off + j, none⟩ := words.add_plain _ _ _
      rw [e] at hc
      have h1 := cs_at (k := 1) (enc := NE.enc) NE.len (zs.take len) j (zs.getD j 0) (by rw [List.getElem?_take, if_pos hj', List.getD_eq_getElem?_getD, List.getElem?_eq_getElem (by omega)]; rfl) 0 (by decide)
      rw [Nat.mul_one, Nat.add_zero] at h1
      exact ⟨b, off, _, rfl, World.block_lt_of_cell? w _ hc, h1, hc⟩
theorem initErr_zero {l : List Int} {s : Int} (h : initErr l s = 0) : NodesOk (srt l) ∧ 1 ≤ s ∧ s ≤ 8 := by
  unfold initErr at h
  by_cases hno : NodesOk (srt l)
  · rw [tb_true hno, if_pos rfl] at h
    by_cases hs : s < 1 ∨ 8 < s
    · rw [if_pos hs] at h; cases h
    · exact ⟨hno, by omega, by omega⟩
  · rw [tb_false hno] at h
    cases h
theorem ifz1 (L lo : Nat) : (if (L : Int) < (lo : Int) then (L : Int) else (lo : Int)) = ((if L < lo then L else lo : Nat) : Int) := by
  by_cases h : L < lo
  · rw [if_pos h, if_pos (by omega)]
  · rw [if_neg h, if_neg (by omega)]
theorem ifz2 (L hi : Nat) : (if (hi : Int) < (L : Int) then (L : Int) else (hi : Int)) = ((if hi < L then L else hi : Nat) : Int) := by
  by_cases h : hi < L
  · rw [if_pos h, if_pos (by omega)]
  · rw [if_neg h, if_neg (by omega)]
/-- what the loop over the nodes has seen -/
structure Lo (f : Int → Nat) (l : List Int) (i lo hi : Nat) : Prop where
  lo1 : lo = 8 ∨ ∃ a ∈ l, f a = lo
  lo2 : lo ≤ 8
  hi1 : hi = 0 ∨ ∃ a ∈ l, f a = hi
  hi2 : hi ≤ 8
  hi3 : ∀ a ∈ l.take i, f a ≤ hi
theorem Lo.step {f : Int → Nat} {l : List Int} {i lo hi lo' hi' : Nat} {x : Int} (h : Lo f l i lo hi) (hx : l[i]? = some x) (hf : f x ≤ 8) (h1 : lo' = (if f x < lo then f x else lo)) (h2 : hi' = (if hi < f x then f x else hi)) : Lo f l (i + 1) lo' hi' := by
  have hm := List.mem_of_getElem? hx
  have k1 := h.lo2
  have k2 := h.hi2
  refine ⟨?_, ?_, ?_, ?_, fun a ha => ?_⟩
  · rw [h1]; split
    · exact .inr ⟨x, hm, rfl⟩
    · exact h.lo1
  · rw [h1]; split <;> omega
  · rw [h2]; split
    · exact .inr ⟨x, hm, rfl⟩
    · exact h.hi1
  · rw [h2]; split <;> omega
  · rw [take_snoc hx] at ha
    rcases List.mem_append.1 ha with ha | ha
    · have := h.hi3 a ha; rw [h2]; split <;> omega
    · simp at ha; subst ha; rw [h2]; split <;> omega
theorem Lo.fin {f : Int → Nat} {l : List Int} {lo hi : Nat} (h : Lo f l l.length lo hi) (hd : ∀ a ∈ l, ∀ b ∈ l, f a ≤ f b + 1) (he : ∃ a ∈ l, 1 ≤ f a) : hi ≤ lo + 1 ∧ 1 ≤ hi := by
  obtain ⟨a, ha, h1⟩ := he
  have h3 := h.hi3 a (by rw [List.take_of_length_le (Nat.le_refl _)]; exact ha)
  refine ⟨?_, by omega⟩
  have := h.hi2
  rcases h.lo1 with e | ⟨b, hb, e⟩
  · omega
  · rcases h.hi1 with e2 | ⟨c, hc, e2⟩
    · omega
    · have := hd c hc b hb; omega
set_option maxHeartbeats 4000000 in
set_option maxRecDepth 100000 in
theorem walk_ok (a0 : Option Addr) (len0 cap0 : Nat) (z0 : List Int) (a1 : Int) (w : World) (w0 : IsRow .i64 w a0 len0 cap0 z0) (w1 : (Lit.int .i64 a1).wf = true) :
    Calls Try.prog 10 #[.slice a0 len0 cap0, .int .i64 a1] w fun e w' => e = .returned (.bool true) ∧ Below w.heap.size w w' := by
  obtain ⟨hls, hcap, hmost⟩ := row_ls w0
  obtain ⟨l, hl⟩ : ∃ l, z0.take len0 = l := ⟨_, rfl⟩
  rw [hl] at hls
  clear w0 w1 hl
  have HL := Lib.hid hls
  clear hls
  by_cases hbig : 256 < len0
  · have hbz : (256 : Int) < (len0 : Int) := by omega
    clear hbig
    go_enter Try.func10, Try.ntmps10
    go_wp2_with (fail)
    go_ret
    exact ⟨rfl, Below.refl _ _⟩
  · have hbz : ¬ (256 : Int) < (len0 : Int) := by omega
    have HPI := Lib.hid (pinit_x w w.heap.size len0 cap0 a0 l HL.out (Nat.le_refl _) (by omega) a1)
    have HRI := Lib.hid (fun (u : World) (hu : Below w.heap.size w u) => rinit_y u w.heap.size len0 cap0 a0 l (HL.out.below hu (Nat.le_refl _)) hu.size (by omega) hcap hmost a1)
    obtain ⟨er, her⟩ : ∃ er, initErr l a1 = er := ⟨_, rfl⟩
    rw [rinitErr_eq, her] at HRI
    rw [her] at HPI
    have HER := Lib.hid her
    clear her
    go_enter Try.func10, Try.ntmps10
    go_wp2_with (fail)
    refine HPI.out.mono ?_
    rintro e w2 ⟨⟨ver, nA, nc, nodes, sA, sc, rs⟩, rfl, hvp, hvok, hb2⟩
    obtain ⟨w3, hw3⟩ : ∃ w3, w2.alloc (.cells #[.int .i64 ver, .slice nA nodes.length nc, .slice sA rs.length sc] 25) = w3 := ⟨_, rfl⟩
    have HB3 := Lib.hid (show Below w.heap.size w w3 by rw [← hw3]; exact hb2.alloc hb2.size _)
    have HV := Lib.hid hvp
    have HOK := Lib.hid (show PVok w3 w2.heap.size (⟨ver, nA, nc, nodes, sA, sc, rs⟩ : PV) by rw [← hw3]; exact hvok.below (below_al _ _) (Nat.le_refl _))
    have HG := Lib.hid (show IsV3 25 w3 w2.heap.size (.int .i64 ver) (.slice nA nodes.length nc) (.slice sA rs.length sc) by rw [← hw3]; exact alloc_new _ _)
    have HW3 := Lib.hid hw3
    have hs2 := hb2.size
    have hs3 : w3.heap.size = w2.heap.size + 1 := by rw [← hw3]; simp
    have HS3 := Lib.hid hs3
    clear hvp hvok hb2 hw3 hs3 HPI
    go_wp2_with (fail)
    rw [HW3.out]
    refine (HRI.out w3 HB3.out).mono ?_
    rintro e w4 ⟨v2, rfl, _, _, hb4⟩
    obtain ⟨w5, hw5⟩ : ∃ w5, w4.alloc (boxO v2) = w5 := ⟨_, rfl⟩
    have hb5 : Below w3.heap.size w3 w5 := by rw [← hw5]; exact hb4.alloc hb4.size _
    have HB5 := Lib.hid (HB3.out.trans (hb5.mono HB3.out.size))
    have HOK5 := Lib.hid (HOK.out.below hb5 (by have := HS3.out; omega))
    have HG5 := Lib.hid (blk_below hb5 HG.out (blk_lt HG.out))
    have HW5 := Lib.hid hw5
    clear hb4 hb5 hw5 HRI
    by_cases he0 : er = 0
    · subst he0
      obtain ⟨hno, hs1, hs8⟩ := initErr_zero HER.out
      have hpl : initPl l a1 = ⟨1, srt l, initAt (srt l) a1.toNat a1.toNat⟩ := by unfold initPl; rw [HER.out]; rfl
      have hvn : nodes = srt l := by have := HV.out; rw [hpl] at this; exact congrArg Pl.nodes this
      have hvs : (PV.pl ⟨ver, nA, nc, nodes, sA, sc, rs⟩).ss = initAt (srt l) a1.toNat a1.toNat := by have := HV.out; rw [hpl] at this; rw [this]
      obtain ⟨hd, hex⟩ := bal_init hno a1.toNat a1.toNat (Nat.le_refl _)
      obtain ⟨S, hS⟩ : ∃ S, initAt (srt l) a1.toNat a1.toNat = S := ⟨_, rfl⟩
      have hSl : S.length ≤ 8 := by rw [← hS, initAt_len]; omega
      rw [hS] at hd hex hvs
      have HD := Lib.hid (And.intro hd (hex (by omega)))
      have HVN := Lib.hid hvn
      have HVS := Lib.hid hvs
      have HSL := Lib.hid hSl
      have hNl := HOK5.out.len.2
      clear hno hs1 hs8 hpl hvn hvs hd hex hS hSl
      go_wp2_with (fail)
      rw [HW5.out]
      go_loopg [9, 10, 11] nodes.length (fun gg s9 s10 s11 wr => ∃ i lo hi : Nat, s11 = .int .i64 i ∧ s9 = .int .i64 lo ∧ s10 = .int .i64 hi ∧ i ≤ nodes.length ∧ nodes.length - i ≤ gg ∧ Aside (Lo (pm.load S) nodes i lo hi) ∧ Aside (Below w5.heap.size w5 wr))
      case atStart => exact ⟨0, 8, 0, rfl, rfl, rfl, by omega, by omega, ⟨.inl rfl, by omega, .inl rfl, by omega, by simp⟩, Below.refl _ _⟩
      case round =>
        obtain ⟨i, lo, hi, rfl, rfl, rfl, hi1, hg, HLO, HBR⟩ := hrel
        have hbr := HBR.out.size
        have HGR := Lib.hid (blk_below HBR.out HG5.out (blk_lt HG5.out))
        have HOR := Lib.hid ((HOK5.out.more (C := w5.heap.size) (by have := blk_lt HG5.out; omega)).below HBR.out (Nat.le_refl _))
        have hgl := blk_lt HGR.out
        obtain ⟨⟨c0, c1, c2⟩, _⟩ := isv3_cells HGR.out
        by_cases hlt : i < nodes.length
        · have hltz : (i : Int) < (nodes.length : Int) := by omega
          obtain ⟨x, hx⟩ := HOR.out.n.get hlt
          have HLD := Lib.hid (fun (u : World) (hu : Below w5.heap.size w5 u) => pload_x u w5.heap.size (⟨ver, nA, nc, nodes, sA, sc, rs⟩ : PV) ((HOK5.out.more (C := w5.heap.size) (by have := blk_lt HG5.out; omega)).below hu (Nat.le_refl _)) hu.size x)
          rw [HVS.out] at HLD
          simp only [PV.val] at HLD
          have hnn : Ls NE wr w5.heap.size nA nodes.length nodes := HOR.out.n
          obtain ⟨b, off, rfl, hb, l0⟩ := num_at hnn hx
          clear hnn
          have hL8 : pm.load S x ≤ 8 := Nat.le_trans (pm.load_le S x) HSL.out
          obtain ⟨L, hL⟩ : ∃ L, pm.load S x = L := ⟨_, rfl⟩
          rw [hL] at HLD hL8
          have HLO2 := Lib.hid (HLO.out.step (lo' := min lo L) (hi' := max hi L) hx (by omega) (by rw [hL]; split <;> omega) (by rw [hL]; split <;> omega))
          clear hx hL
          go_wp2_with (fail)
          have q0 := Wb.at_ c0
          have q1 := Wb.at_ c1
          have q2 := Wb.at_ c2
          have q3 := Wb.at_ l0
          refine wp_region_plan [([0, 1, 2, 3, 4, 5, 6], some (7, false)), ([8, 9], none)] (by kernel_rfl) (by kernel_rfl) ?_
          refine seg_act _ (by dsimp only [pick, ord.at_]) _ (by dsimp only [pick, ord.at_]) ?_
          repeat (go_big_quiet_step (fail))
          refine wpQuiet_nil ?_
          intro K h1 h2
          clear h2
          go_wp2_with (fail)
          refine (HLD.out wr.drew HBR.out.drew).mono ?_
          rintro e w6 ⟨rfl, hb6⟩
          have HB6 := Lib.hid (show Below wr.heap.size wr w6 from (Below.refl _ _).drew.trans hb6)
          clear hb6
          go_wp2_with (fail)
          refine h1 _ _ HB6.out ?_
          clear h1
          refine seg_end _ (by dsimp only [pick, ord.at_]) ?_
          repeat (go_big_quiet_step (fail))
          refine wpQuiet_nil ?_
          refine NoPanic.normal ?_
          have HG6 := Lib.hid (blk_below HB6.out HGR.out hgl)
          have HB56 := Lib.hid (HBR.out.trans (HB6.out.mono hbr))
          have hg6 := blk_lt HG6.out
          have l6 : w6.cell? ⟨b, off + i, none⟩ = some (.int .i64 x) := (HB6.out.cell (p := ⟨b, off + i, none⟩) (show b < wr.heap.size by omega)).trans l0
          clear q0 q1 q2 q3 c0 c1 c2 l0
          obtain ⟨⟨c0, c1, c2⟩, _⟩ := isv3_cells HG6.out
          go_wp2_with (fail)
          have q0 := Wb.at_ c0
          have q1 := Wb.at_ c1
          have q2 := Wb.at_ c2
          have q3 := Wb.at_ l6
          refine wp_region_plan [([0, 1, 2, 3, 4, 5, 6], some (7, false)), ([8, 9], none)] (by kernel_rfl) (by kernel_rfl) ?_
          refine seg_act _ (by dsimp only [pick, ord.at_]) _ (by dsimp only [pick, ord.at_]) ?_
          repeat (go_big_quiet_step (fail))
          refine wpQuiet_nil ?_
          intro K h1 h2
          clear h2
          go_wp2_with (fail)
          refine (HLD.out w6.drew HB56.out.drew).mono ?_
          rintro e w7 ⟨rfl, hb7⟩
          have HB7 := Lib.hid (show Below w6.heap.size w6 w7 from (Below.refl _ _).drew.trans hb7)
          clear hb7
          go_wp2_with (fail)
          refine h1 _ _ HB7.out ?_
          clear h1
          refine seg_end _ (by dsimp only [pick, ord.at_]) ?_
          repeat (go_big_quiet_step (fail))
          refine wpQuiet_nil ?_
          refine NoPanic.normal ?_
          clear q0 q1 q2 q3 c0 c1 c2 l6
          go_wp2_with (fail)
          go_roundg (nodes.length - (i + 1))
          case measure => omega
          case rel => exact ⟨i + 1, min lo L, max hi L, by go_num, by congr 1; omega, by congr 1; omega, by omega, by omega, HLO2.out, HB56.out.trans (HB7.out.mono (by have := HB56.out.size; omega))⟩
        · obtain rfl : i = nodes.length := by omega
          have hltz : ¬ (nodes.length : Int) < (nodes.length : Int) := by omega
          obtain ⟨r1, r2⟩ := HLO.out.fin (by rw [HVN.out]; exact HD.out.1) (by rw [HVN.out]; exact HD.out.2)
          have k1 := HLO.out.lo2
          have k2 := HLO.out.hi2
          have hw : IntKind.i64.wrap ((hi : Int) - (lo : Int)) = (hi : Int) - (lo : Int) := IntWalk.i64_in _ (by omega)
          have r1z : (hi : Int) - (lo : Int) ≤ 1 := by omega
          have r2z : (1 : Int) ≤ (hi : Int) := by omega
          go_wp2_with (fail)
          go_ret
          exact ⟨by simp, HB5.out.trans (HBR.out.mono HB5.out.size)⟩
    · have hez : (er == 0) = false := by simp [he0]
      have hez2 : (er != 0) = true := by simp [he0]
      clear he0
      go_wp2_with (fail)
      go_ret
      rw [HW5.out]
      exact ⟨rfl, HB5.out⟩
end Go.Proofs.Ytnpkhkhchimcnaa.lawPlacementEven
