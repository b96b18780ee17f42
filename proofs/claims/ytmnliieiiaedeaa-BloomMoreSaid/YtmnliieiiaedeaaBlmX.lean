/-
  Bloom: the program's Has.
-/
import Derived.Test.YtmnliieiiaedeaaBlmIt
namespace Go.Proofs.Ytmnliieiiaedeaa.blm
open Go.ChangeShapes Go.WideShapes Go.ChangeAt Go.RowKit Go.Shelf plain words ord mem murmur
attribute [local go_sem] Oper.semAt_some

theorem pls_all (n : Nat) (s : ByteArray) (hn : 0 < n) (bs : List UInt8) (hb : bs.length = n) : hasB bs s = (pls n s hn).all fun y => bit bs y.1 := by
  subst hb
  simp [hasB, pls, List.all_map, Function.comp_def]
set_option maxHeartbeats 4000000 in
set_option maxRecDepth 100000 in
theorem has_x (w : World) (p g : Nat) (bs : List UInt8) (h : IsF 95 w p g bs) (hn : 0 < bs.length) (hn' : bs.length ≤ 65536) (s : ByteArray) (hs : s.size ≤ 65536) :
    Calls Try.prog 36 #[.pointer (some ⟨p, 0, none⟩), .string s] w fun e w' => e = .returned (.bool (hasB bs s)) ∧ Below w.heap.size w w' := by
  obtain ⟨c, n, hnl, hp, hown⟩ := h
  have hpl := blk_lt hp
  obtain ⟨cu, hcu⟩ := own_type hown (g := g) rfl
  have hpg : p ≠ g := blk_type hp hcu (by decide)
  have hgl := blk_lt hcu
  have hn1 : 0 < n := by omega
  have hn2 : n ≤ 65536 := by omega
  obtain ⟨S0, hS0⟩ : ∃ S0, w.heap.size = S0 := ⟨_, rfl⟩
  obtain ⟨W0, hW0⟩ : ∃ W0, (((w.alloc (.cells #[.pointer (some ⟨p, 0, none⟩)] 54)).alloc (.cells #[.bool false] 4)).alloc (.cells #[.pointer (some ⟨p, 0, none⟩)] 54)).alloc (.cells #[.string s] 9) = W0 := ⟨_, rfl⟩
  have f0 : W0.heap[S0]? = some (.cells #[.pointer (some ⟨p, 0, none⟩)] 54 (0, 0)) := by rw [← hW0, ← hS0]; exact alloc_old _ (alloc_old _ (alloc_old _ (alloc_new _ _)))
  have f1 : W0.heap[S0 + 1]? = some (.cells #[.bool false] 4 (0, 0)) := by
    rw [← hW0, ← hS0]
    have := alloc_new (w.alloc (.cells #[.pointer (some ⟨p, 0, none⟩)] 54)) (.cells #[.bool false] 4)
    rw [World.size_alloc] at this
    exact alloc_old _ (alloc_old _ this)
  have f2 : W0.heap[S0 + 2]? = some (.cells #[.pointer (some ⟨p, 0, none⟩)] 54 (0, 0)) := by
    rw [← hW0, ← hS0]
    have := alloc_new ((w.alloc (.cells #[.pointer (some ⟨p, 0, none⟩)] 54)).alloc (.cells #[.bool false] 4)) (.cells #[.pointer (some ⟨p, 0, none⟩)] 54)
    rw [World.size_alloc, World.size_alloc] at this
    exact alloc_old _ this
  have f3 : W0.heap[S0 + 3]? = some (.cells #[.string s] 9 (0, 0)) := by
    rw [← hW0, ← hS0]
    have := alloc_new (((w.alloc (.cells #[.pointer (some ⟨p, 0, none⟩)] 54)).alloc (.cells #[.bool false] 4)).alloc (.cells #[.pointer (some ⟨p, 0, none⟩)] 54)) (.cells #[.string s] 9)
    rw [World.size_alloc, World.size_alloc, World.size_alloc] at this
    exact this
  have hsz : W0.heap.size = S0 + 4 := by rw [← hW0, ← hS0]; simp
  have hB0 : Below S0 w W0 := by
    rw [← hW0, ← hS0]
    exact (((((Below.refl _ w).alloc (Nat.le_refl _) _).alloc (by simp) _).alloc (by simp; omega) _).alloc (by simp; omega) _)
  rw [hS0] at hpl hgl ⊢
  have F0 := Lib.hid (And.intro f0 (And.intro f1 (And.intro f2 f3)))
  have HP := Lib.hid hp
  have HO := Lib.hid hown
  have HL := Lib.hid hnl
  have HW := Lib.hid hW0
  have HS := Lib.hid hS0
  have HB := Lib.hid hB0
  clear hp hown hnl hcu hW0 hS0 f0 f1 f2 f3 hn hn' hB0
  refine (callsIn_wide (n := 3)).1 (callsIn_of_wp_marks Try.func36 rfl trivial ?_ rfl)
  simp only [Try.ntmps36, List.size_toArray, List.length_cons, List.length_nil, Nat.reduceAdd, Nat.reduceSub, Array.replicate_succ, Array.replicate_zero, List.push_toArray, List.append_toArray, List.nil_append, List.cons_append]
  gi_wp2
  refine ⟨trivial, (callsIn_wide.2 (positions_x _ _ _)).mono ?_⟩
  rintro e w' ⟨rfl, rfl⟩
  gi_wp2
  rw [HW.out, HS.out]
  refine wpIn_rangeFunc_ownF rfl (by omega) (gf := 80) (lb := #[.pointer (some ⟨S0 + 1 + 1 + 1, 0, none⟩), .pointer (some ⟨S0 + 1 + 1, 0, none⟩)]) (by rfl) trivial (enters_of Try.func80 (by kernel_rfl) rfl)
    (seq_x (3 - 1) p g n c (S0 + 2) (S0 + 3) s W0 hs hn1 hn2 hpg (by omega) (by omega) (blk_below HB.out HP.out hpl) F0.out.2.2.1 F0.out.2.2.2) Kg.tr Kg.put (Below.refl _ _) (fun _ => rfl)
    (fun pre W => ((∀ y ∈ pre, bit bs y.1 = true) ∧ W.heap[S0]? = some (.cells #[.pointer (some ⟨p, 0, none⟩)] 54 (0, 0)) ∧ W.heap[S0 + 1]? = some (.cells #[.bool false] 4 (0, 0))) ∧ Below S0 w W)
    (fun c pre W => (c = .ret ∧ (∃ y ∈ pre, bit bs y.1 = false) ∧ W.heap[S0 + 1]? = some (.cells #[.bool false] 4 (0, 0))) ∧ Below S0 w W)
    (OwnFrom.and (Own.from (fun x A B row hs hg hr => ⟨hs.1, blk_kept hs.2.1 hg hr, blk_kept hs.2.2 hg hr⟩) _) (ownFrom_below (by rw [HS.out]; exact Nat.le_refl _) (by omega)))
    (fun c => OwnFrom.and (Own.from (fun x A B row hs hg hr => ⟨hs.1, hs.2.1, blk_kept hs.2.2 hg hr⟩) _) (ownFrom_below (by rw [HS.out]; exact Nat.le_refl _) (by omega)))
    ⟨⟨by simp, F0.out.1, F0.out.2.1⟩, HB.out⟩
    (fun x => { tmps := #[.pointer (some ⟨p, 0, none⟩), .string s, .pointer (some ⟨S0, 0, none⟩), undef, .pointer (some ⟨S0 + 1, 0, none⟩), .int .i64 (x.1 : Int), .pointer (some ⟨p, 0, none⟩), .string s, .func (.func 80) #[] #[.pointer (some ⟨S0 + 1 + 1 + 1, 0, none⟩), .pointer (some ⟨S0 + 1 + 1, 0, none⟩)], .int .i64 (x.1 : Int), undef, undef, undef, undef, undef, undef, undef, undef, undef, undef, undef, undef, undef], defers := [] }) ?assign ?body ?done ?stop
  case assign =>
    intro l x W K hK
    gi_wp2
    exact hK
  case body =>
    rintro l pre x W ⟨⟨hp, hcf, hcr⟩, hB⟩ _
    have hp1 := blk_below hB HP.out hpl
    have own1 : W.ownsRow 0 5 1 (.slice (some ⟨g, 0, none⟩) n c) n (u8s bs) := own_keep HO.out (B := w.heap.size) (by rw [HS.out]; exact hB) (Nat.le_refl _)
    have c0 : W.cell? ⟨S0, 0, none⟩ = some (.pointer (some ⟨p, 0, none⟩)) := by rw [cell_of_row _ _ _ _ _ _ hcf]; rfl
    have c1 : W.cell? ⟨p, 0, none⟩ = some (.slice (some ⟨g, 0, none⟩) n c) := by rw [cell_of_row _ _ _ _ _ _ hp1]; rfl
    have c3 : W.cell? ⟨S0 + 1, 0, none⟩ = some (.bool false) := by rw [cell_of_row _ _ _ _ _ _ hcr]; rfl
    have fr3 := frozen_of_row _ _ 0 _ _ hcr
    have l0 := blk_lt hcf
    have l1 := blk_lt hp1
    have l3 := blk_lt hcr
    obtain ⟨P, hP⟩ := x
    have hc2 := own1.cellAt (P / 8) (by omega)
    obtain ⟨ch, hch⟩ : ∃ ch, bs[P / 8]? = some ch := ⟨_, List.getElem?_eq_getElem (by have := HL.out; omega)⟩
    rw [show (u8s bs)[P / 8]? = some (.int .u8 (ch.toNat : Int)) from by simp only [u8s, List.getElem?_map, hch]; rfl] at hc2
    have hcl := ch.toNat_lt
    have j0 : (0 : Int) ≤ (P : Int) / 8 := by omega
    have j1 : (P : Int) / 8 < (n : Int) := by omega
    have j2 : ((P : Int) / 8).toNat = P / 8 := by omega
    have j3 : 0 ≤ (P : Int) % 8 := by omega
    have j4 : (P : Int) % 8 < 8 := by omega
    have l2 : g < W.heap.size := by have := hB.size; have := HS.out; omega
    have hbit := bit_code ch (P % 8)
    obtain ⟨t, ht⟩ : ∃ t, ch.toNat.testBit (P % 8) = t := ⟨_, rfl⟩
    rw [ht] at hbit
    have hval : bit bs P = t := by
      unfold bit
      rw [List.getD_eq_getElem?_getD, hch]
      exact ht
    have HV := Lib.hid hval
    have HCR := Lib.hid hcr
    have HCF := Lib.hid hcf
    have HBB := Lib.hid hB
    have HPR := Lib.hid hp
    clear ht hval hch own1 hp1 hcf hcr hB hp
    cases t with
    | false =>
      gi_wp2
      exact ⟨KeepsOthers.setCell _ _ _, ⟨rfl, ⟨⟨P, hP⟩, List.mem_append.2 (.inr (by simp)), HV.out⟩, heap_setCell_same _ _ _ _ _ _ HCR.out⟩, HBB.out.setCell (p := ⟨S0 + 1, 0, none⟩) (by simp) _⟩
    | true =>
      gi_wp2
      exact ⟨KeepsOthers.refl _, Kg.refl _ _, ⟨fun y hy => (List.mem_append.1 hy).elim (HPR.out y) (fun e => by simp at e; subst e; exact HV.out), HCF.out, HCR.out⟩, HBB.out⟩
  case done =>
    rintro D ys W hD rfl ⟨⟨hp, hcf, hcr⟩, hB⟩ hK
    have c3 : W.cell? ⟨S0 + 1, 0, none⟩ = some (.bool false) := by rw [cell_of_row _ _ _ _ _ _ hcr]; rfl
    have fr3 := frozen_of_row _ _ 0 _ _ hcr
    have l3 := blk_lt hcr
    have HPR := Lib.hid hp
    have HCR := Lib.hid hcr
    have HKD := Lib.hid hK
    have HBB := Lib.hid hB
    clear hp hcf hcr hK hB
    gi_wp2
    have hK' := (KeepsOthers.setCell W ⟨S0 + 1, 0, none⟩ (.bool true)).same D _ HKD.out rfl
    have hcr' := heap_setCell_same W (S0 + 1) 0 _ _ (.bool true) HCR.out
    refine ⟨by simp, .inl ⟨_, _, rfl, run_takeDeferred hK', ?_⟩⟩
    have hcr2 := blk_kept hcr' (grownBy_putObj' _ D (.deferred none)) (fun r e => by cases e; exact ⟨_, hK', rfl⟩)
    have hc5 : ((W.setCell ⟨S0 + 1, 0, none⟩ (.bool true)).putObj D (.deferred none)).cell? ⟨S0 + 1, 0, none⟩ = some (.bool true) := by rw [cell_of_row _ _ _ _ _ _ hcr2]; rfl
    refine ⟨.bool true, ?_, ?_, (HBB.out.setCell (p := ⟨S0 + 1, 0, none⟩) (by simp) _).trans (belowK_b (w := W0) (by omega) _ D _ _ (by simpa using hD) hK' rfl rfl)⟩
    · simp [results, Try.f36, go_sem, hc5]
    · rw [pls_all n s hn1 bs HL.out.symm, List.all_eq_true.2 HPR.out]
  case stop =>
    rintro D c pre W hD hpre ⟨⟨rfl, hin, hcr⟩, hB⟩ hK
    have HCR := Lib.hid hcr
    have HKD := Lib.hid hK
    have HBB := Lib.hid hB
    have HIN := Lib.hid hin
    clear hin hcr hK hB
    gi_wp2
    refine ⟨by simp, .inl ⟨_, _, rfl, run_takeDeferred HKD.out, ?_⟩⟩
    have hcr2 := blk_kept HCR.out (grownBy_putObj' _ D (.deferred none)) (fun r e => by cases e; exact ⟨_, HKD.out, rfl⟩)
    have hc5 : (W.putObj D (.deferred none)).cell? ⟨S0 + 1, 0, none⟩ = some (.bool false) := by rw [cell_of_row _ _ _ _ _ _ hcr2]; rfl
    refine ⟨.bool false, ?_, ?_, HBB.out.trans (belowK_b (w := W0) (by omega) _ D _ _ (by simpa using hD) HKD.out rfl rfl)⟩
    · simp [results, Try.f36, go_sem, hc5]
    · rw [pls_all n s hn1 bs HL.out.symm]
      obtain ⟨y, hy, hyb⟩ := HIN.out
      rw [List.all_eq_false.2 ⟨y, hpre.subset hy, by rw [hyb]; simp⟩]
end Go.Proofs.Ytmnliieiiaedeaa.blm
