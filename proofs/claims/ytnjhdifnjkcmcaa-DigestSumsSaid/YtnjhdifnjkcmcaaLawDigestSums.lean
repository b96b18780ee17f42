/-
  The walk of the law DigestSums.
-/
import Derived.Test.YtnjhdifnjkcmcaaMurmurX
import Derived.Test.YtnjhdifnjkcmcaaSlices
import Derived.Deep.RegionHeld3
namespace Go.Proofs.Ytnjhdifnjkcmcaa.lawDigestSums
open Go.ChangeShapes Go.WideShapes Go.ChangeAt Go.RowKit plain words adler murmur

theorem info5' : (Try.prog.info? 5).map (fun i => (i.zero, i.size, i.bytes)) = some (some (.int .u8 0), 1, 1) := by kernel_rfl
set_option maxHeartbeats 1000000 in
theorem walk_core (a0 : Option Addr) (n c : Nat) (bs : List UInt8) (a1 : Int) (w : World) (h : Bs w w.heap.size a0 n bs) (hA : a0 = none → c = 0) (hnc : n ≤ c) (hcm : c ≤ 9223372036854775807) (hn' : n ≤ 262144) (b1 : 0 ≤ a1 ∧ a1 ≤ 4294967295) :
    Calls Try.prog 12 #[.slice a0 n c, .int .u32 a1] w fun e w' => e = .returned (.bool true) ∧ Below w.heap.size w w' := by
  obtain ⟨i0, hi, hz0, hz1, hz2⟩ := info_parts info5'
  have hrd := h.alloc (Nat.le_refl _) (.cells #[] 5)
  have hown := World.ownsRow_lit (w := w) (base := w.heap.size) (e := 5) (size := 1) #[] 0 (Nat.le_refl _) (by simp) rfl
  have hb0 : Below w.heap.size w (w.alloc (.cells #[] 5)) := (Below.refl _ _).alloc (Nat.le_refl _) _
  have hone : ∀ u ∈ [Value.int .u8 77], u.oneCell' = true := by simp [Value.oneCell']
  go_enter Try.func12, Try.ntmps12
  go_wp2_with (first | (at_builtin; refine wpList_append_rd rfl (.tmp 10) (.tmp 11) 23 rfl w.heap.size 5 i0 (.int .u8 0) 1 1 Try.underlying23 hi hz0 hz1 hz2 rfl (by decide) _ 0 [] rfl hown w.heap.size a0 n c hA (u8s bs) rfl (by rw [Nat.mul_one]; exact hrd) (u8s_one bs) (by unfold maxLen; omega) (by omega) (by simp) ?_; intro v1 w1 hown1 hg1 hnn1; have hbel1 := own_below hb0 hown (by simp) hg1; simp only [Nat.zero_add, List.nil_append] at hown1; have hlt1 := hbel1.size; obtain ⟨g1, cap1, rfl, hbg1, hgl1, hnc1, hcm1⟩ := own_some hown1 rfl hnn1; clear hg1 hnn1) | (at_builtin; refine wpList_append_own _ rfl (.tmp 13) (.tmp 14) 23 rfl w.heap.size 5 i0 (.int .u8 0) 1 1 Try.underlying23 hi hz0 hz1 hz2 rfl (by decide) (.slice (some ⟨g1, 0, none⟩) n cap1) n (u8s bs) rfl (hown1.alloc _) ⟨w1.heap.size, 0, none⟩ 1 1 [.int .u8 77] rfl rfl (cells_new rfl _) hone (by unfold maxLen; omega) (by omega) (by simp; omega) ?_; intro v2 w2 hown2 hg2 hnn2; have hbel2 := own_below (hbel1.alloc hbel1.size _) (hown1.alloc _) (by simp; omega) hg2; obtain ⟨g, cap, rfl, hbg, hgl, hnc2, hcm2⟩ := own_some hown2 rfl hnn2; clear hg2 hnn2 hown1 hbel1 hbg1 hgl1 hnc1 hcm1))
  have hxr : Bs w2 w2.heap.size (some ⟨g, 0, none⟩) n bs := by
    have := (own_rd hown2).less (m := n) (by omega)
    rwa [show (u8s bs ++ [Value.int .u8 77]).take n = u8s bs from by rw [List.take_append_of_le_length (by rw [u8s_length, h.len_]; exact Nat.le_refl _)]; exact List.take_of_length_le (by rw [u8s_length, h.len_]; exact Nat.le_refl _)] at this
  have hc77 : w2.cell? ⟨g, n, none⟩ = some (.int .u8 77) := by
    rw [hown2.cellAt n (by omega), List.getElem?_append_right (by rw [u8s_length, h.len_]; exact Nat.le_refl _), u8s_length, h.len_]
    simp
  have hbr := h.below hbel2 (Nat.le_refl _)
  have hkeep : ∀ w', Below w2.heap.size w2 w' → (Below w2.heap.size w2 w' ∧ w'.cell? ⟨g, n, none⟩ = some (.int .u8 77) ∧ (convert 23 9 (.slice (some ⟨g, 0, none⟩) n cap)).run Try.prog w' = .ok (.string ⟨bs.toArray⟩) w' ∧ (convert 23 9 (.slice a0 n c)).run Try.prog w' = .ok (.string ⟨bs.toArray⟩) w') := fun w' hb =>
    ⟨hb, (hb.cell (p := ⟨g, n, none⟩) hgl).trans hc77, conv_string (hxr.below hb (Nat.le_refl _)) _ _ 5 Try.underlying23 Try.underlying9 Try.underlying5, conv_string (hbr.below hb hbel2.size) _ _ 5 Try.underlying23 Try.underlying9 Try.underlying5⟩
  have HK := Lib.hid hkeep
  have h0 := hkeep w2 (Below.refl _ _)
  unfold maxLen at hcm2
  have i1 : (0 : Int) ≤ (n : Int) := by omega
  have i2 : (n : Int) ≤ (cap : Int) := by omega
  have i3 : (n : Int) < (n : Int) + 1 := by omega
  clear hkeep hrd hown hb0 hone hown2 hc77
  go_region_held3 (fun w' => Below w2.heap.size w2 w' ∧ w'.cell? ⟨g, n, none⟩ = some (.int .u8 77) ∧ (convert 23 9 (.slice (some ⟨g, 0, none⟩) n cap)).run Try.prog w' = .ok (.string ⟨bs.toArray⟩) w' ∧ (convert 23 9 (.slice a0 n c)).run Try.prog w' = .ok (.string ⟨bs.toArray⟩) w') (first | exact HK.out _ (Below.refl _ _).drew | assumption | exact HK.out _ (by assumption)) (first | (go_at_call 36; refine (adler_y _ _ n c _ bs (hbr.below (left_ (by assumption)) hbel2.size) (by omega)).mono ?_; rintro e w' ⟨rfl, rfl⟩) | (go_at_call 34; refine (murmur_x _ _ n cap _ bs a1 b1 (hxr.below (left_ (by assumption)) (Nat.le_refl _)) (Below.size (left_ (by assumption))) (by omega) (by omega) (by omega)).mono ?_; rintro e w' ⟨rfl, hb'⟩; have hbx := below_step (left_ (by assumption)) hb') | (go_at_call 37; refine (murmur_y _ _ n c _ bs a1 b1 (hbr.below (left_ (by assumption)) hbel2.size) (Nat.le_trans hbel2.size (Below.size (left_ (by assumption)))) (by omega)).mono ?_; rintro e w' ⟨rfl, hb'⟩; have hbx := below_step (left_ (by assumption)) hb') | (go_at_call 35; refine (adler_x _ _ n cap _ bs (hxr.below (left_ (by assumption)) (Nat.le_refl _)) (by omega)).mono ?_; rintro e w' ⟨rfl, rfl⟩))
  all_goals
    go_wp2_with fail
    go_ret
    refine ⟨rfl, hbel2.trans (Below.mono (B := w2.heap.size) (by assumption) hbel2.size)⟩

theorem walk_ok (a0 : Option Addr) (len0 cap0 : Nat) (z0 : List Int) (a1 : Int) (w : World) (w0 : IsRow .u8 w a0 len0 cap0 z0) (w1 : (Lit.int .u32 a1).wf = true) :
    Calls Try.prog 12 #[.slice a0 len0 cap0, .int .u32 a1] w fun e w' => e = .returned (.bool true) ∧ Below w.heap.size w w' := by
  obtain ⟨bs, hbs, hm, hc, hA⟩ := w0.bytes
  have b1 := wf_u32 w1
  unfold maxLen at hm hc
  by_cases h1 : len0 ≤ 262144
  · exact walk_core a0 len0 cap0 bs a1 w hbs hA hc.1 (by omega) h1 b1
  · go_enter Try.func12, Try.ntmps12
    go_wp2_with fail
    go_ret
    exact ⟨rfl, Below.refl _ _⟩
end Go.Proofs.Ytnjhdifnjkcmcaa.lawDigestSums
