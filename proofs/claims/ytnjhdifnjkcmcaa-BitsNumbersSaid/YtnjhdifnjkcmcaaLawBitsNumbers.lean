/-
  The walk of the law BitsNumbers.
-/
import Derived.Test.YtnjhdifnjkcmcaaUvCodeY
import Derived.Test.YtnjhdifnjkcmcaaZig
import Derived.Test.YtnjhdifnjkcmcaaOrd
namespace Go.Proofs.Ytnjhdifnjkcmcaa.lawBitsNumbers
open Go.ChangeShapes Go.WideShapes Go.ChangeAt Go.RowKit plain words ord uvs uvc zig

def RetB (w : World) (Y : List UInt8) (L : Nat) (e : Ending) (w' : World) : Prop :=
  ∃ A cap, e = .returned (.slice A L cap) ∧ w'.ownsRow w.heap.size 5 1 (.slice A L cap) L (u8s Y) ∧ Below w.heap.size w w'
theorem uvarint_xl (w : World) (B n c : Nat) (A : Option Addr) (bs : List UInt8) (v : Nat) (h : Bs w B A n bs) (hB : B ≤ w.heap.size) (hn : n ≤ 1099511627776) (hv : lt64 v) (Y : List UInt8) (L : Nat) (hY : bs ++ uv v = Y) (hL : Y.length = L) :
    Calls Try.prog 15 #[.slice A n c, .int .u64 v] w (RetB w Y L) := by subst hY; subst hL; exact uvarint_x w B n c A bs v h hB hn hv
theorem uvarint_yl (w : World) (B n c : Nat) (A : Option Addr) (bs : List UInt8) (v : Nat) (h : Bs w B A n bs) (hA : A = none → c = 0) (hB : B ≤ w.heap.size) (hn : n ≤ 1099511627776) (hv : lt64 v) (Y : List UInt8) (L : Nat) (hY : bs ++ uv v = Y) (hL : Y.length = L) :
    Calls Try.prog 29 #[.slice A n c, .int .u64 v] w (RetB w Y L) := by subst hY; subst hL; exact uvarint_y w B n c A bs v h hA hB hn hv
theorem zag_xl (V : Nat) (w : World) (h : lt64 V) : Calls Try.prog 32 #[.int .u64 V] w fun e w' => e = .returned (.int .i64 (zag V)) ∧ w = w' := zag_x V w (by omega) (by unfold lt64 at h; omega)
theorem zag_yl (V : Nat) (w : World) (h : lt64 V) : Calls Try.prog 33 #[.int .u64 V] w fun e w' => e = .returned (.int .i64 (zag V)) ∧ w = w' := zag_y V w (by omega) (by unfold lt64 at h; omega)

set_option maxHeartbeats 0 in
set_option maxRecDepth 100000 in
theorem walk_core (V : Nat) (a0 : Option Addr) (n c : Nat) (bs : List UInt8) (a2 : Int) (w : World) (h : Bs w w.heap.size a0 n bs) (hA : a0 = none → c = 0) (hnc : n ≤ c) (hcm : c ≤ 9223372036854775807) (hn' : n ≤ 16384) (hV : lt64 V) (b2 : -9223372036854775808 ≤ a2 ∧ a2 ≤ 9223372036854775807) :
    Calls Try.prog 8 #[.slice a0 n c, .int .u64 V, .int .i64 a2] w fun e w' => e = .returned (.bool true) ∧ Below w.heap.size w w' := by
  obtain ⟨i0, hi, hz0, hz1, hz2⟩ := info_parts infoB
  obtain ⟨Y, hY⟩ : ∃ Y, bs ++ uv V = Y := ⟨_, rfl⟩
  obtain ⟨L, hL⟩ : ∃ L, Y.length = L := ⟨_, rfl⟩
  have HY := Lib.hid hY
  have HL := Lib.hid hL
  clear hY hL
  have hrd := h.alloc (Nat.le_refl _) (.cells #[] 5)
  have hown := World.ownsRow_lit (w := w) (base := w.heap.size) (e := 5) (size := 1) #[] 0 (Nat.le_refl _) (by simp) rfl
  have hb0 : Below w.heap.size w (w.alloc (.cells #[] 5)) := (Below.refl _ _).alloc (Nat.le_refl _) _
  have hone : ∀ u ∈ [Value.int .u8 77], u.oneCell' = true := by simp [Value.oneCell']
  go_enter Try.func8, Try.ntmps8
  go_wp2_with (first | (at_builtin; refine wpList_append_rd rfl (.tmp 17) (.tmp 18) 23 rfl w.heap.size 5 i0 (.int .u8 0) 1 1 Try.underlying23 hi hz0 hz1 hz2 rfl (by decide) _ 0 [] rfl hown w.heap.size a0 n c hA (u8s bs) rfl (by rw [Nat.mul_one]; exact hrd) (u8s_one bs) (by unfold maxLen; omega) (by omega) (by simp) ?_; intro v1 w1 hown1 hg1 hnn1; have hbel1 := own_below hb0 hown (by simp) hg1; simp only [Nat.zero_add, List.nil_append] at hown1; have hlt1 := hbel1.size; obtain ⟨g1, cap1, rfl, hbg1, hgl1, hnc1, hcm1⟩ := own_some hown1 rfl hnn1; clear hg1 hnn1) | (at_builtin; refine wpList_append_own _ rfl (.tmp 20) (.tmp 21) 23 rfl w.heap.size 5 i0 (.int .u8 0) 1 1 Try.underlying23 hi hz0 hz1 hz2 rfl (by decide) (.slice (some ⟨g1, 0, none⟩) n cap1) n (u8s bs) rfl (hown1.alloc _) ⟨w1.heap.size, 0, none⟩ 1 1 [.int .u8 77] rfl rfl (cells_new rfl _) hone (by unfold maxLen; omega) (by omega) (by simp; omega) ?_; intro v2 w2 hown2 hg2 hnn2; have hbel2 := own_below (hbel1.alloc hbel1.size _) (hown1.alloc _) (by simp; omega) hg2; obtain ⟨g, cap, rfl, hbg, hgl, hnc2, hcm2⟩ := own_some hown2 rfl hnn2; clear hg2 hnn2 hown1 hbel1 hbg1 hgl1 hnc1 hcm1))
  have hxr : Bs w2 w2.heap.size (some ⟨g, 0, none⟩) n bs := by
    have := (own_rd hown2).less (m := n) (by omega)
    rwa [show (u8s bs ++ [Value.int .u8 77]).take n = u8s bs from by rw [List.take_append_of_le_length (by rw [u8s_length, h.len_]; exact Nat.le_refl _)]; exact List.take_of_length_le (by rw [u8s_length, h.len_]; exact Nat.le_refl _)] at this
  have hc77 : w2.cell? ⟨g, n, none⟩ = some (.int .u8 77) := by
    rw [hown2.cellAt n (by omega), List.getElem?_append_right (by rw [u8s_length, h.len_]; exact Nat.le_refl _), u8s_length, h.len_]
    simp
  have hbr := h.below hbel2 (Nat.le_refl _)
  have hsz2 := hbel2.size
  unfold maxLen at hcm2
  clear hrd hown hb0 hone hown2
  refine (uvarint_xl _ _ n cap _ bs V hxr (Nat.le_refl _) (by omega) hV Y L HY.out HL.out).mono ?_
  rintro e w3 ⟨A3, cap3, rfl, hown3, hb3⟩
  go_wp2_with fail
  refine (readuv_x _ _ n cap _ bs (hxr.below hb3 (Nat.le_refl _)) (by omega)).mono ?_
  rintro e w4 ⟨he, rfl⟩
  unfold RetNum at he
  subst he
  obtain ⟨rv, rn, hr⟩ : ∃ rv rn, ru bs 0 0 = (rv, rn) := ⟨_, _, rfl⟩
  rw [hr]
  have HR := Lib.hid hr
  clear hr
  go_wp2_with fail
  refine (readuv_y _ _ n c _ bs (hbr.below hb3 hsz2) (Nat.le_trans hsz2 hb3.size) hnc hcm (by omega)).mono ?_
  rintro e w5 ⟨he, hb5⟩
  unfold RetNum at he
  rw [HR.out] at he
  subst he
  have hb35 := below_step hb3 hb5
  have hkeep : ∀ w', Below w5.heap.size w5 w' → (w'.cell? ⟨g, n, none⟩ = some (.int .u8 77) ∧ (convert 23 9 (.slice A3 L cap3)).run Try.prog w' = .ok (.string ⟨Y.toArray⟩) w' ∧ (convert 23 9 (.slice (some ⟨g, 0, none⟩) n cap)).run Try.prog w' = .ok (.string ⟨bs.toArray⟩) w' ∧ (convert 23 9 (.slice a0 n c)).run Try.prog w' = .ok (.string ⟨bs.toArray⟩) w') := fun w' hb =>
    have hb' := below_step hb35 hb
    ⟨(hb'.cell (p := ⟨g, n, none⟩) hgl).trans hc77, conv_string ((own_bs hown3).below (below_step hb5 hb) (Nat.le_refl _)) _ _ 5 Try.underlying23 Try.underlying9 Try.underlying5, conv_string (hxr.below hb' (Nat.le_refl _)) _ _ 5 Try.underlying23 Try.underlying9 Try.underlying5, conv_string (hbr.below hb' hsz2) _ _ 5 Try.underlying23 Try.underlying9 Try.underlying5⟩
  have HK := Lib.hid hkeep
  have i1 : (0 : Int) ≤ (n : Int) := by omega
  have i2 : (n : Int) ≤ (cap : Int) := by omega
  have i3 : (n : Int) < (n : Int) + 1 := by omega
  have hbb5 : Bs w5 w5.heap.size a0 n bs := ((hbr.below hb35 hsz2).more (Nat.le_trans hsz2 hb35.size))
  have HBA5 := Lib.hid (show Below w.heap.size w w5 from hbel2.trans (hb35.mono hsz2))
  have HUV := Lib.hid (uvarint_yl w5.drew w5.heap.size n c _ bs V (hbb5.drew) hA (Nat.le_refl _) (by omega) hV Y L HY.out HL.out)
  clear hkeep hc77 hbr hxr hown3 hb3 hb5 hb35 h hbel2 hgl hbg hi hz0 hz1 hz2 hlt1 hbb5
  go_wp2_with fail
  have k0 : ∀ u : Wb w5, _ := fun u => (HK.out u.w u.h).2.1
  refine wp_region_plan [([0, 1, 2, 3], some (4, false)), ([5, 6, 7, 8, 9, 10, 11, 12, 13, 14, 15, 16, 17, 18, 19, 20, 21, 22, 23, 24, 25, 26, 27, 28, 29, 30, 31, 32, 33, 34, 35, 36, 38], some (37, false)), ([], some (39, false)), ([40, 41, 42, 43, 45], some (44, false)), ([], some (46, false)), ([47, 48, 49], none)] (by kernel_rfl) (by kernel_rfl) ?_
  refine seg_act _ (by dsimp only [pick, at_]) _ (by dsimp only [pick, at_]) ?_
  repeat (go_big_quiet_step (fail))
  refine wpQuiet_nil ?_
  intro K1 g1 g2
  clear g1 k0
  go_wp2_with (fail)
  refine HUV.out.mono ?_
  rintro e w6 ⟨A6, cap6, rfl, hown6, hb6⟩
  have hb56 : Below w5.heap.size w5 w6 := (Below.refl _ _).drew.trans hb6
  have hs6 := hb56.size
  have k0 : ∀ u : Wb w6, (convert 23 9 (.slice A6 L cap6)).run Try.prog u.w = .ok (.string ⟨Y.toArray⟩) u.w := fun u => conv_string ((own_bs hown6).below u.h (Nat.le_refl _)) 23 9 5 Try.underlying23 Try.underlying9 Try.underlying5
  have k1 : ∀ u : Wb w6, (convert 23 9 (.slice (some ⟨g, 0, none⟩) n cap)).run Try.prog u.w = .ok (.string ⟨bs.toArray⟩) u.w := fun u => (HK.out u.w (hb56.trans (u.h.mono hs6))).2.2.1
  have k2 : ∀ u : Wb w6, (convert 23 9 (.slice a0 n c)).run Try.prog u.w = .ok (.string ⟨bs.toArray⟩) u.w := fun u => (HK.out u.w (hb56.trans (u.h.mono hs6))).2.2.2
  have q0 : ∀ u : Wb w6, u.w.cell? ⟨g, n, none⟩ = some (.int .u8 77) := fun u => (HK.out u.w (hb56.trans (u.h.mono hs6))).1
  have HB56 := Lib.hid hb56
  clear hown6 hb6 hb56 HUV
  go_wp2_with (fail)
  refine g2 _ _ HB56.out ?_
  clear g2
  refine seg_act _ (by dsimp only [pick, at_]) _ (by dsimp only [pick, at_]) ?_
  repeat (go_big_quiet_step (fail))
  refine wpQuiet_nil ?_
  intro K2 g1 g2
  clear g2 k0 k1 k2 q0
  go_wp2_with (fail)
  refine (zig_x a2 _ b2.1 b2.2).mono ?_
  rintro e w' ⟨rfl, rfl⟩
  go_wp2_with (fail)
  refine g1 _ _ (Below.refl _ _) ?_
  clear g1
  refine seg_act _ (by dsimp only [pick, at_]) _ (by dsimp only [pick, at_]) ?_
  repeat (go_big_quiet_step (fail))
  refine wpQuiet_nil ?_
  intro K3 g1 g2
  clear g2
  go_wp2_with (fail)
  refine (zig_y a2 _ b2.1 b2.2).mono ?_
  rintro e w' ⟨rfl, rfl⟩
  go_wp2_with (fail)
  refine g1 _ _ (Below.refl _ _) ?_
  clear g1
  refine seg_act _ (by dsimp only [pick, at_]) _ (by dsimp only [pick, at_]) ?_
  repeat (go_big_quiet_step (fail))
  refine wpQuiet_nil ?_
  intro K4 g1 g2
  clear g2
  go_wp2_with (fail)
  refine (zag_xl V _ hV).mono ?_
  rintro e w' ⟨rfl, rfl⟩
  go_wp2_with (fail)
  refine g1 _ _ (Below.refl _ _) ?_
  clear g1
  refine seg_act _ (by dsimp only [pick, at_]) _ (by dsimp only [pick, at_]) ?_
  repeat (go_big_quiet_step (fail))
  refine wpQuiet_nil ?_
  intro K5 g1 g2
  clear g2
  go_wp2_with (fail)
  refine (zag_yl V _ hV).mono ?_
  rintro e w' ⟨rfl, rfl⟩
  go_wp2_with (fail)
  refine g1 _ _ (Below.refl _ _) ?_
  clear g1
  refine seg_end _ (by dsimp only [pick, at_]) ?_
  repeat (go_big_quiet_step (fail))
  refine wpQuiet_nil ?_
  refine NoPanic.normal ?_
  go_wp2_with (fail)
  go_ret
  exact ⟨rfl, HBA5.out.trans (HB56.out.mono HBA5.out.size)⟩

set_option maxRecDepth 100000 in
theorem walk_ok (a0 : Option Addr) (len0 cap0 : Nat) (z0 : List Int) (a1 a2 : Int) (w : World) (w0 : IsRow .u8 w a0 len0 cap0 z0) (w1 : (Lit.int .u64 a1).wf = true) (w2 : (Lit.int .i64 a2).wf = true) :
    Calls Try.prog 8 #[.slice a0 len0 cap0, .int .u64 a1, .int .i64 a2] w fun e w' => e = .returned (.bool true) ∧ Below w.heap.size w w' := by
  obtain ⟨bs, hbs, hm, ⟨hc1, hc2⟩, hA⟩ := w0.bytes
  unfold maxLen at hm hc2
  have h1 := wf_u64 w1
  obtain ⟨V, rfl⟩ : ∃ V : Nat, a1 = V := ⟨a1.toNat, by omega⟩
  have hV : lt64 V := by unfold lt64; omega
  by_cases hn : len0 ≤ 16384
  · exact walk_core V a0 len0 cap0 bs a2 w hbs hA hc1 hc2 hn hV (wf_i64 w2)
  · have hn' : (16384 : Int) < (len0 : Int) := by omega
    clear h1 w0 w1
    go_enter Try.func8, Try.ntmps8
    go_wp2_with (fail)
    go_ret
    exact ⟨rfl, Below.refl _ _⟩
end Go.Proofs.Ytnjhdifnjkcmcaa.lawBitsNumbers
