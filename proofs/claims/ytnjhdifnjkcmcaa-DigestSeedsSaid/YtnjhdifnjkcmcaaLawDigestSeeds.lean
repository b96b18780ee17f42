/-
  The walk of the law DigestSeeds.
-/
import Derived.Test.YtnjhdifnjkcmcaaMurmurX
import Derived.Test.YtnjhdifnjkcmcaaMurInj
import Derived.Test.YtnjhdifnjkcmcaaSlices
namespace Go.Proofs.Ytnjhdifnjkcmcaa.lawDigestSeeds
open Go.ChangeShapes Go.WideShapes Go.ChangeAt Go.RowKit plain words adler murmur murinj

theorem info5' : (Try.prog.info? 5).map (fun i => (i.zero, i.size, i.bytes)) = some (some (.int .u8 0), 1, 1) := by kernel_rfl
theorem low16 (s h l : Int) (hs : s = h * 65536 + l) (h0 : 0 ≤ h) (h1 : h ≤ 65520) (l0 : 0 ≤ l) (l1 : l ≤ 65520) : bits .and .u32 s 65535 = l ∧ s / 65536 = h := by
  refine ⟨?_, by omega⟩
  rw [u32_and _ _ (by omega) (by omega) (by omega) (by omega), show (65535 : Int).toNat = 65535 from rfl, nat_mask16]
  omega
theorem or_close (H L : Int) (hH : 0 ≤ H ∧ H ≤ 65520) (hL : 0 ≤ L ∧ L ≤ 65520) : (H * 65536 + L == bits BinOp.or IntKind.u64 (H * 65536) L % 4294967296) = true := by
  obtain ⟨a, rfl⟩ := Int.eq_ofNat_of_zero_le hH.1
  obtain ⟨b, rfl⟩ := Int.eq_ofNat_of_zero_le hL.1
  have h1 := or_add_u64 16 65536 b (a * 65536) p16 (by omega) (by omega) (by omega)
  have h2 : bits .or .u64 ((a : Int) * 65536) (b : Int) = ((a * 65536 ||| b : Nat) : Int) := by
    rw [show (a : Int) * 65536 = ((a * 65536 : Nat) : Int) from by simp, u64_or_nat _ _ (by omega) (by omega)]
  have h3 : bits .or .u64 (b : Int) ((a * 65536 : Nat) : Int) = ((b ||| a * 65536 : Nat) : Int) := u64_or_nat _ _ (by omega) (by omega)
  rw [h3, Nat.or_comm] at h1
  rw [h2, h1]
  simp
  omega
set_option maxHeartbeats 1000000 in
theorem walk_core (a0 a1 : Option Addr) (n0 c0 n1 c1 : Nat) (bs cs : List UInt8) (x y : Int) (w : World) (h : Bs w w.heap.size a0 n0 bs) (h' : Bs w w.heap.size a1 n1 cs) (hA : a0 = none → c0 = 0) (hA' : a1 = none → c1 = 0) (hnc : n0 ≤ c0) (hcm : c0 ≤ 9223372036854775807) (hnc' : n1 ≤ c1) (hcm' : c1 ≤ 9223372036854775807) (hn : n0 ≤ 65536) (hn' : n1 ≤ 65536)
    (bx : 0 ≤ x ∧ x ≤ 4294967295) (bY : 0 ≤ y ∧ y ≤ 4294967295) :
    Calls Try.prog 11 #[.slice a0 n0 c0, .slice a1 n1 c1, .int .u32 x, .int .u32 y] w fun e w' => e = .returned (.bool true) ∧ Below w.heap.size w w' := by
  obtain ⟨i0, hi, hz0, hz1, hz2⟩ := info_parts info5'
  have hmu : (x = y ∧ True) ∨ (¬ x = y ∧ ¬ mur x bs = mur y bs) := by
    by_cases e : x = y
    · exact .inl ⟨e, trivial⟩
    · exact .inr ⟨e, fun he => e (mur_inj bs (by rw [h.len_]; exact hn) x y bx bY he)⟩
  have hbb := adl_bd bs
  have hbc := adl_bd cs
  have htwo := adl_two bs cs
  rw [h'.len_] at htwo
  have hsb := low16 (sum bs) (adl bs).2 (adl bs).1 rfl hbb.2.2.1 hbb.2.2.2 hbb.1 hbb.2.1
  have hsc := low16 (sum cs) (adl cs).2 (adl cs).1 rfl hbc.2.2.1 hbc.2.2.2 hbc.1 hbc.2.1
  have hT : ∃ T, (n1 : Int) * ((adl bs).1 + 65520) = T ∧ 0 ≤ T ∧ T ≤ 8587837440 := ⟨_, rfl, Int.mul_nonneg (by omega) (by omega), by
    have : (n1 : Int) * ((adl bs).1 + 65520) ≤ 65536 * 131040 := Int.mul_le_mul (by omega) (by omega) (by omega) (by omega)
    omega⟩
  obtain ⟨T, hT, hT0, hT1⟩ := hT
  have hall : sum (bs ++ cs) = ((adl bs).2 + (adl cs).2 + T) % 65521 * 65536 + ((adl bs).1 + (adl cs).1 + 65520) % 65521 := by
    unfold sum
    rw [htwo, ← hT]
  have HALL := Lib.hid hall
  clear hall htwo
  have sbd : ∀ l, 0 ≤ sum l ∧ sum l ≤ 4294967295 := fun l => by have := adl_bd l; unfold sum; omega
  have sb1 := sbd bs
  have sb2 := sbd cs
  clear sbd
  generalize hp : sum bs = p at *
  generalize hq : sum cs = q at *
  have HP := Lib.hid hp
  have HQ := Lib.hid hq
  clear hp hq
  generalize (adl bs).2 = hb at *
  generalize (adl bs).1 = lb at *
  generalize (adl cs).2 = hc at *
  generalize (adl cs).1 = lc at *
  obtain ⟨hsb1, hsb2⟩ := hsb
  obtain ⟨hsc1, hsc2⟩ := hsc
  rcases hmu with ⟨rfl, _⟩ | ⟨hne, hmne⟩
  ·
    go_enter Try.func11, Try.ntmps11
    go_wp2_with fail
    refine (murmur_x _ w.heap.size n0 c0 a0 bs x bx h (Nat.le_refl _) (by omega) hnc hcm).mono ?_
    rintro e w1 ⟨rfl, hb1⟩
    go_wp2_with fail
    refine (murmur_x _ w.heap.size n0 c0 a0 bs x bx (h.below hb1 (Nat.le_refl _)) hb1.size (by omega) hnc hcm).mono ?_
    rintro e w2 ⟨rfl, hb2⟩
    have hbel2 := below_step hb1 hb2
    have hrd := (h.below hbel2 (Nat.le_refl _)).alloc hbel2.size (.cells #[] 5)
    have hown := World.ownsRow_lit (w := w2) (base := w.heap.size) (e := 5) (size := 1) #[] 0 hbel2.size (by simp) rfl
    have hb0 := hbel2.alloc hbel2.size (.cells #[] 5)
    have hsz2 := hbel2.size
    go_wp2_with (first | (at_builtin; refine wpList_append_rd rfl (.tmp 34) (.tmp 35) 23 rfl w.heap.size 5 i0 (.int .u8 0) 1 1 Try.underlying23 hi hz0 hz1 hz2 rfl (by decide) _ 0 [] rfl hown w.heap.size a0 n0 c0 hA (u8s bs) rfl (by rw [Nat.mul_one]; exact hrd) (u8s_one bs) (by unfold maxLen; omega) (by omega) (by simp; omega) ?_; intro v3 w3 hown3 hg3 hnn3; have hbel3 := own_below hb0 hown (by simp; omega) hg3; simp only [Nat.zero_add, List.nil_append] at hown3; have hlt3 := hbel3.size; obtain ⟨g3, cap3, rfl, hbg3, hgl3, hnc3, hcm3⟩ := own_some hown3 rfl hnn3; clear hg3 hnn3) | (at_builtin; refine wpList_append_rd rfl (.tmp 37) (.tmp 38) 23 rfl w.heap.size 5 i0 (.int .u8 0) 1 1 Try.underlying23 hi hz0 hz1 hz2 rfl (by decide) (.slice (some ⟨g3, 0, none⟩) n0 cap3) n0 (u8s bs) rfl hown3 w.heap.size a1 n1 c1 hA' (u8s cs) rfl (by rw [Nat.mul_one]; exact h'.below hbel3 (Nat.le_refl _)) (u8s_one cs) (by unfold maxLen; omega) (by omega) hlt3 ?_; intro v4 w4 hown4 hg4 hnn4; have hbel4 := own_below hbel3 hown3 hlt3 hg4; obtain ⟨g4, cap4, rfl, hbg4, hgl4, hnc4, hcm4⟩ := own_some hown4 rfl hnn4; clear hg4 hnn4 hown3 hbel3 hbg3 hgl3 hnc3 hcm3 hown hrd hb0))
    refine (adler_x _ _ n0 c0 a0 bs (h.below hbel4 (Nat.le_refl _)) (by omega)).mono ?_
    rintro e w5 ⟨rfl, rfl⟩
    rw [HP.out]
    go_wp2_with fail
    refine (adler_x _ _ n1 c1 a1 cs (h'.below hbel4 (Nat.le_refl _)) (by omega)).mono ?_
    rintro e w5 ⟨rfl, rfl⟩
    rw [HQ.out]
    go_wp2_with fail
    have hrd4 := own_rd hown4
    rw [Nat.mul_one, ← u8s_append] at hrd4
    refine (adler_x _ _ (n0 + n1) cap4 _ (bs ++ cs) hrd4 (by omega)).mono ?_
    rintro e w5 ⟨rfl, rfl⟩
    rw [HALL.out]
    clear hrd4
    go_wp2_with fail
    go_ret
    exact ⟨ret_bool (or_close _ _ (by omega) (by omega)), hbel4⟩
  · have hne' : (x == y) = false := by simpa using hne
    have hmne' : (mur x bs == mur y bs) = false := by simpa using hmne
    clear hne hmne
    go_enter Try.func11, Try.ntmps11
    go_wp2_with fail
    refine (murmur_x _ w.heap.size n0 c0 a0 bs x bx h (Nat.le_refl _) (by omega) hnc hcm).mono ?_
    rintro e w1 ⟨rfl, hb1⟩
    go_wp2_with fail
    refine (murmur_x _ w.heap.size n0 c0 a0 bs y bY (h.below hb1 (Nat.le_refl _)) hb1.size (by omega) hnc hcm).mono ?_
    rintro e w2 ⟨rfl, hb2⟩
    have hbel2 := below_step hb1 hb2
    have hrd := (h.below hbel2 (Nat.le_refl _)).alloc hbel2.size (.cells #[] 5)
    have hown := World.ownsRow_lit (w := w2) (base := w.heap.size) (e := 5) (size := 1) #[] 0 hbel2.size (by simp) rfl
    have hb0 := hbel2.alloc hbel2.size (.cells #[] 5)
    have hsz2 := hbel2.size
    go_wp2_with (first | (at_builtin; refine wpList_append_rd rfl (.tmp 34) (.tmp 35) 23 rfl w.heap.size 5 i0 (.int .u8 0) 1 1 Try.underlying23 hi hz0 hz1 hz2 rfl (by decide) _ 0 [] rfl hown w.heap.size a0 n0 c0 hA (u8s bs) rfl (by rw [Nat.mul_one]; exact hrd) (u8s_one bs) (by unfold maxLen; omega) (by omega) (by simp; omega) ?_; intro v3 w3 hown3 hg3 hnn3; have hbel3 := own_below hb0 hown (by simp; omega) hg3; simp only [Nat.zero_add, List.nil_append] at hown3; have hlt3 := hbel3.size; obtain ⟨g3, cap3, rfl, hbg3, hgl3, hnc3, hcm3⟩ := own_some hown3 rfl hnn3; clear hg3 hnn3) | (at_builtin; refine wpList_append_rd rfl (.tmp 37) (.tmp 38) 23 rfl w.heap.size 5 i0 (.int .u8 0) 1 1 Try.underlying23 hi hz0 hz1 hz2 rfl (by decide) (.slice (some ⟨g3, 0, none⟩) n0 cap3) n0 (u8s bs) rfl hown3 w.heap.size a1 n1 c1 hA' (u8s cs) rfl (by rw [Nat.mul_one]; exact h'.below hbel3 (Nat.le_refl _)) (u8s_one cs) (by unfold maxLen; omega) (by omega) hlt3 ?_; intro v4 w4 hown4 hg4 hnn4; have hbel4 := own_below hbel3 hown3 hlt3 hg4; obtain ⟨g4, cap4, rfl, hbg4, hgl4, hnc4, hcm4⟩ := own_some hown4 rfl hnn4; clear hg4 hnn4 hown3 hbel3 hbg3 hgl3 hnc3 hcm3 hown hrd hb0))
    refine (adler_x _ _ n0 c0 a0 bs (h.below hbel4 (Nat.le_refl _)) (by omega)).mono ?_
    rintro e w5 ⟨rfl, rfl⟩
    rw [HP.out]
    go_wp2_with fail
    refine (adler_x _ _ n1 c1 a1 cs (h'.below hbel4 (Nat.le_refl _)) (by omega)).mono ?_
    rintro e w5 ⟨rfl, rfl⟩
    rw [HQ.out]
    go_wp2_with fail
    have hrd4 := own_rd hown4
    rw [Nat.mul_one, ← u8s_append] at hrd4
    refine (adler_x _ _ (n0 + n1) cap4 _ (bs ++ cs) hrd4 (by omega)).mono ?_
    rintro e w5 ⟨rfl, rfl⟩
    rw [HALL.out]
    clear hrd4
    go_wp2_with fail
    go_ret
    exact ⟨ret_bool (or_close _ _ (by omega) (by omega)), hbel4⟩

theorem walk_ok (a0 : Option Addr) (len0 cap0 : Nat) (z0 : List Int) (a1 : Option Addr) (len1 cap1 : Nat) (z1 : List Int) (a2 a3 : Int) (w : World) (w0 : IsRow .u8 w a0 len0 cap0 z0) (w1 : IsRow .u8 w a1 len1 cap1 z1) (w2 : (Lit.int .u32 a2).wf = true) (w3 : (Lit.int .u32 a3).wf = true) :
    Calls Try.prog 11 #[.slice a0 len0 cap0, .slice a1 len1 cap1, .int .u32 a2, .int .u32 a3] w fun e w' => e = .returned (.bool true) ∧ Below w.heap.size w w' := by
  obtain ⟨bs, hbs, hm, hc, hA⟩ := w0.bytes
  obtain ⟨cs, hcs, hm', hc', hA'⟩ := w1.bytes
  have b2 := wf_u32 w2
  have b3 := wf_u32 w3
  unfold maxLen at hm hc hm' hc'
  by_cases h1 : len0 ≤ 65536
  · by_cases h2 : len1 ≤ 65536
    · exact walk_core a0 a1 len0 cap0 len1 cap1 bs cs a2 a3 w hbs hcs hA hA' hc.1 (by omega) hc'.1 (by omega) h1 h2 b2 b3
    · go_enter Try.func11, Try.ntmps11
      go_wp2_with fail
      go_ret
      exact ⟨rfl, Below.refl _ _⟩
  · go_enter Try.func11, Try.ntmps11
    go_wp2_with fail
    go_ret
    exact ⟨rfl, Below.refl _ _⟩
end Go.Proofs.Ytnjhdifnjkcmcaa.lawDigestSeeds
