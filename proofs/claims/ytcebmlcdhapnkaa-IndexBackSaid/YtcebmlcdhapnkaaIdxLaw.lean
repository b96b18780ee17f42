/-
  Index: the law's own small functions.
-/
import Derived.Test.YtcebmlcdhapnkaaIdxEncY
import Derived.Laws.StructEq
namespace Go.Proofs.Ytcebmlcdhapnkaa.idx
open Go.ChangeShapes Go.WideShapes Go.ChangeAt Go.RowKit plain words ord mem uvs uvc Go.Lib

def RetHeavy (n : Nat) (w : World) (e : Ending) (w' : World) : Prop := ∃ b : Bool, e = .returned (.bool b) ∧ (b = false → n ≤ 16384) ∧ w = w'
set_option maxHeartbeats 1000000 in
theorem heavy_x (w : World) (B n c : Nat) (A : Option Addr) (l : List En) (h : Ens w B A n l) (hn : n ≤ 9223372036854775807) :
    Calls Try.prog 27 #[.slice A n c] w (RetHeavy n w) := by
  have HH := Lib.hid h
  clear h
  go_enter Try.func27, Try.ntmps27
  go_wp2_with (fail)
  go_loopg [3, 4] n (fun gg s3 s4 wr => ∃ (k : Nat) (z : Int), k ≤ n ∧ n - k ≤ gg ∧ s4 = .int .i64 k ∧ s3 = .int .i64 z ∧ (n : Int) ≤ z ∧ z ≤ 9223372036854775807 ∧ wr = w)
  case atStart => exact ⟨0, n, Nat.zero_le _, by omega, rfl, rfl, by omega, by omega, rfl⟩
  case round =>
    obtain ⟨k, z, hk, hg, rfl, rfl, hz0, hz1, rfl⟩ := hrel
    by_cases hgo : k < n ∧ z ≤ 16384
    · obtain ⟨hkn, hz2⟩ := hgo
      have i1 : (k : Int) < (n : Int) := by omega
      have i2 : (0 : Int) ≤ (k : Int) := by omega
      obtain ⟨x, hx⟩ : ∃ x, l[k]? = some x := ⟨_, List.getElem?_eq_getElem (by rw [HH.out.1]; exact hkn)⟩
      obtain ⟨b, off, rfl, hb, c0, c1, c2, c3⟩ := HH.out.at_ hkn hx
      obtain ⟨xs, x2⟩ := x
      simp only at c0
      clear c1 c2 c3 hx
      have hb1 : 0 ≤ min (xs.size : Int) 1048576 ∧ min (xs.size : Int) 1048576 ≤ 1048576 := by omega
      go_wp2_with (fail)
      all_goals
        go_roundg (n - (k + 1))
        case measure => omega
        case rel => exact ⟨k + 1, _, by omega, by omega, by go_num, rfl, by first | omega | (rw [IntWalk.i64_in _ (by omega)]; omega), by first | omega | (rw [IntWalk.i64_in _ (by omega)]; omega), rfl⟩
    · by_cases hkn : k < n
      · have i1 : (k : Int) < (n : Int) := by omega
        have i3 : ¬ z ≤ 16384 := by omega
        have i4 : (16384 : Int) < z := by omega
        go_wp2_with (fail)
        go_ret
        exact ⟨true, ret_bool (by simp [i4]), (fun e => by cases e), rfl⟩
      · have i1 : ¬ (k : Int) < (n : Int) := by omega
        go_wp2_with (fail)
        go_ret
        exact ⟨decide ((16384 : Int) < z), ret_bool (by simp), (fun e => by simp at e; omega), rfl⟩

theorem infoE : (Try.prog.info? 81).map (fun i => (i.zero, i.size, i.bytes)) = some (some (.agg #[.string ByteArray.empty, .int .i64 0, .int .i64 0, .int .u32 0]), 4, 40) := by kernel_rfl
theorem infoE2 : (Try.prog.info? 68).map (fun i => (i.zero, i.size, i.bytes)) = some (some (.agg #[.string ByteArray.empty, .int .i64 0, .int .i64 0, .int .u32 0]), 4, 40) := by kernel_rfl
/-- a list of the document's entries is returned *-/
def RetEs (w : World) (l : List En) (e : Ending) (w' : World) : Prop := ∃ A c, e = .returned (.slice A l.length c) ∧ w'.ownsRow w.heap.size 81 4 (.slice A l.length c) l.length (cs eE l) ∧ Below w.heap.size w w' ∧ (A = none → c = 0) ∧ l.length ≤ c ∧ c ≤ 9223372036854775807
theorem own_es {w w' : World} {v : Value} {n : Nat} {l : List En} {T : TypeId} (hl : l.length = n) (h : w'.ownsRow w.heap.size T 4 v n (cs eE l)) : ∃ A c, v = .slice A n c ∧ (A = none → c = 0) ∧ n ≤ c ∧ c ≤ 9223372036854775807 := by
  rcases own_form h with ⟨rfl, e0⟩ | ⟨g, cap, rfl, _, _, h1, h2⟩
  · exact ⟨none, 0, by rw [e0], fun _ => rfl, by omega, by omega⟩
  · unfold maxLen at h2
    exact ⟨_, cap, rfl, (fun e => by cases e), h1, h2⟩
theorem cs_eE_one (x : En) : cs eE [x] = [.string x.1, .int .i64 x.2.1, .int .i64 x.2.2.1, .int .u32 x.2.2.2] := by simp [cs, eE]

set_option maxHeartbeats 2000000 in
set_option maxRecDepth 100000 in
theorem theirs_x (w : World) (B n c : Nat) (A : Option Addr) (l : List En) (h : Ens w B A n l) (hB : B ≤ w.heap.size) (hn : n ≤ 1000000) :
    Calls Try.prog 30 #[.slice A n c] w (RetEs w l) := by
  obtain ⟨i0, hi, hz0, hz1, hz2⟩ := info_parts infoE
  have HH := Lib.hid h
  have HL := Lib.hid h.1
  have hlit := World.ownsRow_lit (w := w) (base := w.heap.size) (e := 81) (size := 4) #[] 0 (Nat.le_refl _) (by simp) rfl
  have HLIT := Lib.hid hlit
  have HB0 := Lib.hid (below_al w (.cells #[] 81))
  clear h hlit
  go_enter Try.func30, Try.ntmps30
  go_wp2_with (fail)
  go_loopg [3, 4] n (fun gg s3 s4 wr => ∃ (k : Nat) (v3 : Value), k ≤ n ∧ n - k ≤ gg ∧ s4 = .int .i64 k ∧ v3 = s3 ∧ Aside (wr.ownsRow w.heap.size 81 4 v3 k (cs eE (l.take k))) ∧ Aside (Below w.heap.size w wr))
  case atStart => exact ⟨0, _, Nat.zero_le _, by omega, rfl, rfl, HLIT.out, HB0.out⟩
  case round =>
    clear HLIT HB0
    obtain ⟨k, v3, hk, hg, rfl, rfl, OW, BW⟩ := hrel
    have hsw := BW.out.size
    by_cases hlt : k < n
    · obtain ⟨x, hx⟩ : ∃ x, l[k]? = some x := ⟨_, List.getElem?_eq_getElem (by rw [HL.out]; exact hlt)⟩
      obtain ⟨b, off, rfl, hb, c0, c1, c2, c3⟩ := (HH.out.below BW.out hB).at_ hlt hx
      have hTK := take_succ_of hx
      have HTK := Lib.hid hTK
      obtain ⟨xs, xo, xz, xm⟩ := x
      simp only at c0 c1 c2 c3
      have i1 : (0 : Int) ≤ (k : Int) := by omega
      have i2 : (k : Int) < (n : Int) := by omega
      have hbw : b < wr.heap.size := by omega
      obtain ⟨w2, hw2⟩ : ∃ w2, wr.alloc (.cells #[.string xs, .int .i64 xo, .int .i64 xz, .int .u32 xm] 81) = w2 := ⟨_, rfl⟩
      have hb2 : Below wr.heap.size wr w2 := by rw [← hw2]; exact below_al _ _
      have hrd : Rd w2 (wr.heap.size + 1) (some ⟨wr.heap.size, 0, none⟩) (1 * 4) [.string xs, .int .i64 xo, .int .i64 xz, .int .u32 xm] := by rw [← hw2]; exact rd_fresh (w := wr) _ [.string xs, .int .i64 xo, .int .i64 xz, .int .u32 xm] rfl
      have ho2 := own_keep OW.out hb2 (Nat.le_refl _)
      have hB2 := BW.out.trans (hb2.mono hsw)
      have hsz2 : w.heap.size ≤ w2.heap.size := hB2.size
      clear hx hTK
      go_wp2_with (at_builtin; refine wpList_append_rd rfl (.tmp 12) (.tmp 17) 55 rfl w.heap.size 81 i0 _ 4 40 Try.underlying55 hi hz0 hz1 hz2 rfl (by decide) v3 k (cs eE (l.take k)) rfl ho2 (wr.heap.size + 1) _ 1 1 (fun e => by cases e) [.string xs, .int .i64 xo, .int .i64 xz, .int .u32 xm] rfl hrd (by intro u hu; simp at hu; rcases hu with rfl | rfl | rfl | rfl <;> rfl) (by unfold maxLen; omega) (by omega) hsz2 ?_; intro v4 w4 hown4 hg4 hnn4)
      have hown5 : w4.ownsRow w.heap.size 81 4 v4 (k + 1) (cs eE (l.take (k + 1))) := by
        rw [HTK.out, cs_append, cs_eE_one]
        exact hown4
      have HO5 := Lib.hid hown5
      have HB5 := Lib.hid (own_below hB2 ho2 hsz2 hg4)
      clear hown5 hown4 hg4 hnn4 ho2 hB2 hrd
      go_roundg (n - (k + 1))
      case measure => omega
      case rel => exact ⟨k + 1, v4, by omega, by omega, by go_num, rfl, HO5.out, HB5.out⟩
    · have hkn : k = n := by omega
      subst hkn
      rw [List.take_of_length_le (by rw [HL.out]; exact Nat.le_refl _)] at OW
      have hi2 : ¬ (k : Int) < (k : Int) := by omega
      obtain ⟨A4, c4, rfl, h1, h2, h3⟩ := own_es (w := w) HL.out OW.out
      go_wp2_with (fail)
      go_ret
      exact ⟨A4, c4, by rw [HL.out]; rfl, by rw [HL.out]; exact OW.out, BW.out, h1, by rw [HL.out]; exact h2, h3⟩

theorem neq_en (s : ByteArray) (a b c : Int) (w : World) : (binOp .neq 81 (.agg #[.string s, .int .i64 a, .int .i64 b, .int .u32 c]) (.agg #[.string s, .int .i64 a, .int .i64 b, .int .u32 c])).run Try.prog w = .ok (.bool false) w := by
  have hS : Try.prog.underlying 81 = some (.struct (Try.prog.fieldsOf 81)) := by kernel_rfl
  have hp : Try.prog.stoodInHeld 81 = false := by kernel_rfl
  have u3 := Try.underlying3
  have a3 := Try.isAgg3
  have z3 := Try.sizeOf3
  have u4 := Try.underlying66
  have a4 := Try.isAgg66
  have z4 := Try.sizeOf66
  have u5 := Try.underlying9
  have a5 := Try.isAgg9
  have z5 := Try.sizeOf9
  rw [run_neq_struct, show (10000 : Nat) = 9999 + 1 from rfl, run_equalIn_agg w 9999 81 _ _ hS hp]
  simp only [Program.fieldsOf, Try.underlying81]
  go_simp
theorem guard_en : Try.prog.eqGuardType Try.prog.depth 81 = false := by kernel_rfl
set_option maxHeartbeats 1000000 in
theorem same_x (w : World) (B n c B' c' : Nat) (A A' : Option Addr) (l : List En) (h : Ens w B A n l) (hB : B ≤ w.heap.size) (h' : Ens w B' A' n l) (hB' : B' ≤ w.heap.size) (hn : n ≤ 10000000) :
    Calls Try.prog 33 #[.slice A n c, .slice A' n c'] w fun e w' => e = .returned (.bool true) ∧ Below w.heap.size w w' := by
  have HH := Lib.hid h
  have HH' := Lib.hid h'
  have HL := Lib.hid h.1
  clear h h'
  go_enter Try.func33, Try.ntmps33
  go_wp2_with (fail)
  go_loopg [5] n (fun gg s5 wr => ∃ (i : Nat), i ≤ n ∧ n - i ≤ gg ∧ s5 = .int .i64 i ∧ Aside (Below w.heap.size w wr))
  case atStart => exact ⟨0, Nat.zero_le _, by omega, rfl, Below.refl _ _⟩
  case round =>
    obtain ⟨i, hi, hg, rfl, BW⟩ := hrel
    have hsw := BW.out.size
    by_cases hlt : i < n
    · have hltz : (i : Int) < (n : Int) := by omega
      have hiz : (0 : Int) ≤ (i : Int) := by omega
      obtain ⟨x, hx⟩ : ∃ x, l[i]? = some x := ⟨_, List.getElem?_eq_getElem (by rw [HL.out]; exact hlt)⟩
      obtain ⟨b, off, rfl, hb, c0, c1, c2, c3⟩ := (HH.out.below BW.out hB).at_ hlt hx
      obtain ⟨b', off', rfl, hb', d0, d1, d2, d3⟩ := (HH'.out.below BW.out hB').at_ hlt hx
      obtain ⟨xs, xo, xz, xm⟩ := x
      simp only at c0 c1 c2 c3 d0 d1 d2 d3
      have hbw : b < wr.heap.size := by omega
      have hbw' : b' < wr.heap.size := by omega
      have hE : ∀ u : World, (binOp .neq 81 (.agg #[.string xs, .int .i64 xo, .int .i64 xz, .int .u32 xm]) (.agg #[.string xs, .int .i64 xo, .int .i64 xz, .int .u32 xm])).run Try.prog u = .ok (.bool false) u := fun u => neq_en xs xo xz xm u
      have hG := guard_en
      clear hx
      go_wp2_with (fail)
      have q0 := Wb.at_ c0
      have q1 := Wb.at_ c1
      have q2 := Wb.at_ c2
      have q3 := Wb.at_ c3
      have p0 := Wb.at_ d0
      have p1 := Wb.at_ d1
      have p2 := Wb.at_ d2
      have p3 := Wb.at_ d3
      refine wp_region_plan [([0, 1, 2, 3, 4, 5, 6, 7, 8], none)] (by kernel_rfl) (by kernel_rfl) ?_
      refine seg_end _ (by dsimp only [pick, at_]) ?_
      repeat (go_big_quiet_step (fail))
      refine wpQuiet_nil ?_
      refine NoPanic.normal ?_
      clear q0 q1 q2 q3 p0 p1 p2 p3 hE hG
      go_wp2_with (fail)
      go_roundg (n - (i + 1))
      case measure => omega
      case rel => exact ⟨i + 1, by omega, by omega, by go_num, BW.out.drew⟩
    · have hltz : ¬ (i : Int) < (n : Int) := by omega
      go_wp2_with (fail)
      go_ret
      exact ⟨rfl, BW.out⟩

/-- the bytes that Encode answers: none behind an error -/
def encB (l : List En) : List UInt8 := if checkE l = 0 then idxB l else []
def smB (l : List En) : List UInt8 := if checkE l = 0 then sumB l else []
theorem brow_bs {w : World} {v : Value} {bs : List UInt8} (h : BRow w v bs) : ∃ A c, v = .slice A bs.length c ∧ Bs w w.heap.size A bs.length bs ∧ bs.length ≤ c ∧ c ≤ 9223372036854775807 ∧ (A = none → c = 0) := by
  obtain ⟨A, c, rfl, h1, h2, h3⟩ := h.form
  have := h.rd A c rfl
  rw [Nat.mul_one] at this
  exact ⟨A, c, rfl, this, h1, h2, h3⟩
theorem enc_two {w w' : World} {l : List En} {e : Ending} (h : RetEnc w l e w') : ∃ Aa ca As cs', e = .returned (.tuple #[.slice Aa (encB l).length ca, .slice As (smB l).length cs', .int .i64 (checkE l)]) ∧ Bs w' w'.heap.size Aa (encB l).length (encB l) ∧ Bs w' w'.heap.size As (smB l).length (smB l) ∧ Below w.heap.size w w' ∧ (encB l).length ≤ ca ∧ ca ≤ 9223372036854775807 ∧ (Aa = none → ca = 0) := by
  obtain ⟨h1, h2, hb⟩ := h
  by_cases hc : checkE l = 0
  · obtain ⟨va, vs, rfl, ra, rs⟩ := h1 hc
    obtain ⟨Aa, ca, rfl, ba, la1, la2, la3⟩ := brow_bs ra
    obtain ⟨As, cs', rfl, bs, _⟩ := brow_bs rs
    rw [show encB l = idxB l from if_pos hc, show smB l = sumB l from if_pos hc, hc]
    exact ⟨Aa, ca, As, cs', rfl, ba, bs, hb, la1, la2, la3⟩
  · rw [show encB l = [] from if_neg hc, show smB l = [] from if_neg hc]
    exact ⟨none, 0, none, 0, h2 hc, Rd.nil _ _ _, Rd.nil _ _ _, hb, Nat.le_refl _, by omega, fun _ => rfl⟩
end Go.Proofs.Ytcebmlcdhapnkaa.idx
