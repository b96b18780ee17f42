/-
  Tsz: what the laws themselves compute; what Encode answers, whatever came in.
-/
import Derived.Test.YtknjejejkgihbaaDoorTsSum
import Derived.Test.YtknjejejkgihbaaDoorTsLay
namespace Go.Proofs.YtknjejejkgihbaaDoor.ts
open Go.ChangeShapes Go.WideShapes Go.ChangeAt Go.RowKit plain words ord mem bitm uvs

def encB (l : List Pt) : List UInt8 := if checkP l = 0 then encP l else []
theorem encB_len (l : List Pt) (hf : ∀ x ∈ l, FitP x) : (encB l).length ≤ 12 + 222 * l.length := by
  unfold encB
  split
  · exact encP_len l hf
  · simp
theorem enc_two {w w' : World} {l : List Pt} {e : Ending} (h : RetEnc w l e w') : ∃ A c, e = .returned (.tuple #[.slice A (encB l).length c, .int .i64 (checkP l)]) ∧ w'.ownsRow w.heap.size 5 1 (.slice A (encB l).length c) (encB l).length (u8s (encB l)) ∧ Below w.heap.size w w' := by
  unfold RetEnc at h
  by_cases hc : checkP l = 0
  · rw [if_pos hc] at h
    rw [show encB l = encP l from if_pos hc, hc]
    exact h
  · rw [if_neg hc] at h
    rw [show encB l = [] from if_neg hc]
    exact ⟨none, 0, h.1, ⟨rfl, .inl ⟨rfl, rfl⟩⟩, h.2⟩
theorem own_cap' {w : World} {base n c : Nat} {A : Option Addr} {e : TypeId} {k : Nat} {xs : List Value} (h : w.ownsRow base e k (.slice A n c) n xs) : (A = none → c = 0) ∧ n ≤ c ∧ c ≤ 9223372036854775807 := by
  rcases own_form h with ⟨e, e0⟩ | ⟨g, cap, e, _, _, h1, h2⟩
  · cases e; exact ⟨fun _ => rfl, by omega, by omega⟩
  · cases e; unfold maxLen at h2; exact ⟨(fun e => by cases e), h1, h2⟩
theorem infoP : (Tryd.prog.info? 39).map (fun i => (i.zero, i.size, i.bytes)) = some (some (.agg #[.int .i64 0, .int .u64 0, .int .u64 0]), 3, 24) := by kernel_rfl
def endP : Pt := (77, 0, 0)
def RetLent (w : World) (n : Nat) (l : List Pt) (e : Ending) (w' : World) : Prop := ∃ A c, e = .returned (.slice A (n + 1) c) ∧ w'.ownsRow w.heap.size 39 3 (.slice A (n + 1) c) (n + 1) (cs pE (l ++ [endP])) ∧ Below w.heap.size w w'
theorem rd_new (w : World) : Rd (w.alloc (.cells #[.int .i64 77, .int .u64 0, .int .u64 0] 39)) (w.heap.size + 1) (some ⟨w.heap.size, 0, none⟩) (1 * 3) [.int .i64 77, .int .u64 0, .int .u64 0] :=
  ⟨rfl, fun j hj => by
    have h := World.cell?_alloc_new w #[.int .i64 77, .int .u64 0, .int .u64 0] 39 j
    refine ⟨w.heap.size, 0, ([.int .i64 77, .int .u64 0, .int .u64 0] : List Value)[j]'(by simpa using hj), rfl, by omega, List.getElem?_eq_getElem _, ?_⟩
    rw [Nat.zero_add, h]
    simp [List.getElem?_eq_getElem (show j < ([.int .i64 77, .int .u64 0, .int .u64 0] : List Value).length from by simpa using hj)]⟩
set_option maxHeartbeats 1000000 in
set_option maxRecDepth 100000 in
theorem lent_x (w : World) (B n c : Nat) (A : Option Addr) (l : List Pt) (h : Pts w B A n l) (hB : B ≤ w.heap.size) (hn : n ≤ 100000) (hA : A = none → c = 0) :
    Calls Tryd.prog 15 #[.slice A n c] w (RetLent w n l) := by
  obtain ⟨i0, hi, hz0, hz1, hz2⟩ := info_parts infoP
  have hlit := World.ownsRow_lit (w := w) (base := w.heap.size) (e := 39) (size := 3) #[] 0 (Nat.le_refl _) (by simp) rfl
  have hb0 : Below w.heap.size w (w.alloc (.cells #[] 39)) := (Below.refl _ _).alloc (Nat.le_refl _) _
  have hrd := (h.below hb0 hB).2
  have hone : ∀ u ∈ cs pE l, u.oneCell' = true := cs_oneCell pE_one l
  clear h
  go_enter Tryd.func15, Tryd.ntmps15
  go_wp2_with (first | (at_builtin; refine wpList_append_rd rfl (.tmp 5) (.tmp 6) 22 rfl w.heap.size 39 i0 _ 3 24 Tryd.underlying22 hi hz0 hz1 hz2 rfl (by decide) _ 0 [] rfl hlit B A n c hA (cs pE l) rfl hrd hone (by unfold maxLen; omega) (by omega) (by simp) ?_; intro v1 w1 hown1 hg1 hnn1; have hbel1 := own_below hb0 hlit (by simp) hg1; simp only [Nat.zero_add, List.nil_append] at hown1; have HO1 := Lib.hid hown1; have HB1 := Lib.hid hbel1; clear hown1 hg1 hnn1 hbel1 hrd hlit hone hb0) | (at_builtin; refine wpList_append_rd rfl (.tmp 8) (.tmp 10) 22 rfl w.heap.size 39 i0 _ 3 24 Tryd.underlying22 hi hz0 hz1 hz2 rfl (by decide) _ n (cs pE l) rfl (own_keep HO1.out ((Below.refl _ w1).alloc (Nat.le_refl _) _) (Nat.le_refl _)) (w1.heap.size + 1) _ 1 1 (fun e => by cases e) [.int .i64 77, .int .u64 0, .int .u64 0] rfl (rd_new w1) (by intro u hu; simp at hu; rcases hu with rfl | rfl | rfl <;> rfl) (by unfold maxLen; omega) (by omega) (by have := HB1.out.size; simp; omega) ?_; intro v2 w2 hown2 hg2 hnn2; have HO2 := Lib.hid hown2; have HB2 := Lib.hid (own_below (HB1.out.trans (((Below.refl w1.heap.size w1).alloc (Nat.le_refl _) (.cells #[.int .i64 77, .int .u64 0, .int .u64 0] 39)).mono HB1.out.size)) (own_keep HO1.out ((Below.refl _ w1).alloc (Nat.le_refl _) _) (Nat.le_refl _)) (by have := HB1.out.size; simp; omega) hg2); obtain ⟨g2, c2, rfl, _, _, _, _⟩ := (own_form hown2).resolve_left (fun e => by omega); clear hown2 hg2 hnn2))
  go_ret
  refine ⟨_, c2, rfl, ?_, HB2.out⟩
  rw [cs_append, cs_one]
  exact HO2.out
theorem neq_pt (a b c : Int) (w : World) : (binOp .neq 39 (.agg #[.int .i64 a, .int .u64 b, .int .u64 c]) (.agg #[.int .i64 a, .int .u64 b, .int .u64 c])).run Tryd.prog w = .ok (.bool false) w := by
  have hS : Tryd.prog.underlying 39 = some (.struct (Tryd.prog.fieldsOf 39)) := by kernel_rfl
  have hp : Tryd.prog.stoodInHeld 39 = false := by kernel_rfl
  have u3 := Tryd.underlying3
  have a3 := Tryd.isAgg3
  have z3 := Tryd.sizeOf3
  have u4 := Tryd.underlying37
  have a4 := Tryd.isAgg37
  have z4 := Tryd.sizeOf37
  rw [run_neq_struct, show (10000 : Nat) = 9999 + 1 from rfl, run_equalIn_agg w 9999 39 _ _ hS hp]
  simp only [Program.fieldsOf, Tryd.underlying39]
  go_simp
theorem guard_pt : Tryd.prog.eqGuardType Tryd.prog.depth 39 = false := by kernel_rfl
set_option maxHeartbeats 1000000 in
theorem same_t (w : World) (B n c B' c' : Nat) (A A' : Option Addr) (l : List Pt) (h : Pts w B A n l) (hB : B ≤ w.heap.size) (h' : Pts w B' A' n l) (hB' : B' ≤ w.heap.size) (hn : n ≤ 10000000) :
    Calls Tryd.prog 14 #[.slice A n c, .slice A' n c'] w fun e w' => e = .returned (.bool true) ∧ Below w.heap.size w w' := by
  have HH := Lib.hid h
  have HH' := Lib.hid h'
  have HL := Lib.hid h.1
  clear h h'
  go_enter Tryd.func14, Tryd.ntmps14
  go_wp2_with (fail)
  go_loopg [5] n (fun gg s5 wr => ∃ (i : Nat), i ≤ n ∧ n - i ≤ gg ∧ s5 = .int .i64 i ∧ Aside (Below w.heap.size w wr))
  case atStart => exact ⟨0, Nat.zero_le _, by omega, rfl, Below.refl _ _⟩
  case round =>
    obtain ⟨i, hi, hg, rfl, BW⟩ := hrel
    have hsw := BW.out.size
    by_cases hlt : i < n
    · have hltz : (i : Int) < (n : Int) := by omega
      have hiz : (0 : Int) ≤ (i : Int) := by omega
      obtain ⟨x, hx⟩ : ∃ x, l[i]? = some x := ⟨_, List.getElem?_eq_getElem (by rw [HL.out]; exact hlt)⟩
      obtain ⟨b, off, rfl, hb, c0, c1, c2⟩ := (HH.out.below BW.out hB).at_ hlt hx
      obtain ⟨b', off', rfl, hb', d0, d1, d2⟩ := (HH'.out.below BW.out hB').at_ hlt hx
      obtain ⟨xs, xo, xz⟩ := x
      simp only at c0 c1 c2 d0 d1 d2
      have hbw : b < wr.heap.size := by omega
      have hbw' : b' < wr.heap.size := by omega
      have hE : ∀ u : World, (binOp .neq 39 (.agg #[.int .i64 xs, .int .u64 xo, .int .u64 xz]) (.agg #[.int .i64 xs, .int .u64 xo, .int .u64 xz])).run Tryd.prog u = .ok (.bool false) u := fun u => neq_pt xs xo xz u
      have hG := guard_pt
      clear hx
      go_wp2_with (fail)
      have q0 := Wb.at_ c0
      have q1 := Wb.at_ c1
      have q2 := Wb.at_ c2
      have p0 := Wb.at_ d0
      have p1 := Wb.at_ d1
      have p2 := Wb.at_ d2
      refine wp_region_plan [([0, 1, 2, 3, 4, 5, 6, 7, 8], none)] (by kernel_rfl) (by kernel_rfl) ?_
      refine seg_end _ (by dsimp only [pick, at_]) ?_
      repeat (go_big_quiet_step (fail))
      refine wpQuiet_nil ?_
      refine NoPanic.normal ?_
      clear q0 q1 q2 p0 p1 p2 hE hG
      go_wp2_with (fail)
      go_roundg (n - (i + 1))
      case measure => omega
      case rel => exact ⟨i + 1, by omega, by omega, by go_num, BW.out.drew⟩
    · have hltz : ¬ (i : Int) < (n : Int) := by omega
      go_wp2_with (fail)
      go_ret
      exact ⟨rfl, BW.out⟩

end Go.Proofs.YtknjejejkgihbaaDoor.ts
