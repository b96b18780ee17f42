/-
  The steps of the disk's laws: as cells, that came in; their bound.
-/
import Derived.Test.YtmnliieiiaedeaaLsOf
import Derived.Test.YtmnliieiiaedeaaDkB
namespace Go.Proofs.Ytmnliieiiaedeaa.dk
open Go.ChangeShapes Go.WideShapes Go.ChangeAt Go.RowKit Go.Deep plain words ord mem al

structure Sp where
  kind : Int
  n : Int
  keep : Int
  part : Int
  a : Nm
  b : Nm
def spE (x : Sp) : List Value := [.int .i64 x.kind, .int .i64 x.n, .int .i64 x.keep, .int .i64 x.part, .string (bs x.a), .string (bs x.b)]
def SPE : El Sp where
  enc := spE
  k := 6
  e := 40
  len := fun _ => rfl
  one := fun x v hv => by
    simp [spE] at hv
    rcases hv with rfl | rfl | rfl | rfl | rfl | rfl <;> rfl
  pos := by decide
def FitS (x : Sp) : Prop := (Lit.int .i64 x.kind).wf = true ∧ (Lit.int .i64 x.n).wf = true ∧ (Lit.int .i64 x.keep).wf = true ∧ (Lit.int .i64 x.part).wf = true ∧ x.a.length ≤ maxLen ∧ x.b.length ≤ maxLen
abbrev IsSps := IsLs SPE FitS
theorem steps_of {H : Type} {enc : TypeId × Value → H} {W : World} {a : Option Addr} {len cap : Nat} {d : DataW H} {p : List MemPlace}
    (h0 : DataW.Trod enc Try.prog W 0 (fun _ => true) true 35 (.slice a len cap) d p) : IsSps W a len cap :=
  ls_of SPE FitS Try.underlying35 Try.underlying40 (by kernel_rfl) (by kernel_rfl) (by kernel_rfl) (fun vs hv => by
    obtain ⟨n0, e0, w0⟩ := reads_int Try.underlying3 (hv 0 _ rfl)
    obtain ⟨n1, e1, w1⟩ := reads_int Try.underlying3 (hv 1 _ rfl)
    obtain ⟨n2, e2, w2⟩ := reads_int Try.underlying3 (hv 2 _ rfl)
    obtain ⟨n3, e3, w3⟩ := reads_int Try.underlying3 (hv 3 _ rfl)
    obtain ⟨s4, e4, w4⟩ := reads_string Try.underlying9 (hv 4 _ rfl)
    obtain ⟨s5, e5, w5⟩ := reads_string Try.underlying9 (hv 5 _ rfl)
    obtain ⟨a4, rfl⟩ := ba_bs s4
    obtain ⟨a5, rfl⟩ := ba_bs s5
    rw [bs_size] at w4 w5
    refine ⟨⟨n0, n1, n2, n3, a4, a5⟩, fun j hj => ?_, w0, w1, w2, w3, w4, w5⟩
    have h4 : j = 0 ∨ j = 1 ∨ j = 2 ∨ j = 3 ∨ j = 4 ∨ j = 5 := by have : j < 6 := hj; omega
    rcases h4 with rfl | rfl | rfl | rfl | rfl | rfl
    · rw [e0]; rfl
    · rw [e1]; rfl
    · rw [e2]; rfl
    · rw [e3]; rfl
    · rw [e4]; rfl
    · rw [e5]; rfl) h0
/-- a step's cells -/
theorem sp_at {w : World} {B n i : Nat} {A : Option Addr} {l : List Sp} {x : Sp} (h : Ls SPE w B A n l) (hx : l[i]? = some x) :
    ∃ b off, A = some ⟨b, off, none⟩ ∧ b < B ∧ w.cell? ⟨b, off + i * 6, none⟩ = some (.int .i64 x.kind) ∧ w.cell? ⟨b, off + i * 6 + 1, none⟩ = some (.int .i64 x.n) ∧ w.cell? ⟨b, off + i * 6 + 2, none⟩ = some (.int .i64 x.keep) ∧ w.cell? ⟨b, off + i * 6 + 3, none⟩ = some (.int .i64 x.part) ∧ w.cell? ⟨b, off + i * 6 + 4, none⟩ = some (.string (bs x.a)) ∧ w.cell? ⟨b, off + i * 6 + 5, none⟩ = some (.string (bs x.b)) := by
  obtain ⟨b, off, rfl, hb, hc⟩ := h.at_ hx
  exact ⟨b, off, rfl, hb, hc 0 (by decide), hc 1 (by decide), hc 2 (by decide), hc 3 (by decide), hc 4 (by decide), hc 5 (by decide)⟩
def Light (l : List Sp) : Prop := l.length ≤ 256 ∧ ∀ x ∈ l, x.a.length ≤ 65536 ∧ x.b.length ≤ 65536
def RetHv (l : List Sp) (w : World) (e : Ending) (w' : World) : Prop := ∃ b, e = .returned (.bool b) ∧ (b = false → Light l) ∧ Below w.heap.size w w'
set_option maxHeartbeats 1000000 in
set_option maxRecDepth 100000 in
theorem heavy_s (w : World) (B n c : Nat) (A : Option Addr) (l : List Sp) (h : Ls SPE w B A n l) (hB : B ≤ w.heap.size) (hn : n ≤ 9223372036854775807) (hf : ∀ x ∈ l, FitS x) :
    Calls Try.prog 21 #[.slice A n c] w (RetHv l w) := by
  have HH := Lib.hid h
  have HF := Lib.hid hf
  clear h hf
  go_enter Try.func21, Try.ntmps21
  go_wp2_with (fail)
  go_loopg [3, 4] n (fun gg s3 s4 wr => ∃ (k : Nat) (z : Int), k ≤ n ∧ n - k ≤ gg ∧ s4 = .int .i64 k ∧ s3 = .int .i64 z ∧ (n : Int) ≤ z ∧ z ≤ 9223372036854775807 ∧ (z ≤ 65536 → Aside (∀ i x, i < k → l[i]? = some x → x.a.length ≤ 65536 ∧ x.b.length ≤ 65536)) ∧ Aside (Below w.heap.size w wr))
  case atStart => exact ⟨0, n, Nat.zero_le _, by omega, rfl, rfl, by omega, by omega, fun _ i x hi => by omega, Below.refl _ _⟩
  case round =>
    obtain ⟨k, z, hk, hg, rfl, rfl, hz0, hz1, hall, BW⟩ := hrel
    have AL := Lib.hid hall
    clear hall
    obtain ⟨wv, rfl⟩ : ∃ wv, wv = wr := ⟨wr, rfl⟩
    by_cases hgo : k < n ∧ z ≤ 65536
    · obtain ⟨hkn, hz2⟩ := hgo
      have i1 : (k : Int) < (n : Int) := by omega
      have i2 : (0 : Int) ≤ (k : Int) := by omega
      obtain ⟨x, hx⟩ := HH.out.get hkn
      obtain ⟨b, off, rfl, hb, c0, c1, c2, c3, c4, c5⟩ := sp_at (HH.out.below BW.out hB) hx
      have hxa := bs_size x.a
      have hxb := bs_size x.b
      obtain ⟨la, hla⟩ : ∃ la, x.a.length = la := ⟨_, rfl⟩
      obtain ⟨lb, hlb⟩ : ∃ lb, x.b.length = lb := ⟨_, rfl⟩
      rw [hla] at hxa
      rw [hlb] at hxb
      have hbv : b < wv.heap.size := World.block_lt_of_cell? wv _ c0
      have LA := Lib.hid hla
      have LB := Lib.hid hlb
      have HX := Lib.hid hx
      obtain ⟨sa, hsa⟩ : ∃ sa, bs x.a = sa := ⟨_, rfl⟩
      obtain ⟨sb, hsb⟩ : ∃ sb, bs x.b = sb := ⟨_, rfl⟩
      rw [hsa] at c4 hxa
      rw [hsb] at c5 hxb
      clear c0 c1 c2 c3 hx hla hlb hsa hsb
      obtain ⟨ma, hma⟩ : ∃ ma : Int, min (la : Int) 1048576 = ma := ⟨_, rfl⟩
      obtain ⟨mb, hmb⟩ : ∃ mb : Int, min (lb : Int) 1048576 = mb := ⟨_, rfl⟩
      have hb1 : 0 ≤ ma ∧ ma ≤ 1048576 ∧ (ma ≤ 65536 → (la : Int) ≤ 65536) := by rw [← hma]; omega
      have hb2 : 0 ≤ mb ∧ mb ≤ 1048576 ∧ (mb ≤ 65536 → (lb : Int) ≤ 65536) := by rw [← hmb]; omega
      have w1 : IntKind.i64.wrap (ma + mb) = ma + mb := by rw [IntWalk.i64_in _ (by omega)]
      have w2 : IntKind.i64.wrap (z + (ma + mb)) = z + (ma + mb) := by rw [IntWalk.i64_in _ (by omega)]
      have z4 := Wb.at_ c4
      have z5 := Wb.at_ c5
      go_wp2_with (fail)
      refine wp_region_plan [([0, 1, 2, 3, 4, 5, 6, 7, 8, 9, 10, 11, 12, 13, 14, 15, 16, 17], none)] (by kernel_rfl) (by kernel_rfl) ?_
      refine seg_end _ (by dsimp only [pick, at_]) ?_
      repeat (go_big_quiet_step (fail))
      all_goals refine wpQuiet_nil (NoPanic.normal ?_)
      all_goals go_wp2_with (fail)
      all_goals
        go_roundg (n - (k + 1))
        case measure => omega
        case rel =>
          refine ⟨k + 1, z + (ma + mb), by omega, by omega, by go_num, rfl, by omega, by omega, fun hz9 i y hi hy => ?_, by first | exact BW.out | exact BW.out.drew⟩
          by_cases hik : i < k
          · exact AL.out (by omega) i y hik hy
          · have e9 : i = k := by omega
            subst e9
            rw [HX.out] at hy
            cases hy
            rw [LA.out, LB.out]
            exact ⟨by omega, by omega⟩
    · by_cases hkn : k < n
      · have i1 : (k : Int) < (n : Int) := by omega
        have i3 : ¬ z ≤ 65536 := by omega
        have i4 : (65536 : Int) < z := by omega
        go_wp2_with (fail)
        go_ret
        exact ⟨true, ret_bool (by simp [i4]), (fun e => by cases e), BW.out⟩
      · have i1 : ¬ (k : Int) < (n : Int) := by omega
        have hkk : k = n := by omega
        by_cases hz : z ≤ 65536
        · have i4 : ¬ (65536 : Int) < z := by omega
          by_cases hn2 : 256 < n
          · have i5 : (256 : Int) < (n : Int) := by omega
            go_wp2_with (fail)
            go_ret
            exact ⟨true, ret_bool (by simp [i4, i5]), (fun e => by cases e), BW.out⟩
          · have i5 : ¬ (256 : Int) < (n : Int) := by omega
            go_wp2_with (fail)
            go_ret
            refine ⟨false, ret_bool (by simp [i4, i5]), fun _ => ⟨by rw [HH.out.1]; omega, fun x hx => ?_⟩, BW.out⟩
            obtain ⟨i, hi, rfl⟩ := List.getElem_of_mem hx
            exact AL.out hz i _ (by have := HH.out.1; omega) (List.getElem?_eq_getElem hi)
        · have i4 : (65536 : Int) < z := by omega
          go_wp2_with (fail)
          go_ret
          exact ⟨true, ret_bool (by simp [i4]), (fun e => by cases e), BW.out⟩
end Go.Proofs.Ytmnliieiiaedeaa.dk
