/-
  The document's bits: Put, Bytes (the package thermographref03).
-/
import Derived.Test.YtknjejejkgihbaaDoorTsGetX
namespace Go.Proofs.YtknjejejkgihbaaDoor.bitc
open Go.ChangeShapes Go.WideShapes Go.ChangeAt Go.RowKit plain words bitm

/-- ones and noughts as bytes -/
def bys (l : List Bool) : List UInt8 := l.map fun b => if b then 1 else 0
theorem bys_len (l : List Bool) : (bys l).length = l.length := by simp [bys]
theorem bys_app (a b : List Bool) : bys (a ++ b) = bys a ++ bys b := by simp [bys]
theorem bys_at {l : List Bool} {j : Nat} {b : Bool} (h : l[j]? = some b) : (bys l)[j]? = some (if b then 1 else 0) := by simp [bys, h]
/-- the bit that is put next -/
theorem next_bit (V m : Nat) (hV : lt64 V) : ∃ u : UInt8, bys (bitsOf (V >>> m) 1) = [u] ∧ bits .and .u64 ((V : Int) / 2 ^ m) 1 = (u.toNat : Int) := by
  have hb : bitsOf (V >>> m) 1 = [(V >>> m).testBit 0] := rfl
  have hd : V / 2 ^ m ≤ V := Nat.div_le_self _ _
  obtain ⟨y, hy⟩ : ∃ y, V / 2 ^ m = y := ⟨_, rfl⟩
  have e1 : (V : Int) / 2 ^ m = (y : Int) := by rw [← hy]; simp
  unfold lt64 at hV
  rw [hy] at hd
  rw [hb, e1, and_one_u64 _ (by omega) (by omega), Nat.shiftRight_eq_div_pow, hy]
  refine ⟨if y.testBit 0 then 1 else 0, rfl, ?_⟩
  rw [Nat.testBit_zero]
  by_cases h : y % 2 = 1
  · simp [h]; omega
  · simp [h]; omega
theorem bits_step (V m N : Nat) (hm : m + 1 ≤ N) : bitsOf (V >>> (m + 1)) (N - (m + 1)) ++ bitsOf (V >>> m) 1 = bitsOf (V >>> m) (N - m) := by
  rw [show N - m = (N - (m + 1)) + 1 from by omega, bitsOf_add, ← Nat.shiftRight_add]

theorem infoBits : (Tryd.prog.info? 5).map (fun i => (i.zero, i.size, i.bytes)) = some (some (.int .u8 0), 1, 1) := by kernel_rfl
set_option maxHeartbeats 2000000 in
set_option maxRecDepth 100000 in
theorem refput_x (w : World) (base : Nat) (A : Option Addr) (L c : Nat) (X : List Bool) (V : Nat) (n : Int) (hn : -9223372036854775808 ≤ n ∧ n ≤ 9223372036854775807) (h : w.ownsRow base 5 1 (.slice A L c) L (u8s (bys X))) (hX : X.length = L) (hb : base ≤ w.heap.size) (hl : L ≤ 1099511627776) (hV : lt64 V) :
    Calls Tryd.prog 29 #[.slice A L c, .int .u64 (V : Int), .int .i64 n] w fun e w' =>
      ∃ A' c', e = .returned (.slice A' (L + cl n) c') ∧ w'.ownsRow base 5 1 (.slice A' (L + cl n) c') (L + cl n) (u8s (bys (X ++ bitsOf V (cl n)))) ∧ Chg (fun k => some k = (Value.slice A L c).ownBlock) w w' ∧
        ((Value.slice A' (L + cl n) c').ownBlock = (Value.slice A L c).ownBlock ∨ ∃ g, (Value.slice A' (L + cl n) c').ownBlock = some g ∧ w.heap.size ≤ g) := by
  obtain ⟨i0, hi, hz0, hz1, hz2⟩ := info_parts infoBits
  have hN := cl_le n
  obtain ⟨N, hNe⟩ : ∃ N, cl n = N := ⟨_, rfl⟩
  rw [hNe] at hN
  have hcut := fun w => cut_y n w hn
  rw [hNe] at hcut
  rw [hNe]
  have HCUT := Lib.hid hcut
  obtain ⟨R, hR⟩ : ∃ R, (Value.slice A L c).ownBlock = R := ⟨_, rfl⟩
  rw [hR]
  have HRR := Lib.hid hR
  have HX := Lib.hid hX
  clear hcut hNe hR hX
  go_enter Tryd.func29, Tryd.ntmps29
  go_wp2_with fail
  refine (HCUT.out _).mono ?_
  rintro e w' ⟨rfl, rfl⟩
  go_wp2_with fail
  go_loopw [0, 7] (fun v i wr => ∃ (m c' : Nat) (A' : Option Addr), m ≤ N ∧ i = .int .i64 ((m : Int) - 1) ∧ v = .slice A' (L + (N - m)) c' ∧ wr.ownsRow base 5 1 (.slice A' (L + (N - m)) c') (L + (N - m)) (u8s (bys (X ++ bitsOf (V >>> m) (N - m)))) ∧ Chg (fun k => some k = R) w wr ∧
      ((Value.slice A' (L + (N - m)) c').ownBlock = R ∨ ∃ g, (Value.slice A' (L + (N - m)) c').ownBlock = some g ∧ w.heap.size ≤ g)) (fun _ i _ => (intOf i + 1).toNat)
  case atStart =>
    refine ⟨N, c, A, Nat.le_refl _, rfl, ?_, ?_, Chg.refl _ _, ?_⟩
    · rw [Nat.sub_self]; rfl
    · rw [Nat.sub_self]; simpa [bitsOf] using h
    · rw [Nat.sub_self]; exact .inl HRR.out
  case round =>
    clear h
    obtain ⟨m, c', A', hm, rfl, rfl, hown, hch, hr⟩ := hrel
    obtain ⟨M, hM⟩ : ∃ M, L + (N - m) = M := ⟨_, rfl⟩
    rw [hM] at hown hr ⊢
    have hM40 : M ≤ 1099511627840 := by omega
    have hMf : M + 1 = L + (N - (m - 1)) ∨ m = 0 := by omega
    have HM := Lib.hid hM
    have HMF := Lib.hid hMf
    clear hM hMf
    cases m with
    | succ m =>
      have e0 : (((m + 1 : Nat) : Int) - 1) = (m : Int) := by omega
      rw [e0]
      have i1 : (0 : Int) ≤ (m : Int) := by omega
      have hm64 : (m : Int) < 64 := by omega
      obtain ⟨u, hu1, hu2⟩ := next_bit V m hV
      have hlist : bys (X ++ bitsOf (V >>> (m + 1)) (N - (m + 1))) ++ [u] = bys (X ++ bitsOf (V >>> m) (N - m)) := by
        rw [← hu1, ← bys_app, List.append_assoc, bits_step V m N hm]
      have hul := u.toNat_lt
      have hone : ∀ x ∈ [Value.int .u8 (u.toNat : Int)], x.oneCell' = true := by simp [Value.oneCell']
      have HL := Lib.hid hlist
      have HR := Lib.hid hr
      have hbw := hch.size
      have hbl : base ≤ wr.heap.size := Nat.le_trans hb hbw
      clear hlist hr hu1 e0
      go_wp2_with ((at_builtin; refine wpList_append_own_at _ rfl (.tmp 15) (.tmp 21) 57 rfl base 5 i0 (.int .u8 0) 1 1 Tryd.underlying57 hi hz0 hz1 hz2 rfl (by decide) (.slice A' M c') M (u8s (bys (X ++ bitsOf (V >>> (m + 1)) (N - (m + 1))))) rfl (hown.alloc _) ⟨wr.heap.size, 0, none⟩ 1 1 [.int .u8 (u.toNat : Int)] rfl rfl (cells_new rfl _) hone (by unfold maxLen; omega) (by omega) (by simp; omega) ?_; intro v2 w2 hown2 hg2 hnn2 hat2; obtain ⟨g2, cap2, rfl, hbg2, hgl2, hnc2, hcm2⟩ := (own_form hown2).resolve_left (fun e => by omega)))
      go_roundw
      case rel =>
        refine ⟨m, cap2, some ⟨g2, 0, none⟩, by omega, by go_num, ?_, ?_, ?_, ?_⟩
        · have h1 := HMF.out.resolve_right (by omega)
          rw [show m + 1 - 1 = m from rfl] at h1
          rw [← h1]
        · have h1 := HMF.out.resolve_right (by omega)
          rw [show m + 1 - 1 = m from rfl] at h1
          rw [← h1]
          have h2 := hown2
          rw [show u8s (bys (X ++ bitsOf (V >>> (m + 1)) (N - (m + 1)))) ++ [Value.int .u8 (u.toNat : Int)] = u8s (bys (X ++ bitsOf (V >>> m) (N - m))) from by rw [← HL.out, u8s_append]; rfl] at h2
          exact h2
        · refine (hch.alloc _).grown hg2 (fun j hj hlt => ?_)
          rcases HR.out with e | ⟨g', e, e2⟩
          · exact hj.symm.trans e
          · rw [hj] at e; cases e; omega
        · rcases hat2 with e | e
          · rcases HR.out with e3 | ⟨g', e3, e4⟩
            · exact .inl (e.trans e3)
            · exact .inr ⟨g', e.trans e3, e4⟩
          · refine .inr ⟨g2, rfl, ?_⟩
            have : g2 = (wr.alloc (.cells #[.int .u8 (u.toNat : Int)] 5)).heap.size := by injection e
            simp at this
            omega
      case measure => simp [intOf]
    | zero =>
      have hML : M = L + N := by have := HM.out; omega
      subst hML
      have h1 := hown
      rw [Nat.sub_zero, Nat.shiftRight_zero] at h1
      have HO := Lib.hid h1
      have HR := Lib.hid hr
      clear h1 hown hr
      go_wp2_with fail
      go_ret
      exact ⟨A', c', rfl, HO.out, hch, HR.out⟩
end Go.Proofs.YtknjejejkgihbaaDoor.bitc
