/-
  The walk of the law BitsLengths.
-/
import Derived.Test.YtnjhdifnjkcmcaaUvCodeY
import Derived.Deep.DeepCutAuto
namespace Go.Proofs.Ytnjhdifnjkcmcaa.lawBitsLengths
open Go.ChangeShapes Go.WideShapes Go.ChangeAt Go.RowKit plain words uvs uvc

def RetB (w : World) (Y : List UInt8) (L : Nat) (e : Ending) (w' : World) : Prop :=
  ∃ A cap, e = .returned (.slice A L cap) ∧ w'.ownsRow w.heap.size 5 1 (.slice A L cap) L (u8s Y) ∧ Below w.heap.size w w'
theorem uvarint_xl (w : World) (B n c : Nat) (A : Option Addr) (bs : List UInt8) (v : Nat) (h : Bs w B A n bs) (hB : B ≤ w.heap.size) (hn : n ≤ 1099511627776) (hv : lt64 v) (Y : List UInt8) (L : Nat) (hY : bs ++ uv v = Y) (hL : Y.length = L) :
    Calls Try.prog 15 #[.slice A n c, .int .u64 v] w (RetB w Y L) := by subst hY; subst hL; exact uvarint_x w B n c A bs v h hB hn hv

/-- all numbers' bytes, one behind the other *-/
def uvl (l : List Nat) : List UInt8 := l.flatMap uv
theorem uvl_app (a b : List Nat) : uvl (a ++ b) = uvl a ++ uvl b := by simp [uvl]
theorem uvl_one (v : Nat) : uvl [v] = uv v := by simp [uvl]
theorem uvl_len (l : List Nat) : (uvl l).length ≤ 10 * l.length := by
  induction l with
  | nil => simp [uvl]
  | cons v l ih =>
    have := uv_len v
    show (uv v ++ uvl l).length ≤ _
    rw [List.length_append, List.length_cons]; omega
/-- how many groups of seven bits a number has *-/
theorem uvf_len_big (f v : Nat) (h : 128 ≤ v) : (uvf (f + 1) v).length = 1 + (uvf f (v / 128)).length := by
  rw [uvf_big f v h, List.length_cons, Nat.add_comm]
def cnt (f v : Nat) : Nat := if v = 0 then 0 else (uvf f v).length
theorem cnt_start (v : Nat) : 1 + cnt 8 (v / 128) = (uv v).length := by
  unfold cnt uv
  by_cases h : v < 128
  · rw [if_pos (by omega), uvf_small _ _ h]; rfl
  · rw [if_neg (by omega), uvf_len_big 8 v (by omega)]
theorem cnt_step (f v : Nat) (h0 : 0 < v) (hf : v < 128 ^ (f + 1)) : ∃ f', cnt f v = 1 + cnt f' (v / 128) ∧ v / 128 < 128 ^ (f' + 1) := by
  by_cases h : v < 128
  · refine ⟨0, ?_, by have : v / 128 = 0 := by omega
                      rw [this]; simp⟩
    unfold cnt
    rw [if_neg (by omega), if_pos (by omega), uvf_small _ _ h]; rfl
  · cases f with
    | zero => simp at hf; omega
    | succ f =>
      refine ⟨f, ?_, div_pow hf⟩
      unfold cnt
      rw [if_neg (by omega), if_neg (by omega), uvf_len_big f v (by omega)]
theorem div_bd (v : Nat) (h : lt64 v) : IntKind.u64.wrap ((v : Int) / 128) = ((v / 128 : Nat) : Int) ∧ ((v / 128 : Nat) : Int) ≤ 144115188075855871 := by
  unfold lt64 at h
  rw [IntKind.wrap_u64]; omega
theorem div_start (v : Nat) (h : lt64 v) : v / 128 < 128 ^ (8 + 1) := by
  unfold lt64 at h
  have : (128 : Nat) ^ 9 = 9223372036854775808 := by decide
  rw [this]; omega

theorem uv300 (w : World) : Calls Try.prog 15 #[.slice none 0 0, .int .u64 300] w (RetB w (uv 300) 2) :=
  uvarint_xl w 0 0 0 none [] 300 (Rd.nil _ _ _) (Nat.zero_le _) (by omega) (by unfold lt64; omega) (uv 300) 2 rfl rfl
set_option maxHeartbeats 2000000 in
set_option maxRecDepth 100000 in
theorem walk_core (a0 : Option Addr) (n c : Nat) (vs : List Nat) (w : World) (h : Rd w w.heap.size a0 n (u64s vs)) (hlen : vs.length = n) (hvs : ∀ v ∈ vs, lt64 v) (hn' : n ≤ 1024) :
    Calls Try.prog 3 #[.slice a0 n c] w fun e w' => e = .returned (.bool true) ∧ Below w.heap.size w w' := by
  have HLEN := Lib.hid hlen
  have HVS := Lib.hid hvs
  clear hlen hvs
  go_enter Try.func3, Try.ntmps3
  go_wp2
  go_loopw [3, 4] (fun b i wr => ∃ (k L cap : Nat) (A : Option Addr), k ≤ n ∧ i = .int .i64 k ∧ b = .slice A L cap ∧ Bs wr wr.heap.size A L (uvl (vs.take k)) ∧ L ≤ 10 * k ∧ L ≤ cap ∧ cap ≤ 9223372036854775807 ∧ Below w.heap.size w wr) (fun _ i _ => n - (intOf i).toNat)
  case atStart => exact ⟨0, 0, 0, _, Nat.zero_le _, rfl, rfl, Rd.nil _ _ _, Nat.le_refl _, Nat.le_refl _, by omega, (Below.refl _ _).alloc (Nat.le_refl _) _⟩
  case round =>
    obtain ⟨k, L, cap, A, hk, rfl, rfl, hbs, hL, hLc, hcm, hbel⟩ := hrel
    by_cases hlt : k < n
    · obtain ⟨b, off, vv, rfl, hbB, hv, hc⟩ := (h.below hbel (Nat.le_refl _)).at_ k hlt
      obtain ⟨v, hvg, rfl⟩ : ∃ v, vs[k]? = some v ∧ vv = .int .u64 (v : Int) := by
        unfold u64s at hv
        rw [List.getElem?_map] at hv
        cases hg : vs[k]? with
        | none => rw [hg] at hv; cases hv
        | some v => rw [hg] at hv; cases hv; exact ⟨v, rfl, rfl⟩
      have hv64 : lt64 v := HVS.out v (List.mem_of_getElem? hvg)
      have htk : uvl (vs.take (k + 1)) = uvl (vs.take k) ++ uv v := by rw [take_succ_of hvg, uvl_app, uvl_one]
      have HTK := Lib.hid htk
      have hst := cnt_start v
      have hds := div_start v hv64
      have hul := uv_len v
      have hcs : wr.heap.size ≤ wr.heap.size := Nat.le_refl _
      clear htk hv hvg
      obtain ⟨Y, hY⟩ : ∃ Y, uvl (vs.take k) ++ uv v = Y := ⟨_, rfl⟩
      obtain ⟨M, hM⟩ : ∃ M, Y.length = M := ⟨_, rfl⟩
      obtain ⟨U, hU⟩ : ∃ U, (uv v).length = U := ⟨_, rfl⟩
      have hLM : M = L + U := by rw [← hM, ← hY, List.length_append, Bs.len_ hbs, hU]
      rw [hU] at hst hul
      have HY := Lib.hid hY
      have HM := Lib.hid hM
      have HU := Lib.hid hU
      have HLM := Lib.hid hLM
      have hq := div_bd v hv64
      obtain ⟨q, hqe⟩ : ∃ q, v / 128 = q := ⟨_, rfl⟩
      rw [hqe] at hst hds hq
      obtain ⟨hq1, hq2⟩ := hq
      have HST := Lib.hid hst
      have HDS := Lib.hid hds
      clear hY hM hU hst hds hLM hqe
      go_wp2_with fail
      refine (uvarint_xl _ _ L cap A _ v hbs (Nat.le_refl _) (by omega) hv64 Y M HY.out HM.out).mono ?_
      rintro e w2 ⟨A2, cap2, rfl, hown2, hb2⟩
      have hbel2 := below_step hbel hb2
      have hc2 : w2.cell? ⟨b, off + k, none⟩ = some (.int .u64 (v : Int)) := (hb2.cell (p := ⟨b, off + k, none⟩) (by have := hbel.size; simp only; omega)).trans hc
      go_wp2_with fail
      have hown2' := own_bs hown2
      have hoc := own_cap hown2
      clear hown2 hbs hc hc2
      go_loop [6, 7] (fun x y => ∃ (a f q' : Nat), x = .int .i64 a ∧ y = .int .u64 (q' : Int) ∧ (q' : Int) ≤ 144115188075855871 ∧ a + cnt f q' = U ∧ q' < 128 ^ (f + 1)) (fun _ y => (intOf y).toNat)
      case atStart => exact ⟨1, 8, q, rfl, rfl, hq2, HST.out, HDS.out⟩
      case round =>
        obtain ⟨a, f, q', rfl, rfl, hq', hcnt, hqf⟩ := hrel
        have HCNT := Lib.hid hcnt
        have HQF := Lib.hid hqf
        have ha : a ≤ 10 := by omega
        clear hcnt hqf hq1 hq2
        by_cases h0 : 0 < q'
        · obtain ⟨f', hf1, hf2⟩ := cnt_step f q' h0 HQF.out
          have hfin : a + 1 + cnt f' (q' / 128) = U := by have := HCNT.out; omega
          have HF1 := Lib.hid hfin
          have HF2 := Lib.hid hf2
          clear hf1 hf2 hfin
          have h0' : (0 : Int) < (q' : Int) := by omega
          go_wp2_with fail
          go_round
          case rel => exact ⟨a + 1, f', q' / 128, by go_num, by go_num, by omega, HF1.out, HF2.out⟩
          case measure => simp [intOf]; omega
        · have h0' : ¬ (0 : Int) < (q' : Int) := by omega
          have haU : a = U := by have := HCNT.out; unfold cnt at this; rw [if_pos (by omega)] at this; omega
          subst haU
          have hML := HLM.out
          have hne : ((M : Int) != (L : Int) + (a : Int)) = false := by simp; omega
          have hne2 : ((M : Int) == (L : Int) + (a : Int)) = true := by simp; omega
          clear hML
          go_wp2_with fail
          go_roundw
          case rel => exact ⟨k + 1, M, cap2, A2, by omega, by go_num, rfl, by rw [HTK.out, HY.out]; exact hown2', by have := HLM.out; omega, hoc.1, hoc.2, hbel2⟩
          case measure => simp [intOf]; omega
    · have hkn : k = n := by omega
      subst hkn
      rw [take_all (by rw [HLEN.out]; exact Nat.le_refl _)] at hbs
      have hrd := h.below hbel (Nat.le_refl _)
      have HB := Lib.hid hbs
      clear hbs h
      go_wp2_with fail
      go_loop [3, 8] (fun b i => ∃ (j L cap : Nat) (A : Option Addr), j ≤ k ∧ i = .int .i64 j ∧ b = .slice A L cap ∧ Bs wr wr.heap.size A L (uvl (vs.drop j)) ∧ L ≤ cap ∧ cap ≤ 9223372036854775807) (fun _ i => k - (intOf i).toNat)
      case atStart => exact ⟨0, L, cap, A, Nat.zero_le _, rfl, rfl, HB.out, hLc, hcm⟩
      case round =>
        clear HB hL hLc hcm
        obtain ⟨j, L, cap, A, hj, rfl, rfl, hbs, hLc, hcm⟩ := hrel
        by_cases hlt : j < k
        · obtain ⟨b, off, vv, rfl, hbB, hv, hc⟩ := hrd.at_ j hlt
          obtain ⟨v, hvg, rfl⟩ : ∃ v, vs[j]? = some v ∧ vv = .int .u64 (v : Int) := by
            unfold u64s at hv
            rw [List.getElem?_map] at hv
            cases hg : vs[j]? with
            | none => rw [hg] at hv; cases hv
            | some v => rw [hg] at hv; cases hv; exact ⟨v, rfl, rfl⟩
          have hv64 : lt64 v := HVS.out v (List.mem_of_getElem? hvg)
          have hdr : uvl (vs.drop j) = uv v ++ uvl (vs.drop (j + 1)) := by
            obtain ⟨hk', rfl⟩ := List.getElem?_eq_some_iff.1 hvg
            rw [List.drop_eq_getElem_cons hk']; rfl
          have hul := uv_len v
          obtain ⟨U, hU⟩ : ∃ U, (uv v).length = U := ⟨_, rfl⟩
          have hLU : U ≤ L := by have := Bs.len_ hbs; rw [hdr, List.length_append] at this; omega
          obtain ⟨b2, off2, _, rfl, _, _, _⟩ := Bs.get hbs (show 0 < L from by omega)
          have hcut := bs_cut hbs hLU hLc
          rw [hdr, show (uv v ++ uvl (vs.drop (j + 1))).drop U = uvl (vs.drop (j + 1)) from by rw [← hU, List.drop_left]] at hcut
          have hL10 : L ≤ 1099511627776 := by
            have h1 := Bs.len_ hbs
            have h2 := uvl_len (vs.drop j)
            rw [List.length_drop, HLEN.out] at h2
            omega
          rw [hU] at hul
          have hru := ru_uv v (uvl (vs.drop (j + 1))) hv64
          rw [← hdr, hU] at hru
          have HRU := Lib.hid hru
          have hi1 : (1 : Int) ≤ (U : Int) := by omega
          have hi2 : (U : Int) ≤ (L : Int) := by omega
          clear hru hdr hU hv hvg
          go_wp2_with fail
          refine (readuv_x _ _ L cap _ _ hbs hL10).mono ?_
          rintro e w2 ⟨he, rfl⟩
          unfold RetNum at he
          rw [HRU.out] at he
          subst he
          clear hbs
          by_cases hcU : cap = U
          · subst hcU
            have HC := Lib.hid hcut
            clear hcut
            go_wp2_with fail
            go_round
            case rel => exact ⟨j + 1, 0, 0, _, by omega, by go_num, rfl, by have h := HC.out; rw [if_pos trivial, show L - cap = 0 from by omega] at h; exact h, Nat.le_refl _, by omega⟩
            case measure => simp [intOf]; omega
          · rw [if_neg hcU] at hcut
            have HC := Lib.hid hcut
            clear hcut
            go_wp2_with fail
            go_round
            case rel => exact ⟨j + 1, L - U, cap - U, _, by omega, by go_num, rfl, HC.out, by omega, by omega⟩
            case measure => simp [intOf]; omega
        · have hjk : j = k := by omega
          subst hjk
          rw [List.drop_of_length_le (by rw [HLEN.out]; exact Nat.le_refl _)] at hbs
          have hL0 : L = 0 := (Bs.len_ hbs).symm
          subst hL0
          go_wp2_with fail
          refine (readuv_x _ _ 0 cap _ _ hbs (by omega)).mono ?_
          rintro e w2 ⟨he, rfl⟩
          unfold RetNum at he
          rw [show ru (uvl []) 0 0 = (0, 0) from rfl] at he
          subst he
          clear hbs
          go_wp2_with fail
          refine (uv300 _).mono ?_
          rintro e w2 ⟨A2, cap2, rfl, hown2, hb2⟩
          go_wp2_with fail
          refine (readuv_x _ _ 2 cap2 _ _ (own_bs hown2) (by omega)).mono ?_
          rintro e w3 ⟨he, rfl⟩
          unfold RetNum at he
          rw [show ru (uv 300) 0 0 = (300, 2) from rfl] at he
          subst he
          go_wp2_with fail
          go_ret
          exact ⟨rfl, below_step hbel hb2⟩

theorem walk_ok (a0 : Option Addr) (len0 cap0 : Nat) (z0 : List Int) (w : World) (w0 : IsRow .u64 w a0 len0 cap0 z0) :
    Calls Try.prog 3 #[.slice a0 len0 cap0] w fun e w' => e = .returned (.bool true) ∧ Below w.heap.size w w' := by
  obtain ⟨vs, hr, hl, hv, hm, hc, hA⟩ := w0.u64s
  unfold maxLen at hm hc
  by_cases h1 : len0 ≤ 1024
  · exact walk_core a0 len0 cap0 vs w hr hl hv h1
  · go_enter Try.func3, Try.ntmps3
    go_wp2_with fail
    go_ret
    exact ⟨rfl, Below.refl _ _⟩
end Go.Proofs.Ytnjhdifnjkcmcaa.lawBitsLengths
