/-
  The program's names of files, and the numbers of them.
-/
import Derived.Test.YtmegkemileailaaGreatDoorLgLaid
import Derived.Test.YtmegkemileailaaGreatDoorLg
import Derived.Test.YtmegkemileailaaGreatDoorClR
import Derived.Lib.AtoiErrMem
import Derived.Lib.AtoiBound
namespace Go.Proofs.YtmegkemileailaaGreatDoor.lg
open Go.ChangeShapes Go.WideShapes Go.ChangeAt Go.RowKit plain words ord mem al cl uvs

/-- the library's variables lie as they are laid -/
structure LayS (w : World) : Prop where
  tab : Lib.TabIs Tryz.prog w "internal/strconv.uint64pow10" .u64 Lib.pow10Tab
  err : ∃ tp p, w.var? Tryz.prog "strconv.ErrSyntax" = some #[.iface tp p]
theorem var_below {P : Program} {w w' : World} {n : String} {cs : Array Value} (h : w.var? P n = some cs) (hb : Below w.heap.size w w') : w'.var? P n = some cs := by
  unfold World.var? at h ⊢
  cases hg : P.globalNamed n with
  | none => simp [hg] at h
  | some g =>
    simp only [hg, Option.bind_some] at h ⊢
    have hlt : g < w.heap.size := by
      rcases Nat.lt_or_ge g w.heap.size with h' | h'
      · exact h'
      · simp [Array.getElem?_eq_none h'] at h
    rw [hb.block g hlt]
    exact h
theorem LayS.below {w w' : World} (h : LayS w) (hb : Below w.heap.size w w') : LayS w' :=
  ⟨var_below h.tab hb, by obtain ⟨tp, p, e⟩ := h.err; exact ⟨tp, p, var_below e hb⟩⟩
theorem LayS.drew {w : World} (h : LayS w) : LayS w.drew := ⟨h.tab, h.err⟩
theorem tx_add (a b : By) : (⟨a.toArray⟩ : ByteArray) ++ ⟨b.toArray⟩ = tx (a ++ b) := by
  unfold tx
  apply ByteArray.ext
  simp
theorem itoa_nat (n : Nat) : Lib.itoa (n : Int) = Lib.decDigits n := Lib.itoa_nonneg n
theorem below_gr (w : World) (k : Nat) (os : Array Obj) : Below w.heap.size w (Go.Sort.grow (w.drewN k) os) :=
  ⟨rfl, rfl, rfl, by show w.heap.size ≤ (w.heap ++ os).size; rw [Array.size_append]; omega, fun j hj => by
    show (w.heap ++ os)[j]? = w.heap[j]?
    rw [Array.getElem?_append_left hj]⟩
set_option maxRecDepth 100000 in
theorem named_x (w : World) (h : LayS w) (n : Nat) (hn : n ≤ 9223372036854775807) :
    Calls Tryz.prog 41 #[.int .i64 n] w fun e w' => e = .returned (.string (tx (lname n))) ∧ Below w.heap.size w w' := by
  have HI := Lib.hid (Any.strconv_Itoa laysM171 (n : Int) (by omega) (by omega) w h.tab)
  have e1 : laysM171_ren.f 171 = 70 := by rfl
  rw [e1, itoa_nat] at HI
  have hx : (⟨#[108, 111, 103, 45]⟩ : ByteArray) ++ ⟨(Lib.decDigits n).toArray⟩ = tx (lname n) := tx_add pre (Lib.decDigits n)
  have HX := Lib.hid hx
  have hlim : ¬ 9223372036854775807 < 4 + (Lib.decDigits n).length := by
    have := ndig_le (n := n) (k := 19) (by omega) (by decide)
    rw [Lib.decDigits_length]; omega
  clear h e1 hx
  go_enter Tryz.func41, Tryz.ntmps41
  go_wp2_with (fail)
  refine HI.out.mono ?_
  rintro e w1 ⟨rfl, k, os, rfl⟩
  go_wp2_with (fail)
  go_ret
  exact ⟨by rw [← HX.out]; rfl, below_gr _ k os⟩
/-- what the program says of a name -/
def numV (s : By) : Value := .tuple #[.int .i64 ((numOf s).getD 0 : Nat), .bool (numOf s).isSome]
theorem numV_no {s : By} (h : numOf s = none) : numV s = .tuple #[.int .i64 0, .bool false] := by unfold numV; rw [h]; rfl
theorem pre_iff (s : By) : Lib.hasPrefix s [108, 111, 103, 45] = decide (s.take 4 = pre) := by
  unfold Lib.hasPrefix
  rw [Bool.eq_iff_iff, List.isPrefixOf_iff_prefix, decide_eq_true_iff, List.prefix_iff_eq_take]
  exact ⟨fun e => e.symm, fun e => e.symm⟩
theorem tx_neq (a b : By) : ((tx a).toList == (tx b).toList) = decide (a = b) := by
  have e : ∀ x : By, (tx x).toList = x := fun x => by unfold tx; simp [ByteArray.toList_mk]
  rw [e, e, Bool.eq_iff_iff]; simp
set_option maxRecDepth 100000 in
set_option maxHeartbeats 1000000 in
theorem numbered_x (w : World) (h : LayS w) (s : By) (hs : s.length ≤ 9223372036854775807) :
    Calls Tryz.prog 58 #[.string (tx s)] w fun e w' => e = .returned (numV s) ∧ Below w.heap.size w w' := by
  have HC := Lib.hid (Any.strings_CutPrefix lays103 (tx s) ⟨#[108, 111, 103, 45]⟩ w)
  have e1 : lays103_ren.f 103 = 88 := by rfl
  rw [e1, tx_list, show (⟨#[108, 111, 103, 45]⟩ : ByteArray).data.toList = [108, 111, 103, 45] from rfl, pre_iff] at HC
  have HL := Lib.hid h
  by_cases hp : s.take 4 = pre
  · have ht : Lib.trimPrefix s [108, 111, 103, 45] = s.drop 4 := by
      unfold Lib.trimPrefix
      rw [pre_iff, if_pos (by simpa using hp)]
      rfl
    rw [ht, show decide (s.take 4 = pre) = true by simpa using hp] at HC
    obtain ⟨d, hd⟩ : ∃ d, s.drop 4 = d := ⟨_, rfl⟩
    rw [hd, show (⟨d.toArray⟩ : ByteArray) = tx d from rfl] at HC
    obtain ⟨k, hk⟩ : ∃ k, d.length = k := ⟨_, rfl⟩
    have hsz := tx_size d
    rw [hk] at hsz
    have hkl : k ≤ 9223372036854775807 := by rw [← hk, ← hd, List.length_drop]; omega
    have HK := Lib.hid hk
    have HD := Lib.hid hd
    have HP := Lib.hid hp
    clear h ht e1 hk hd hp
    by_cases h9 : 9 < k
    · have i9 : (9 : Int) < (k : Int) := by omega
      have hno := numV_no (s := s) (by unfold numOf; rw [if_pos HP.out, HD.out, HK.out, if_pos h9])
      go_enter Tryz.func58, Tryz.ntmps58
      go_wp2_with (fail)
      refine HC.out.mono ?_
      rintro e w1 ⟨rfl, rfl⟩
      go_wp2_with (fail)
      go_ret2
      exact ⟨by rw [hno]; rfl, Below.refl _ _⟩
    · have i9 : ¬ (9 : Int) < (k : Int) := by omega
      cases ha : Lib.atoi d with
      | none =>
        obtain ⟨tp, p, hv⟩ := HL.out.err
        have HA := Lib.hid (Any.strconv_Atoi_err_var laysC172 (tx d) (by rw [hsz]; omega) (by rw [tx_list]; exact ha) tp p w hv)
        have e2 : laysC172_ren.f 172 = 89 := by rfl
        rw [e2] at HA
        have hno := numV_no (s := s) (by unfold numOf; rw [if_pos HP.out, HD.out, HK.out, if_neg h9, ha])
        clear ha hv e2
        go_enter Tryz.func58, Tryz.ntmps58
        go_wp2_with (fail)
        refine HC.out.mono ?_
        rintro e w1 ⟨rfl, rfl⟩
        go_wp2_with (fail)
        refine HA.out.mono ?_
        rintro e w1 ⟨N, rfl, _, _, hb⟩
        have HB := Lib.hid hb
        clear hb
        go_wp2_with (fail)
        go_ret2
        exact ⟨by rw [hno]; rfl, HB.out⟩
      | some m =>
        have HA := Lib.hid (Any.strconv_Atoi lays172 (tx d) m (by rw [hsz]; omega) (by rw [tx_list]; exact ha) w)
        have e2 : lays172_ren.f 172 = 89 := by rfl
        rw [e2] at HA
        have hbd := Lib.atoi_bound ha (by rw [HK.out]; omega)
        have HAT := Lib.hid ha
        clear ha e2
        by_cases hm1 : m < 1
        · have hno := numV_no (s := s) (by unfold numOf; rw [if_pos HP.out, HD.out, HK.out, if_neg h9, HAT.out]; exact if_pos hm1)
          go_enter Tryz.func58, Tryz.ntmps58
          go_wp2_with (fail)
          refine HC.out.mono ?_
          rintro e w1 ⟨rfl, rfl⟩
          go_wp2_with (fail)
          refine HA.out.mono ?_
          rintro e w1 ⟨rfl, t, rfl⟩
          have HB := Lib.hid (Lib.bytesWorld_below w1 (lays172_ren.t 5) t)
          go_wp2_with (fail)
          go_ret2
          exact ⟨by rw [hno]; rfl, HB.out⟩
        · obtain ⟨n, rfl⟩ : ∃ n : Nat, m = n := ⟨m.toNat, by omega⟩
          have HN := Lib.hid (fun w1 (h1 : LayS w1) => named_x w1 h1 n (by omega))
          have hnv : numOf s = if lname n = s then some n else none := by
            unfold numOf
            rw [if_pos HP.out, HD.out, HK.out, if_neg h9, HAT.out]
            show (if (n : Int) < 1 then none else if lname (n : Int).toNat = s then some (n : Int).toNat else none) = _
            rw [if_neg hm1, Int.toNat_natCast]
          have HNV := Lib.hid hnv
          have hq := tx_neq (lname n) s
          clear hnv
          cases hb : decide (lname n = s) with
          | true =>
            have hyes : numV s = .tuple #[.int .i64 (n : Nat), .bool true] := by unfold numV; rw [HNV.out, if_pos (by simpa using hb)]; rfl
            rw [hb] at hq
            have HY := Lib.hid hyes
            clear hb hyes
            go_enter Tryz.func58, Tryz.ntmps58
            go_wp2_with (fail)
            refine HC.out.mono ?_
            rintro e w1 ⟨rfl, rfl⟩
            go_wp2_with (fail)
            refine HA.out.mono ?_
            rintro e w2 ⟨rfl, t, rfl⟩
            have HB := Lib.hid (Lib.bytesWorld_below w1 (lays172_ren.t 5) t)
            have HN2 := Lib.hid (HN.out _ (HL.out.below HB.out))
            go_wp2_with (fail)
            refine HN2.out.mono ?_
            rintro e w3 ⟨rfl, hb3⟩
            have HB3 := Lib.hid (HB.out.trans (hb3.mono HB.out.size))
            clear hb3
            go_wp2_with (fail)
            go_ret2
            exact ⟨by rw [HY.out]; rfl, HB3.out⟩
          | false =>
            have hno := numV_no (s := s) (by rw [HNV.out, if_neg (by simpa using hb)])
            rw [hb] at hq
            have HY := Lib.hid hno
            clear hb hno
            go_enter Tryz.func58, Tryz.ntmps58
            go_wp2_with (fail)
            refine HC.out.mono ?_
            rintro e w1 ⟨rfl, rfl⟩
            go_wp2_with (fail)
            refine HA.out.mono ?_
            rintro e w2 ⟨rfl, t, rfl⟩
            have HB := Lib.hid (Lib.bytesWorld_below w1 (lays172_ren.t 5) t)
            have HN2 := Lib.hid (HN.out _ (HL.out.below HB.out))
            go_wp2_with (fail)
            refine HN2.out.mono ?_
            rintro e w3 ⟨rfl, hb3⟩
            have HB3 := Lib.hid (HB.out.trans (hb3.mono HB.out.size))
            clear hb3
            go_wp2_with (fail)
            go_ret2
            exact ⟨by rw [HY.out]; rfl, HB3.out⟩
  · have hno := numV_no (s := s) (by unfold numOf; rw [if_neg hp])
    rw [show decide (s.take 4 = pre) = false by simpa using hp] at HC
    obtain ⟨d, hd⟩ : ∃ d, Lib.trimPrefix s [108, 111, 103, 45] = d := ⟨_, rfl⟩
    rw [hd, show (⟨d.toArray⟩ : ByteArray) = tx d from rfl] at HC
    clear h e1 hd
    go_enter Tryz.func58, Tryz.ntmps58
    go_wp2_with (fail)
    refine HC.out.mono ?_
    rintro e w1 ⟨rfl, rfl⟩
    go_wp2_with (fail)
    go_ret2
    exact ⟨by rw [hno]; rfl, Below.refl _ _⟩
end Go.Proofs.YtmegkemileailaaGreatDoor.lg
