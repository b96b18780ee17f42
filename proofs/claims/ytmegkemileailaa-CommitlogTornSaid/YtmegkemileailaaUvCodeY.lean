/-
  The document's ReadUvarint.
-/
import Derived.Test.YtmegkemileailaaUvCode
namespace Go.Proofs.Ytmegkemileailaa.uvc
open Go.ChangeShapes Go.WideShapes Go.ChangeAt Go.RowKit plain words uvs

theorem bits_u64_bd (op : BinOp) (a b : Int) : 0 ≤ bits op .u64 a b ∧ bits op .u64 a b < 18446744073709551616 := by
  have h : ∀ z : Int, 0 ≤ IntKind.u64.wrap z ∧ IntKind.u64.wrap z < 18446744073709551616 := fun z => by rw [IntKind.wrap_u64]; omega
  unfold bits
  exact h _
theorem str_eq (a b : List UInt8) : (a = b → ((⟨a.toArray⟩ : ByteArray).toList == (⟨b.toArray⟩ : ByteArray).toList) = true) := by
  intro h; subst h; simp
theorem uvarint_y0 (w : World) (V : Nat) (h : lt64 V) : Calls Try.prog 17 #[.slice none 0 0, .int .u64 V] w (RetBytes w (uv V)) :=
  uvarint_y w 0 0 0 none [] V (Rd.nil _ _ _) (fun _ => rfl) (Nat.zero_le _) (by omega) h
set_option maxHeartbeats 1000000 in
set_option maxRecDepth 100000 in
theorem readuv_y (w : World) (B n c : Nat) (A : Option Addr) (bs : List UInt8) (h : Bs w B A n bs) (hB : B ≤ w.heap.size) (hnc : n ≤ c) (hcm : c ≤ 9223372036854775807) (hn : n ≤ 1099511627776) :
    Calls Try.prog 24 #[.slice A n c] w fun e w' => RetNum (ru bs 0 0) e ∧ Below w.heap.size w w' := by
  have hlen := h.len_
  have HLEN := Lib.hid hlen
  clear hlen
  go_enter Try.func24, Try.ntmps24
  go_wp2
  go_loop [4, 5] (fun x i => ∃ (k : Nat) (V : Int), k ≤ n ∧ i = .int .i64 k ∧ x = .int .u64 V ∧ (k ≤ 9 ∧ (∃ acc : Nat, V = acc ∧ acc < 128 ^ k ∧ ru bs 0 0 = ru (bs.drop k) k acc) ∨ k = 10 ∧ ru bs 0 0 = (0, 0))) (fun _ i => n - (intOf i).toNat)
  case atStart => exact ⟨0, 0, Nat.zero_le _, rfl, rfl, .inl ⟨by omega, 0, rfl, by simp, rfl⟩⟩
  case round =>
    obtain ⟨k, V, hk, rfl, rfl, hkc⟩ := hrel
    by_cases hin : k < n ∧ k < 10
    · obtain ⟨hlt, hk10⟩ := hin
      rcases hkc with ⟨hk9, acc, rfl, hacc, hru⟩ | ⟨hk9, _⟩
      · have HRU := Lib.hid hru
        have HACC := Lib.hid hacc
        clear hru hacc
        obtain ⟨b, off, ch, rfl, _, hg, hc⟩ := Bs.get h hlt
        have hdrop : bs.drop k = ch :: bs.drop (k + 1) := by
          obtain ⟨hk', rfl⟩ := List.getElem?_eq_some_iff.1 hg
          exact List.drop_eq_getElem_cons hk'
        have HD := Lib.hid hdrop
        clear hdrop hg
        have hch := ch.toNat_lt
        have h7 : (7 : Int) * (k : Int) < 64 := by omega
        by_cases h128 : 128 ≤ ch.toNat
        · have hi1 : (128 : Int) ≤ (ch.toNat : Int) := by omega
          have hnext : (k + 1 ≤ 9 ∧ (∃ acc' : Nat, bits .or .u64 (acc : Int) (IntKind.u64.wrap ((ch.toNat : Int) % 128 * 2 ^ (7 * k))) = acc' ∧ acc' < 128 ^ (k + 1) ∧ ru bs 0 0 = ru (bs.drop (k + 1)) (k + 1) acc') ∨ k + 1 = 10 ∧ ru bs 0 0 = (0, 0)) := by
            by_cases e9 : k = 9
            · refine .inr ⟨by omega, ?_⟩
              rw [HRU.out, HD.out]
              simp only [ru]
              rw [if_pos ⟨e9, by omega⟩]
            · refine .inl ⟨by omega, acc + ch.toNat % 128 * 128 ^ k, ?_, ?_, ?_⟩
              · rw [show ((ch.toNat : Int) % 128) = ((ch.toNat % 128 : Nat) : Int) from by omega]
                exact step_or k acc (ch.toNat % 128) hk9 HACC.out (by omega) (by omega)
              · have := pow_succ' k
                have h2 : ch.toNat % 128 * 128 ^ k ≤ 127 * 128 ^ k := Nat.mul_le_mul_right _ (by omega)
                have := HACC.out
                omega
              · rw [HRU.out, HD.out]
                simp only [ru]
                rw [if_neg (by omega), if_pos h128]
          have HNEXT := Lib.hid hnext
          clear hnext h
          go_wp2_with fail
          go_round
          case rel => exact ⟨k + 1, _, by omega, by go_num, rfl, HNEXT.out⟩
          case measure => simp [intOf]; omega
        · have hi1 : (ch.toNat : Int) < 128 := by omega
          have hvb := bits_u64_bd .or (acc : Int) (IntKind.u64.wrap ((ch.toNat : Int) % 128 * 2 ^ (7 * k)))
          obtain ⟨V, hV⟩ : ∃ V : Nat, bits .or .u64 (acc : Int) (IntKind.u64.wrap ((ch.toNat : Int) % 128 * 2 ^ (7 * k))) = (V : Int) := ⟨_, (Int.toNat_of_nonneg hvb.1).symm⟩
          rw [hV] at hvb
          have hVl : V < 18446744073709551616 := by omega
          have htake : (bs.take (k + 1)).length = k + 1 := by rw [List.length_take, HLEN.out]; omega
          have hbk := h.less (m := k + 1) (by omega)
          rw [show (u8s bs).take (k + 1) = u8s (bs.take (k + 1)) from by simp [u8s, List.map_take]] at hbk
          have hres : (ru bs 0 0 = (V, k + 1) ∧ uv V = bs.take (k + 1)) ∨ (ru bs 0 0 = (0, 0) ∧ uv V ≠ bs.take (k + 1)) := by
            have hz : ru bs 0 0 = (0, 0) → uv V ≠ bs.take (k + 1) := fun h0 he => by
              have h1 := ru_uv V (bs.drop (k + 1)) hVl
              rw [he, List.take_append_drop, h0, htake] at h1
              simp at h1
            by_cases h9 : k = 9 ∧ 1 < ch.toNat
            · have h0 : ru bs 0 0 = (0, 0) := by
                rw [HRU.out, HD.out]
                simp only [ru]
                rw [if_pos h9]
              exact .inr ⟨h0, hz h0⟩
            · by_cases h0' : ch.toNat = 0 ∧ 0 < k
              · have h0 : ru bs 0 0 = (0, 0) := by
                  rw [HRU.out, HD.out]
                  simp only [ru]
                  rw [if_neg h9, if_neg h128, if_pos h0']
                exact .inr ⟨h0, hz h0⟩
              · have hend : ru bs 0 0 = (acc + ch.toNat * 128 ^ k, k + 1) := by
                  rw [HRU.out, HD.out]
                  simp only [ru]
                  rw [if_neg h9, if_neg h128, if_neg h0']
                have hso := step_or k acc (ch.toNat % 128) (by omega) HACC.out (by omega) (by omega)
                rw [show ((ch.toNat : Int) % 128) = ((ch.toNat % 128 : Nat) : Int) from by omega] at hV
                rw [hV, show ch.toNat % 128 = ch.toNat from by omega] at hso
                have hVn : V = acc + ch.toNat * 128 ^ k := by omega
                rw [← hVn] at hend
                exact .inl ⟨hend, (ru_back0 bs V (k + 1) hend (by omega)).2.2.symm⟩
          have HRES := Lib.hid hres
          have hkc : ((k : Int) + 1) ≤ (c : Int) := by omega
          clear hres hvb htake
          have hVl' : lt64 V := hVl
          clear hVl
          have hkeep : ∀ w', Below w.heap.size w w' → (Below w.heap.size w w' ∧ (convert 22 9 (.slice (some ⟨b, off, none⟩) (k + 1) c)).run Try.prog w' = .ok (.string ⟨(bs.take (k + 1)).toArray⟩) w') := fun w' hb =>
            ⟨hb, conv_string (hbk.below hb hB) _ _ 5 Try.underlying22 Try.underlying9 Try.underlying5⟩
          have HK := Lib.hid hkeep
          have h0 := hkeep w (Below.refl _ _)
          have hVL' : lt64 V := hVl'
          have hk1 : ((k : Int) + 1).toNat = k + 1 := by omega
          have hk2 : IntKind.i64.wrap ((k : Int) + 1) = (k : Int) + 1 := IntWalk.i64_in _ (by omega)
          have hk3 : (0 : Int) ≤ (k : Int) + 1 := by omega
          clear hkeep hbk h
          go_wp2_with fail
          have h00 := (HK.out _ (Below.refl _ _).drew).2
          go_region_with (go_at_call 17; refine (uvarint_y0 _ V hVL').mono ?_; rintro e w' ⟨A', cap', rfl, hown', hb'⟩; have hbx := below_step ((Below.refl _ _).drew) hb'; have hcs := conv_string (P := Try.prog) (c := cap') (own_bs hown') 22 9 5 Try.underlying22 Try.underlying9 Try.underlying5; have hck := (HK.out _ hbx).2)
          all_goals
            go_wp2_with fail
            · have hh : (!uv V == List.take (k + 1) bs) = true := by assumption
              go_ret2
              refine ⟨?_, by assumption⟩
              rcases HRES.out with ⟨hr, he⟩ | ⟨hr, he⟩
              · rw [he] at hh; simp at hh
              · unfold RetNum; rw [hr]; rfl
            · have hh : (!uv V == List.take (k + 1) bs) = false := by assumption
              go_ret2
              refine ⟨?_, by assumption⟩
              rcases HRES.out with ⟨hr, he⟩ | ⟨hr, he⟩
              · unfold RetNum; rw [hr]; rfl
              · exact absurd (by simpa using hh) he
      · omega
    · have hend : ru bs 0 0 = (0, 0) := by
        rcases hkc with ⟨h9, acc, rfl, hacc, hru⟩ | ⟨_, h0⟩
        · rw [hru, List.drop_of_length_le (by have := HLEN.out; omega)]; rfl
        · exact h0
      have HEND := Lib.hid hend
      clear hend hkc h
      by_cases hkn : k < n
      · have hi1 : ¬ (k : Int) < 10 := by omega
        have hi2 : (k : Int) < (n : Int) := by omega
        go_wp2_with fail
        go_ret2
        exact ⟨by unfold RetNum; rw [HEND.out]; rfl, Below.refl _ _⟩
      · have hi2 : ¬ (k : Int) < (n : Int) := by omega
        go_wp2_with fail
        go_ret2
        exact ⟨by unfold RetNum; rw [HEND.out]; rfl, Below.refl _ _⟩
end Go.Proofs.Ytmegkemileailaa.uvc
