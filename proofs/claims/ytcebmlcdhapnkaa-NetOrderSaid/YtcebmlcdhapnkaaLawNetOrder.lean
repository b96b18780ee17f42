/-
  The walk of the law NetOrder.
-/
import Derived.Test.YtcebmlcdhapnkaaNetRemove
import Derived.Test.YtcebmlcdhapnkaaBRows
namespace Go.Proofs.Ytcebmlcdhapnkaa.lawNetOrder
open Go.ChangeShapes Go.WideShapes Go.ChangeAt Go.RowKit plain words ord mem net

/-- the packets that are sent of a list, numbered from i on *-/
def pend : Nat → List (List UInt8) → List Msg
  | _, [] => []
  | i, b :: ls => if 32768 < b.length then pend (i + 1) ls else ((i : Int), -(i : Int), b) :: pend (i + 1) ls
theorem pend_append (i : Nat) (a b : List (List UInt8)) : pend i (a ++ b) = pend i a ++ pend (i + a.length) b := by
  induction a generalizing i with
  | nil => simp [pend]
  | cons x a ih =>
    have e : i + 1 + a.length = i + (a.length + 1) := by omega
    simp only [List.cons_append, pend, List.length_cons, ih, e]
    split <;> simp
theorem pend_len (i : Nat) (a : List (List UInt8)) : (pend i a).length ≤ a.length := by
  induction a generalizing i with
  | nil => simp [pend]
  | cons x a ih =>
    simp only [pend]
    have := ih (i + 1)
    split <;> simp <;> omega
theorem pend_take {ls : List (List UInt8)} {k : Nat} {b : List UInt8} (h : ls[k]? = some b) : pend 0 (ls.take (k + 1)) = if 32768 < b.length then pend 0 (ls.take k) else pend 0 (ls.take k) ++ [((k : Int), -(k : Int), b)] := by
  have hk : k < ls.length := by
    rcases Nat.lt_or_ge k ls.length with h1 | h1
    · exact h1
    · rw [List.getElem?_eq_none h1] at h; cases h
  rw [take_succ_of h, pend_append, Nat.zero_add, List.length_take, Nat.min_eq_left (by omega)]
  simp only [pend]
  split <;> simp
theorem pend_drop {ls : List (List UInt8)} {k : Nat} {b : List UInt8} (h : ls[k]? = some b) : pend k (ls.drop k) = if 32768 < b.length then pend (k + 1) (ls.drop (k + 1)) else ((k : Int), -(k : Int), b) :: pend (k + 1) (ls.drop (k + 1)) := by
  have hk : k < ls.length := by
    rcases Nat.lt_or_ge k ls.length with h1 | h1
    · exact h1
    · rw [List.getElem?_eq_none h1] at h; cases h
  have hd : ls.drop k = b :: ls.drop (k + 1) := by
    rw [List.drop_eq_getElem_cons hk]
    congr 1
    rw [List.getElem?_eq_getElem hk] at h
    injection h
  rw [hd]
  rfl

set_option maxHeartbeats 4000000 in
set_option maxRecDepth 100000 in
theorem walk_core (a0 : Option Addr) (n c : Nat) (ls : List (List UInt8)) (w : World) (h : BRows w w.heap.size a0 n ls) (hn : n ≤ 256) :
    Calls Try.prog 7 #[.slice a0 n c] w fun e w' => e = .returned (.bool true) ∧ Below w.heap.size w w' := by
  have HLEN := Lib.hid h.len
  obtain ⟨H0, hH0⟩ : ∃ H0, w.heap.size = H0 := ⟨_, rfl⟩
  rw [hH0] at h ⊢
  have HH0 := Lib.hid hH0
  have hn0 : ¬ (256 : Int) < (n : Int) := by omega
  clear hH0
  go_enter Try.func7, Try.ntmps7
  go_wp2_with (fail)
  refine (new_x _).mono ?_
  rintro e w1 ⟨rfl, hN, hb⟩
  rw [HH0.out] at hN hb ⊢
  have HN := Lib.hid hN
  have HB := Lib.hid hb
  have HS := Lib.hid hN.lt
  clear hN hb
  go_wp2_with (fail)
  go_loopw [4] (fun i wr => ∃ (k : Nat) (r : Option Nat), k ≤ n ∧ i = .int .i64 k ∧ IsNet wr H0 r (pend 0 (ls.take k)) ∧ (∀ g, r = some g → H0 ≤ g) ∧ Below H0 w wr) (fun i _ => n - (intOf i).toNat)
  case atStart => exact ⟨0, none, Nat.zero_le _, rfl, HN.out, (fun _ e => by cases e), HB.out⟩
  case round =>
    clear HN HB HS
    obtain ⟨k, r, hk, rfl, hN, hr, hbel⟩ := hrel
    by_cases hlt : k < n
    · obtain ⟨b, off, A, L, C, bs, rfl, hbB, hls, hcw, hbs, hA, hLC, hC⟩ := h.at_ k hlt
      unfold maxLen at hC
      have hc0 : wr.cell? ⟨b, off + k, none⟩ = some (.slice A L C) := (hbel.cell (p := ⟨b, off + k, none⟩) hbB).trans hcw
      have i1 : (0 : Int) ≤ (k : Int) := by omega
      have i2 : (k : Int) < (n : Int) := by omega
      have hl := hbs.len_
      have hP : (pend 0 (ls.take k)).length < 256 := by
        have h1 := pend_len 0 (ls.take k)
        have h2 : (ls.take k).length ≤ k := List.length_take_le _ _
        omega
      have hsend := send_x wr H0 r _ hN (k : Int) (-(k : Int)) H0 L C A bs (hbs.below hbel (Nat.le_refl _)) hA (by have := hbel.size; have := HH0.out; omega) (by omega)
      have hpt := pend_take hls
      have hsz := hbel.size
      by_cases hbig : 32768 < L
      · have hbig' : (32768 : Int) < (L : Int) := by omega
        rw [show sent (pend 0 (ls.take k)) ((k : Int), -(k : Int), bs) = (1, pend 0 (ls.take k)) from if_pos (by simp only [hl]; exact hbig)] at hsend
        rw [if_pos (by rw [hl]; exact hbig)] at hpt
        rw [← hpt] at hsend
        have HSEND := Lib.hid hsend
        clear hsend hpt hN hls hbs hP hl
        go_wp2_with (fail)
        refine HSEND.out.mono ?_
        rintro e w2 ⟨r', rfl, hN', hch, hr'⟩
        have hb2 : Below H0 w w2 := hbel.trans (hch.below (by have := HH0.out; omega) (fun q hq => by
          rcases hq with e | e
          · omega
          · exact hr q e.symm))
        have hr2 : ∀ g, r' = some g → H0 ≤ g := fun g hg => by
          rcases hr' with e | ⟨q, e, e2⟩
          · exact hr g (e ▸ hg)
          · rw [hg] at e; cases e; have := HH0.out; omega
        have HN' := Lib.hid hN'
        clear HSEND hN' hch hr' hc0 hcw
        go_wp2_with (fail)
        go_roundw
        case rel => exact ⟨k + 1, r', by omega, by go_num, HN'.out, hr2, hb2⟩
        case measure => simp [intOf]; omega
      · have hbig' : ¬ (32768 : Int) < (L : Int) := by omega
        rw [show sent (pend 0 (ls.take k)) ((k : Int), -(k : Int), bs) = (0, pend 0 (ls.take k) ++ [((k : Int), -(k : Int), bs)]) from (if_neg (by simp only [hl]; exact hbig)).trans (if_neg (by omega))] at hsend
        rw [if_neg (by rw [hl]; exact hbig)] at hpt
        rw [← hpt] at hsend
        have HSEND := Lib.hid hsend
        clear hsend hpt hN hls hbs hP hl
        go_wp2_with (fail)
        refine HSEND.out.mono ?_
        rintro e w2 ⟨r', rfl, hN', hch, hr'⟩
        have hb2 : Below H0 w w2 := hbel.trans (hch.below (by have := HH0.out; omega) (fun q hq => by
          rcases hq with e | e
          · omega
          · exact hr q e.symm))
        have hr2 : ∀ g, r' = some g → H0 ≤ g := fun g hg => by
          rcases hr' with e | ⟨q, e, e2⟩
          · exact hr g (e ▸ hg)
          · rw [hg] at e; cases e; have := HH0.out; omega
        have HN' := Lib.hid hN'
        clear HSEND hN' hch hr' hc0 hcw
        go_wp2_with (fail)
        go_roundw
        case rel => exact ⟨k + 1, r', by omega, by go_num, HN'.out, hr2, hb2⟩
        case measure => simp [intOf]; omega
    · have hkn : k = n := by omega
      subst hkn
      rw [take_all (by rw [HLEN.out]; exact Nat.le_refl _)] at hN
      have HN := Lib.hid hN
      clear hN
      obtain ⟨wo, rfl⟩ : ∃ wo : World, wo = wr := ⟨_, rfl⟩
      go_wp2_with (fail)
      go_loopw [6] (fun i wr => ∃ (j : Nat) (r : Option Nat), j ≤ k ∧ i = .int .i64 j ∧ IsNet wr H0 r (pend j (ls.drop j)) ∧ (∀ g, r = some g → H0 ≤ g) ∧ Below H0 w wr) (fun i _ => k - (intOf i).toNat)
      case atStart => exact ⟨0, r, Nat.zero_le _, rfl, HN.out, hr, hbel⟩
      case round =>
        clear HN hr hbel
        obtain ⟨j, r, hj, rfl, hN, hr, hbel⟩ := hrel
        have hsz := hbel.size
        by_cases hlt : j < k
        · obtain ⟨b, off, A, L, C, bs, rfl, hbB, hls, hcw, hbs, hA, hLC, hC⟩ := h.at_ j hlt
          unfold maxLen at hC
          have hc0 : wr.cell? ⟨b, off + j, none⟩ = some (.slice A L C) := (hbel.cell (p := ⟨b, off + j, none⟩) hbB).trans hcw
          have i1 : (0 : Int) ≤ (j : Int) := by omega
          have i2 : (j : Int) < (k : Int) := by omega
          have hl := hbs.len_
          have hpd := pend_drop hls
          have hpl : (pend j (ls.drop j)).length ≤ 1000000 := by
            have h1 := pend_len j (ls.drop j)
            have h2 : (ls.drop j).length ≤ k := by rw [List.length_drop, HLEN.out]; omega
            omega
          by_cases hbig : 32768 < L
          · have hbig' : (32768 : Int) < (L : Int) := by omega
            rw [if_pos (by rw [hl]; exact hbig)] at hpd
            rw [hpd] at hN
            have HN := Lib.hid hN
            clear hN hpd hls hbs hl hpl
            go_wp2_with (fail)
            go_roundw
            case rel => exact ⟨j + 1, r, by omega, by go_num, HN.out, hr, hbel⟩
            case measure => simp [intOf]; omega
          · have hbig' : ¬ (32768 : Int) < (L : Int) := by omega
            rw [if_neg (by rw [hl]; exact hbig)] at hpd
            rw [hpd] at hN hpl
            have htake : Calls Try.prog 16 #[.pointer (some ⟨H0, 0, none⟩), .int .i64 0] wr _ := take_x wr H0 r _ hN hpl 0 (j : Int) (-(j : Int)) bs rfl L hl
            have HT := Lib.hid htake
            have HBS := Lib.hid hbs
            clear htake hN hpd hls hbs hl hpl
            go_wp2_with (fail)
            refine HT.out.mono ?_
            rintro e w2 ⟨r', A', c', rfl, hown, hN', hch, hr'⟩
            simp only [List.eraseIdx_cons_zero] at hN'
            have hb2 : Below H0 w w2 := hbel.trans (hch.below (by have := HH0.out; omega) (fun q hq => by
              rcases hq with e | e
              · omega
              · exact hr q e.symm))
            have hr2 : ∀ g, r' = some g → H0 ≤ g := fun g hg => by
              rcases hr' with e | ⟨q, e, e2⟩
              · exact hr g (e ▸ hg)
              · rw [hg] at e; cases e; have := HH0.out; omega
            have hc2 : w2.cell? ⟨b, off + j, none⟩ = some (.slice A L C) := (hb2.cell (p := ⟨b, off + j, none⟩) hbB).trans hcw
            clear hch hr' hc0 HT
            go_wp2_with (fail)
            obtain ⟨w3, hw3⟩ : ∃ w3, w2.alloc (.cells #[.int .i64 j, .int .i64 (-(j : Int)), .slice A' L c'] 32) = w3 := ⟨_, rfl⟩
            have hb3 : Below w2.heap.size w2 w3 := by rw [← hw3]; exact (Below.refl _ _).alloc (Nat.le_refl _) _
            have g3 : w3.heap[w2.heap.size]? = some (.cells #[.int .i64 j, .int .i64 (-(j : Int)), .slice A' L c'] 32 (0, 0)) := by rw [← hw3]; exact alloc_new _ _
            rw [hw3]
            have hs2 : H0 ≤ w2.heap.size := by have := hb2.size; have := HH0.out; omega
            have hball : Below H0 w w3 := hb2.trans (hb3.mono hs2)
            have q0 := Wb.at_ (show w3.cell? ⟨w2.heap.size, 0, none⟩ = some (.int .i64 j) by rw [cell_of_row _ _ _ _ _ _ g3]; rfl)
            have q1 := Wb.at_ (show w3.cell? ⟨w2.heap.size, 1, none⟩ = some (.int .i64 (-(j : Int))) by rw [cell_of_row _ _ _ _ _ _ g3]; rfl)
            have q2 := Wb.at_ (show w3.cell? ⟨w2.heap.size, 2, none⟩ = some (.slice A' L c') by rw [cell_of_row _ _ _ _ _ _ g3]; rfl)
            have q3 := Wb.at_ ((hb3.cell (p := ⟨b, off + j, none⟩) (by show b < _; omega)).trans hc2)
            have k0 : ∀ u : Wb w3, (convert 28 9 (.slice A' L c')).run Try.prog u.w = .ok (.string ⟨bs.toArray⟩) u.w := fun u => conv_string (own_bs (own_keep (own_keep hown hb3 (Nat.le_refl _)) u.h (Nat.le_refl _))) 28 9 5 Try.underlying28 Try.underlying9 Try.underlying5
            have k1 : ∀ u : Wb w3, (convert 28 9 (.slice A L C)).run Try.prog u.w = .ok (.string ⟨bs.toArray⟩) u.w := fun u => conv_string (HBS.out.below (hball.trans (u.h.mono (by have := hb3.size; omega))) (Nat.le_refl _)) 28 9 5 Try.underlying28 Try.underlying9 Try.underlying5
            have HN3 := Lib.hid (hN'.below hb3)
            clear hw3 hown hN' g3 hc2
            refine wp_region_plan [([0, 1, 2, 3, 4, 5, 6, 7, 8, 9, 10, 11, 12, 13, 14, 15, 16, 17, 18, 19, 20, 21, 22, 23, 24, 25], none)] (by kernel_rfl) (by kernel_rfl) ?_
            refine seg_end _ (by dsimp only [pick, at_]) ?_
            repeat (go_big_quiet_step (fail))
            refine wpQuiet_nil (NoPanic.normal ?_)
            clear q0 q1 q2 q3 k0 k1
            go_wp2_with (fail)
            go_roundw
            case rel => exact ⟨j + 1, r', by omega, by go_num, HN3.out.drew, hr2, hball.drew⟩
            case measure => simp [intOf]; omega
        · have hjk : j = k := by omega
          subst hjk
          rw [show pend j (ls.drop j) = [] by rw [List.drop_of_length_le (by rw [HLEN.out]; exact Nat.le_refl _)]; rfl] at hN
          have hno := take_no wr H0 r [] hN 0 (by simp [inP])
          have HT := Lib.hid hno
          have hlen : ∀ w', Below wr.heap.size wr w' → Calls Try.prog 15 #[.pointer (some ⟨H0, 0, none⟩)] w' fun e w'' => e = .returned (.int .i64 0) ∧ w' = w'' := fun w' hb => len_x w' H0 r [] (hN.below hb)
          have HL := Lib.hid hlen
          clear hno hlen hN
          go_wp2_with (fail)
          refine HT.out.mono ?_
          rintro e w2 ⟨rfl, hb2⟩
          go_wp2_with (fail)
          refine (HL.out _ (hb2.alloc hb2.size _)).mono ?_
          rintro e w3 ⟨rfl, rfl⟩
          go_wp2_with (fail)
          go_ret
          exact ⟨rfl, (hbel.trans (hb2.mono (by have := HH0.out; omega))).alloc (by have := hb2.size; have := HH0.out; omega) _⟩

set_option maxRecDepth 100000 in
theorem walk_ok (a0 : Option Addr) (len0 cap0 : Nat) (w : World) (w0 : IsBRows w a0 len0 cap0) :
    Calls Try.prog 7 #[.slice a0 len0 cap0] w fun e w' => e = .returned (.bool true) ∧ Below w.heap.size w w' := by
  obtain ⟨ls, hls, hc, hm, _⟩ := w0
  unfold maxLen at hm
  by_cases h1 : len0 ≤ 256
  · exact walk_core a0 len0 cap0 ls w hls h1
  · have h1' : (256 : Int) < (len0 : Int) := by omega
    go_enter Try.func7, Try.ntmps7
    go_wp2_with (fail)
    go_ret
    exact ⟨rfl, Below.refl _ _⟩
end Go.Proofs.Ytcebmlcdhapnkaa.lawNetOrder
