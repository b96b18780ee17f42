/-
  The commit log's parse: the closure that reads a number.
-/
import Derived.Test.YtmegkemileailaaGreatDoorClEY
namespace Go.Proofs.YtmegkemileailaaGreatDoor.cl
open Go.ChangeShapes Go.WideShapes Go.ChangeAt Go.RowKit plain words ord mem uvs uvc

/-- what is left to read, at block gb; whether all went well, at block go -/
def PB (w : World) (gb go B : Nat) (bs : By) (ok : Bool) : Prop :=
  ∃ A n c, w.heap[gb]? = some (.cells #[.slice A n c] 28 (0, 0)) ∧ Bs w B A n bs ∧ n ≤ c ∧ c ≤ 9223372036854775807 ∧ w.heap[go]? = some (.cells #[.bool ok] 4 (0, 0)) ∧ gb ≠ go ∧ B ≤ gb ∧ B ≤ go
def RetP (w : World) (gb go B m : Nat) (bs : By) (ok : Bool) (e : Ending) (w' : World) : Prop :=
  (match num m bs with
    | some (v, rest) => e = .returned (.int .i64 v) ∧ PB w' gb go B rest ok
    | none => e = .returned (.int .i64 0) ∧ PB w' gb go B bs false) ∧ Chg (fun k => k = gb ∨ k = go) w w'
theorem PB.chg {S : Nat → Prop} {w w' : World} {gb go B : Nat} {bs : By} {ok : Bool} (h : PB w gb go B bs ok) (hc : Chg S w w') (hS : ∀ k, S k → B ≤ k ∧ k ≠ gb ∧ k ≠ go) : PB w' gb go B bs ok := by
  obtain ⟨A, n, c, h1, h2, h3, h4, h5, h6, h7, h8⟩ := h
  have hB : B ≤ w.heap.size := Nat.le_trans h7 (Nat.le_of_lt (blk_lt h1))
  exact ⟨A, n, c, hc.blk h1 (fun e => (hS _ e).2.1 rfl), h2.below (hc.below hB (fun k hk => (hS k hk).1)) (Nat.le_refl _), h3, h4, hc.blk h5 (fun e => (hS _ e).2.2 rfl), h6, h7, h8⟩
theorem PB.setok {w : World} {gb go B : Nat} {bs : By} {ok : Bool} (h : PB w gb go B bs ok) (ok' : Bool) : PB (w.setCell ⟨go, 0, none⟩ (.bool ok')) gb go B bs ok' := by
  obtain ⟨A, n, c, h1, h2, h3, h4, h5, h6, h7, h8⟩ := h
  have hB : B ≤ w.heap.size := Nat.le_trans h7 (Nat.le_of_lt (blk_lt h1))
  have hc : Chg (fun k => k = go) w (w.setCell ⟨go, 0, none⟩ (.bool ok')) := chg_set _ _ _ _
  refine ⟨A, n, c, hc.blk h1 (fun e => h6 e), h2.below (hc.below hB (fun k hk => hk ▸ h8)) (Nat.le_refl _), h3, h4, ?_, h6, h7, h8⟩
  have := heap_setCell_same w go 0 _ _ (.bool ok') h5
  simpa using this
theorem PB.setb {w : World} {gb go B : Nat} {bs bs' : By} {ok : Bool} (h : PB w gb go B bs ok) {A' : Option Addr} {n' c' : Nat} (hb : Bs w B A' n' bs') (h1' : n' ≤ c') (h2' : c' ≤ 9223372036854775807) : PB (w.setCell ⟨gb, 0, none⟩ (.slice A' n' c')) gb go B bs' ok := by
  obtain ⟨A, n, c, h1, h2, h3, h4, h5, h6, h7, h8⟩ := h
  have hB : B ≤ w.heap.size := Nat.le_trans h7 (Nat.le_of_lt (blk_lt h1))
  have hc : Chg (fun k => k = gb) w (w.setCell ⟨gb, 0, none⟩ (.slice A' n' c')) := chg_set _ _ _ _
  refine ⟨A', n', c', ?_, hb.below (hc.below hB (fun k hk => hk ▸ h7)) (Nat.le_refl _), h1', h2', hc.blk h5 (fun e => h6 e.symm), h6, h7, h8⟩
  have := heap_setCell_same w gb 0 _ _ (.slice A' n' c') h1
  simpa using this
theorem bs_drop {w : World} {B n c b off : Nat} {bs : By} (h : Bs w B (some ⟨b, off, none⟩) n bs) {k : Nat} (hk : k ≤ n) : Bs w B (some ⟨b, off + k, none⟩) (n - k) (bs.drop k) := by
  refine ⟨by rw [u8s_length, List.length_drop, h.len_], fun j hj => ?_⟩
  obtain ⟨b', off', v, e, hb, hv, hc⟩ := h.at_ (k + j) (by omega)
  cases e
  refine ⟨b, _, v, rfl, hb, ?_, by rw [show off + k + j = off + (k + j) by omega]; exact hc⟩
  unfold u8s at hv ⊢
  rw [List.getElem?_map, List.getElem?_drop, ← List.getElem?_map]
  exact hv
theorem bs_addr {w : World} {B n : Nat} {A : Option Addr} {bs : By} (h : Bs w B A n bs) (hn : 0 < n) : ∃ b off, A = some ⟨b, off, none⟩ := by
  obtain ⟨b, off, e, _⟩ := Rd.some_of h hn
  exact ⟨b, off, e⟩
theorem bs_nil {w : World} {B n : Nat} {A A' : Option Addr} {bs : By} (h : Bs w B A n bs) {k : Nat} (hk : n ≤ k) : Bs w B A' 0 (bs.drop k) := by
  rw [List.drop_eq_nil_of_le (by rw [h.len_]; exact hk)]
  exact Rd.nil _ _ _
set_option maxHeartbeats 1000000 in
set_option maxRecDepth 100000 in
theorem num_p (w : World) (gb go B m : Nat) (bs : By) (ok : Bool) (h : PB w gb go B bs ok) (hn : bs.length ≤ 1099511627776) (hm : m ≤ 1099511627776) :
    Calls Tryz.prog 116 #[.int .i64 m, .pointer (some ⟨gb, 0, none⟩), .pointer (some ⟨go, 0, none⟩)] w (RetP w gb go B m bs ok) := by
  have HP := Lib.hid h
  obtain ⟨A, n, c, h1, h2, h3, h4, h5, h6, h7, h8⟩ := h
  have hl := h2.len_
  have HR := Lib.hid (readuv_x w B n c A bs h2 (by omega))
  have cb : w.cell? ⟨gb, 0, none⟩ = some (.slice A n c) := by rw [cell_of_row _ _ _ _ _ _ h1]; rfl
  have co : w.cell? ⟨go, 0, none⟩ = some (.bool ok) := by rw [cell_of_row _ _ _ _ _ _ h5]; rfl
  have fb := frozen_of_row w gb 0 _ _ h1
  have fo := frozen_of_row w go 0 _ _ h5
  have lb := blk_lt h1
  have lo := blk_lt h5
  have mw : (m : Int) % 18446744073709551616 = (m : Int) := by omega
  unfold RetNum at HR
  unfold RetP num
  have hback := fun hk => ru_back0 bs (ru bs 0 0).1 (ru bs 0 0).2 rfl hk
  obtain ⟨v, hv⟩ : ∃ v, (ru bs 0 0).1 = v := ⟨_, rfl⟩
  obtain ⟨k, hk⟩ : ∃ k, (ru bs 0 0).2 = k := ⟨_, rfl⟩
  rw [hv, hk] at HR hback ⊢
  have HB := Lib.hid h2
  have HL := Lib.hid hl
  clear h1 h2 h5 hv hk hl
  by_cases hk0 : k = 0
  · rw [if_pos (.inl hk0)]
    subst hk0
    have hfin : PB (w.setCell ⟨go, 0, none⟩ (.bool false)) gb go B bs false := HP.out.setok false
    have HF := Lib.hid (And.intro hfin ((chg_set w go 0 (.bool false)).mono (S' := fun k => k = gb ∨ k = go) (fun k _ e => .inr e)))
    clear hback hfin
    go_enter Tryz.func116, Tryz.ntmps116
    go_wp2_with (fail)
    refine HR.out.mono ?_
    rintro e w1 ⟨rfl, rfl⟩
    go_wp2_with (fail)
    go_ret
    exact ⟨⟨rfl, HF.out.1⟩, HF.out.2⟩
  · obtain ⟨e1, e2, e3⟩ := hback hk0
    clear hback e3
    have k0 : ¬ (k : Int) = 0 := by omega
    by_cases hmv : m < v
    · rw [if_pos (.inr hmv)]
      have v1 : (m : Int) < (v : Int) := by omega
      have hfin : PB (w.setCell ⟨go, 0, none⟩ (.bool false)) gb go B bs false := HP.out.setok false
      have HF := Lib.hid (And.intro hfin ((chg_set w go 0 (.bool false)).mono (S' := fun k => k = gb ∨ k = go) (fun k _ e => .inr e)))
      clear hfin
      go_enter Tryz.func116, Tryz.ntmps116
      go_wp2_with (fail)
      refine HR.out.mono ?_
      rintro e w1 ⟨rfl, rfl⟩
      go_wp2_with (fail)
      go_ret
      exact ⟨⟨rfl, HF.out.1⟩, HF.out.2⟩
    · rw [if_neg (by omega)]
      have v1 : ¬ (m : Int) < (v : Int) := by omega
      rw [HL.out] at e2
      have hn0 : 0 < n := by omega
      obtain ⟨b, off, eA⟩ := bs_addr HB.out hn0
      subst eA
      have q0 : (0 : Int) ≤ (k : Int) := by omega
      have q1 : (k : Int) ≤ (n : Int) := by omega
      have q2 : (n : Int) ≤ (c : Int) := by omega
      have q3 : (k : Int) ≤ (c : Int) := by omega
      have vw : IntKind.i64.wrap (v : Int) = (v : Int) := by rw [IntWalk.i64_in _ (by omega)]
      by_cases hck : c = k
      · have hnk : n = k := by omega
        obtain rfl : k = n := hnk.symm
        obtain rfl : k = c := hck.symm
        have hfin := HP.out.setb (A' := some ⟨b, off, none⟩) (bs_nil (A' := some ⟨b, off, none⟩) HB.out (Nat.le_refl k)) (Nat.le_refl 0) (by omega)
        have HF := Lib.hid (And.intro hfin ((chg_set w gb 0 (.slice (some ⟨b, off, none⟩) 0 0)).mono (S' := fun k => k = gb ∨ k = go) (fun k _ e => .inl e)))
        clear hfin
        go_enter Tryz.func116, Tryz.ntmps116
        go_wp2_with (fail)
        refine HR.out.mono ?_
        rintro e w1 ⟨rfl, rfl⟩
        go_wp2_with (fail)
        go_ret
        exact ⟨⟨rfl, HF.out.1⟩, HF.out.2⟩
      · have hfin := HP.out.setb (bs_drop (c := c) HB.out (show k ≤ n by omega)) (show n - k ≤ c - k by omega) (by omega)
        have HF := Lib.hid (And.intro hfin ((chg_set w gb 0 (.slice (some ⟨b, off + k, none⟩) (n - k) (c - k))).mono (S' := fun k => k = gb ∨ k = go) (fun k _ e => .inl e)))
        clear hfin
        go_enter Tryz.func116, Tryz.ntmps116
        go_wp2_with (fail)
        refine HR.out.mono ?_
        rintro e w1 ⟨rfl, rfl⟩
        go_wp2_with (fail)
        go_ret
        exact ⟨⟨rfl, HF.out.1⟩, HF.out.2⟩
end Go.Proofs.YtmegkemileailaaGreatDoor.cl
