/-
  The document's Of and Get (the package thermographref03).
-/
import Derived.Test.YtknjejejkgihbaaDoorTsRefBytes
namespace Go.Proofs.YtknjejejkgihbaaDoor.bitc
open Go.ChangeShapes Go.WideShapes Go.ChangeAt Go.RowKit plain words bitm

theorem refput_l (w : World) (base : Nat) (A : Option Addr) (L c : Nat) (X : List Bool) (V : Nat) (n : Int) (hn : -9223372036854775808 ≤ n ∧ n ≤ 9223372036854775807) (h : w.ownsRow base 5 1 (.slice A L c) L (u8s (bys X))) (hX : X.length = L) (hb : base ≤ w.heap.size) (hl : L ≤ 1099511627776) (hV : lt64 V)
    (Y : List Bool) (hY : X ++ bitsOf V (cl n) = Y) (L' : Nat) (hL' : Y.length = L') (R : Option Nat) (hR : (Value.slice A L c).ownBlock = R) :
    Calls Tryd.prog 29 #[.slice A L c, .int .u64 (V : Int), .int .i64 n] w fun e w' =>
      ∃ A' c' R', e = .returned (.slice A' L' c') ∧ w'.ownsRow base 5 1 (.slice A' L' c') L' (u8s (bys Y)) ∧ Chg (fun k => some k = R) w w' ∧ (Value.slice A' L' c').ownBlock = R' ∧ (R' = R ∨ ∃ g, R' = some g ∧ w.heap.size ≤ g) := by
  subst hY hL' hR
  refine (refput_x w base A L c X V n hn h hX hb hl hV).mono ?_
  rintro e w' ⟨A', c', rfl, hown, hch, hr⟩
  have e1 : (X ++ bitsOf V (cl n)).length = L + cl n := by rw [List.length_append, bitsOf_len, hX]
  rw [e1]
  exact ⟨A', c', _, rfl, hown, hch, rfl, hr⟩
theorem rd_chg {S : Nat → Prop} {w w' : World} {B n : Nat} {A : Option Addr} {xs : List Value} (h : Rd w B A n xs) (hc : Chg S w w') (hB : B ≤ w.heap.size) (hS : ∀ b off, A = some ⟨b, off, none⟩ → ¬ S b) : Rd w' B A n xs :=
  ⟨h.len, fun j hj => by
    obtain ⟨b, off, v, e, hb, hv, hcell⟩ := h.at_ j hj
    refine ⟨b, off, v, e, hb, hv, ?_⟩
    have : w'.heap[b]? = w.heap[b]? := hc.block b (by omega) (hS b off e)
    rw [← hcell]
    simp only [World.cell?, this]⟩
theorem ofBytes_next {bs : List UInt8} {k : Nat} {b : UInt8} (h : bs[k]? = some b) : ofBytes (bs.take k) ++ bitsOf b.toNat (cl 8) = ofBytes (bs.take (k + 1)) := by
  rw [take_succ_of h, ofBytes_app, ofBytes_cons, ofBytes_nil, List.append_nil]; rfl
set_option maxHeartbeats 2000000 in
set_option maxRecDepth 100000 in
theorem refof_x (w : World) (B n c : Nat) (A : Option Addr) (bs : List UInt8) (h : Bs w B A n bs) (hB : B ≤ w.heap.size) (hn : n ≤ 1073741824) (M : Nat) (hM : 8 * n = M) :
    Calls Tryd.prog 36 #[.slice A n c] w fun e w' =>
      ∃ A' c', e = .returned (.slice A' M c') ∧ w'.ownsRow w.heap.size 5 1 (.slice A' M c') M (u8s (bys (ofBytes bs))) ∧ Below w.heap.size w w' := by
  subst hM
  have hown := World.ownsRow_lit (w := w) (base := w.heap.size) (e := 5) (size := 1) #[] 0 (Nat.le_refl _) (by simp) rfl
  have hb0 : Below w.heap.size w (w.alloc (.cells #[] 5)) := (Below.refl _ _).alloc (Nat.le_refl _) _
  obtain ⟨H0, hH0⟩ : ∃ H0, w.heap.size = H0 := ⟨_, rfl⟩
  rw [hH0] at hown hb0 hB ⊢
  have HOWN := Lib.hid hown
  have HH0 := Lib.hid hH0
  clear hown
  go_enter Tryd.func36, Tryd.ntmps36
  go_wp2_with fail
  clear hH0
  go_loopw [3, 4] (fun v i wr => ∃ (k L c' : Nat) (A' : Option Addr), k ≤ n ∧ i = .int .i64 k ∧ v = .slice A' L c' ∧ 8 * k = L ∧ wr.ownsRow H0 5 1 (.slice A' L c') L (u8s (bys (ofBytes (bs.take k)))) ∧ H0 ≤ wr.heap.size ∧ Below H0 w wr) (fun _ i _ => n - (intOf i).toNat)
  case atStart => exact ⟨0, 0, 0, _, Nat.zero_le _, rfl, rfl, rfl, HOWN.out, by have := HH0.out; simp; omega, hb0⟩
  case round =>
    clear HOWN hb0
    obtain ⟨k, L, c', A', hk, rfl, rfl, hL, hown, hsz, hbel⟩ := hrel
    by_cases hlt : k < n
    · obtain ⟨b, off, c8, rfl, hbB, hcb, hc⟩ := Bs.get (h.below hbel hB) hlt
      have i1 : (0 : Int) ≤ (k : Int) := by omega
      have i2 : (k : Int) < (n : Int) := by omega
      have hcl := c8.toNat_lt
      have hnext := ofBytes_next hcb
      have hlen : (ofBytes (bs.take k)).length = L := by rw [ofBytes_len, List.length_take, h.len_]; omega
      have hlen2 : (ofBytes (bs.take (k + 1))).length = 8 * (k + 1) := by rw [ofBytes_len, List.length_take, h.len_]; omega
      have hL40 : L ≤ 1099511627776 := by omega
      have hput := refput_l wr H0 A' L c' _ c8.toNat 8 (by omega) hown hlen hsz hL40 (by unfold lt64; omega) _ hnext _ hlen2 _ rfl
      have hlt2 : ∀ g, (Value.slice A' L c').ownBlock = some g → H0 ≤ g := fun g hg => (hown.lt g hg).1
      have HPUT := Lib.hid hput
      have HLT := Lib.hid hlt2
      clear hput hnext hlen hlen2 hcb hown hlt2
      go_wp2_with fail
      refine HPUT.out.mono ?_
      rintro e w2 ⟨A2, c2, R2, rfl, hown2, hch2, _, _⟩
      have hbel2 := hbel.trans (hch2.below hsz (fun j hj => HLT.out j hj.symm))
      have hsz2 : H0 ≤ w2.heap.size := Nat.le_trans hsz hch2.size
      have HO2 := Lib.hid hown2
      clear hown2 hch2
      go_wp2_with fail
      go_roundw
      case rel => exact ⟨k + 1, 8 * (k + 1), c2, A2, by omega, by go_num, rfl, rfl, HO2.out, hsz2, hbel2⟩
      case measure => simp [intOf]; omega
    · have hkn : k = n := by omega
      subst hkn
      subst hL
      rw [take_all (by rw [h.len_]; exact Nat.le_refl _)] at hown
      have HO := Lib.hid hown
      clear hown
      go_wp2_with fail
      go_ret
      exact ⟨A', c', rfl, HO.out, hbel⟩

theorem refget_no (w : World) (A : Option Addr) (L c : Nat) (n : Int) (hn : -9223372036854775808 ≤ n ∧ n ≤ 9223372036854775807) (hl : L ≤ 1099511627776) (hno : ¬ cl n ≤ L) :
    Calls Tryd.prog 50 #[.slice A L c, .int .i64 n] w fun e w' => e = .returned (.tuple #[.int .u64 0, .slice A L c, .bool false]) ∧ w = w' := by
  have hN := cl_le n
  obtain ⟨N, hNe⟩ : ∃ N, cl n = N := ⟨_, rfl⟩
  rw [hNe] at hN hno
  have hcut := cut_y n w hn
  rw [hNe] at hcut
  have hlt : (L : Int) < (N : Int) := by omega
  clear hNe
  go_enter Tryd.func50, Tryd.ntmps50
  go_wp2_with fail
  refine hcut.mono ?_
  rintro e w' ⟨rfl, rfl⟩
  go_wp2_with fail
  go_ret3
  exact ⟨rfl, rfl⟩

theorem val_next {X : List Bool} {i : Nat} {b : Bool} (h : X[i]? = some b) (hi : i < 64) : ∃ V V2 : Nat, val (X.take i) = V ∧ val (X.take (i + 1)) = V2 ∧ (V : Int) ≤ 9223372036854775807 ∧ (V : Int) * 2 + (b.toNat : Int) = (V2 : Int) ∧ b.toNat ≤ 1 := by
  have h1 := val_lt (X.take i)
  have h2 : 2 ^ (X.take i).length ≤ 9223372036854775808 := by
    have := Nat.pow_le_pow_right (n := 2) (by omega) (show (X.take i).length ≤ 63 from by rw [List.length_take]; omega)
    simpa using this
  have h3 : val (X.take (i + 1)) = val (X.take i) * 2 + b.toNat := by
    rw [take_succ_of h, val_app, val_one]; rfl
  have hb : b.toNat ≤ 1 := by cases b <;> decide
  refine ⟨_, _, rfl, rfl, by omega, ?_, hb⟩
  rw [h3]; omega
set_option maxHeartbeats 2000000 in
set_option maxRecDepth 100000 in
theorem refget_x (w : World) (B : Nat) (A : Option Addr) (L c : Nat) (X : List Bool) (n : Int) (hn : -9223372036854775808 ≤ n ∧ n ≤ 9223372036854775807) (h : Bs w B A L (bys X)) (hX : X.length = L) (hA : A = none → c = 0) (hc : L ≤ c ∧ c ≤ 9223372036854775807) (hl : L ≤ 1099511627776) (hyes : cl n ≤ L) :
    Calls Tryd.prog 50 #[.slice A L c, .int .i64 n] w fun e w' => ∃ A' c',
      e = .returned (.tuple #[.int .u64 (val (X.take (cl n)) : Nat), .slice A' (L - cl n) c', .bool true]) ∧ Bs w B A' (L - cl n) (bys (X.drop (cl n))) ∧ (A' = none → c' = 0) ∧ (L - cl n ≤ c' ∧ c' ≤ 9223372036854775807) ∧ (∀ b off, A' = some ⟨b, off, none⟩ → ∃ off0, A = some ⟨b, off0, none⟩) ∧ ∃ m, w' = w.drewN m := by
  have hN := cl_le n
  obtain ⟨N, hNe⟩ : ∃ N, cl n = N := ⟨_, rfl⟩
  rw [hNe] at hN hyes
  have hcut := cut_y n w hn
  rw [hNe] at hcut
  rw [hNe]
  have hlt : ¬ (L : Int) < (N : Int) := by omega
  have HX := Lib.hid hX
  have HH := Lib.hid h
  clear hNe hX
  go_enter Tryd.func50, Tryd.ntmps50
  go_wp2_with fail
  refine hcut.mono ?_
  rintro e w' ⟨rfl, rfl⟩
  clear hcut
  go_wp2_with fail
  go_loop [7, 8] (fun v i => ∃ (k V : Nat), k ≤ N ∧ i = .int .i64 k ∧ v = .int .u64 (V : Int) ∧ val (X.take k) = V) (fun _ i => N - (intOf i).toNat)
  case atStart => exact ⟨0, 0, Nat.zero_le _, rfl, rfl, rfl⟩
  case round =>
    obtain ⟨k, V, hk, rfl, rfl, hV⟩ := hrel
    by_cases hlt : k < N
    · obtain ⟨b, off, c8, rfl, hbB, hcb, hcell⟩ := Bs.get HH.out (show k < L from by omega)
      obtain ⟨bt, hbt⟩ : ∃ bt, X[k]? = some bt := ⟨X[k]'(by rw [HX.out]; omega), List.getElem?_eq_getElem _⟩
      rw [bys_at hbt] at hcb
      have hcv : (c8.toNat : Int) = (bt.toNat : Int) := by
        injection hcb with hcb
        rw [← hcb]
        cases bt <;> rfl
      rw [hcv] at hcell
      obtain ⟨V', V2, e1, e2, hV63, hstep, hb1⟩ := val_next hbt (by omega)
      rw [hV] at e1
      subst e1
      have HV2 := Lib.hid e2
      have i1 : (0 : Int) ≤ (k : Int) := by omega
      have i2 : (k : Int) < (L : Int) := by omega
      clear hcb hcv hbt hV e2
      go_wp2_with fail
      go_round
      case rel => exact ⟨k + 1, V2, by omega, by go_num, by go_num, HV2.out⟩
      case measure => simp [intOf]; omega
    · have hkN : k = N := by omega
      subst hkN
      subst hV
      have i1 : (0 : Int) ≤ (k : Int) := by omega
      have i2 : (k : Int) ≤ (L : Int) := by omega
      have i3 : (k : Int) ≤ (c : Int) := by omega
      obtain ⟨V, hVe⟩ : ∃ V, val (X.take k) = V := ⟨_, rfl⟩
      have HVE := Lib.hid hVe
      rw [hVe]
      clear hVe
      have hdr : (bys X).drop k = bys (X.drop k) := by simp [bys, List.map_drop]
      have HDR := Lib.hid hdr
      clear hdr
      cases A with
      | none =>
        obtain rfl := hA rfl
        have hL0 : L = 0 := by omega
        subst hL0
        have hk0 : k = 0 := by omega
        subst hk0
        go_wp2_with fail
        go_quiet (fail)
        go_wp2_with fail
        go_ret3
        rw [HVE.out]
        refine ⟨none, 0, rfl, ?_, fun _ => rfl, by omega, (fun b' off' e => by cases e), _, rfl⟩
        have := HH.out
        rwa [List.drop_zero]
      | some ad =>
        by_cases hL0 : L = 0
        · subst hL0
          have hk0 : k = 0 := by omega
          subst hk0
          have hnil : bys (X.drop 0) = [] := List.eq_nil_of_length_eq_zero (by rw [bys_len, List.drop_zero]; exact HX.out)
          have HNIL := Lib.hid hnil
          clear hnil
          by_cases hc0 : c = 0
          · subst hc0
            go_wp2_with fail
            go_quiet (fail)
            go_wp2_with fail
            go_ret3
            rw [HVE.out]
            exact ⟨_, _, rfl, by rw [HNIL.out]; exact Rd.nil _ _ _, (fun e => by cases e), by omega, (fun b' off' e => ⟨_, by first | exact e | (cases e; rfl)⟩), _, rfl⟩
          · go_wp2_with fail
            go_quiet (fail)
            go_wp2_with fail
            go_ret3
            rw [HVE.out]
            exact ⟨_, _, rfl, by rw [HNIL.out]; exact Rd.nil _ _ _, (fun e => by cases e), by omega, (fun b' off' e => ⟨_, by first | exact e | (cases e; rfl)⟩), _, rfl⟩
        · obtain ⟨b, off, c8, e, hbB, _, _⟩ := Bs.get HH.out (show 0 < L from by omega)
          cases e
          have hcut := bs_cut HH.out hyes hc.1
          rw [HDR.out] at hcut
          by_cases hcU : c = k
          · rw [if_pos hcU] at hcut
            have HC := Lib.hid hcut
            subst hcU
            clear hcut
            go_wp2_with fail
            go_quiet (fail)
            go_wp2_with fail
            go_ret3
            rw [HVE.out]
            rw [show L - c = 0 from by omega]
            exact ⟨_, 0, rfl, by have := HC.out; rwa [show L - c = 0 from by omega] at this, (fun e => by cases e), by omega, (fun b' off' e => ⟨_, by first | exact e | (cases e; rfl)⟩), _, rfl⟩
          · rw [if_neg hcU] at hcut
            have HC := Lib.hid hcut
            clear hcut
            go_wp2_with fail
            go_quiet (fail)
            go_wp2_with fail
            go_ret3
            rw [HVE.out]
            exact ⟨_, _, rfl, HC.out, (fun e => by cases e), by omega, (fun b' off' e => ⟨_, by first | exact e | (cases e; rfl)⟩), _, rfl⟩
end Go.Proofs.YtknjejejkgihbaaDoor.bitc
