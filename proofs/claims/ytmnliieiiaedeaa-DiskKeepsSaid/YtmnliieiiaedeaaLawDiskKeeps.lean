/-
  The walk of the law DiskKeeps.
-/
import Derived.Test.YtmnliieiiaedeaaDkTwo
import Derived.Test.YtmnliieiiaedeaaStrs
namespace Go.Proofs.Ytmnliieiiaedeaa.lawDiskKeeps
open Go.ChangeShapes Go.WideShapes Go.ChangeAt Go.RowKit Go.Maps Go.Sort Go.Shelf plain words ord mem al dk

def old : Nm := [111, 108, 100]
def there : Nm := [116, 104, 101, 114, 101]
def ten : Nm := [48, 49, 50, 51, 52, 53, 54, 55, 56, 57]
def L0 : AL Nm := fold [] [.app old there]
theorem ten_le : ten.length ≤ 10 := by decide
theorem L0_srt : Srt L0 := fold_srt .nil _
theorem L0_sum : fsum L0 ≤ 5 := by decide
theorem L0_len : L0.length ≤ 1 := by decide
theorem keptN_nat (k n : Nat) : keptN (k : Int) n = min k n := by unfold keptN; omega
theorem own_sl {w : World} {base e size n : Nat} {v : Value} {xs : List Value} (h : w.ownsRow base e size v n xs) : ∃ A c, v = .slice A n c := by
  obtain ⟨h1, h2⟩ := h
  rcases h2 with ⟨e1, e2⟩ | ⟨g, cap, cur, e1, _⟩
  · exact ⟨none, 0, by rw [e1]; simp [e2]⟩
  · exact ⟨_, _, e1⟩
theorem own_ch {S : Nat → Prop} {w w' : World} {base size n : Nat} {e : TypeId} {v : Value} {xs : List Value} (h : w.ownsRow base e size v n xs) (hc : Chg S w w') (hS : ∀ g, v.ownBlock = some g → ¬ S g) : w'.ownsRow base e size v n xs := by
  obtain ⟨h1, h2⟩ := h
  refine ⟨h1, ?_⟩
  rcases h2 with h2 | ⟨g, cap, cur, rfl, e2, e3, e4⟩
  · exact .inl h2
  · refine .inr ⟨g, cap, cur, rfl, e2, ?_, e4⟩
    rw [hc.block g ?_ (hS g rfl)]; exact e3
    rcases Nat.lt_or_ge g w.heap.size with hlt | hge
    · exact hlt
    · rw [Array.getElem?_eq_none hge] at e3; cases e3
/-- a row of names -/
def Nms (w : World) (base : Nat) (A : Option Addr) (n c : Nat) (G : AL Nm) : Prop := w.ownsRow base 9 1 (.slice A n c) n ((G.map (·.1)).map encStr)
theorem Nms.at {w : World} {base n c : Nat} {A : Option Addr} {G : AL Nm} (h : Nms w base A n c G) {i : Nat} (hi : i < n) :
    ∃ b off a, A = some ⟨b, off, none⟩ ∧ b < w.heap.size ∧ (G.map (·.1))[i]? = some a ∧ w.cell? ⟨b, off + i, none⟩ = some (.string (bs a)) := by
  have h1 : Rd w w.heap.size A (n * 1) ((G.map (·.1)).map encStr) := own_rd h
  obtain ⟨b, off, v, e, hb, hv, hc⟩ := h1.at_ i (by omega)
  rw [List.getElem?_map] at hv
  cases hg : (G.map (·.1))[i]? with
  | none => rw [hg] at hv; cases hv
  | some a => rw [hg] at hv; cases hv; exact ⟨b, off, a, e, hb, rfl, hc⟩
theorem Nms.is {w : World} {base n c b f : Nat} {G : AL Nm} {a : Nm} (h : Nms w base (some ⟨b, f, none⟩) n c G) {i : Nat} (ha : (G.map (·.1))[i]? = some a) (hi : i < n) : w.cell? ⟨b, f + i, none⟩ = some (.string (bs a)) := by
  obtain ⟨b', f', a', e, _, h1, h2⟩ := h.at hi
  cases e
  rw [ha] at h1
  cases h1
  exact h2
/-- what is there in the end -/
def T (k : Nat) (part : Int) (P : List Chn) : AL Nm := partOf (fold L0 (P.take (keptN k P.length))) P[keptN k P.length]? part
theorem T_full {k : Nat} {part : Int} {P : List Chn} (h : P.length ≤ k) : T k part P = fold L0 P := by
  unfold T
  have e : keptN k P.length = P.length := by rw [keptN_nat]; omega
  rw [e, List.take_length, List.getElem?_eq_none (Nat.le_refl _)]
  rfl
theorem T_lt {k : Nat} {part : Int} {P : List Chn} {x : Chn} (h : P.length < k) : T k part (P ++ [x]) = done (T k part P) x := by
  rw [T_full (by rw [List.length_append, List.length_singleton]; omega), T_full (by omega), fold_snoc]
theorem T_eq {k : Nat} {part : Int} {P : List Chn} {x : Chn} (h : P.length = k) : T k part (P ++ [x]) = partOf (T k part P) (some x) part := by
  rw [T_full (P := P) (by omega)]
  unfold T
  have e : keptN k (P ++ [x]).length = k := by rw [keptN_nat, List.length_append, List.length_singleton]; omega
  have e1 : (P ++ [x]).take k = P := by rw [← h]; exact List.take_left
  have e2 : (P ++ [x])[k]? = some x := by rw [List.getElem?_append_right (by omega), h, Nat.sub_self]; rfl
  rw [e, e1, e2]
theorem T_gt {k : Nat} {part : Int} {P : List Chn} {x : Chn} (h : k < P.length) : T k part (P ++ [x]) = T k part P := by
  unfold T
  have e : keptN k (P ++ [x]).length = k := by rw [keptN_nat, List.length_append, List.length_singleton]; omega
  have e0 : keptN k P.length = k := by rw [keptN_nat]; omega
  rw [e, e0, List.take_append_of_le_length (by omega), List.getElem?_append_left h]
def sd (P : List Chn) (o : Int) : St := ⟨65536, L0, P, none, false, o⟩
def sc (Q : List Chn) (m : Int) : St := ⟨65536, [], Q, none, false, m⟩
structure KI (k : Nat) (part : Int) (n : Nat) (P Q : List Chn) (o m : Int) : Prop where
  len : P.length = n
  o0 : 0 ≤ o
  o1 : o ≤ 2 + n
  sp : sumc P ≤ 10 * n
  m0 : 0 ≤ m
  m1 : m ≤ 1 + n
  sq : sumc Q ≤ 5 + 10 * n
  lq : Q.length ≤ 1 + n
  eq : fold [] Q = T k part P
section
variable {k n : Nat} {part o m : Int} {P Q : List Chn}
theorem KI.smd (h : KI k part n P Q o m) (hn : n ≤ 128) : Small (sd P o) := by
  have := L0_sum
  have := L0_len
  exact ⟨by have := h.sp; show fsum L0 + sumc P ≤ _; omega, by have := h.len; show L0.length + P.length ≤ _; omega, h.o0, by have := h.o1; show o < _; omega, fun x hx => by cases hx⟩
theorem KI.smc (h : KI k part n P Q o m) (hn : n ≤ 128) : Small (sc Q m) := by
  exact ⟨by have := h.sq; show 0 + sumc Q ≤ _; omega, by have := h.lq; show 0 + Q.length ≤ _; omega, h.m0, by have := h.m1; show m < _; omega, fun x hx => by cases hx⟩
theorem KI.apd (h : KI k part n P Q o m) (hn : n ≤ 128) {a : Nm} (ha : okn a = true) : appSt (sd P o) a ten = (sd (P ++ [.app a ten]) (o + 1), 0) := by
  refine app_alive ha ?_
  have h1 := fold_sum L0_srt P
  have h2 := L0_sum
  have h3 := h.sp
  show (fsum (fold L0 P) : Int) + ((10 : Nat) : Int) ≤ 65536
  omega
theorem KI.apc (h : KI k part n P Q o m) (hn : n ≤ 128) {a b : Nm} (hb : b.length ≤ 10) (ha : okn a = true) : appSt (sc Q m) a b = (sc (Q ++ [.app a b]) (m + 1), 0) := by
  refine app_alive ha ?_
  have h1 := fold_sum (ls := []) .nil Q
  have h3 := h.sq
  have h4 : fsum ([] : AL Nm) = 0 := rfl
  omega
theorem KI.nothing (h : KI k part n P Q o m) {x : Chn} (hx : chlen x ≤ 10) (he : T k part (P ++ [x]) = T k part P) : KI k part (n + 1) (P ++ [x]) Q (o + 1) m := by
  obtain ⟨h1, h2, h3, h4, h5, h6, h7, h8, h9⟩ := h
  exact ⟨by rw [List.length_append, List.length_singleton]; omega, by omega, by omega, by rw [sumc_snoc]; omega, h5, by omega, by omega, by omega, by rw [he]; exact h9⟩
theorem KI.both (h : KI k part n P Q o m) {x y : Chn} (hx : chlen x ≤ 10) (hy : chlen y ≤ 10) (he : T k part (P ++ [x]) = done (T k part P) y) : KI k part (n + 1) (P ++ [x]) (Q ++ [y]) (o + 1) (m + 1) := by
  obtain ⟨h1, h2, h3, h4, h5, h6, h7, h8, h9⟩ := h
  exact ⟨by rw [List.length_append, List.length_singleton]; omega, by omega, by omega, by rw [sumc_snoc]; omega, by omega, by omega, by rw [sumc_snoc]; omega, by rw [List.length_append, List.length_singleton]; omega, by rw [fold_snoc, h9, he]⟩
end
theorem names_le {w : World} {f : Nat} {F : Nat → Prop} {fs : AL Nm} (h : Fil w f F fs) : ∀ a ∈ fs.map (·.1), a.length ≤ maxLen := by
  obtain ⟨mb, D, es, h1, hfs, _⟩ := h
  intro a ha
  have e1 : fs.map (·.1) = es.map (·.1) := by rw [hfs]; simp [mapv, Function.comp_def]
  rw [e1] at ha
  exact strKeys_le h1.map Try.underlying9 a ((h1.rep.names h1.srt h1.map).mem_iff.1 ha)
theorem Two_names {X : Nat → Prop} {w0 w : World} {pd pc : Nat} {sd sc : St} (h : Two X w0 w pd pc sd sc) : ∀ a ∈ sd.shown.map (·.1), a.length ≤ maxLen := by
  obtain ⟨F, hd⟩ := h.d
  obtain ⟨fs, fh, Fs, Fh, Fo, v, ps, dv, h1, h2, _⟩ := hd
  exact names_le h2.hh
set_option maxHeartbeats 8000000 in
set_option maxRecDepth 100000 in
theorem walk_ok (A : Option Addr) (N c : Nat) (k0 q0 : Int) (w : World) (h0 : IsStrs w A N c) (hk : (Lit.int .u8 k0).wf = true) (hq : (Lit.int .u8 q0).wf = true) :
    Calls Try.prog 3 #[.slice A N c, .int .u8 k0, .int .u8 q0] w fun e w' => e = .returned (.bool true) ∧ Below w.heap.size w w' := by
  obtain ⟨ss, hss, hsl, hNc, hcm, _⟩ := h0
  have hk1 : 0 ≤ k0 ∧ k0 ≤ 255 := by have := wf_u8 hk; omega
  have hq1 : 0 ≤ q0 ∧ q0 ≤ 255 := by have := wf_u8 hq; omega
  obtain ⟨k, rfl⟩ : ∃ k : Nat, k0 = k := ⟨k0.toNat, by omega⟩
  obtain ⟨q, rfl⟩ : ∃ q : Nat, q0 = q := ⟨q0.toNat, by omega⟩
  by_cases hbig : 128 < N
  · have hb1 : (128 : Int) < (N : Int) := by omega
    clear hss hsl hk hq
    go_enter Try.func3, Try.ntmps3
    go_wp2_with fail
    go_ret
    exact ⟨rfl, Below.refl _ _⟩
  · have hb1 : ¬ (128 : Int) < (N : Int) := by omega
    have HS := Lib.hid hss
    have HSL := Lib.hid hsl
    have HN := Lib.hid (new_d w 65536)
    clear hss hsl hk hq hcm hNc
    go_enter Try.func3, Try.ntmps3
    go_wp2_with fail
    refine HN.out.mono ?_
    rintro e w1 ⟨pd, rfl, hp, hd, hb⟩
    have D1 := Lib.hid hd
    have B1 := Lib.hid hb
    have HN2 := Lib.hid (new_d w1 65536)
    have hs1 : w.heap.size ≤ w1.heap.size := hb.size
    clear hd hb HN
    go_wp2_with fail
    refine HN2.out.mono ?_
    rintro e w2 ⟨pc, rfl, hp2, hd, hb⟩
    have T2 := Lib.hid (show Two (fun _ => False) w w2 pd pc (newSt 65536) (newSt 65536) from ⟨_, _, D1.out.chg (Chg.of_below hb) (fun _ _ e => e), hd, fun k hk e => by omega, fun k hk => ⟨by omega, fun e => e⟩, B1.out.trans (hb.mono hs1), fun k e => e.elim⟩)
    clear hd hb HN2 D1 B1
    have hns : Small (newSt 65536) := ⟨by decide, by decide, by decide, by decide, fun x hx => by cases hx⟩
    have ha0 : appSt (newSt 65536) old there = (⟨65536, [], [.app old there], none, false, 1⟩, 0) := rfl
    have HA := Lib.hid (T2.out.onD (st' := ⟨65536, [], [.app old there], none, false, 1⟩) (r := .int .i64 0) (f := 14) (args := #[ptr pd, .string { data := #[111, 108, 100] }, .string { data := #[116, 104, 101, 114, 101] }]) (fun F h => by
      have := append_d w2 pd F (newSt 65536) old there h hns (by decide) (by decide) (by decide)
      rw [ha0] at this
      exact this))
    go_wp2_with fail
    refine HA.out.mono ?_
    rintro e w3 ⟨rfl, ht, _⟩
    have T3 := Lib.hid ht
    have HA2 := Lib.hid (ht.onC (st' := sc [.app old there] 1) (r := .int .i64 0) (f := 14) (args := #[ptr pc, .string { data := #[111, 108, 100] }, .string { data := #[116, 104, 101, 114, 101] }]) (fun F h => by
      have := append_d w3 pc F (newSt 65536) old there h hns (by decide) (by decide) (by decide)
      rw [ha0] at this
      exact this))
    clear ht HA T2
    go_wp2_with fail
    refine HA2.out.mono ?_
    rintro e w4 ⟨rfl, ht, _⟩
    have T4 := Lib.hid ht
    have HSY := Lib.hid (ht.onD (st' := sd [] 2) (r := .int .i64 0) (f := 15) (args := #[ptr pd]) (fun F h => by
      have := sync_d w4 pd F ⟨65536, [], [.app old there], none, false, 1⟩ h ⟨by decide, by decide, by decide, by decide, fun x hx => by cases hx⟩
      exact this))
    clear ht HA2 T3 hns ha0
    go_wp2_with fail
    refine HSY.out.mono ?_
    rintro e w5 ⟨rfl, ht, _⟩
    have T5 := Lib.hid ht
    clear ht HSY T4
    have K5 := Lib.hid (show KI k q 0 [] [.app old there] 2 1 from ⟨rfl, by omega, by omega, by decide, by omega, by omega, by decide, by decide, by rw [T_full (Nat.zero_le _)]; rfl⟩)
    go_wp2_with fail
    go_loopg [9, 10, 11] N (fun gg s9 s10 s11 wr => ∃ (i n : Nat) (P Q : List Chn) (o m : Int), s9 = .int .i64 n ∧ s10 = .int .i64 i ∧ i ≤ N ∧ N - i ≤ gg ∧ n ≤ i ∧ Aside (KI k q n P Q o m) ∧ Aside (Two (fun _ => False) w wr pd pc (sd P o) (sc Q m)))
    case atStart => exact ⟨0, 0, [], _, 2, 1, rfl, rfl, Nat.zero_le _, by omega, Nat.le_refl _, K5.out, T5.out⟩
    case round =>
      clear K5 T5
      obtain ⟨i, n, P, Q, o, m, rfl, rfl, hi, hgg, hni, KK, TT⟩ := hrel
      obtain ⟨wv, rfl⟩ : ∃ wv, wv = wr := ⟨wr, rfl⟩
      by_cases hlt : i < N
      · have hrd : Strs wv w.heap.size A N ss := HS.out.below TT.out.below (Nat.le_refl _)
        obtain ⟨b, off, s, eA, hbl, hsi, hc⟩ := hrd.get hlt
        obtain ⟨a, rfl⟩ := ba_bs s
        have hal : a.length ≤ maxLen := by rw [← bs_size]; exact HSL.out _ (List.mem_of_getElem? hsi)
        have hsz := bs_size a
        subst eA
        have i1 : (i : Int) < (N : Int) := by omega
        have i0 : (0 : Int) ≤ (i : Int) := by omega
        have hbv : b < wv.heap.size := World.block_lt_of_cell? wv _ hc
        obtain ⟨L, hL⟩ : ∃ L, a.length = L := ⟨_, rfl⟩
        rw [hL] at hsz hal
        have HL := Lib.hid hL
        clear hL hrd
        cases hok : okn a with
        | false =>
          have hmay : L < 1 ∨ (1 ≤ L ∧ 40 < L) := by have h9 := HL.out; unfold okn at hok; simp at hok; omega
          clear hok hsi
          rcases hmay with h1 | ⟨h1, h2⟩
          · have m1 : (L : Int) < 1 := by omega
            go_wp2_with fail
            go_roundg (N - (i + 1))
            case measure => omega
            case rel => exact ⟨i + 1, n, P, Q, o, m, rfl, by go_num, by omega, by omega, by omega, KK.out, TT.out⟩
          · have m1 : ¬ (L : Int) < 1 := by omega
            have m2 : (40 : Int) < (L : Int) := by omega
            go_wp2_with fail
            go_roundg (N - (i + 1))
            case measure => omega
            case rel => exact ⟨i + 1, n, P, Q, o, m, rfl, by go_num, by omega, by omega, by omega, KK.out, TT.out⟩
        | true =>
          have m1 : ¬ (L : Int) < 1 := by have h9 := HL.out; unfold okn at hok; simp at hok; omega
          have m2 : ¬ (40 : Int) < (L : Int) := by have h9 := HL.out; unfold okn at hok; simp at hok; omega
          have HOK := Lib.hid hok
          have HSI := Lib.hid hsi
          have HA := Lib.hid (TT.out.onD (st' := sd (P ++ [.app a ten]) (o + 1)) (r := .int .i64 0) (f := 14) (args := #[ptr pd, .string (bs a), .string { data := #[48, 49, 50, 51, 52, 53, 54, 55, 56, 57] }]) (fun F h => by
            have := append_d wv pd F (sd P o) a ten h (KK.out.smd (by omega)) (by show (0 : Int) ≤ 65536; omega) (by show (65536 : Int) ≤ _; omega) (by decide)
            rw [KK.out.apd (by omega) HOK.out] at this
            exact this))
          clear hok hsi
          go_wp2_with fail
          refine HA.out.mono ?_
          rintro e w6 ⟨rfl, ht, _⟩
          have T6 := Lib.hid ht
          have hc6 : w6.cell? ⟨b, off + i, none⟩ = some (.string (bs a)) := by
            have h9 : Strs w6 w.heap.size (some ⟨b, off, none⟩) N ss := HS.out.below ht.below (Nat.le_refl _)
            obtain ⟨b', off', s', e', _, hs', hc'⟩ := h9.get hlt
            cases e'
            rw [HSI.out] at hs'
            cases hs'
            exact hc'
          have hb6 : b < w6.heap.size := World.block_lt_of_cell? w6 _ hc6
          clear ht HA hc hbv
          rcases Nat.lt_trichotomy n k with hnk | hnk | hnk
          · have n1 : (n : Int) < (k : Int) := by omega
            have HC := Lib.hid (T6.out.onC (st' := sc (Q ++ [.app a ten]) (m + 1)) (r := .int .i64 0) (f := 14) (args := #[ptr pc, .string (bs a), .string { data := #[48, 49, 50, 51, 52, 53, 54, 55, 56, 57] }]) (fun F h => by
              have := append_d w6 pc F (sc Q m) a ten h (KK.out.smc (by omega)) (by show (0 : Int) ≤ 65536; omega) (by show (65536 : Int) ≤ _; omega) (by decide)
              rw [KK.out.apc (by omega) (by decide) HOK.out] at this
              exact this))
            have K7 := Lib.hid (KK.out.both (x := .app a ten) (y := .app a ten) ten_le ten_le (T_lt (by have := KK.out.len; omega)))
            go_wp2_with fail
            refine HC.out.mono ?_
            rintro e w7 ⟨rfl, ht, _⟩
            have T7 := Lib.hid ht
            clear ht HC
            go_wp2_with fail
            go_roundg (N - (i + 1))
            case measure => omega
            case rel => exact ⟨i + 1, n + 1, _, _, _, _, by go_num, by go_num, by omega, by omega, by omega, K7.out, T7.out⟩
          · subst hnk
            have n1 : ¬ (n : Int) < (n : Int) := by omega
            rcases Nat.eq_zero_or_pos q with hq0 | hq0
            · subst hq0
              have K7 := Lib.hid (KK.out.nothing (x := .app a ten) ten_le (by rw [T_eq KK.out.len]; rfl))
              go_wp2_with fail
              go_roundg (N - (i + 1))
              case measure => omega
              case rel => exact ⟨i + 1, n + 1, _, _, _, _, by go_num, by go_num, by omega, by omega, by omega, K7.out, T6.out⟩
            · have q1 : (0 : Int) < (q : Int) := by omega
              have hmin : (min (q : Int) 10).toNat ≤ 10 := by omega
              have hcap : (0 : Int) ≤ min (q : Int) 10 ∧ min (q : Int) 10 ≤ 10 := by omega
              have HC := Lib.hid (T6.out.quiet (w' := w6.drew) (Below.refl _ _).drew |>.onC (st' := sc (Q ++ [.app a (ten.take (min (q : Int) 10).toNat)]) (m + 1)) (r := .int .i64 0) (f := 14) (args := #[ptr pc, .string (bs a), .string ((bs ten).extract 0 (min (q : Int) 10).toNat)]) (fun F h => by
                have := append_d w6.drew pc F (sc Q m) a (ten.take (min (q : Int) 10).toNat) h (KK.out.smc (by omega)) (by show (0 : Int) ≤ 65536; omega) (by show (65536 : Int) ≤ _; omega) (by rw [List.length_take]; omega)
                rw [KK.out.apc (by omega) (by rw [List.length_take]; omega) HOK.out] at this
                rw [bs_extract]
                exact this))
              have K7 := Lib.hid (KK.out.both (x := .app a ten) (y := .app a (ten.take (min (q : Int) 10).toNat)) ten_le (by show (ten.take _).length ≤ 10; rw [List.length_take]; omega) (by
                rw [T_eq KK.out.len]
                show (if 0 < (q : Int) then _ else _) = _
                rw [if_pos q1]
                rfl))
              have z1 := Wb.at_ hc6
              go_wp2_with fail
              refine wp_region_plan [([0, 1, 2, 3, 4, 5, 6, 7, 8, 9], some (10, true)), ([], none)] (by kernel_rfl) (by kernel_rfl) ?_
              refine seg_write _ (by dsimp only [pick, at_]) _ (by dsimp only [pick, at_]) ?_
              repeat (go_big_quiet_step (fail))
              refine wpQuiet_nil ?_
              intro K2 g1
              clear z1
              go_wp2_with (fail)
              refine HC.out.mono ?_
              rintro e w7 ⟨rfl, ht, _⟩
              have T7 := Lib.hid ht
              clear ht HC
              go_wp2_with fail
              refine seg_end _ (by dsimp only [pick, at_]) ?_
              repeat (go_big_quiet_step (fail))
              refine wpQuiet_nil (NoPanic.normal ?_)
              go_wp2_with fail
              go_roundg (N - (i + 1))
              case measure => omega
              case rel => exact ⟨i + 1, n + 1, _, _, _, _, by go_num, by go_num, by omega, by omega, by omega, K7.out, T7.out⟩
          · have n1 : ¬ (n : Int) < (k : Int) := by omega
            have n2 : ((n : Int) == (k : Int)) = false := by simp; omega
            have n3 : ¬ (n : Int) = (k : Int) := by omega
            have K7 := Lib.hid (KK.out.nothing (x := .app a ten) ten_le (T_gt (by have := KK.out.len; omega)))
            go_wp2_with fail
            go_roundg (N - (i + 1))
            case measure => omega
            case rel => exact ⟨i + 1, n + 1, _, _, _, _, by go_num, by go_num, by omega, by omega, by omega, K7.out, T6.out⟩
      · have i1 : ¬ (i : Int) < (N : Int) := by omega
        have hfk := KK.out.smd (by omega)
        have HC := Lib.hid (TT.out.onD (st' := crashSt (sd P o) k q) (r := .tuple #[]) (f := 16) (args := #[ptr pd, .int .i64 k, .int .i64 q]) (fun F h => crash_d wv pd F (sd P o) k q h (by have := L0_sum; have := KK.out.sp; show fsum L0 + sumc P ≤ _; omega) (by have := L0_len; have := KK.out.len; show L0.length + P.length ≤ _; omega)))
        clear hfk
        go_wp2_with fail
        refine HC.out.mono ?_
        rintro e w6 ⟨rfl, ht, _⟩
        obtain ⟨G, hG⟩ : ∃ G, T k q P = G := ⟨_, rfl⟩
        have T6 : Two (fun _ => False) w w6 pd pc ⟨65536, G, [], none, true, o⟩ (sc Q m) := by rw [← hG]; exact ht
        have hQ : (sc Q m).shown = G := by show fold [] Q = G; rw [KK.out.eq, hG]
        have hlen : G.length ≤ 129 := by
          have h1 := fold_len [] Q
          have h2 := KK.out.lq
          rw [KK.out.eq, hG] at h1
          have h3 : ([] : AL Nm).length = 0 := rfl
          omega
        obtain ⟨gl, hgl⟩ : ∃ gl, G.length = gl := ⟨_, rfl⟩
        have GL := Lib.hid hgl
        have HQ := Lib.hid hQ
        obtain ⟨F6, d6⟩ := T6.d
        have HN1 := Lib.hid (names_d w6 pd F6 _ d6 (by show G.length < _; omega))
        have T6 := Lib.hid T6
        have hl2 : gl ≤ 129 := by omega
        clear ht hG HC d6 hQ hgl hlen
        go_wp2_with fail
        refine HN1.out.mono ?_
        rintro e w7 ⟨v1, rfl, ho1, hb1⟩
        rw [show (St.shown ⟨65536, G, [], none, true, o⟩) = G from rfl, GL.out] at ho1
        obtain ⟨A1, c1, rfl⟩ := own_sl ho1
        have O1 := Lib.hid (show Nms w7 w6.heap.size A1 gl c1 G from ho1)
        have B1 := Lib.hid hb1
        have T7 := Lib.hid (T6.out.quiet hb1)
        obtain ⟨F7, d7⟩ := T7.out.swap.d
        have HN2 := Lib.hid (names_d w7 pc F7 _ d7 (by rw [HQ.out, GL.out]; omega))
        clear ho1 hb1 HN1 d7
        go_wp2_with fail
        refine HN2.out.mono ?_
        rintro e w8 ⟨v2, rfl, ho2, hb2⟩
        rw [HQ.out, GL.out] at ho2
        obtain ⟨A2, c2, rfl⟩ := own_sl ho2
        have O2 := Lib.hid (show Nms w8 w7.heap.size A2 gl c2 G from ho2)
        have O1' := Lib.hid (show Nms w8 w6.heap.size A1 gl c1 G from own_ch O1.out (Chg.of_below hb2) (fun _ _ e => e))
        have hs67 : w6.heap.size ≤ w7.heap.size := B1.out.size
        have T8 := Lib.hid (T6.out.mark (Y := fun k => (Value.slice A1 gl c1).ownBlock = some k ∨ (Value.slice A2 gl c2).ownBlock = some k) (B1.out.trans (hb2.mono hs67)) (fun k hk => .inr (by
          rcases hk with e | e
          · exact (O1.out.lt k e).1
          · have := (O2.out.lt k e).1; omega)) (fun k hk => by
          rcases hk with e | e
          · exact (O1'.out.lt k e).2
          · exact (O2.out.lt k e).2))
        obtain ⟨F8, d8⟩ := T8.out.d
        have HP := Lib.hid (pending_d w8 pd F8 _ d8)
        have HDD := Lib.hid (dead_d w8 pd F8 _ d8)
        have HP2 := Lib.hid (show Calls Try.prog 18 #[ptr pd] w8 fun e w' => e = .returned (.int .i64 0) ∧ w8 = w' from HP.out)
        have HD2 := Lib.hid (show Calls Try.prog 19 #[ptr pd] w8 fun e w' => e = .returned (.bool true) ∧ w8 = w' from HDD.out)
        clear ho2 hb2 HN2 d8 T6 T7 O1 B1 HP HDD hs67
        go_wp2_with fail
        refine HP2.out.mono ?_
        rintro e w9 ⟨rfl, rfl⟩
        clear HP2
        go_wp2_with fail
        refine HD2.out.mono ?_
        rintro e w9 ⟨rfl, rfl⟩
        clear HD2
        go_wp2_with fail
        go_loopg [14, 15, 16, 17, 18] gl (fun gg s14 s15 s16 s17 s18 wr => ∃ (j : Nat), s14 = .int .i64 j ∧ j ≤ gl ∧ gl - j ≤ gg ∧ Aside (Nms wr w6.heap.size A1 gl c1 G) ∧ Aside (Nms wr w7.heap.size A2 gl c2 G) ∧ Aside (Two (fun k => (Value.slice A1 gl c1).ownBlock = some k ∨ (Value.slice A2 gl c2).ownBlock = some k) w wr pd pc ⟨65536, G, [], none, true, o⟩ (sc Q m)))
        case atStart => exact ⟨0, rfl, Nat.zero_le _, by omega, O1'.out, O2.out, T8.out⟩
        case round =>
          clear O1' O2 T8
          obtain ⟨j, rfl, hj, hjg, OA, OB, TX⟩ := hrel
          obtain ⟨wx, rfl⟩ : ∃ wx, wx = wr := ⟨wr, rfl⟩
          by_cases hjl : j < gl
          · have j1 : (j : Int) < (gl : Int) := by omega
            have j0 : (0 : Int) ≤ (j : Int) := by omega
            obtain ⟨b1, f1, a, eA1, hbl1, ha1, hc1⟩ := OA.out.at hjl
            obtain ⟨b2, f2, a2, eA2, hbl2, ha2, hc2⟩ := OB.out.at hjl
            rw [ha1] at ha2
            cases ha2
            have hal : a.length ≤ maxLen := Two_names TX.out a (List.mem_of_getElem? ha1)
            subst eA1 eA2
            obtain ⟨S, hS⟩ : ∃ S, (al.get G a).getD [] = S := ⟨_, rfl⟩
            obtain ⟨Bo, hBo⟩ : ∃ Bo, (al.get G a).isSome = Bo := ⟨_, rfl⟩
            have hans : ans (al.get G a) = .tuple #[.string (bs S), .bool Bo] := by rw [ans_eq, hS, hBo]
            have HR1 := Lib.hid (TX.out.onD (st' := ⟨65536, G, [], none, true, o⟩) (r := .tuple #[.string (bs S), .bool Bo]) (f := 20) (args := #[ptr pd, .string (bs a)]) (fun F h => by
              have := read_d wx pd F _ a h hal
              rw [show (St.shown ⟨65536, G, [], none, true, o⟩) = G from rfl, hans] at this
              exact this))
            have HAL := Lib.hid hal
            have HA1 := Lib.hid ha1
            have HANS := Lib.hid hans
            clear ha1 hal hans hS hBo hc2
            go_wp2_with fail
            refine HR1.out.mono ?_
            rintro e wy ⟨rfl, ht, hch⟩
            have OA2 := Lib.hid (show Nms wy w6.heap.size (some ⟨b1, f1, none⟩) gl c1 G from own_ch OA.out hch (fun g hg e => e (.inl hg)))
            have OB2 := Lib.hid (show Nms wy w7.heap.size (some ⟨b2, f2, none⟩) gl c2 G from own_ch OB.out hch (fun g hg e => e (.inr hg)))
            have TY := Lib.hid ht
            have hcy : wy.cell? ⟨b2, f2 + j, none⟩ = some (.string (bs a)) := OB2.out.is HA1.out hjl
            have hb2y : b2 < wy.heap.size := World.block_lt_of_cell? wy _ hcy
            have HR2 := Lib.hid (TY.out.onC (st' := sc Q m) (r := .tuple #[.string (bs S), .bool Bo]) (f := 20) (args := #[ptr pc, .string (bs a)]) (fun F h => by
              have := read_d wy pc F _ a h HAL.out
              rw [HQ.out, HANS.out] at this
              exact this))
            clear ht hch HR1 OA OB TX hc1 hbl1 hbl2
            go_wp2_with fail
            refine HR2.out.mono ?_
            rintro e wz ⟨rfl, ht, hch⟩
            have OA3 := Lib.hid (show Nms wz w6.heap.size (some ⟨b1, f1, none⟩) gl c1 G from own_ch OA2.out hch (fun g hg e => e (.inl hg)))
            have OB3 := Lib.hid (show Nms wz w7.heap.size (some ⟨b2, f2, none⟩) gl c2 G from own_ch OB2.out hch (fun g hg e => e (.inr hg)))
            have TZ := Lib.hid ht
            have hz1 : wz.cell? ⟨b1, f1 + j, none⟩ = some (.string (bs a)) := OA3.out.is HA1.out hjl
            have hz2 : wz.cell? ⟨b2, f2 + j, none⟩ = some (.string (bs a)) := OB3.out.is HA1.out hjl
            have hb1z : b1 < wz.heap.size := World.block_lt_of_cell? wz _ hz1
            have hb2z : b2 < wz.heap.size := World.block_lt_of_cell? wz _ hz2
            have z1 := Wb.at_ hz1
            have z2 := Wb.at_ hz2
            clear ht hch HR2 OA2 OB2 TY hcy hb2y
            go_wp2_with fail
            refine wp_region_plan [([0, 1, 2, 3, 4, 5, 6, 7, 8, 9, 10, 11, 12, 13], none)] (by kernel_rfl) (by kernel_rfl) ?_
            refine seg_end _ (by dsimp only [pick, at_]) ?_
            repeat (go_big_quiet_step (fail))
            refine wpQuiet_nil (NoPanic.normal ?_)
            clear z1 z2
            go_wp2_with fail
            go_roundg (gl - (j + 1))
            case measure => omega
            case rel => exact ⟨j + 1, by go_num, by omega, by omega, OA3.out, OB3.out, TZ.out.quiet (Below.refl _ _).drew⟩
          · have j1 : ¬ (j : Int) < (gl : Int) := by omega
            have hbel := TX.out.below
            go_wp2_with fail
            go_ret
            exact ⟨rfl, hbel⟩
end Go.Proofs.Ytmnliieiiaedeaa.lawDiskKeeps
