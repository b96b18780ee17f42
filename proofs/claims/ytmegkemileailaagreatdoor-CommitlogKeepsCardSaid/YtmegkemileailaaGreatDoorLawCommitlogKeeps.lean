/-
  The walk of the law CommitlogKeeps.
-/
import Derived.Test.YtmegkemileailaaGreatDoorLgLx
import Derived.Test.YtmegkemileailaaGreatDoorLgKp
namespace Go.Proofs.YtmegkemileailaaGreatDoor.lawCommitlogKeeps
open Go.ChangeShapes Go.WideShapes Go.ChangeAt Go.RowKit Go.Shelf Go.Maps Go.Sort plain words ord mem al cl uvs dk lg

/-- both lists' blocks -/
def XX (v1 v2 : Value) (k : Nat) : Prop := v1.ownBlock = some k ∨ v2.ownBlock = some k
/-- two lists side by side -/
structure TR (w0 w : World) (v1 v2 : Value) (m1 m2 : Nat) (l1 l2 : List Rec) : Prop where
  r1 : Rw RE w v1 m1 l1
  r2 : Rw RE w v2 m2 l2
  ne : ∀ k, v1.ownBlock = some k → ¬ v2.ownBlock = some k
  lo : ∀ k, XX v1 v2 k → w0.heap.size ≤ k
section
variable {w0 w w' : World} {v1 v2 v1' v2' : Value} {m1 m2 m1' m2' : Nat} {l1 l2 l1' l2' : List Rec}
theorem TR.chg (h : TR w0 w v1 v2 m1 m2 l1 l2) (hc : Chg (fun k => ¬ XX v1 v2 k) w w') : TR w0 w' v1 v2 m1 m2 l1 l2 :=
  ⟨h.r1.chg hc (fun g hg e => e (.inl hg)), h.r2.chg hc (fun g hg e => e (.inr hg)), h.ne, h.lo⟩
theorem TR.quiet (h : TR w0 w v1 v2 m1 m2 l1 l2) (hb : Below w.heap.size w w') : TR w0 w' v1 v2 m1 m2 l1 l2 :=
  h.chg ((Chg.of_below hb).mono (fun _ _ e => e.elim))
theorem TR.lt (h : TR w0 w v1 v2 m1 m2 l1 l2) {k : Nat} (hk : XX v1 v2 k) : k < w.heap.size := by
  rcases hk with e | e
  · exact h.r1.lt e
  · exact h.r2.lt e
theorem TR.app1 (h : TR w0 w v1 v2 m1 m2 l1 l2) (hw : w0.heap.size ≤ w.heap.size) (hg : w.grownBy w' v1.ownBlock) (ho : Rw RE w' v1' m1' l1') (hat : v1'.ownBlock = v1.ownBlock ∨ v1'.ownBlock = some w.heap.size) : TR w0 w' v1' v2 m1' m2 l1' l2 ∧ (∀ k, XX v1' v2 k → XX v1 v2 k ∨ k = w.heap.size) ∧ (∀ k, XX v1' v2 k → k < w'.heap.size) := by
  have hc : Chg (fun k => v1.ownBlock = some k) w w' := (Chg.refl _ _).grown hg (fun k hk _ => hk)
  have hx : ∀ k, v1'.ownBlock = some k → v1.ownBlock = some k ∨ k = w.heap.size := fun k e => by
    rcases hat with e9 | e9
    · exact .inl (e9 ▸ e)
    · rw [e9] at e; injection e with e; exact .inr e.symm
  have hr2 := h.r2.chg hc (fun g hg e => h.ne g e hg)
  refine ⟨⟨ho, hr2, fun k e e2 => ?_, fun k e => ?_⟩, fun k e => ?_, fun k e => ?_⟩
  · rcases hx k e with e | e
    · exact h.ne k e e2
    · have := h.r2.lt e2; omega
  · rcases e with e | e
    · rcases hx k e with e | e
      · exact h.lo k (.inl e)
      · omega
    · exact h.lo k (.inr e)
  · rcases e with e | e
    · exact (hx k e).imp .inl id
    · exact .inl (.inr e)
  · rcases e with e | e
    · exact ho.lt e
    · exact hr2.lt e
theorem TR.swap (h : TR w0 w v1 v2 m1 m2 l1 l2) : TR w0 w v2 v1 m2 m1 l2 l1 := ⟨h.r2, h.r1, fun k e e2 => h.ne k e2 e, fun k e => h.lo k e.symm⟩
theorem TR.app2 (h : TR w0 w v1 v2 m1 m2 l1 l2) (hw : w0.heap.size ≤ w.heap.size) (hg : w.grownBy w' v2.ownBlock) (ho : Rw RE w' v2' m2' l2') (hat : v2'.ownBlock = v2.ownBlock ∨ v2'.ownBlock = some w.heap.size) : TR w0 w' v1 v2' m1 m2' l1 l2' ∧ (∀ k, XX v1 v2' k → XX v1 v2 k ∨ k = w.heap.size) ∧ (∀ k, XX v1 v2' k → k < w'.heap.size) := by
  obtain ⟨a, b, c⟩ := h.swap.app1 hw hg ho hat
  exact ⟨a.swap, fun k e => (b k e.symm).imp Or.symm id, fun k e => c k e.symm⟩
end
set_option maxHeartbeats 16000000 in
set_option maxRecDepth 100000 in
theorem walk_ok (A : Option Addr) (n c : Nat) (ct kp pt : Int) (w : World) (hlay : LayS w) (h0 : IsLs RE FitR w A n c) (hw1 : (Lit.int .i64 ct).wf = true) (hw2 : (Lit.int .i64 kp).wf = true) (hw3 : (Lit.int .i64 pt).wf = true) :
    Calls Tryz.prog 6 #[.slice A n c, .int .i64 ct, .int .i64 kp, .int .i64 pt] w fun e w' => e = .returned (.bool true) ∧ Below w.heap.size w w' := by
  obtain ⟨l, hl, hfit, hnc, hcm, hA⟩ := h0
  have hct := wf_i64 hw1
  unfold maxLen at hcm
  clear hw1 hw2 hw3
  by_cases g1 : 128 < n
  · have m1 : (128 : Int) < (n : Int) := by omega
    clear hl hfit
    go_enter Tryz.func6, Tryz.ntmps6
    go_wp2_with fail
    go_ret
    exact ⟨rfl, Below.refl _ _⟩
  have m1 : ¬ (128 : Int) < (n : Int) := by omega
  have HL := Lib.hid hl
  have HF := Lib.hid hfit
  have HLAY := Lib.hid hlay
  have HN := Lib.hid (new_d w 1048576)
  clear hl hfit hlay
  go_enter Tryz.func6, Tryz.ntmps6
  go_wp2_with fail
  refine HN.out.mono ?_
  rintro e w1 ⟨p, rfl, hp, hd1, hb1⟩
  have HOP := Lib.hid (LW.first hd1 hb1 HLAY.out (by show fsum ([] : AL Nm) ≤ _; decide) (by show ([] : AL Nm).length ≤ _; decide))
  clear hd1 HN hb1
  go_wp2_with fail
  refine HOP.out.mono ?_
  rintro e w2 ⟨bl, A2, n2, c2, rfl, hlw, ho2⟩
  have hI0 := LI.new 1048576
  have hn0 : nextN (newSt 1048576).shown = 1 := hI0.nextN
  rw [hn0] at hlw
  have HCUT := Lib.hid (hlw.lx.on (st' := cutSt (newSt 1048576) ct kp pt) (r := .tuple #[]) (f := 22) (args := #[ptr p, .int .i64 ct, .int .i64 kp, .int .i64 pt]) (fun F h => cut_d w2 p F _ ct kp pt h))
  clear hlw HOP ho2 hn0
  go_wp2_with fail
  refine HCUT.out.mono ?_
  rintro e w3 ⟨rfl, hl3, _⟩
  have hba : Below w3.heap.size w3 (w3.alloc (.cells #[] 36)) := (Below.refl _ _).alloc (Nat.le_refl _) _
  have hbb : Below (w3.alloc (.cells #[] 36)).heap.size (w3.alloc (.cells #[] 36)) ((w3.alloc (.cells #[] 36)).alloc (.cells #[] 36)) := (Below.refl _ _).alloc (Nat.le_refl _) _
  have o1 := (Ow.lit (E := RE) w3).below hbb (Nat.le_refl _)
  have o2 := Ow.lit (E := RE) (w3.alloc (.cells #[] 36))
  rw [World.size_alloc] at o2
  have hs3 := hl3.bel.size
  have T0 := Lib.hid (show TR w ((w3.alloc (.cells #[] 36)).alloc (.cells #[] 36)) (.slice (some ⟨w3.heap.size, 0, none⟩) 0 0) (.slice (some ⟨w3.heap.size + 1, 0, none⟩) 0 0) 0 0 [] [] from ⟨⟨o1.1, Row.of_own o1.2⟩, ⟨o2.1, Row.of_own o2.2⟩, fun k e e2 => by simp [Value.ownBlock] at e e2; omega, fun k e => by rcases e with e | e <;> (simp [Value.ownBlock] at e; omega)⟩)
  have hb2 : Below w3.heap.size w3 ((w3.alloc (.cells #[] 36)).alloc (.cells #[] 36)) := hba.trans (hbb.mono (by simp))
  have X0 := Lib.hid (hl3.mark (Y := XX (.slice (some ⟨w3.heap.size, 0, none⟩) 0 0) (.slice (some ⟨w3.heap.size + 1, 0, none⟩) 0 0)) hb2 (fun k e => by rcases e with e | e <;> (simp [Value.ownBlock] at e; right; omega)) (fun k e => by rcases e with e | e <;> (simp [Value.ownBlock] at e; simp; omega)))
  have K0 := Lib.hid (show KM (cutSt (newSt 1048576) ct kp pt) 1 kp pt [] [] 0 from ⟨.inl ⟨rfl, rfl, ⟨[], hI0⟩, max ct 0, rfl, by omega, by omega⟩, rfl, rfl, Int.le_refl 0, Int.le_refl 0, Nat.le_refl _, Nat.le_refl _, Nat.le_refl _⟩)
  clear hI0 hl3 hba hbb o1 o2 hb2 HCUT
  go_wp2_with fail
  go_loopg [12, 13, 14] n (fun gg s12 s13 s14 wr => ∃ (i ma mt N : Nat) (Aa : Option Addr) (ca : Nat) (At : Option Addr) (cu : Nat) (st : St) (acked torn : List Rec), s12 = .slice Aa ma ca ∧ s13 = .slice At mt cu ∧ s14 = .int .i64 i ∧ i ≤ n ∧ n - i ≤ gg ∧ ma ≤ i ∧ mt ≤ i ∧ Aside (LX (XX (.slice Aa ma ca) (.slice At mt cu)) w wr p bl N st) ∧ Aside (TR w wr (.slice Aa ma ca) (.slice At mt cu) ma mt acked torn) ∧ Aside (KM st N kp pt acked torn i))
  case atStart => exact ⟨0, 0, 0, 1, _, _, _, _, _, [], [], rfl, rfl, rfl, Nat.zero_le _, by omega, Nat.le_refl _, Nat.le_refl _, X0.out, T0.out, K0.out⟩
  case round =>
    obtain ⟨i, ma, mt, N, Aa, ca, At, cu, st, acked, torn, rfl, rfl, rfl, hin, hgg, hma, hmt, LL, TT, KK⟩ := hrel
    obtain ⟨wv, rfl⟩ : ∃ wv, wv = wr := ⟨wr, rfl⟩
    by_cases hlt : i < n
    · have i1 : (i : Int) < (n : Int) := by omega
      have i2 : (0 : Int) ≤ (i : Int) := by omega
      obtain ⟨r, hr⟩ := HL.out.get hlt
      obtain ⟨hnum, hid, _, _⟩ := HF.out r (List.mem_of_getElem? hr)
      unfold maxLen at hid
      obtain ⟨b, off, eA, _⟩ := rec_at (HL.out.below LL.out.bel (Nat.le_refl _)) hr
      subst eA
      have CK := Lib.hid (show ∀ u, Below w.heap.size w u → b < u.heap.size ∧ u.cell? ⟨b, off + i * 5, none⟩ = some (.int .i64 r.sp) ∧ u.cell? ⟨b, off + i * 5 + 1, none⟩ = some (.string (tx r.id)) ∧ u.cell? ⟨b, off + i * 5 + 2, none⟩ = some (.int .i64 r.t) ∧ u.cell? ⟨b, off + i * 5 + 3, none⟩ = some (.int .u64 r.v) ∧ u.cell? ⟨b, off + i * 5 + 4, none⟩ = some (.int .u64 r.s) from fun u hu => by
        obtain ⟨b', off', e, _, h⟩ := rec_at (HL.out.below hu (Nat.le_refl _)) hr
        cases e
        exact ⟨World.block_lt_of_cell? u _ h.1, h⟩)
      have ST := Lib.hid (KK.out.step (by omega) hnum)
      have E1 := Lib.hid (fun u => encode_y u r hnum (by omega))
      unfold RetEnc at E1
      obtain ⟨X, hX'⟩ : ∃ X, encB r = X := ⟨_, rfl⟩
      obtain ⟨lx, hlx⟩ : ∃ k, X.length = k := ⟨_, rfl⟩
      obtain ⟨E, hE⟩ : ∃ E, err r = E := ⟨_, rfl⟩
      simp only [hX', hlx, hE] at E1
      have XE := Lib.hid (And.intro hX' (And.intro hlx hE))
      have HWR := LL.out.write HLAY.out r hnum (by omega) (by have := KK.out.num; omega) (KK.out.small (by omega)) (fun he => KK.out.small2 (by omega) he) (by rw [KK.out.room]; decide) (by rw [KK.out.room]; decide)
      clear hX' hlx hE hr hnum
      obtain ⟨hlb, c0, c1, c2', c3, c4⟩ := CK.out wv LL.out.bel
      rcases ST.out with ⟨he, hwq⟩ | ⟨he, st', hwq, hkm⟩ | ⟨he, st', hwq, hdd, hkm⟩
      · rw [hwq, XE.out.2.2] at HWR
        rw [XE.out.2.2] at he
        have hE1 : (E != 0) = true := by simpa using he
        have HWR := Lib.hid HWR
        clear hwq
        go_wp2_with fail
        refine HWR.out.mono ?_
        rintro e w5 ⟨rfl, hl5, hc5⟩
        have L5 := Lib.hid hl5
        have T5 := Lib.hid (TT.out.chg hc5)
        clear hl5 hc5 HWR c0 c1 c2' c3 c4 hlb
        obtain ⟨hlb, c0, c1, c2', c3, c4⟩ := CK.out w5 L5.out.bel
        have E5 := Lib.hid (E1.out w5)
        go_wp2_with fail
        refine E5.out.mono ?_
        rintro e w6 ⟨A1, x1, rfl, _, hb6, _⟩
        have L6 := Lib.hid (L5.out.quiet hb6)
        have T6 := Lib.hid (T5.out.quiet hb6)
        clear hb6 E5 c0 c1 c2' c3 c4 hlb
        go_wp2_with fail
        go_roundg (n - (i + 1))
        case measure => omega
        case rel => exact ⟨i + 1, ma, mt, N, Aa, ca, At, cu, st, acked, torn, rfl, rfl, by go_num, by omega, by omega, by omega, by omega, L6.out, T6.out, KK.out.more (Nat.le_succ _)⟩
      · rw [hwq] at HWR
        rw [XE.out.2.2] at he
        have HKM := Lib.hid hkm
        have HWR := Lib.hid HWR
        subst he
        clear hwq hkm
        go_wp2_with fail
        refine HWR.out.mono ?_
        rintro e w5 ⟨rfl, hl5, hc5⟩
        have L5 := Lib.hid hl5
        have T5 := Lib.hid (TT.out.chg hc5)
        clear hl5 hc5 HWR c0 c1 c2' c3 c4 hlb
        obtain ⟨hlb, c0, c1, c2', c3, c4⟩ := CK.out w5 L5.out.bel
        have E5 := Lib.hid (E1.out w5)
        go_wp2_with fail
        refine E5.out.mono ?_
        rintro e w6 ⟨A1, x1, rfl, _, hb6, _⟩
        have L6 := Lib.hid (L5.out.quiet hb6)
        have T6 := Lib.hid (T5.out.quiet hb6)
        clear hb6 E5 c0 c1 c2' c3 c4 hlb
        obtain ⟨hlb, c0, c1, c2', c3, c4⟩ := CK.out w6 L6.out.bel
        go_wp2_with (at_builtin; refine append_w rfl (.tmp 66) (.tmp 71) rfl _ ma acked rfl ((T6.out.quiet ((Below.refl _ _).alloc (Nat.le_refl _) _)).r1) (w6.heap.size + 1) (some ⟨w6.heap.size, 0, none⟩) 1 1 (fun e => by cases e) [r] (by rfl) (ls_new (E := RE) (w := w6) 36 r) (by omega) ?_; intro A7 c7 w7 hown7 hg7 hat7; obtain ⟨ta, tb, tc⟩ := (T6.out.quiet ((Below.refl _ _).alloc (Nat.le_refl _) (.cells #[.int .i64 r.sp, .string (tx r.id), .int .i64 r.t, .int .u64 r.v, .int .u64 r.s] 36))).app1 (by have := L6.out.bel.size; simp; omega) hg7 hown7 hat7; have T7 := Lib.hid ta; have L7 := Lib.hid ((L6.out.quiet ((Below.refl _ _).alloc (Nat.le_refl _) (.cells #[.int .i64 r.sp, .string (tx r.id), .int .i64 r.t, .int .u64 r.v, .int .u64 r.s] 36))).app hg7 (fun k e => .inl e) T6.out.lo tb tc); clear ta tb tc hown7 hg7 hat7)
        go_roundg (n - (i + 1))
        case measure => omega
        case rel => exact ⟨i + 1, ma + 1, mt, N, A7, c7, At, cu, st', acked ++ [r], torn, rfl, rfl, by go_num, by omega, by omega, by omega, by omega, L7.out, T7.out, HKM.out⟩
      · rw [hwq] at HWR
        rw [XE.out.2.2] at he
        have HKM := Lib.hid hkm
        have HWR := Lib.hid HWR
        have HDD := Lib.hid hdd
        subst he
        clear hwq hkm hdd
        go_wp2_with fail
        refine HWR.out.mono ?_
        rintro e w5 ⟨rfl, hl5, hc5⟩
        have L5 := Lib.hid hl5
        have T5 := Lib.hid (TT.out.chg hc5)
        clear hl5 hc5 HWR c0 c1 c2' c3 c4 hlb
        obtain ⟨hlb, c0, c1, c2', c3, c4⟩ := CK.out w5 L5.out.bel
        have E5 := Lib.hid (E1.out w5)
        go_wp2_with fail
        refine E5.out.mono ?_
        rintro e w6 ⟨A1, x1, rfl, _, hb6, _⟩
        have L6 := Lib.hid (L5.out.quiet hb6)
        have T6 := Lib.hid (T5.out.quiet hb6)
        clear hb6 E5 c0 c1 c2' c3 c4 hlb
        obtain ⟨F, hF, _⟩ := L6.out.disk
        have HDE := Lib.hid (dead_d w6 p F st' hF)
        rw [HDD.out] at HDE
        clear hF
        go_wp2_with fail
        refine HDE.out.mono ?_
        rintro e w6' ⟨rfl, rfl⟩
        obtain ⟨hlb, c0, c1, c2', c3, c4⟩ := CK.out w6 L6.out.bel
        go_wp2_with (at_builtin; refine append_w rfl (.tmp 80) (.tmp 85) rfl _ mt torn rfl ((T6.out.quiet ((Below.refl _ _).alloc (Nat.le_refl _) _)).r2) (w6.heap.size + 1) (some ⟨w6.heap.size, 0, none⟩) 1 1 (fun e => by cases e) [r] (by rfl) (ls_new (E := RE) (w := w6) 36 r) (by omega) ?_; intro A7 c7 w7 hown7 hg7 hat7; obtain ⟨ta, tb, tc⟩ := (T6.out.quiet ((Below.refl _ _).alloc (Nat.le_refl _) (.cells #[.int .i64 r.sp, .string (tx r.id), .int .i64 r.t, .int .u64 r.v, .int .u64 r.s] 36))).app2 (by have := L6.out.bel.size; simp; omega) hg7 hown7 hat7; have T7 := Lib.hid ta; have L7 := Lib.hid ((L6.out.quiet ((Below.refl _ _).alloc (Nat.le_refl _) (.cells #[.int .i64 r.sp, .string (tx r.id), .int .i64 r.t, .int .u64 r.v, .int .u64 r.s] 36))).app hg7 (fun k e => .inr e) T6.out.lo tb tc); clear ta tb tc hown7 hg7 hat7)
        go_roundg (n - (i + 1))
        case measure => omega
        case rel => exact ⟨i + 1, ma, mt + 1, N + 1, Aa, ca, A7, c7, st', acked, torn ++ [r], rfl, rfl, by go_num, by omega, by omega, by omega, by omega, L7.out, T7.out, HKM.out⟩
    · have i1 : ¬ (i : Int) < (n : Int) := by omega
      have HCR := Lib.hid (LL.out.on (st' := crashSt st kp pt) (r := .tuple #[]) (f := 24) (args := #[ptr p, .int .i64 kp, .int .i64 pt]) (fun F h => crash_d wv p F st kp pt h (by rw [KK.out.pend]; have := KK.out.sum; show fsum st.last + 0 ≤ _; omega) (by rw [KK.out.pend]; have := KK.out.len; show st.last.length + 0 ≤ _; omega)))
      go_wp2_with fail
      refine HCR.out.mono ?_
      rintro e w3' ⟨rfl, hl3, hc3⟩
      have T3 := Lib.hid (TT.out.chg hc3)
      have HPO := Lib.hid (hl3.on (st' := powSt (crashSt st kp pt)) (r := .tuple #[]) (f := 26) (args := #[ptr p]) (fun F h => power_d w3' p F _ h))
      obtain ⟨o, ho⟩ := KK.out.back
      rw [ho] at HPO
      clear hl3 hc3 HCR ho
      go_wp2_with fail
      refine HPO.out.mono ?_
      rintro e w4 ⟨rfl, hl4, hc4⟩
      have T4 := Lib.hid (T3.out.chg hc4)
      obtain ⟨T, hT, hTT⟩ := KK.out.told
      have HOP := Lib.hid (hl4.open_ HLAY.out (by have := KK.out.sum; show fsum st.last ≤ _; omega) (by have := KK.out.len; show st.last.length ≤ _; omega))
      have e9 : (⟨st.room, st.last, [], none, false, o⟩ : St).shown = st.last := rfl
      rw [e9, hT] at HOP
      clear hl4 hc4 HPO hT e9
      go_wp2_with fail
      refine HOP.out.mono ?_
      rintro e w5 ⟨bl5, A5, n5, c5, rfl, hl5, ho5, hc5⟩
      have T5 := Lib.hid (T4.out.chg hc5)
      have B5 := Lib.hid hl5.bel
      have hn5 : n5 = ma + T.length := by rw [← ho5.1, List.length_append, T5.out.r1.1]
      subst hn5
      obtain ⟨_, _, ee, hnil5, hcap5, hcap5m⟩ := ho5.form
      injection ee with ee1 ee2 ee3
      subst ee1 ee3
      have tk : (acked ++ T).take ma = acked := by rw [← T5.out.r1.1]; exact List.take_left
      have lk := ho5.ls.take (i := ma) (by omega)
      rw [tk] at lk
      have S1 := Lib.hid (same_r w5 w5.heap.size w5.heap.size ma c5 ca A5 Aa acked lk T5.out.r1.ls (Nat.le_refl _) (Nat.le_refl _) (by omega))
      have O5 := Lib.hid ho5
      have j1 : ¬ (ma : Int) + (T.length : Int) < (ma : Int) := by omega
      have j2 : (ma : Int) ≤ (c5 : Int) := by omega
      have j3 : (0 : Int) ≤ (ma : Int) := by omega
      have j4 : (ma : Int) ≤ (ma : Int) + (T.length : Int) := by omega
      clear hl5 ho5 hc5 ee2 tk lk HOP
      rcases hTT with rfl | ⟨r, rfl, hr⟩
      · simp only [List.length_nil, Nat.add_zero] at O5 hcap5 j1 j4 ⊢
        go_wp2_with fail
        refine S1.out.mono ?_
        rintro e w6 ⟨rfl, hb6⟩
        have B6 := Lib.hid (B5.out.trans (hb6.mono B5.out.size))
        clear hb6 S1
        by_cases hcm5 : c5 = ma
        · subst hcm5
          go_wp2_with fail
          refine wp_region_plan [([0,1,2,3,4,5,6,7,8,9,10,11,12,13,14,15,16,17,18,19,20,21,22], none)] (by kernel_rfl) (by kernel_rfl) ?_
          refine seg_end _ (by dsimp only [pick, at_]) ?_
          repeat (go_big_quiet_step (fail))
          refine wpQuiet_nil (NoPanic.normal ?_)
          go_wp2_with fail
          go_ret
          exact ⟨rfl, B6.out.drew⟩
        · go_wp2_with fail
          refine wp_region_plan [([0,1,2,3,4,5,6,7,8,9,10,11,12,13,14,15,16,17,18,19,20,21,22], none)] (by kernel_rfl) (by kernel_rfl) ?_
          refine seg_end _ (by dsimp only [pick, at_]) ?_
          repeat (go_big_quiet_step (fail))
          refine wpQuiet_nil (NoPanic.normal ?_)
          go_wp2_with fail
          go_ret
          exact ⟨rfl, B6.out.drew⟩
      · simp only [List.length_cons, List.length_nil, Nat.zero_add] at O5 hcap5 j1 j4 ⊢
        have hcm5 : ¬ c5 = ma := by omega
        go_wp2_with fail
        refine S1.out.mono ?_
        rintro e w6 ⟨rfl, hb6⟩
        have T6 := Lib.hid (T5.out.quiet hb6)
        have O6 := Lib.hid (O5.out.below hb6 (Nat.le_refl _))
        have B6 := Lib.hid (B5.out.trans (hb6.mono B5.out.size))
        clear hb6 S1
        have k1 : (acked ++ [r])[ma]? = some r := by rw [← T5.out.r1.1]; simp
        have k2 : torn[0]? = some r := by rw [← List.head?_eq_getElem?]; exact hr
        have k3 : 0 < mt := by rw [← T5.out.r2.1]; exact (List.getElem?_eq_some_iff.mp k2).1
        obtain ⟨b, off, eA, hb, c0, c1', c2', c3, c4⟩ := rec_at O6.out.ls k1
        obtain ⟨b', off', eA', hb', d0, d1, d2, d3, d4⟩ := rec_at T6.out.r2.ls k2
        subst eA eA'
        clear hr k1 k2
        obtain ⟨sp, id, t, v, s⟩ := r
        simp only [Nat.zero_mul, Nat.add_zero] at c0 c1' c2' c3 c4 d0 d1 d2 d3 d4
        have lb : b < w6.heap.size := World.block_lt_of_cell? w6 _ c0
        have lb' : b' < w6.heap.size := World.block_lt_of_cell? w6 _ d0
        have z0 := Wb.at_ c0
        have z1 := Wb.at_ c1'
        have z2 := Wb.at_ c2'
        have z3 := Wb.at_ c3
        have z4 := Wb.at_ c4
        have y0 := Wb.at_ d0
        have y1 := Wb.at_ d1
        have y2 := Wb.at_ d2
        have y3 := Wb.at_ d3
        have y4 := Wb.at_ d4
        have m0 : (0 : Int) < (mt : Int) := by omega
        have m1 : ((mt : Int) > 0) := m0
        go_wp2_with fail
        refine wp_region_plan [([0,1,2,3,4,5,6,7,8,9,10,11,12,13,14,15,16,17,18,19,20,21,22], none)] (by kernel_rfl) (by kernel_rfl) ?_
        refine seg_end _ (by dsimp only [pick, at_]) ?_
        repeat (go_big_quiet_step (fail))
        refine wpQuiet_nil (NoPanic.normal ?_)
        go_wp2_with fail
        go_ret
        exact ⟨rfl, B6.out.drew⟩
end Go.Proofs.YtmegkemileailaaGreatDoor.lawCommitlogKeeps
