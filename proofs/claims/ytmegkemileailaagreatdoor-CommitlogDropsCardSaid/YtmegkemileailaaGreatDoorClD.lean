/-
  The commit log's Decode.
-/
import Derived.Test.YtmegkemileailaaGreatDoorClPf
namespace Go.Proofs.YtmegkemileailaaGreatDoor.cl
open Go.ChangeShapes Go.WideShapes Go.ChangeAt Go.RowKit plain words ord mem uvs uvc

def RE : El Rec where
  enc := rc
  k := 5
  e := 36
  len := fun _ => rfl
  one := fun x v hv => by
    simp [rc] at hv
    rcases hv with rfl | rfl | rfl | rfl | rfl <;> rfl
  pos := by decide
/-- 'append(v, x...)' of records in a walk -/
theorem append_r {w : World} {ops : Array Oper} {rest : List Oper} {o : Oper} {a : Act} {Q : Exit → Act → World → Prop} (hgd : o.guard = none) (s x : Operand)
    (ho : o.op = .call { callee := .builtin .append, args := #[s, x], argTypes := #[22, 22] })
    (base : Nat) (v : Value) (n : Nat) (l : List Rec) (hs : a.eval s = v) (hown : Ow RE w base v n l)
    (B : Nat) (A : Option Addr) (m c : Nat) (hA : A = none → c = 0) (news : List Rec) (hx : a.eval x = .slice A m c) (hr : Ls RE w B A m news)
    (hn : n + m ≤ 1099511627776) (hbase : base ≤ w.heap.size)
    (h : ∀ A' c' w', Ow RE w' base (.slice A' (n + m) c') (n + m) (l ++ news) → w.grownBy w' v.ownBlock → (A' = none → c' = 0) → n + m ≤ c' → c' ≤ 9223372036854775807 → w.heap.size ≤ w'.heap.size → wpList Tryz.prog ops Q rest (a.put o.dst (.slice A' (n + m) c')) w') : wpList Tryz.prog ops Q (o :: rest) a w := by
  obtain ⟨i0, hi, hz0, hz1, hz2⟩ := info_parts infoR
  exact wpList_append_ow RE (P := Tryz.prog) Tryz.underlying22 hi hz0 hz1 hz2 rfl (by decide) hgd s x ho base v n l hs hown B A m c hA news hx hr hn hbase h
def RetDec (w : World) (bs : By) (e : Ending) (w' : World) : Prop :=
  ∃ A c, e = .returned (.tuple #[.slice A (dec bs).1.length c, .int .i64 ((dec bs).2 : Nat)]) ∧ Ow RE w' w.heap.size (.slice A (dec bs).1.length c) (dec bs).1.length (dec bs).1 ∧ Below w.heap.size w w'
theorem ret_dec {w w' : World} {bs : By} {l : List Rec} {n at_ c : Nat} {A : Option Addr} (hd : dec bs = (l, at_)) (ho : Ow RE w' w.heap.size (.slice A n c) n l) (hb : Below w.heap.size w w') : RetDec w bs (.returned (.tuple #[.slice A n c, .int .i64 (at_ : Nat)])) w' := by
  have := ho.1
  subst this
  refine ⟨A, c, ?_, ?_, hb⟩
  · rw [hd]
  · rw [hd]; exact ho
/-- how far the decoding has come -/
structure DS (bs : By) (l : List Rec) (at_ : Nat) : Prop where
  le : at_ ≤ bs.length
  eq : dec bs = (l ++ (dec (bs.drop at_)).1, at_ + (dec (bs.drop at_)).2)
  few : l.length ≤ at_
theorem DS.zero (bs : By) : DS bs [] 0 := ⟨Nat.zero_le _, by simp, Nat.le_refl _⟩
theorem DS.next {bs : By} {l : List Rec} {at_ : Nat} (h : DS bs l at_) {r : Rec} {n : Nat} (hd : dec1 (bs.drop at_) = some (r, n)) : DS bs (l ++ [r]) (at_ + n) := by
  obtain ⟨_, _, _, h4, _⟩ := dec1_back hd
  have hp := dec1_pos hd
  rw [List.length_drop] at h4
  refine ⟨by have := h.le; omega, ?_, by rw [List.length_append, List.length_singleton]; have := h.few; omega⟩
  rw [h.eq, dec_some hd, List.drop_drop]
  simp [Nat.add_assoc]
theorem DS.stop {bs : By} {l : List Rec} {at_ : Nat} (h : DS bs l at_) (hd : dec1 (bs.drop at_) = none) : dec bs = (l, at_) := by
  rw [h.eq, dec_none hd]; simp
set_option maxHeartbeats 4000000 in
set_option maxRecDepth 100000 in
theorem decode_x (w : World) (B n c : Nat) (A : Option Addr) (bs : By) (h : Bs w B A n bs) (hA : A = none → c = 0) (hB : B ≤ w.heap.size) (hnc : n ≤ c) (hcm : c ≤ 9223372036854775807) (hn : n ≤ 1000000000) :
    Calls Tryz.prog 34 #[.slice A n c] w (RetDec w bs) := by
  have hl := h.len_
  have HH := Lib.hid h
  have HL := Lib.hid hl
  clear h hl
  go_enter Tryz.func34, Tryz.ntmps34
  go_wp2_with (fail)
  go_loopg [4, 5, 6, 7] n (fun gg s4 s5 s6 s7 wr => ∃ (at_ m : Nat) (l : List Rec) (A' : Option Addr) (c' : Nat), s4 = .slice A' m c' ∧ s5 = .int .i64 at_ ∧ n - at_ ≤ gg ∧ Aside (DS bs l at_) ∧ Aside (Ow RE wr w.heap.size (.slice A' m c') m l) ∧ Aside (Below w.heap.size w wr))
  case atStart => exact ⟨0, 0, [], _, _, rfl, rfl, by omega, DS.zero bs, (show Ow RE w w.heap.size (.slice none 0 0) 0 [] from Ow.nil _ _), Below.refl _ _⟩
  case round =>
    obtain ⟨at_, m, l, A', c', rfl, rfl, hg, DD, OW, BW⟩ := hrel
    obtain ⟨wv, rfl⟩ : ∃ wv, wv = wr := ⟨wr, rfl⟩
    have hat : at_ ≤ n := by have := DD.out.le; rw [HL.out] at this; exact this
    have p0 : (0 : Int) ≤ (at_ : Int) := by omega
    have p1 : (at_ : Int) ≤ (n : Int) := by omega
    have p2 : (n : Int) ≤ (c : Int) := by omega
    have p3 : (at_ : Int) ≤ (c : Int) := by omega
    have hHv := HH.out.below BW.out hB
    have hBv := Nat.le_trans hB BW.out.size
    rcases A with _ | ⟨b, off, sp⟩
    · obtain rfl := hA rfl
      obtain rfl : n = 0 := by omega
      obtain rfl : at_ = 0 := by omega
      have HSL : Bs wv B none 0 (bs.drop 0) := by rw [List.drop_zero]; exact hHv
      have HF := Lib.hid (first_x wv B 0 0 none _ HSL hBv (Nat.le_refl 0) (by omega) (by omega))
      clear HSL
      go_wp2_with (fail)
      refine HF.out.mono ?_
      rintro e w1 hr
      unfold RetFirst at hr
      cases hd : dec1 (bs.drop 0) with
      | none =>
        rw [hd] at hr
        obtain ⟨rfl, hb1⟩ := hr
        have hstop := DD.out.stop hd
        have ho := (OW.out.below hb1 (Nat.le_refl _)).below ((Below.refl _ _).alloc (Nat.le_refl _) (.cells (rc r0).toArray 36)) (Nat.le_refl _)
        have HR := Lib.hid (ret_dec hstop ho ((BW.out.trans (hb1.mono BW.out.size)).trans (((Below.refl _ w1).alloc (Nat.le_refl _) (.cells (rc r0).toArray 36)).mono (Nat.le_trans BW.out.size hb1.size))))
        rw [show (rc r0).toArray = #[.int .i64 r0.sp, .string (tx r0.id), .int .i64 r0.t, .int .u64 r0.v, .int .u64 r0.s] from rfl] at HR ⊢
        clear hb1 hstop ho hd
        go_wp2_with (fail)
        go_ret2
        exact HR.out
      | some p =>
        obtain ⟨r, k⟩ := p
        rw [hd] at hr
        obtain ⟨rfl, hb1⟩ := hr
        have hkp := dec1_pos hd
        have hkl := (dec1_back hd).2.2.2.1
        rw [List.length_drop, HL.out] at hkl
        exact absurd hkp (by omega)
    · have hsp : n = 0 ∨ sp = none := by
        rcases Nat.eq_zero_or_pos n with h0 | h0
        · exact .inl h0
        · obtain ⟨_, _, e⟩ := bs_addr hHv h0
          injection e with e; injection e with _ _ e; exact .inr e
      by_cases hck : c = at_
      · obtain rfl : at_ = n := by omega
        obtain rfl : at_ = c := hck.symm
        have HSL : Bs wv B (some ⟨b, off, sp⟩) 0 (bs.drop at_) := bs_nil hHv (Nat.le_refl _)
        have HF := Lib.hid (first_x wv B 0 0 (some ⟨b, off, sp⟩) _ HSL hBv (Nat.le_refl 0) (by omega) (by omega))
        clear HSL
        go_wp2_with (fail)
        refine HF.out.mono ?_
        rintro e w1 hr
        unfold RetFirst at hr
        cases hd : dec1 (bs.drop at_) with
        | none =>
          rw [hd] at hr
          obtain ⟨rfl, hb1⟩ := hr
          have hstop := DD.out.stop hd
          have ho := (OW.out.below hb1 (Nat.le_refl _)).below ((Below.refl _ _).alloc (Nat.le_refl _) (.cells (rc r0).toArray 36)) (Nat.le_refl _)
          have HR := Lib.hid (ret_dec hstop ho ((BW.out.trans (hb1.mono BW.out.size)).trans (((Below.refl _ w1).alloc (Nat.le_refl _) (.cells (rc r0).toArray 36)).mono (Nat.le_trans BW.out.size hb1.size))))
          rw [show (rc r0).toArray = #[.int .i64 r0.sp, .string (tx r0.id), .int .i64 r0.t, .int .u64 r0.v, .int .u64 r0.s] from rfl] at HR ⊢
          clear hb1 hstop ho hd
          go_wp2_with (fail)
          go_ret2
          exact HR.out
        | some p =>
          obtain ⟨r, k⟩ := p
          rw [hd] at hr
          obtain ⟨rfl, hb1⟩ := hr
          have hkp := dec1_pos hd
          have hkl := (dec1_back hd).2.2.2.1
          rw [List.length_drop, HL.out] at hkl
          exact absurd hkp (by omega)
      · have HSL : Bs wv B (some (Addr.add ⟨b, off, sp⟩ at_)) (n - at_) (bs.drop at_) := by
          rcases hsp with h0 | h0
          · rw [show n - at_ = 0 by omega]; exact bs_nil hHv (by omega)
          · subst h0; rw [words.add_plain]; exact bs_drop (c := c) hHv hat
        have HF := Lib.hid (first_x wv B (n - at_) (c - at_) _ _ HSL hBv (by omega) (by omega) (by omega))
        clear HSL
        go_wp2_with (fail)
        refine HF.out.mono ?_
        rintro e w1 hr
        unfold RetFirst at hr
        cases hd : dec1 (bs.drop at_) with
        | none =>
          rw [hd] at hr
          obtain ⟨rfl, hb1⟩ := hr
          have hstop := DD.out.stop hd
          have ho := (OW.out.below hb1 (Nat.le_refl _)).below ((Below.refl _ _).alloc (Nat.le_refl _) (.cells (rc r0).toArray 36)) (Nat.le_refl _)
          have HR := Lib.hid (ret_dec hstop ho ((BW.out.trans (hb1.mono BW.out.size)).trans (((Below.refl _ w1).alloc (Nat.le_refl _) (.cells (rc r0).toArray 36)).mono (Nat.le_trans BW.out.size hb1.size))))
          rw [show (rc r0).toArray = #[.int .i64 r0.sp, .string (tx r0.id), .int .i64 r0.t, .int .u64 r0.v, .int .u64 r0.s] from rfl] at HR ⊢
          clear hb1 hstop ho hd
          go_wp2_with (fail)
          go_ret2
          exact HR.out
        | some p =>
          obtain ⟨r, k⟩ := p
          rw [hd] at hr
          obtain ⟨rfl, hb1⟩ := hr
          have hkp := dec1_pos hd
          have hkl := (dec1_back hd).2.2.2.1
          rw [List.length_drop, HL.out] at hkl
          have DN := Lib.hid (DD.out.next hd)
          have hb2 : Below wv.heap.size wv (w1.alloc (.cells #[.int .i64 r.sp, .string (tx r.id), .int .i64 r.t, .int .u64 r.v, .int .u64 r.s] 36)) := hb1.alloc hb1.size _
          have hv2 : RV (w1.alloc (.cells #[.int .i64 r.sp, .string (tx r.id), .int .i64 r.t, .int .u64 r.v, .int .u64 r.s] 36)) w1.heap.size r := alloc_new _ _
          obtain ⟨⟨x0, x1, x2, x3, x4⟩, _⟩ := rv_cells hv2
          have lv := blk_lt hv2
          have ho2 := OW.out.below hb2 (Nat.le_refl _)
          have HB2 := Lib.hid (BW.out.trans (hb2.mono BW.out.size))
          have s2 : wv.heap.size ≤ (w1.alloc (.cells #[.int .i64 r.sp, .string (tx r.id), .int .i64 r.t, .int .u64 r.v, .int .u64 r.s] 36)).heap.size := hb2.size
          have sw := BW.out.size
          have s1 : wv.heap.size ≤ w1.heap.size := hb1.size
          have HO2 := Lib.hid ho2
          have kb : ((k : Int) == 0) = false := by simp; omega
          have k0 : ¬ (k : Int) = 0 := by omega
          have wk : IntKind.i64.wrap ((at_ : Int) + (k : Int)) = ((at_ + k : Nat) : Int) := by rw [IntWalk.i64_in _ (by omega)]; omega
          have hfew := DD.out.few
          have hln := OW.out.1
          have hnew := ls_new (E := RE) (w := w1.alloc (.cells #[.int .i64 r.sp, .string (tx r.id), .int .i64 r.t, .int .u64 r.v, .int .u64 r.s] 36)) 36 r
          rw [show (w1.alloc (.cells #[.int .i64 r.sp, .string (tx r.id), .int .i64 r.t, .int .u64 r.v, .int .u64 r.s] 36)).heap.size = w1.heap.size + 1 by simp] at hnew
          rw [show (rc r).toArray = #[.int .i64 r.sp, .string (tx r.id), .int .i64 r.t, .int .u64 r.v, .int .u64 r.s] from rfl]
          clear hb1 hb2 hv2 ho2 hd
          go_wp2_with (at_builtin; refine append_r rfl (.tmp 19) (.tmp 21) rfl w.heap.size _ m l rfl (HO2.out.below ((Below.refl _ _).alloc (Nat.le_refl _) _) (Nat.le_refl _)) _ _ 1 _ (fun e => by cases e) [r] rfl hnew (by omega) (by simp; omega) ?_; intro A3 c3 w3 hown3 hg3 hA3 hc31 hc32 hs3)
          have hb3 := (HO2.out.below ((Below.refl _ _).alloc (Nat.le_refl _) (.cells #[.int .i64 r.sp, .string (tx r.id), .int .i64 r.t, .int .u64 r.v, .int .u64 r.s] 36)) (Nat.le_refl _)).below_grown (HB2.out.trans (((Below.refl _ _).alloc (Nat.le_refl _) _).mono (by simp; omega))) hg3 (by simp; omega)
          have HO3 := Lib.hid hown3
          have HB3 := Lib.hid hb3
          clear hown3 hg3 hb3
          go_wp2_with (fail)
          go_roundg (n - (at_ + k))
          case measure => omega
          case rel => exact ⟨at_ + k, m + 1, l ++ [r], A3, c3, rfl, by go_num, by omega, DN.out, HO3.out, HB3.out⟩
end Go.Proofs.YtmegkemileailaaGreatDoor.cl
