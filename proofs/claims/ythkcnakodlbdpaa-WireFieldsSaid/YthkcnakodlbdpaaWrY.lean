/-
  Messages: the document's steps.
-/
import Derived.Test.YthkcnakodlbdpaaWrS
import Derived.Test.YthkcnakodlbdpaaClW
namespace Go.Proofs.Ythkcnakodlbdpaa.wr
open Go.ChangeShapes Go.WideShapes Go.ChangeAt Go.RowKit plain words ord mem uvs uvc cl

/-- rows of bytes from B on -/
def RB (w : World) (B k : Nat) : Prop := B ≤ k ∧ ∃ cur, w.heap[k]? = some (.cells cur 5 (0, 0))
theorem rb_grown {w wx w2 : World} {B n : Nat} {v : Value} {xs : List Value} (h : Chg (RB w B) w wx) (ho : wx.ownsRow B 5 1 v n xs) (hg : wx.grownBy w2 v.ownBlock) : Chg (RB w B) w w2 :=
  h.grown hg (fun k hk hlt => Classical.byContradiction fun hn => hn ⟨(ho.lt k hk).1, by have e := own_type ho hk; rwa [h.block k hlt hn] at e⟩)
def RetApp2 (w : World) (base : Nat) (l : By) (e : Ending) (w' : World) : Prop :=
  ∃ A c, e = .returned (.slice A l.length c) ∧ w'.ownsRow base 5 1 (.slice A l.length c) l.length (u8s l) ∧ Chg (RB w base) w w'
set_option maxHeartbeats 1000000 in
set_option maxRecDepth 100000 in
theorem wide_yc (w : World) (base n c : Nat) (A : Option Addr) (bs : By) (v : Nat) (h : w.ownsRow base 5 1 (.slice A n c) n (u8s bs)) (hl : bs.length = n) (hb : base ≤ w.heap.size) (hn : n ≤ 1000000000) (hv : v < 18446744073709551616) :
    Calls Try.prog 39 #[.slice A n c, .int .u64 v] w (RetApp2 w base (bs ++ be 8 v)) := by
  obtain ⟨i0, hi, hz0, hz1, hz2⟩ := info_parts mem.infoB
  have HO := Lib.hid h
  have HL := Lib.hid hl
  have HV := Lib.hid hv
  clear h hv hl
  go_enter Try.func39, Try.ntmps39
  go_wp2_with (fail)
  go_loopg [0, 5] 8 (fun gg s0 s5 wr => ∃ (j : Nat) (A' : Option Addr) (c' m : Nat), s5 = .int .i64 ((7 : Int) - j) ∧ s0 = .slice A' m c' ∧ m = n + j ∧ j ≤ 8 ∧ 8 - j ≤ gg ∧ Aside (wr.ownsRow base 5 1 (.slice A' m c') m (u8s (bs ++ be j (v / 256 ^ (8 - j))))) ∧ Aside (Chg (RB w base) w wr))
  case atStart => exact ⟨0, A, c, n, by simp, rfl, rfl, Nat.zero_le _, by omega, (show w.ownsRow base 5 1 (.slice A n c) n (u8s (bs ++ [])) by rw [List.append_nil]; exact HO.out), Chg.refl _ _⟩
  case round =>
    obtain ⟨j, A', c', m', rfl, rfl, hm', hj, hg, OV, BW⟩ := hrel
    obtain ⟨wv, rfl⟩ : ∃ wv, wv = wr := ⟨wr, rfl⟩
    have HM' := Lib.hid hm'
    have hm9 : m' ≤ 1000000008 := by omega
    clear hm'
    by_cases hlt : j < 8
    · obtain ⟨m, hm⟩ : ∃ m : Nat, 8 - (j + 1) = m := ⟨_, rfl⟩
      have hmi : (7 : Int) - (j : Int) = (m : Int) := by omega
      rw [hmi]
      have HMORE := Lib.hid (be_more 8 j v hlt)
      rw [hm] at HMORE
      have m0 : (0 : Int) ≤ (m : Int) := by omega
      have m8 : m < 8 := by omega
      obtain ⟨D, hD⟩ : ∃ D : Nat, v / 256 ^ m = D := ⟨_, rfl⟩
      obtain ⟨ch, hch⟩ : ∃ ch, UInt8.ofNat (D % 256) = ch := ⟨_, rfl⟩
      have hval : (v : Int) / 2 ^ (8 * m) % 256 = (ch.toNat : Int) := by
        rw [← hch, ofNat_lt _ (by omega), ← hD]
        have e2 : ((2 : Int) ^ (8 * m)) = ((256 ^ m : Nat) : Int) := by rw [Int.pow_mul]; simp
        rw [e2]
        simp
      have w8 : IntKind.i64.wrap (8 * (m : Int)) = 8 * (m : Int) := by rw [IntWalk.i64_in _ (by omega)]
      rw [hD, hch] at HMORE
      have HD := Lib.hid hD
      have hnew : Rd (wv.alloc (.cells #[.int .u8 (ch.toNat : Int)] 5)) (wv.heap.size + 1) (some ⟨wv.heap.size, 0, none⟩) 1 (u8s [ch]) := rd_lit 5 (u8s [ch]) rfl
      have hb1 : Below wv.heap.size wv (wv.alloc (.cells #[.int .u8 (ch.toNat : Int)] 5)) := (Below.refl _ _).alloc (Nat.le_refl _) _
      have ho1 := own_keep OV.out hb1 (Nat.le_refl _)
      have hsz := BW.out.size
      have hbel := BW.out.then_below hb1
      have HO1 := Lib.hid ho1
      have HBEL := Lib.hid hbel
      have w9 : IntKind.i64.wrap ((m : Int) - 1) = (m : Int) - 1 := by rw [IntWalk.i64_in _ (by omega)]
      clear hmi HO hD hch ho1 hbel hb1 OV
      go_wp2_with (at_builtin; refine wpList_append_rd rfl (.tmp 10) (.tmp 16) 33 rfl base 5 i0 (.int .u8 0) 1 1 Try.underlying33 hi hz0 hz1 hz2 rfl (by decide) (.slice A' m' c') m' _ rfl HO1.out (wv.heap.size + 1) _ 1 1 (fun e => by cases e) (u8s [ch]) rfl hnew (u8s_one _) (by unfold maxLen; omega) (by omega) (by simp; omega) ?_; intro v2 w2 hown2 hg2 hnn2)
      have hbel2 := rb_grown HBEL.out HO1.out hg2
      rw [← u8s_append, List.append_assoc, ← HMORE.out] at hown2
      obtain ⟨A2, c2, rfl, _⟩ := cl.own_fit (by rw [List.length_append, be_len, HL.out, HM'.out]; omega) hown2
      have HO2 := Lib.hid hown2
      have HB2 := Lib.hid hbel2
      clear hg2 hnn2 hown2 hbel2 hnew
      go_wp2_with (fail)
      go_roundg (8 - (j + 1))
      case measure => omega
      case rel =>
        refine ⟨j + 1, A2, c2, m' + 1, ?_, rfl, by rw [HM'.out]; omega, by omega, by omega, ?_, HB2.out⟩
        · congr 1; omega
        · show World.ownsRow _ base _ 1 _ _ (u8s (bs ++ be (j + 1) (v / 256 ^ (8 - (j + 1)))))
          rw [show 8 - (j + 1) = m from hm, HD.out]
          exact HO2.out
    · have hjk : j = 8 := by omega
      subst hjk
      have hlen : (bs ++ be 8 (v / 256 ^ (8 - 8))).length = m' := by rw [List.length_append, be_len, HL.out, HM'.out]
      have hown := OV.out
      obtain ⟨A2, c2, e2, hnil, _⟩ := cl.own_fit hlen hown
      injection e2 with e3 e4 e5
      subst e3 e5
      have HLEN := Lib.hid hlen
      have HOWN := Lib.hid hown
      have HNIL := Lib.hid hnil
      clear hlen hown hnil OV e4
      go_wp2_with (fail)
      go_ret
      have h1 := HOWN.out
      have h2 := HLEN.out
      rw [Nat.sub_self, Nat.pow_zero, Nat.div_one] at h1 h2
      refine ⟨A', c', ?_, ?_, BW.out⟩
      · rw [h2]; rfl
      · rw [h2]; exact h1
/-- the document's writer: bytes, error -/
def OutY (w : World) (g B : Nat) (s : By) (e : Int) : Prop :=
  ∃ A c, w.heap[g]? = some (.cells #[.slice A s.length c, .int .i64 e] 57 (0, 0)) ∧ w.ownsRow B 5 1 (.slice A s.length c) s.length (u8s s)
def TY (w : World) (g B k : Nat) : Prop := k = g ∨ RB w B k
theorem ty_trans {a b c : World} {g B : Nat} (h : Chg (TY a g B) a b) (k : Chg (TY b g B) b c) : Chg (TY a g B) a c := tb_trans h k
theorem OutY.lt {w : World} {g B : Nat} {s : By} {e : Int} (h : OutY w g B s e) : g < w.heap.size := by obtain ⟨A, c, h, _⟩ := h; exact blk_lt h
/-- an error stays -/
def st (e r : Int) : Int := if e = 0 then r else e
theorem st_ok {e : Int} : st e 0 = e := by unfold st; split <;> omega
theorem st_0 {r : Int} : st 0 r = r := rfl
theorem st_ne {e r : Int} (h : e ≠ 0 ∨ r ≠ 0) : st e r ≠ 0 := by unfold st; split <;> omega
theorem st_no {e r : Int} (h : e ≠ 0) : st e r = e := if_neg h
def RetY (w : World) (g B K : Nat) (s : By) (e : Int) (r : Int × By) (en : Ending) (w' : World) : Prop :=
  en = .returned (.tuple #[]) ∧ ∃ s', OutY w' g B s' (st e r.1) ∧ (st e r.1 = 0 → s' = r.2) ∧ s'.length ≤ s.length + K ∧ Chg (TY w g B) w w'
theorem RetY.no {w w' : World} {g B K : Nat} {s : By} {e : Int} {r : Int × By} (h : st e r.1 ≠ 0) (ho : OutY w' g B s (st e r.1)) (hc : Chg (TY w g B) w w') : RetY w g B K s e r (.returned (.tuple #[])) w' := ⟨rfl, s, ho, fun e => absurd e h, by omega, hc⟩
/-- a row of bytes does not lie in a variable of another type -/
theorem own_var {w : World} {g B n : Nat} {v : Value} {cur : Array Value} {t : TypeId} {l : List Value} (ho : w.ownsRow B 5 1 v n l) (hg : w.heap[g]? = some (.cells cur t (0, 0))) (ht : t ≠ 5) (hk : v.ownBlock = some g) : False := by
  rcases ho.2 with ⟨e, _⟩ | ⟨g', cap, cur, e, _, h3, _⟩
  · rw [e] at hk; cases hk
  · rw [e] at hk; injection hk with hk
    have hk : g' = g := hk
    subst hk; rw [hg] at h3; injection h3 with h3; injection h3 with _ h3; exact ht h3
theorem out_err {w : World} {g B : Nat} {s : By} {e x : Int} (h : OutY w g B s e) : OutY (w.setCell ⟨g, 1, none⟩ (.int .i64 x)) g B s x := by
  obtain ⟨A, c, hg, ho⟩ := h
  refine ⟨A, c, ?_, own_chg ho (cl.chg_set w g 1 _) (fun k hk e => own_var ho hg (by decide) (by rw [hk, e]))⟩
  have := heap_setCell_same w g 1 _ _ (.int .i64 x) hg
  simpa using this
theorem out_row {w : World} {g B : Nat} {s' : By} {e : Int} {A : Option Addr} {c n : Nat} {v : Value} (hg : w.heap[g]? = some (.cells #[v, .int .i64 e] 57 (0, 0))) (ho : w.ownsRow B 5 1 (.slice A n c) n (u8s s')) (hn : s'.length = n) : OutY (w.setCell ⟨g, 0, none⟩ (.slice A n c)) g B s' e := by
  subst hn
  refine ⟨A, c, ?_, own_chg ho (cl.chg_set w g 0 _) (fun k hk e => own_var ho hg (by decide) (by rw [hk, e]))⟩
  have := heap_setCell_same w g 0 _ _ (.slice A s'.length c) hg
  simpa using this
theorem OutY.below {w w' : World} {g B C : Nat} {s : By} {e : Int} (h : OutY w g B s e) (hb : Below C w w') (hC : w.heap.size ≤ C) : OutY w' g B s e := by
  obtain ⟨A, c, hg, ho⟩ := h
  exact ⟨A, c, blk_below hb hg (by have := blk_lt hg; omega), own_keep ho hb hC⟩
theorem OutY.drew {w : World} {g B : Nat} {s : By} {e : Int} (h : OutY w g B s e) : OutY w.drew g B s e := h.below (Below.refl w.heap.size w).drew (Nat.le_refl _)
theorem OutY.cells {w : World} {g B : Nat} {s : By} {e : Int} (h : OutY w g B s e) : ∃ A c, w.cell? ⟨g, 0, none⟩ = some (.slice A s.length c) ∧ w.cell? ⟨g, 1, none⟩ = some (.int .i64 e) ∧ w.frozen? ⟨g, 0, none⟩ = false ∧ w.frozen? ⟨g, 1, none⟩ = false ∧ (A = none → c = 0) ∧ Bs w w.heap.size A s.length s ∧ w.heap[g]? = some (.cells #[.slice A s.length c, .int .i64 e] 57 (0, 0)) ∧ w.ownsRow B 5 1 (.slice A s.length c) s.length (u8s s) := by
  obtain ⟨A, c, hg, ho⟩ := h
  obtain ⟨A2, c2, e2, h1, _⟩ := cl.own_fit rfl ho
  injection e2 with e3 e4 e5
  subst e3 e5
  exact ⟨A, c, by rw [cell_of_row _ _ _ _ _ _ hg]; rfl, by rw [cell_of_row _ _ _ _ _ _ hg]; rfl, frozen_of_row _ _ 0 _ _ hg, frozen_of_row _ _ 1 _ _ hg, h1, own_bs ho, hg, ho⟩
set_option maxHeartbeats 1000000 in
set_option maxRecDepth 100000 in
theorem fail_y (w : World) (g B : Nat) (s : By) (e : Int) (b : Bool) (x : Int) (h : OutY w g B s e) :
    Calls Try.prog 27 #[.pointer (some ⟨g, 0, none⟩), .bool b, .int .i64 x] w fun en w' => en = .returned (.tuple #[]) ∧ OutY w' g B s (st e (if b then x else 0)) ∧ Chg (fun k => k = g) w w' := by
  obtain ⟨A, c, c0, c1, f0, f1, _, _, hg, _⟩ := h.cells
  have hgl := h.lt
  have HE := Lib.hid (out_err (x := x) h)
  have HC := Lib.hid ((Chg.refl (fun k => k = g) w).setCell (p := ⟨g, 1, none⟩) (fun _ => rfl) (.int .i64 x))
  have H := Lib.hid h
  clear h hg c0 f0
  cases b with
  | false =>
    go_enter Try.func27, Try.ntmps27
    go_wp2_with (fail)
    go_end0
    exact ⟨rfl, by rw [st_ok]; exact H.out, Chg.refl _ _⟩
  | true =>
    by_cases h0 : e = 0
    · subst h0
      go_enter Try.func27, Try.ntmps27
      go_wp2_with (fail)
      go_end0
      exact ⟨rfl, HE.out, HC.out⟩
    · have z1 : (e == 0) = false := by simpa using h0
      have HZ := Lib.hid h0
      clear h0
      go_enter Try.func27, Try.ntmps27
      go_wp2_with (fail)
      go_end0
      exact ⟨rfl, by rw [st_no HZ.out]; exact H.out, Chg.refl _ _⟩
theorem chg_g {w w' : World} {g B : Nat} (h : Chg (fun k => k = g) w w') : Chg (TY w g B) w w' := h.mono fun _ _ e => .inl e
set_option maxHeartbeats 2000000 in
set_option maxRecDepth 100000 in
theorem number_y (w : World) (g B : Nat) (s : By) (e v most : Int) (h : OutY w g B s e) (hB : B ≤ w.heap.size) (hn : s.length ≤ 1000000000) (hm : most ≤ 2199023255552) :
    Calls Try.prog 17 #[.pointer (some ⟨g, 0, none⟩), .int .i64 v, .int .i64 most] w (RetY w g B 10 s e ((numE s v most).1, (numE s v most).2.1)) := by
  by_cases hb : v < 0 ∨ most < v
  · have HF := Lib.hid (fail_y w g B s e true 1 h)
    rw [show numE s v most = (1, s, v) by unfold numE; rw [if_pos hb]]
    simp only [if_true] at HF ⊢
    have hz : st e 1 ≠ 0 := st_ne (.inr (by decide))
    have HNO := Lib.hid (fun (w' : World) (ho : OutY w' g B s (st e 1)) (hc : Chg (TY w g B) w w') => RetY.no (K := 10) (r := (1, s)) hz ho hc)
    obtain ⟨z, hzz⟩ : ∃ z, st e 1 = z := ⟨_, rfl⟩
    rw [hzz] at HF hz HNO
    have z1 : (z == 0) = false := by simpa using hz
    clear h hz hzz
    by_cases h0 : v < 0
    · clear hb
      go_enter Try.func17, Try.ntmps17
      go_wp2_with (fail)
      refine HF.out.mono ?_
      rintro en w1 ⟨rfl, ho, hc⟩
      obtain ⟨A, c, _, c1, _⟩ := ho.cells
      have hgl := ho.lt
      have HR := Lib.hid (HNO.out w1 ho (chg_g hc))
      clear ho hc
      go_wp2_with (fail)
      go_end0
      exact HR.out
    · have h1 : most < v := by omega
      clear hb
      go_enter Try.func17, Try.ntmps17
      go_wp2_with (fail)
      refine HF.out.mono ?_
      rintro en w1 ⟨rfl, ho, hc⟩
      obtain ⟨A, c, _, c1, _⟩ := ho.cells
      have hgl := ho.lt
      have HR := Lib.hid (HNO.out w1 ho (chg_g hc))
      clear ho hc
      go_wp2_with (fail)
      go_end0
      exact HR.out
  · have h0 : ¬ v < 0 := fun e => hb (.inl e)
    have h1 : ¬ most < v := fun e => hb (.inr e)
    have HF := Lib.hid (fail_y w g B s e false 1 h)
    rw [show numE s v most = (0, s ++ uv v.toNat, v) by unfold numE; rw [if_neg hb]]
    simp only [Bool.false_eq_true, if_false, st_ok] at HF ⊢
    obtain ⟨z, rfl⟩ : ∃ z : Nat, v = (z : Int) := ⟨v.toNat, by omega⟩
    have hz' : (z : Int) % 18446744073709551616 = (z : Int) := by omega
    have hzz : z ≤ 2199023255552 := by omega
    have hul := uv_len z
    simp only [Int.toNat_natCast]
    clear h hb
    go_enter Try.func17, Try.ntmps17
    go_wp2_with (fail)
    refine HF.out.mono ?_
    rintro en w1 ⟨rfl, ho, hc⟩
    have hgl := ho.lt
    have hs1 := hc.size
    have HO := Lib.hid ho
    obtain ⟨A, c, c0, c1, f0, _, hA, hbs, hg, _⟩ := ho.cells
    have HC := Lib.hid (chg_g (B := B) hc)
    by_cases he : e = 0
    · subst he
      have HU := Lib.hid (uvarint_y w1 w1.heap.size s.length c A s z hbs hA (Nat.le_refl _) (by omega) (by omega))
      have HG := Lib.hid hg
      clear ho hc hA hbs hg
      go_wp2_with (fail)
      refine HU.out.mono ?_
      rintro en w2 ⟨A2, c2, rfl, ho2, hb2⟩
      obtain ⟨L, hL⟩ : ∃ L, (s ++ uv z).length = L := ⟨_, rfl⟩
      have hg2 := blk_below hb2 HG.out hgl
      have hgl2 := blk_lt hg2
      have f2 : w2.frozen? ⟨g, 0, none⟩ = false := frozen_of_row _ _ 0 _ _ hg2
      have c2' : w2.cell? ⟨g, 0, none⟩ = some (.slice A s.length c) := by rw [cell_of_row _ _ _ _ _ _ hg2]; rfl
      rw [hL] at ho2 ⊢
      have HFIN := Lib.hid (show RetY w g B 10 s 0 (0, s ++ uv z) (.returned (.tuple #[])) (w2.setCell ⟨g, 0, none⟩ (.slice A2 L c2)) from ⟨rfl, s ++ uv z, out_row hg2 (own_base ho2 (by omega)) hL, fun _ => rfl, by rw [List.length_append]; omega, ty_trans HC.out ((((Chg.of_below hb2).mono (fun _ _ e => e.elim)).setCell (p := ⟨g, 0, none⟩) (fun _ => .inl rfl) _))⟩)
      clear ho2 hb2 hg2 hL
      go_wp2_with (fail)
      go_end0
      exact HFIN.out
    · have z1 : (e == 0) = false := by simpa using he
      have HFIN := Lib.hid (show RetY w g B 10 s e (0, s ++ uv z) (.returned (.tuple #[])) w1 from RetY.no (st_ne (.inl he)) (by rw [st_ok]; exact HO.out) HC.out)
      clear ho hc hA hbs hg he
      go_wp2_with (fail)
      go_end0
      exact HFIN.out
set_option maxHeartbeats 2000000 in
set_option maxRecDepth 100000 in
theorem name_y (w : World) (g B : Nat) (s : By) (e : Int) (id : By) (h : OutY w g B s e) (hB : B ≤ w.heap.size) (hn : s.length ≤ 1000000000) (hid : id.length ≤ 1000000000) :
    Calls Try.prog 29 #[.pointer (some ⟨g, 0, none⟩), .string (cl.tx id)] w (RetY w g B 30 s e ((txtE s id).1, (txtE s id).2.1)) := by
  have hsz0 : (cl.tx id).size = id.length := cl.tx_size id
  have ht0 : txt (cl.tx id) = uv id.length ++ id := by unfold txt; rw [cl.tx_size, cl.tx_list]
  obtain ⟨S, hS⟩ : ∃ S, cl.tx id = S := ⟨_, rfl⟩
  rw [hS] at hsz0 ht0 ⊢
  have HSZ := Lib.hid hsz0
  have hsz : S.size = id.length := hsz0
  clear hS
  by_cases hb : 16 < id.length
  · have HF := Lib.hid (fail_y w g B s e true 80 h)
    rw [show txtE s id = (80, s, id) by unfold txtE; rw [if_pos hb]]
    simp only [if_true] at HF ⊢
    have hz : st e 80 ≠ 0 := st_ne (.inr (by decide))
    have HNO := Lib.hid (fun (w' : World) (ho : OutY w' g B s (st e 80)) (hc : Chg (TY w g B) w w') => RetY.no (K := 30) (r := (80, s)) hz ho hc)
    obtain ⟨z, hzz⟩ : ∃ z, st e 80 = z := ⟨_, rfl⟩
    rw [hzz] at HF hz HNO
    have z1 : (z == 0) = false := by simpa using hz
    clear h hz hzz ht0
    have hb' : (16 : Int) < (S.size : Int) := by rw [hsz]; omega
    clear hsz hsz0
    go_enter Try.func29, Try.ntmps29
    go_wp2_with (fail)
    refine HF.out.mono ?_
    rintro en w1 ⟨rfl, ho, hc⟩
    obtain ⟨A, c, _, c1, _⟩ := ho.cells
    have hgl := ho.lt
    have HR := Lib.hid (HNO.out w1 ho (chg_g hc))
    clear ho hc
    go_wp2_with (fail)
    go_end0
    exact HR.out
  · have HF := Lib.hid (fail_y w g B s e false 80 h)
    rw [show txtE s id = (0, s ++ uv id.length ++ id, id) by unfold txtE; rw [if_neg hb]]
    simp only [Bool.false_eq_true, if_false, st_ok] at HF ⊢
    have hul := uv_len id.length
    have hb' : ¬ (16 : Int) < (S.size : Int) := by rw [hsz]; omega
    have hY : s ++ txt S = s ++ uv id.length ++ id := by rw [ht0, List.append_assoc]
    obtain ⟨Y, hYY⟩ : ∃ Y, s ++ uv id.length ++ id = Y := ⟨_, rfl⟩
    have hYl : Y.length ≤ s.length + 30 := by rw [← hYY]; simp only [List.length_append]; omega
    have HYE := Lib.hid (hY.trans hYY)
    rw [hYY]
    clear hsz0
    have HS16 := Lib.hid (show S.size ≤ 1000000000 by omega)
    clear h hY hYY ht0 hsz
    go_enter Try.func29, Try.ntmps29
    go_wp2_with (fail)
    refine HF.out.mono ?_
    rintro en w1 ⟨rfl, ho, hc⟩
    have hgl := ho.lt
    have hs1 := hc.size
    have HO := Lib.hid ho
    obtain ⟨A, c, c0, c1, f0, _, hA, hbs, hg, _⟩ := ho.cells
    have HC := Lib.hid (chg_g (B := B) hc)
    by_cases he : e = 0
    · subst he
      have HU := Lib.hid (text_y w1 w1.heap.size s.length c A s hbs hA (Nat.le_refl _) (by omega) S HS16.out)
      rw [HYE.out] at HU
      have HG := Lib.hid hg
      clear ho hc hA hbs hg
      go_wp2_with (fail)
      refine HU.out.mono ?_
      rintro en w2 ⟨A2, c2, rfl, ho2, hb2⟩
      obtain ⟨L, hL⟩ : ∃ L, Y.length = L := ⟨_, rfl⟩
      have hg2 := blk_below hb2 HG.out hgl
      have hgl2 := blk_lt hg2
      have f2 : w2.frozen? ⟨g, 0, none⟩ = false := frozen_of_row _ _ 0 _ _ hg2
      have c2' : w2.cell? ⟨g, 0, none⟩ = some (.slice A s.length c) := by rw [cell_of_row _ _ _ _ _ _ hg2]; rfl
      rw [hL] at ho2 ⊢
      have HFIN := Lib.hid (show RetY w g B 30 s 0 (0, Y) (.returned (.tuple #[])) (w2.setCell ⟨g, 0, none⟩ (.slice A2 L c2)) from ⟨rfl, Y, out_row hg2 (own_base ho2 (by omega)) hL, fun _ => rfl, hYl, ty_trans HC.out ((((Chg.of_below hb2).mono (fun _ _ e => e.elim)).setCell (p := ⟨g, 0, none⟩) (fun _ => .inl rfl) _))⟩)
      clear ho2 hb2 hg2 hL
      go_wp2_with (fail)
      go_end0
      exact HFIN.out
    · have z1 : (e == 0) = false := by simpa using he
      have HFIN := Lib.hid (show RetY w g B 30 s e (0, Y) (.returned (.tuple #[])) w1 from RetY.no (st_ne (.inl he)) (by rw [st_ok]; exact HO.out) HC.out)
      clear ho hc hA hbs hg he
      go_wp2_with (fail)
      go_end0
      exact HFIN.out
end Go.Proofs.Ythkcnakodlbdpaa.wr
