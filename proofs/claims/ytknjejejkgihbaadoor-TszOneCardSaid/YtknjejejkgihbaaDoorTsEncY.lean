/-
  Tsz: Encode, the document's.
-/
import Derived.Test.YtknjejejkgihbaaDoorTsSt
import Derived.Test.YtknjejejkgihbaaDoorTsCheck
import Derived.Test.YtknjejejkgihbaaDoorUvCodeY
import Derived.Deep.MidRow
namespace Go.Proofs.YtknjejejkgihbaaDoor.ts
open Go.ChangeShapes Go.WideShapes Go.ChangeAt Go.RowKit plain words ord mem bitm uvs uvc

/-- a struct that is read whole, in a region that draws its order -/
theorem quiet_mid {P : Program} {ops : Array Oper} {F : Nat → Prop} {w0 : World} {Q : Act → Prop} {rest : List Oper} {a : Act} {dst : Option Tmp} {ty type : TypeId} {x : Operand} {pos : String} {aft : Array Edge} (g o : Nat) (cs : List Value) (d : TypeDesc)
    (hx : a.eval x = .pointer (some ⟨g, o, none⟩)) (hc : w0.rangeAt g o cs) (hn : ¬ F g) (hu : P.underlying ty = some d) (hd : d.isRow = true) (hi : (P.info? ty).map (·.size) = some cs.length)
    (h : wpQuiet P ops (fun w' => ∃ u : Wf F w0, w' = u.w) Q rest (a.put dst (.agg cs.toArray))) :
    wpQuiet P ops (fun w' => ∃ u : Wf F w0, w' = u.w) Q ({ dst := dst, op := .load ty x, type := type, pos := pos, after := aft, guard := none } :: rest) a := by
  refine wpQuiet_step fun K hK => ?_
  rw [if_pos (by simp [Region.wanted])]
  refine ⟨.agg cs.toArray, ?_, hK _ h⟩
  rintro w ⟨u, rfl⟩
  have hc' : u.w.rangeAt g o cs := fun j v hj => Wf.at_ (hc j v hj) hn u
  have hr := run_loadAt_mid u.w g o ty cs d hc' hu hd hi
  unfold Oper.quietAt execOp
  simp only [hx]
  simp only [Sem.run_bind, hr, Result.andThen_ok, Sem.run_pure]
  exact ⟨rfl, rfl⟩
theorem range_row {w : World} {g : Nat} {t : TypeId} {cs : Array Value} {fr : Nat × Nat} (hg : w.heap[g]? = some (.cells cs t fr)) : w.rangeAt g 0 cs.toList := fun j v hj => by
  rw [Nat.zero_add, cell_of_row _ _ _ _ _ _ hg]
  simpa using hj
def RetVP (base : Nat) (w : World) (L : Nat) (O : Option Nat) (Y : List Bool) (W : Win) (e : Ending) (w' : World) : Prop :=
  ∃ A' L' c' X' O' cs, e = .returned (.tuple #[.slice A' L' c', .agg cs]) ∧ Hid (cs = winC W) ∧ IsP w' base A' L' c' X' O' ∧ Hid (X' = Y) ∧ Chg (fun k => some k = O) w w' ∧ (O' = O ∨ ∃ g, O' = some g ∧ w.heap.size ≤ g)
theorem value_p (w : World) (base : Nat) (A : Option Addr) (L c : Nat) (X : List Bool) (O : Option Nat) (h : IsP w base A L c X O) (hb : base ≤ w.heap.size) (hL : L ≤ 100000000) (W : Win) (hW : WinOk W) (y : Nat) (hy : lt64 y) (cs : Array Value) (hcs : cs = winC W) :
    Calls Tryd.prog 31 #[.slice A L c, .agg cs, .int .u64 (y : Int)] w (RetVP base w L O (X ++ valB W y) (valW W y)) := by
  subst hcs
  obtain ⟨rfl, ho, rfl⟩ := h
  refine (value_y w base _ X ⟨A, c, rfl, ho⟩ hb hL W hW y hy).mono ?_
  rintro e w' ⟨v', rfl, ⟨A', c', rfl, ho'⟩, hc, hl⟩
  exact ⟨A', _, c', _, _, _, rfl, Lib.hid rfl, ⟨rfl, ho', rfl⟩, Lib.hid rfl, hc, hl⟩
def RetTP (base : Nat) (w : World) (L : Nat) (O : Option Nat) (Y : List Bool) (e : Ending) (w' : World) : Prop :=
  ∃ A' L' c' X' O', e = .returned (.slice A' L' c') ∧ IsP w' base A' L' c' X' O' ∧ Hid (X' = Y) ∧ Chg (fun k => some k = O) w w' ∧ (O' = O ∨ ∃ g, O' = some g ∧ w.heap.size ≤ g)
theorem time_p (w : World) (base : Nat) (A : Option Addr) (L c : Nat) (X : List Bool) (O : Option Nat) (h : IsP w base A L c X O) (hb : base ≤ w.heap.size) (hL : L ≤ 100000000) (x : Int) (hx : -9223372036854775808 ≤ x ∧ x ≤ 9223372036854775807) :
    Calls Tryd.prog 30 #[.slice A L c, .int .i64 x] w (RetTP base w L O (X ++ timeB x)) := by
  obtain ⟨rfl, ho, rfl⟩ := h
  refine (time_y w base _ X ⟨A, c, rfl, ho⟩ hb hL x hx).mono ?_
  rintro e w' ⟨v', rfl, ⟨A', c', rfl, ho'⟩, hc, hl⟩
  exact ⟨A', _, c', _, _, rfl, ⟨rfl, ho', rfl⟩, Lib.hid rfl, chg_of hc, hl⟩
theorem Chg.setRow {S : Nat → Prop} {a w : World} (h : Chg S a w) {g : Nat} (hg : g < a.heap.size → S g) (cs : Array Value) : Chg S a (w.setRow g cs) :=
  ⟨h.os, h.tape, h.output, by rw [setRow_size]; exact h.size, fun i hi hn => (setRow_other w g i cs (fun e => by subst e; exact hn (hg hi))).trans (h.block i hi hn)⟩
theorem xor_nat (a b y : Nat) (ha : lt64 a) (hb : lt64 b) (hy : a ^^^ b = y) : bits .xor .u64 (a : Int) (b : Int) = (y : Int) := by
  unfold lt64 at ha hb
  rw [u64_xor (a : Int) (b : Int) (by omega) (by omega) (by omega) (by omega)]
  simp [hy]
/-- the world of Encode -/
structure EW (w wr : World) (N : Nat) (R : Value) (U : Nat) (us : List UInt8) (a b : Win) (A : Option Addr) (L c : Nat) (X : List Bool) (O : Option Nat) : Prop where
  bel : Below w.heap.size w wr
  g7 : wr.heap[N + 1]? = some (.cells (winC a) 59 (0, 0))
  g8 : wr.heap[N + 2]? = some (.cells (winC b) 59 (0, 0))
  n7 : some (N + 1) ≠ O
  n8 : some (N + 2) ≠ O
  le : w.heap.size ≤ N
  sz : N + 3 ≤ wr.heap.size
  row : wr.ownsRow w.heap.size 5 1 R U (u8s us)
  nr : ∀ g, R.ownBlock = some g → some g ≠ O
  rlt : ∀ g, R.ownBlock = some g → g < N
  lst : IsP wr w.heap.size A L c X O
theorem EW.step {w wr wr' : World} {N U L c L' c' : Nat} {R : Value} {us : List UInt8} {a b : Win} {A A' : Option Addr} {X X' : List Bool} {O O' : Option Nat} (h : EW w wr N R U us a b A L c X O) (hl : IsP wr' w.heap.size A' L' c' X' O')
    (hc : Chg (fun k => some k = O) wr wr') (ho : O' = O ∨ ∃ g, O' = some g ∧ wr.heap.size ≤ g) : EW w wr' N R U us a b A' L' c' X' O' := by
  have hs := hc.size
  have hsz := h.sz
  have key : ∀ g, g < wr.heap.size → some g ≠ O → some g ≠ O' := by
    rintro g hg hn e
    rcases ho with e2 | ⟨g', e2, h2⟩
    · exact hn (e.trans e2)
    · rw [e2] at e; cases e; omega
  refine ⟨?_, hc.blk h.g7 h.n7, hc.blk h.g8 h.n8, key _ (by omega) h.n7, key _ (by omega) h.n8, h.le, by omega, own_chg h.row hc h.nr, fun g hg => key g (own_lt h.row hg) (h.nr g hg), h.rlt, hl⟩
  refine h.bel.trans (hc.below (by have := h.le; omega) ?_)
  intro k hk
  obtain ⟨_, hl2, hl3⟩ := h.lst
  exact (hl2.lt k (hl3.trans hk.symm)).1
theorem isP_chg {w w' : World} {base : Nat} {A : Option Addr} {L c : Nat} {X : List Bool} {O : Option Nat} {S : Nat → Prop} (h : IsP w base A L c X O) (hc : Chg S w w') (hS : ∀ g, some g = O → ¬ S g) : IsP w' base A L c X O := by
  obtain ⟨h1, h2, h3⟩ := h
  exact ⟨h1, own_chg h2 hc (fun g hg => hS g (hg.symm.trans h3)), h3⟩
theorem EW.set7 {w wr : World} {N U L c : Nat} {R : Value} {us : List UInt8} {a b : Win} {A : Option Addr} {X : List Bool} {O : Option Nat} (h : EW w wr N R U us a b A L c X O) {cs : Array Value} {a' : Win} (hcs : cs = winC a') : EW w (wr.setRow (N + 1) cs) N R U us a' b A L c X O := by
  subst hcs
  have hc : Chg (fun k => k = N + 1) wr (wr.setRow (N + 1) (winC a')) := Chg.setRow (S := fun k => k = N + 1) (Chg.refl _ _) (fun _ => rfl) _
  have hs := hc.size
  have hsz := h.sz
  refine ⟨h.bel.trans (hc.below (by have := h.le; omega) (fun k e => by have := h.le; omega)), setRow_heap _ _ _ _ _ _ h.g7, hc.blk h.g8 (by omega), h.n7, h.n8, h.le, by omega, own_chg h.row hc (fun g hg e => by have := h.rlt g hg; omega), h.nr, h.rlt, isP_chg h.lst hc (fun g hg e => h.n7 (by rw [← hg, e]))⟩
theorem EW.set8 {w wr : World} {N U L c : Nat} {R : Value} {us : List UInt8} {a b : Win} {A : Option Addr} {X : List Bool} {O : Option Nat} (h : EW w wr N R U us a b A L c X O) {cs : Array Value} {b' : Win} (hcs : cs = winC b') : EW w (wr.setRow (N + 2) cs) N R U us a b' A L c X O := by
  subst hcs
  have hc : Chg (fun k => k = N + 2) wr (wr.setRow (N + 2) (winC b')) := Chg.setRow (S := fun k => k = N + 2) (Chg.refl _ _) (fun _ => rfl) _
  have hs := hc.size
  have hsz := h.sz
  refine ⟨h.bel.trans (hc.below (by have := h.le; omega) (fun k e => by have := h.le; omega)), hc.blk h.g7 (by omega), setRow_heap _ _ _ _ _ _ h.g8, h.n7, h.n8, h.le, by omega, own_chg h.row hc (fun g hg e => by have := h.rlt g hg; omega), h.nr, h.rlt, isP_chg h.lst hc (fun g hg e => h.n8 (by rw [← hg, e]))⟩
theorem EW.drew {w wr : World} {N U L c : Nat} {R : Value} {us : List UInt8} {a b : Win} {A : Option Addr} {X : List Bool} {O : Option Nat} (h : EW w wr N R U us a b A L c X O) : EW w wr.drew N R U us a b A L c X O :=
  h.step (isP_chg (S := fun _ => False) h.lst (Chg.refl _ _).drew (fun _ _ e => e)) ((Chg.refl _ _).drew.mono (fun _ _ e => e)) (.inl rfl)
theorem EW.below {w wr wr' : World} {N U L c : Nat} {R : Value} {us : List UInt8} {a b : Win} {A : Option Addr} {X : List Bool} {O : Option Nat} (h : EW w wr N R U us a b A L c X O) (hb : Below wr.heap.size wr wr') : EW w wr' N R U us a b A L c X O :=
  h.step (isP_chg h.lst (Chg.of_below hb) (fun _ _ e => e)) ((Chg.of_below hb).mono (fun _ _ e => e.elim)) (.inl rfl)
theorem winC_all (W : Win) : (winC W).all (·.oneCell') = true := by cases W <;> simp [winC, Value.oneCell']
theorem three_nat {l : List Pt} {k : Nat} {p : Pt} (hp : l[k]? = some p) (hf : ∀ x ∈ l, FitP x) (hc : checkP l = 0) : ∃ t v s : Nat, p = ((t : Int), (v : Int), (s : Int)) ∧ t ≤ 1099511627776 ∧ lt64 v ∧ lt64 s := by
  obtain ⟨hk, rfl⟩ := List.getElem?_eq_some_iff.1 hp
  have h1 := hf _ (List.getElem_mem hk)
  have h2 := check_at hc hp
  obtain ⟨_, ⟨h3, h4⟩, h5, h6⟩ := h1
  generalize l[k] = q at *
  obtain ⟨x, y, z⟩ := q
  replace h2 : 0 ≤ x ∧ x ≤ 1099511627776 := h2
  replace h3 : 0 ≤ y := h3
  replace h4 : y ≤ 18446744073709551615 := h4
  replace h5 : 0 ≤ z := h5
  replace h6 : z ≤ 18446744073709551615 := h6
  refine ⟨x.toNat, y.toNat, z.toNat, ?_, by omega, by unfold lt64; omega, by unfold lt64; omega⟩
  rw [Int.toNat_of_nonneg (by omega), Int.toNat_of_nonneg (by omega), Int.toNat_of_nonneg (by omega)]
/-- bytes, or an error -/
def RetEnc (w : World) (l : List Pt) (e : Ending) (w' : World) : Prop :=
  if checkP l = 0 then ∃ A c, e = .returned (.tuple #[.slice A (encP l).length c, .int .i64 0]) ∧ w'.ownsRow w.heap.size 5 1 (.slice A (encP l).length c) (encP l).length (u8s (encP l)) ∧ Below w.heap.size w w'
  else e = .returned (.tuple #[.slice none 0 0, .int .i64 (checkP l)]) ∧ Below w.heap.size w w'
set_option maxHeartbeats 1000000 in
set_option maxRecDepth 100000 in
theorem encode_y (w : World) (B n c : Nat) (A : Option Addr) (l : List Pt) (h : Pts w B A n l) (hf : ∀ x ∈ l, FitP x) (hB : B ≤ w.heap.size) (hn : n ≤ 100000) :
    Calls Tryd.prog 16 #[.slice A n c] w (RetEnc w l) := by
  have HCK := Lib.hid (check_ty w B n c A l h hB (by omega))
  by_cases hc : checkP l = 0
  · have HUV := Lib.hid (fun (u : World) => uvarint_y0 u n (by unfold lt64; omega))
    have HH := Lib.hid h
    have HC := Lib.hid hc
    have HF := Lib.hid hf
    clear h hc hf
    go_enter Tryd.func16, Tryd.ntmps16
    go_wp2_with (fail)
    refine HCK.out.mono ?_
    rintro e w1 ⟨rfl, hb1⟩
    rw [HC.out]
    have hs1 := hb1.size
    have HB1 := Lib.hid hb1
    clear hb1 HCK
    have hnm : (n : Int) % 18446744073709551616 = (n : Int) := by omega
    go_wp2_with (fail)
    refine (HUV.out _).mono ?_
    rintro e w2 ⟨A2, c2, rfl, ho2, hb2⟩
    have HO2 := Lib.hid ho2
    have HB2 := Lib.hid (HB1.out.trans (hb2.mono hs1))
    obtain ⟨U, hU⟩ : ∃ U, (uv n).length = U := ⟨_, rfl⟩
    rw [hU] at ho2 ⊢
    clear ho2 hb2 hnm HUV
    obtain ⟨wq, hwq⟩ : ∃ wq, (((w2.alloc (.cells #[] 5)).alloc (.cells #[.bool false, .int .i64 0, .int .i64 0] 59)).alloc (.cells #[.bool false, .int .i64 0, .int .i64 0] 59)) = wq := ⟨_, rfl⟩
    have hew : EW w wq w2.heap.size (.slice A2 U c2) U (uv n) none none (some ⟨w2.heap.size, 0, none⟩) 0 0 [] (some w2.heap.size) := by
      have B1 : Below w2.heap.size w2 wq := by rw [← hwq]; exact (((Below.refl _ _).alloc (Nat.le_refl _) _).alloc (by simp) _).alloc (by simp only [World.size_alloc]; omega) _
      have hle : w.heap.size ≤ w2.heap.size := HB2.out.size
      have ho := HO2.out
      rw [hU] at ho
      have a0 : (w2.alloc (.cells #[] 5)).heap[w2.heap.size]? = some (.cells #[] 5 (0, 0)) := alloc_new _ _
      have a1 := alloc_new (w2.alloc (.cells #[] 5)) (.cells #[.bool false, .int .i64 0, .int .i64 0] 59)
      have a2 := alloc_new ((w2.alloc (.cells #[] 5)).alloc (.cells #[.bool false, .int .i64 0, .int .i64 0] 59)) (.cells #[.bool false, .int .i64 0, .int .i64 0] 59)
      simp only [World.size_alloc] at a1 a2
      have h2lt : ∀ g, (Value.slice A2 U c2).ownBlock = some g → g < w2.heap.size := fun g hg => own_lt ho hg
      refine ⟨HB2.out.trans (B1.mono hle), ?_, ?_, by simp, by simp, hle, by rw [← hwq]; simp, own_keep (own_base ho hs1) B1 (Nat.le_refl _), fun g hg e => by cases e; exact absurd (h2lt _ hg) (by omega), h2lt, ⟨rfl, ?_, rfl⟩⟩
      · rw [← hwq]; exact alloc_old _ a1
      · rw [← hwq]; exact a2
      · refine ⟨rfl, .inr ⟨w2.heap.size, 0, #[], rfl, hle, ?_, ?_⟩⟩
        · rw [← hwq]; exact alloc_old _ (alloc_old _ a0)
        · simp [bitc.bys, u8s]
    have HEW := Lib.hid hew
    have HWQ := Lib.hid hwq
    have HU := Lib.hid hU
    clear hew hwq hU HO2 HB2 HB1
    go_wp2_with (fail)
    rw [HWQ.out]
    clear HWQ
    go_loopg [6, 9, 10, 11] n (fun gg s6 s9 s10 s11 wr => ∃ (k L c1 : Nat) (A1 : Option Addr) (d : Int) (X : List Bool) (O : Option Nat) (a b : Win), k ≤ n ∧ n - k ≤ gg ∧ s10 = .int .i64 k ∧ s9 = .int .i64 d ∧ 0 ≤ d ∧ d ≤ 1099511627776 ∧ s6 = .slice A1 L c1 ∧ Aside (St l k d X a b) ∧ Aside (EW w wr w2.heap.size (.slice A2 U c2) U (uv n) a b A1 L c1 X O))
    case atStart => exact ⟨0, 0, 0, _, 0, [], _, none, none, by omega, by omega, rfl, rfl, by omega, by omega, rfl, St.start l, HEW.out⟩
    case round =>
      clear HEW
      obtain ⟨k, L, c1, A1, d, X, O, a, b, hk, hg, rfl, rfl, hd0, hd1, rfl, HST, HE⟩ := hrel
      have hXl : L ≤ 222 * n := by
        have h1 := HST.out.len HF.out
        rw [HE.out.lst.1, HH.out.1] at h1
        exact h1
      by_cases hlt : k < n
      · obtain ⟨p, hp⟩ : ∃ p, l[k]? = some p := ⟨_, List.getElem?_eq_getElem (by rw [HH.out.1]; exact hlt)⟩
        obtain ⟨pt, pv, ps, rfl, hpt, hpv, hps⟩ := three_nat hp HF.out HC.out
        obtain ⟨b0, off, rfl, hb0, d0, d1, d2⟩ := Pts.at_ HH.out hlt hp
        have hb0w : b0 < w.heap.size := by omega
        by_cases hk0 : k = 0
        · subst hk0
          obtain ⟨rfl, rfl, rfl, rfl⟩ := HST.out.zero
          have e0 : (⟨b0, off, none⟩ : Addr) = ⟨b0, off + 0 * 3, none⟩ := by simp
          simp only [Nat.zero_mul, Nat.add_zero] at d0 d1 d2
          have i2 : (0 : Int) < (n : Int) := by omega
          have htm : (pt : Int) % 18446744073709551616 = (pt : Int) := by omega
          have hz : ∀ u, Below w.heap.size w u → u.cell? ⟨b0, off, none⟩ = some (.int .i64 (pt : Int)) ∧ u.cell? ⟨b0, off + 1, none⟩ = some (.int .u64 (pv : Int)) ∧ u.cell? ⟨b0, off + 2, none⟩ = some (.int .u64 (ps : Int)) := fun u hu => ⟨(hu.cell (p := ⟨b0, off, none⟩) hb0w).trans d0, (hu.cell (p := ⟨b0, off + 1, none⟩) hb0w).trans d1, (hu.cell (p := ⟨b0, off + 2, none⟩) hb0w).trans d2⟩
          have HZ := Lib.hid hz
          have HP1 := Lib.hid (put_p wr w.heap.size A1 L c1 [] O HE.out.lst HE.out.bel.size (by omega) pt (by unfold lt64; omega) 64 (by omega))
          obtain ⟨c0, _, _⟩ := hz wr HE.out.bel
          clear hz d0 d1 d2 e0
          go_wp2_with (fail)
          refine HP1.out.mono ?_
          rintro e w3 ⟨A3, L3, c3, X3, O3, rfl, hi3, HX3, hL3, hc3, hl3⟩
          have HE3 := Lib.hid (HE.out.step hi3 hc3 hl3)
          have HP2 := Lib.hid (put_p w3 w.heap.size A3 L3 c3 X3 O3 hi3 HE3.out.bel.size (by omega) pv hpv 64 (by omega))
          obtain ⟨_, c1', _⟩ := HZ.out w3 HE3.out.bel
          clear hi3 hc3 hl3 HP1 c0 HE
          go_wp2_with (fail)
          refine HP2.out.mono ?_
          rintro e w4 ⟨A4, L4, c4, X4, O4, rfl, hi4, HX4, hL4, hc4, hl4⟩
          have HE4 := Lib.hid (HE3.out.step hi4 hc4 hl4)
          have HP3 := Lib.hid (put_p w4 w.heap.size A4 L4 c4 X4 O4 hi4 HE4.out.bel.size (by omega) ps hps 64 (by omega))
          obtain ⟨_, _, c2'⟩ := HZ.out w4 HE4.out.bel
          clear hi4 hc4 hl4 HP2 c1' HE3
          go_wp2_with (fail)
          refine HP3.out.mono ?_
          rintro e w5 ⟨A5, L5, c5, X5, O5, rfl, hi5, HX5, hL5, hc5, hl5⟩
          have HE5 := Lib.hid (HE4.out.step hi5 hc5 hl5)
          have hst := St.first hp
          simp only [Int.toNat_natCast] at hst
          have hXX : X5 = bitsOf pt 64 ++ bitsOf pv 64 ++ bitsOf ps 64 := by rw [HX5.out, HX4.out, HX3.out, List.nil_append]
          rw [← hXX] at hst
          have HST1 := Lib.hid hst
          clear hi5 hc5 hl5 HP3 c2' HE4 hst hXX HZ
          go_wp2_with (fail)
          go_roundg (n - 1)
          case measure => omega
          case rel => exact ⟨1, L5, c5, A5, 0, X5, O5, none, none, by omega, by omega, rfl, rfl, by omega, by omega, rfl, HST1.out, HE5.out⟩
        · obtain ⟨m, hm⟩ : ∃ m, k = m + 1 := ⟨k - 1, by omega⟩
          subst hm
          obtain ⟨q, hq⟩ : ∃ q, l[m]? = some q := ⟨_, List.getElem?_eq_getElem (by rw [HH.out.1]; omega)⟩
          obtain ⟨qt, qv, qs, rfl, hqt, hqv, hqs⟩ := three_nat hq HF.out HC.out
          have hlt2 := check_two HC.out hp hq
          obtain ⟨b1, off1, he1, _, e0, e1, e2⟩ := Pts.at_ HH.out (show m < n by omega) hq
          injection he1 with he1
          injection he1 with he1 he2
          subst he1 he2
          obtain ⟨k, hk1⟩ : ∃ k, m + 1 = k := ⟨_, rfl⟩
          have hst := HST.out.next hp hq HF.out
          rw [hk1] at hst hlt hp
          have hnx := HST.out.win
          simp only [Int.toNat_natCast] at hst hlt2
          simp only at d0 d1 d2 e0 e1 e2
          rw [hk1] at d0 d1 d2
          obtain ⟨y, hy⟩ : ∃ y, pv ^^^ qv = y := ⟨_, rfl⟩
          obtain ⟨z, hz⟩ : ∃ z, ps ^^^ qs = z := ⟨_, rfl⟩
          have hy64 : lt64 y := by rw [← hy]; exact xor_lt _ _ hpv hqv
          have hz64 : lt64 z := by rw [← hz]; exact xor_lt _ _ hps hqs
          have x1 := xor_nat pv qv y hpv hqv hy
          have x2 := xor_nat ps qs z hps hqs hz
          obtain ⟨D, hD⟩ : ∃ D : Nat, (pt : Int) - (qt : Int) = (D : Int) := ⟨pt - qt, by omega⟩
          rw [hy, hz, hD] at hst
          have i1 : (0 : Int) ≤ (k : Int) := by omega
          have i2 : (k : Int) < (n : Int) := by omega
          have i3 : IntKind.i64.wrap ((k : Int) - 1) = (m : Int) := by rw [IntWalk.i64_in _ (by omega)]; omega
          have i4 : (0 : Int) ≤ (m : Int) := by omega
          have i5 : (m : Int) < (n : Int) := by omega
          have i6 : IntKind.i64.wrap ((pt : Int) - (qt : Int)) = (D : Int) := by rw [IntWalk.i64_in _ (by omega)]; omega
          have i7 : IntKind.i64.wrap ((D : Int) - d) = (D : Int) - d := IntWalk.i64_in _ (by omega)
          have hkne : ((k : Int) == 0) = false := by simp; omega
          have hD2 : D ≤ 1099511627776 := by omega
          have HI := Lib.hid (And.intro i1 (And.intro i2 (And.intro i3 (And.intro i4 (And.intro i5 (And.intro i6 (And.intro x1 x2)))))))
          have HST1 := Lib.hid hst
          have HD := Lib.hid (And.intro d0 (And.intro d1 (And.intro d2 (And.intro e0 (And.intro e1 e2)))))
          have hz' : ∀ u, Below w.heap.size w u → (u.cell? ⟨b0, off + k * 3, none⟩ = some (.int .i64 (pt : Int)) ∧ u.cell? ⟨b0, off + k * 3 + 1, none⟩ = some (.int .u64 (pv : Int)) ∧ u.cell? ⟨b0, off + k * 3 + 2, none⟩ = some (.int .u64 (ps : Int))) ∧ (u.cell? ⟨b0, off + m * 3, none⟩ = some (.int .i64 (qt : Int)) ∧ u.cell? ⟨b0, off + m * 3 + 1, none⟩ = some (.int .u64 (qv : Int)) ∧ u.cell? ⟨b0, off + m * 3 + 2, none⟩ = some (.int .u64 (qs : Int))) := fun u hu => ⟨⟨(hu.cell (p := ⟨b0, _, none⟩) hb0w).trans d0, (hu.cell (p := ⟨b0, _, none⟩) hb0w).trans d1, (hu.cell (p := ⟨b0, _, none⟩) hb0w).trans d2⟩, (hu.cell (p := ⟨b0, _, none⟩) hb0w).trans e0, (hu.cell (p := ⟨b0, _, none⟩) hb0w).trans e1, (hu.cell (p := ⟨b0, _, none⟩) hb0w).trans e2⟩
          have HZ := Lib.hid hz'
          have hlt' : b0 < wr.heap.size := by have := HE.out.bel.size; omega
          have HK := Lib.hid hk1
          have HNW := Lib.hid hnx
          clear hst d0 d1 d2 e0 e1 e2 hz' hnx i1 i2 i3 i4 i5 i6 x1 x2 hy hz hD hp hq hk0 hlt2 hk1 HST
          obtain ⟨⟨q0, _, _⟩, q3, _, _⟩ := HZ.out wr HE.out.bel
          obtain ⟨i1, i2, i3, i4, i5, i6, _⟩ := HI.out
          rw [HK.out]
          go_wp2_with (fail)
          go_quiet (fail)
          clear q0 q3 i1 i2 i3 i4 i5 i6
          have HE1 := Lib.hid (HE.out.below (words.below_drewN _ wr nq))
          obtain ⟨wz, hwz⟩ : ∃ wz, wr.drewN nq = wz := ⟨_, rfl⟩
          rw [hwz] at HE1 ⊢
          clear hwz HE
          have HT := Lib.hid (time_p wz w.heap.size A1 L c1 X O HE1.out.lst HE1.out.bel.size (by omega) ((D : Int) - d) (by omega))
          go_wp2_with (fail)
          (with_reducible refine HT.out.mono ?_)
          rintro e w3 ⟨A3, L3, c3, X3, O3, rfl, hi3, HX3, hc3, hl3⟩
          have HE3 := Lib.hid (HE1.out.step hi3 hc3 hl3)
          have hst1 := HST1.out.len HF.out
          have hL3 : L3 ≤ 22200000 := by
            have h1 := hi3.1
            rw [HX3.out, List.length_append] at h1
            simp only [List.length_append] at hst1
            rw [HH.out.1] at hst1
            omega
          clear hi3 hc3 hl3 HT HE1 hst1
          go_wp2_with (fail)
          obtain ⟨q0, q1, q2⟩ := (show _ ∧ _ ∧ _ from ⟨(HZ.out w3 HE3.out.bel).1.2.1, (HZ.out w3 HE3.out.bel).2.2.1, trivial⟩)
          have hnF : ¬ (some b0 = O3) := fun e => by
            have h1 := HE3.out.lst
            have h2 := (h1.2.1.lt b0 (h1.2.2.trans e.symm)).1
            omega
          replace q0 := Wf.at_ (F := fun k => some k = O3) q0 hnF
          replace q1 := Wf.at_ (F := fun k => some k = O3) q1 hnF
          obtain ⟨i1, i2, i3, i4, i5, i6, x1, x2⟩ := HI.out
          have HQ := Lib.hid (value_p w3.drew w.heap.size A3 L3 c3 X3 O3 HE3.out.drew.lst HE3.out.bel.size (by omega) a HNW.out.1 y hy64 _ rfl)
          refine fr.wp_region_tree (F := fun k => some k = O3) (.reads [0, 1, 2, 3, 4, 5, 6, 7, 8, 9, 10, 11, 12, 13] (.one 14 false (.reads [15, 16, 17, 18] (.one 19 true .stop)))) (by kernel_rfl) (by kernel_rfl) ?_
          refine fr.tr_reads _ (by dsimp only [pick, at_]) ?_
          go_big_quiet_step (fail)
          refine quiet_mid (w2.heap.size + 1) 0 _ _ rfl (range_row HE3.out.g7) HE3.out.n7 Tryd.underlying59 rfl (by rw [Array.length_toList, winC_size]; exact infoW) ?_
          simp only [Act.put, List.setIfInBounds_toArray, List.set_cons_succ, List.set_cons_zero, Array.toArray_toList]
          repeat (go_big_quiet_step (fail))
          refine wpQuiet_nil ?_
          clear q0 q1 q2 i1 i2 i3 i4 i5 i6 x1 x2 hnF
          refine fr.tr_one _ (by dsimp only [pick, at_]) ?_
          intro K1 g1 g2
          clear g1
          go_wp2_with (fail)
          (with_reducible refine HQ.out.mono ?_)
          rintro e w4 ⟨A4, L4, c4, X4, O4, cs4, rfl, hcs4, hi4, HX4, hc4, hl4⟩
          have HE4 := Lib.hid (HE3.out.drew.step hi4 hc4 hl4)
          have HC4 := Lib.hid (show Chg (fun k => some k = O3) w3 w4 from (Chg.refl _ _).drew.trans hc4 (fun _ _ e => e))
          have hst1 := HST1.out.len HF.out
          have hL4 : L4 ≤ 22200000 := by
            have h1 := hi4.1
            rw [HX4.out, HX3.out] at h1
            simp only [List.length_append] at hst1 h1
            rw [HH.out.1] at hst1
            omega
          clear hi4 hc4 hl4 HQ HE3 hst1
          go_wp2_with (fail)
          refine g2 _ _ HC4.out ?_
          clear g2
          refine fr.tr_reads _ (by dsimp only [pick, at_]) ?_
          repeat (go_big_quiet_step (fail))
          refine wpQuiet_nil ?_
          refine fr.tr_write _ (by dsimp only [pick, at_]) ?_
          intro K2 g2
          refine wpList_store_row rfl _ _ _ rfl (w2.heap.size + 1) cs4 rfl rfl _ _ HE4.out.g7 (by rw [hcs4.out, winC_size]; exact infoW) (by rw [hcs4.out, winC_size, winC_size]) (by rw [hcs4.out]; exact winC_all _) ?_
          simp only [Act.put]
          have HF4 := Lib.hid (HE4.out.set7 hcs4.out)
          go_wp2_with (fail)
          refine fr.tr_stop ?_
          refine NoPanic.normal ?_
          obtain ⟨w5, hw⟩ : ∃ wx, w4.setRow (w2.heap.size + 1) cs4 = wx := ⟨_, rfl⟩
          rw [hw] at HF4 ⊢
          clear hw HE4 HC4
          go_wp2_with (fail)
          obtain ⟨q0, q1, q2⟩ := (show _ ∧ _ ∧ _ from ⟨(HZ.out w5 HF4.out.bel).1.2.2, (HZ.out w5 HF4.out.bel).2.2.2, trivial⟩)
          have hnF : ¬ (some b0 = O4) := fun e => by
            have h1 := HF4.out.lst
            have h2 := (h1.2.1.lt b0 (h1.2.2.trans e.symm)).1
            omega
          replace q0 := Wf.at_ (F := fun k => some k = O4) q0 hnF
          replace q1 := Wf.at_ (F := fun k => some k = O4) q1 hnF
          obtain ⟨i1, i2, i3, i4, i5, i6, x1, x2⟩ := HI.out
          have HQ := Lib.hid (value_p w5.drew w.heap.size A4 L4 c4 X4 O4 HF4.out.drew.lst HF4.out.bel.size (by omega) b HNW.out.2 z hz64 _ rfl)
          refine fr.wp_region_tree (F := fun k => some k = O4) (.reads [0, 1, 2, 3, 4, 5, 6, 7, 8, 9, 10, 11, 12, 13] (.one 14 false (.reads [15, 16, 17, 18] (.one 19 true .stop)))) (by kernel_rfl) (by kernel_rfl) ?_
          refine fr.tr_reads _ (by dsimp only [pick, at_]) ?_
          go_big_quiet_step (fail)
          refine quiet_mid (w2.heap.size + 2) 0 _ _ rfl (range_row HF4.out.g8) HF4.out.n8 Tryd.underlying59 rfl (by rw [Array.length_toList, winC_size]; exact infoW) ?_
          simp only [Act.put, List.setIfInBounds_toArray, List.set_cons_succ, List.set_cons_zero, Array.toArray_toList]
          repeat (go_big_quiet_step (fail))
          refine wpQuiet_nil ?_
          clear q0 q1 q2 i1 i2 i3 i4 i5 i6 x1 x2 hnF
          refine fr.tr_one _ (by dsimp only [pick, at_]) ?_
          intro K1 g1 g2
          clear g1
          go_wp2_with (fail)
          (with_reducible refine HQ.out.mono ?_)
          rintro e w6 ⟨A6, L6, c6, X6, O6, cs6, rfl, hcs6, hi6, HX6, hc6, hl6⟩
          have HE6 := Lib.hid (HF4.out.drew.step hi6 hc6 hl6)
          have HC6 := Lib.hid (show Chg (fun k => some k = O4) w5 w6 from (Chg.refl _ _).drew.trans hc6 (fun _ _ e => e))
          have hst1 := HST1.out.len HF.out
          have hL6 : L6 ≤ 22200000 := by
            have h1 := hi6.1
            rw [HX6.out, HX4.out, HX3.out] at h1
            simp only [List.length_append] at hst1 h1
            rw [HH.out.1] at hst1
            omega
          clear hi6 hc6 hl6 HQ HF4 hst1
          go_wp2_with (fail)
          refine g2 _ _ HC6.out ?_
          clear g2
          refine fr.tr_reads _ (by dsimp only [pick, at_]) ?_
          repeat (go_big_quiet_step (fail))
          refine wpQuiet_nil ?_
          refine fr.tr_write _ (by dsimp only [pick, at_]) ?_
          intro K2 g2
          refine wpList_store_row rfl _ _ _ rfl (w2.heap.size + 2) cs6 rfl rfl _ _ HE6.out.g8 (by rw [hcs6.out, winC_size]; exact infoW) (by rw [hcs6.out, winC_size, winC_size]) (by rw [hcs6.out]; exact winC_all _) ?_
          simp only [Act.put]
          have HF6 := Lib.hid (HE6.out.set8 hcs6.out)
          go_wp2_with (fail)
          refine fr.tr_stop ?_
          refine NoPanic.normal ?_
          obtain ⟨w7, hw⟩ : ∃ wx, w6.setRow (w2.heap.size + 2) cs6 = wx := ⟨_, rfl⟩
          rw [hw] at HF6 ⊢
          clear hw HE6 HC6
          go_wp2_with (fail)
          have hk' := HK.out
          have hXX : X6 = X ++ timeB ((D : Int) - d) ++ valB a y ++ valB b z := by rw [HX6.out, HX4.out, HX3.out]
          have HST2 := Lib.hid (hXX ▸ HST1.out)
          clear hXX
          go_roundg (n - (k + 1))
          case measure => omega
          case rel => exact ⟨k + 1, L6, c6, A6, D, X6, O6, _, _, by omega, by omega, by go_num, rfl, by omega, by omega, rfl, HST2.out, HF6.out⟩
      · have hkn : k = n := by omega
        subst hkn
        have hX := HST.out.done (by rw [HH.out.1]; exact Nat.le_refl _)
        obtain ⟨lst1, lst2, lst3⟩ := HE.out.lst
        have hbs := own_bs lst2
        have HBY := Lib.hid (bitc.refbytes_x wr A1 L c1 X hbs lst1 (by omega))
        have HXB := Lib.hid hX
        have hU1 := uv_len k
        rw [HU.out] at hU1
        obtain ⟨M, hM⟩ : ∃ M, (L + 7) / 8 = M := ⟨_, rfl⟩
        have hMl : M ≤ 22200001 := by omega
        rw [hM] at HBY
        have HL := Lib.hid lst1
        clear hX lst1 lst2 lst3 hbs
        obtain ⟨i0, hi, hz0, hz1, hz2⟩ := info_parts bitc.infoBits
        go_wp2_with (fail)
        (with_reducible refine HBY.out.mono ?_)
        rintro e w8 ⟨A8, c8, rfl, ho8, hb8⟩
        have hE8 := HE.out.below hb8
        have hbs8 : Rd w8 w8.heap.size A8 (M * 1) (u8s (pack X)) := own_rd ho8
        have hnil : A8 = none → c8 = 0 := by
          intro e
          rcases own_form ho8 with ⟨e2, _⟩ | ⟨g, c, e2, _⟩
          · cases e2; rfl
          · rw [e] at e2; cases e2
        have HMM := Lib.hid hM
        have HE8 := Lib.hid hE8
        have HR8 := Lib.hid hbs8
        clear ho8 hb8 HBY hE8 hbs8 hM
        go_wp2_with (at_builtin; refine wpList_append_rd rfl _ _ 23 rfl w.heap.size 5 i0 (.int .u8 0) 1 1 Tryd.underlying23 hi hz0 hz1 hz2 rfl (by decide) _ U (u8s (uv k)) rfl HE8.out.row w8.heap.size A8 M c8 hnil (u8s (pack X)) rfl HR8.out (u8s_one _) (by unfold maxLen; omega) (by omega) HE8.out.bel.size ?_; intro v9 w9 ho9 hg9 hn9; obtain ⟨g9, c9, rfl, _, _, _, _⟩ := (own_form ho9).resolve_left (fun e => by omega); have HO9 := Lib.hid ho9; have HG9 := Lib.hid hg9; clear ho9 hg9 hn9)
        go_ret2
        unfold RetEnc
        rw [if_pos HC.out]
        have hlen : (encP l).length = U + M := by
          unfold encP
          rw [List.length_append, pack_len, HH.out.1, HU.out, ← HXB.out, HL.out, HMM.out]
        have henc : u8s (encP l) = u8s (uv k) ++ u8s (pack X) := by unfold encP; rw [HH.out.1, HXB.out, u8s_append]
        rw [hlen, henc]
        exact ⟨_, _, rfl, HO9.out, HE8.out.bel.grown HG9.out HE8.out.bel.size (fun j e => (HE8.out.row.lt j e).1)⟩
  · have hc2 := Lib.hid (show RetEnc w l = fun e w' => e = .returned (.tuple #[.slice none 0 0, .int .i64 (checkP l)]) ∧ Below w.heap.size w w' by funext e w'; unfold RetEnc; rw [if_neg hc])
    obtain ⟨z, hz⟩ : ∃ z, checkP l = z := ⟨_, rfl⟩
    rw [hz] at HCK hc2 hc
    have hzz : ((z == 0) : Bool) = false := by simpa using hc
    have hzz2 : ((z != 0) : Bool) = true := by simpa using hc
    clear hz h hf
    rw [hc2.out]
    go_enter Tryd.func16, Tryd.ntmps16
    go_wp2_with (fail)
    refine HCK.out.mono ?_
    rintro e w1 ⟨rfl, hb1⟩
    have HB1 := Lib.hid hb1
    clear hb1 HCK
    go_wp2_with (fail)
    go_ret2
    exact ⟨rfl, HB1.out⟩
end Go.Proofs.YtknjejejkgihbaaDoor.ts
