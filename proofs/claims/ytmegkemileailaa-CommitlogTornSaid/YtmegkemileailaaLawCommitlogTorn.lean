/-
  The walk of the law CommitlogTorn.
-/
import Derived.Test.YtmegkemileailaaClDy
import Derived.Test.YtmegkemileailaaClSm
import Derived.Test.YtmegkemileailaaClOf
import Derived.Test.YtmegkemileailaaLawCommitlogBytes
import Derived.Test.YtmegkemileailaaClTorn
namespace Go.Proofs.Ytmegkemileailaa.lawCommitlogTorn
open Go.ChangeShapes Go.WideShapes Go.ChangeAt Go.RowKit plain words ord mem uvs uvc cl

def NE : El Nat := ⟨fun n => [.int .i64 (n : Int)], 1, 3, fun _ => rfl, fun x v hv => by simp at hv; subst hv; rfl, by decide⟩
theorem infoI : (Try.prog.info? 3).map (fun i => (i.zero, i.size, i.bytes)) = some (some (.int .i64 0), 1, 8) := by kernel_rfl
/-- where records end, from 0 on -/
def es (gs : List Rec) : List Nat := (List.range (gs.length + 1)).map (ends gs)
theorem es_len (gs : List Rec) : (es gs).length = gs.length + 1 := by simp [es]
theorem es_at (gs : List Rec) {i : Nat} (h : i ≤ gs.length) : (es gs)[i]? = some (ends gs i) := by
  unfold es
  rw [List.getElem?_map, List.getElem?_range (by omega)]
  rfl
theorem es_snoc (gs : List Rec) (r : Rec) : es (gs ++ [r]) = es gs ++ [(encs (gs ++ [r])).length] := by
  unfold es
  rw [List.length_append, List.length_singleton, List.range_succ, List.map_append]
  congr 1
  · refine List.map_congr_left fun i hi => ?_
    exact ends_app gs r (by have := List.mem_range.1 hi; omega)
  · simp only [List.map_cons, List.map_nil]
    rw [ends_all _ (by simp)]
/-- the three lists of the law -/
structure TI (w0 w : World) (gs : List Rec) (v5 v6 v7 : Value) (lb m : Nat) : Prop where
  len : gs.length = m
  blen : (encs gs).length = lb
  few : lb ≤ 200 * m
  good : ∀ r ∈ gs, cl.Good r ∧ cl.Num r
  b : w.ownsRow w0.heap.size 5 1 v5 lb (u8s (encs gs))
  e : Ow NE w w0.heap.size v6 (m + 1) (es gs)
  g : Ow RE w w0.heap.size v7 m gs
  bel : Below w0.heap.size w0 w
section
variable {w0 w w' : World} {gs : List Rec} {v5 v6 v7 : Value} {lb m : Nat}
theorem TI.quiet (h : TI w0 w gs v5 v6 v7 lb m) (hb : Below w.heap.size w w') : TI w0 w' gs v5 v6 v7 lb m :=
  ⟨h.len, h.blen, h.few, h.good, own_keep h.b hb (Nat.le_refl _), h.e.below hb (Nat.le_refl _), h.g.below hb (Nat.le_refl _), h.bel.trans (hb.mono h.bel.size)⟩
theorem grown_chg {o : Option Nat} (h : w.grownBy w' o) : Chg (fun k => o = some k) w w' := (Chg.refl _ _).grown h (fun k hk _ => hk)
theorem TI.ne56 (h : TI w0 w gs v5 v6 v7 lb m) : ∀ g, v6.ownBlock = some g → ¬ v5.ownBlock = some g := fun g hg e => by
  obtain ⟨c1, h1⟩ := own_type h.b e
  obtain ⟨c2, h2⟩ := h.e.type hg
  exact blk_type h1 h2 (by decide) rfl
theorem TI.ne57 (h : TI w0 w gs v5 v6 v7 lb m) : ∀ g, v7.ownBlock = some g → ¬ v5.ownBlock = some g := fun g hg e => by
  obtain ⟨c1, h1⟩ := own_type h.b e
  obtain ⟨c2, h2⟩ := h.g.type hg
  exact blk_type h1 h2 (by decide) rfl
theorem TI.ne67 (h : TI w0 w gs v5 v6 v7 lb m) : ∀ g, v7.ownBlock = some g → ¬ v6.ownBlock = some g := fun g hg e => by
  obtain ⟨c1, h1⟩ := h.e.type e
  obtain ⟨c2, h2⟩ := h.g.type hg
  exact blk_type h1 h2 (by decide) rfl
end
/-- the bytes of one more -/
structure T5 (w0 w : World) (gs : List Rec) (r : Rec) (v5 v6 v7 : Value) (lb m : Nat) : Prop where
  b : w.ownsRow w0.heap.size 5 1 v5 lb (u8s (encs (gs ++ [r])))
  e : Ow NE w w0.heap.size v6 (m + 1) (es gs)
  g : Ow RE w w0.heap.size v7 m gs
  bel : Below w0.heap.size w0 w
  ne56 : ∀ g, v6.ownBlock = some g → ¬ v5.ownBlock = some g
  ne57 : ∀ g, v7.ownBlock = some g → ¬ v5.ownBlock = some g
  ne67 : ∀ g, v7.ownBlock = some g → ¬ v6.ownBlock = some g
theorem TI.b5 {w0 w w' : World} {gs : List Rec} {v5 v6 v7 v5' : Value} {lb m lx : Nat} {r : Rec} (h : TI w0 w gs v5 v6 v7 lb m) (hg : w.grownBy w' v5.ownBlock) (ho : w'.ownsRow w0.heap.size 5 1 v5' (lb + lx) (u8s (encs gs ++ enc r))) : T5 w0 w' gs r v5' v6 v7 (lb + lx) m := by
  have hc := grown_chg hg
  have e : encs (gs ++ [r]) = encs gs ++ enc r := by rw [encs_append]; simp [encs]
  have h6 := h.e.chg hc h.ne56
  have h7 := h.g.chg hc h.ne57
  refine ⟨by rw [e]; exact ho, h6, h7, own_below h.bel h.b h.bel.size hg, fun g hg e => ?_, fun g hg e => ?_, h.ne67⟩
  · obtain ⟨c1, h1⟩ := own_type ho e
    obtain ⟨c2, h2⟩ := h6.type hg
    exact blk_type h1 h2 (by decide) rfl
  · obtain ⟨c1, h1⟩ := own_type ho e
    obtain ⟨c2, h2⟩ := h7.type hg
    exact blk_type h1 h2 (by decide) rfl
theorem T5.quiet {w0 w w' : World} {gs : List Rec} {v5 v6 v7 : Value} {lb m : Nat} {r : Rec} (h : T5 w0 w gs r v5 v6 v7 lb m) (hb : Below w.heap.size w w') : T5 w0 w' gs r v5 v6 v7 lb m :=
  ⟨own_keep h.b hb (Nat.le_refl _), h.e.below hb (Nat.le_refl _), h.g.below hb (Nat.le_refl _), h.bel.trans (hb.mono h.bel.size), h.ne56, h.ne57, h.ne67⟩
/-- and where it ends -/
structure T6 (w0 w : World) (gs : List Rec) (r : Rec) (v5 v6 v7 : Value) (lb m : Nat) : Prop where
  b : w.ownsRow w0.heap.size 5 1 v5 lb (u8s (encs (gs ++ [r])))
  e : Ow NE w w0.heap.size v6 (m + 1 + 1) (es (gs ++ [r]))
  g : Ow RE w w0.heap.size v7 m gs
  bel : Below w0.heap.size w0 w
  ne57 : ∀ g, v7.ownBlock = some g → ¬ v5.ownBlock = some g
  ne67 : ∀ g, v7.ownBlock = some g → ¬ v6.ownBlock = some g
theorem T5.e6 {w0 w w' : World} {gs : List Rec} {v5 v6 v7 v6' : Value} {lb m : Nat} {r : Rec} (h : T5 w0 w gs r v5 v6 v7 lb m) (hl : (encs (gs ++ [r])).length = lb) (hg : w.grownBy w' v6.ownBlock) (ho : Ow NE w' w0.heap.size v6' (m + 1 + 1) (es gs ++ [lb])) : T6 w0 w' gs r v5 v6' v7 lb m := by
  have hc := grown_chg hg
  have h5 := own_chg h.b hc (fun g a b => h.ne56 g b a)
  have h7 := h.g.chg hc h.ne67
  refine ⟨h5, by rw [es_snoc, hl]; exact ho, h7, h.e.below_grown h.bel hg h.bel.size, fun g hg e => ?_, fun g hg e => ?_⟩
  · obtain ⟨c1, h1⟩ := own_type h5 e
    obtain ⟨c2, h2⟩ := h7.type hg
    exact blk_type h1 h2 (by decide) rfl
  · obtain ⟨c1, h1⟩ := ho.type e
    obtain ⟨c2, h2⟩ := h7.type hg
    exact blk_type h1 h2 (by decide) rfl
theorem T6.quiet {w0 w w' : World} {gs : List Rec} {v5 v6 v7 : Value} {lb m : Nat} {r : Rec} (h : T6 w0 w gs r v5 v6 v7 lb m) (hb : Below w.heap.size w w') : T6 w0 w' gs r v5 v6 v7 lb m :=
  ⟨own_keep h.b hb (Nat.le_refl _), h.e.below hb (Nat.le_refl _), h.g.below hb (Nat.le_refl _), h.bel.trans (hb.mono h.bel.size), h.ne57, h.ne67⟩
theorem T6.g7 {w0 w w' : World} {gs : List Rec} {v5 v6 v7 v7' : Value} {lb m : Nat} {r : Rec} (h : T6 w0 w gs r v5 v6 v7 lb m) (h1 : gs.length = m) (h2 : (encs (gs ++ [r])).length = lb) (h3 : lb ≤ 200 * (m + 1)) (h4 : ∀ x ∈ gs ++ [r], cl.Good x ∧ cl.Num x) (hg : w.grownBy w' v7.ownBlock) (ho : Ow RE w' w0.heap.size v7' (m + 1) (gs ++ [r])) : TI w0 w' (gs ++ [r]) v5 v6 v7' lb (m + 1) := by
  have hc := grown_chg hg
  exact ⟨by rw [List.length_append, h1]; rfl, h2, h3, h4, own_chg h.b hc (fun g a b => h.ne57 g b a), h.e.chg hc (fun g a b => h.ne67 g b a), ho, h.g.below_grown h.bel hg h.bel.size⟩
set_option maxHeartbeats 8000000 in
set_option maxRecDepth 100000 in
theorem walk_ok (A : Option Addr) (n c : Nat) (at_ : Int) (w : World) (h0 : IsLs RE FitR w A n c) (hw : (Lit.int .i64 at_).wf = true) :
    Calls Try.prog 5 #[.slice A n c, .int .i64 at_] w fun e w' => e = .returned (.bool true) ∧ Below w.heap.size w w' := by
  obtain ⟨l, hl, hfit, hnc, hcm, hA⟩ := h0
  have hat := wf_i64 hw
  unfold maxLen at hcm
  clear hw
  by_cases g1 : 128 < n
  · have m1 : (128 : Int) < (n : Int) := by omega
    clear hl hfit
    go_enter Try.func5, Try.ntmps5
    go_wp2_with fail
    go_ret
    exact ⟨rfl, Below.refl _ _⟩
  have m1 : ¬ (128 : Int) < (n : Int) := by omega
  obtain ⟨i0, hi, hz0, hz1, hz2⟩ := info_parts mem.infoB
  obtain ⟨j0, hj, hy0, hy1, hy2⟩ := info_parts infoI
  have HL := Lib.hid hl
  have HF := Lib.hid hfit
  clear hl hfit
  obtain ⟨wz, hwz⟩ : ∃ wz, ((w.alloc (.cells #[] 5)).alloc (.cells #[.int .i64 0] 3)).alloc (.cells #[] 32) = wz := ⟨_, rfl⟩
  have hT0 : TI w wz [] (.slice (some ⟨w.heap.size, 0, none⟩) 0 0) (.slice (some ⟨w.heap.size + 1, 0, none⟩) 1 1) (.slice (some ⟨w.heap.size + 1 + 1, 0, none⟩) 0 0) 0 0 := by
    have b1 : Below w.heap.size w (w.alloc (.cells #[] 5)) := (Below.refl _ _).alloc (Nat.le_refl _) _
    have o1 : (w.alloc (.cells #[] 5)).ownsRow w.heap.size 5 1 (.slice (some ⟨w.heap.size, 0, none⟩) 0 0) 0 [] := World.ownsRow_lit (w := w) (base := w.heap.size) (e := 5) (size := 1) #[] 0 (Nat.le_refl _) (by simp) rfl
    have o2 : Ow NE ((w.alloc (.cells #[] 5)).alloc (.cells #[.int .i64 0] 3)) w.heap.size (.slice (some ⟨w.heap.size + 1, 0, none⟩) 1 1) 1 [0] := by
      have := World.ownsRow_lit (w := w.alloc (.cells #[] 5)) (base := w.heap.size) (e := 3) (size := 1) #[.int .i64 0] 1 (by simp) (by decide) rfl
      rw [World.size_alloc] at this
      exact ⟨rfl, this⟩
    have o3 := Ow.lit (E := RE) ((w.alloc (.cells #[] 5)).alloc (.cells #[.int .i64 0] 3))
    rw [World.size_alloc, World.size_alloc] at o3
    have bb2 : Below (w.alloc (.cells #[] 5)).heap.size (w.alloc (.cells #[] 5)) ((w.alloc (.cells #[] 5)).alloc (.cells #[.int .i64 0] 3)) := (Below.refl _ _).alloc (Nat.le_refl _) _
    have bb3 : Below ((w.alloc (.cells #[] 5)).alloc (.cells #[.int .i64 0] 3)).heap.size ((w.alloc (.cells #[] 5)).alloc (.cells #[.int .i64 0] 3)) wz := by rw [← hwz]; exact (Below.refl _ _).alloc (Nat.le_refl _) _
    refine ⟨rfl, rfl, Nat.zero_le _, (fun r hr => by cases hr), own_keep (own_keep o1 bb2 (Nat.le_refl _)) bb3 (Nat.le_refl _), o2.below bb3 (Nat.le_refl _), ?_, (b1.trans (bb2.mono b1.size)).trans (bb3.mono (by simp; omega))⟩
    rw [← hwz]
    exact o3.base (by omega)
  have T0 := Lib.hid hT0
  have WZ := Lib.hid hwz
  clear hT0 hwz
  go_enter Try.func5, Try.ntmps5
  go_wp2_with fail
  rw [WZ.out]
  go_loopg [5, 6, 7, 8, 9, 10, 11, 12] n (fun gg s5 s6 s7 s8 s9 s10 s11 s12 wr => ∃ (i : Nat) (gs : List Rec) (lb m : Nat) (A5 : Option Addr) (c5 : Nat) (A6 : Option Addr) (c6 : Nat) (A7 : Option Addr) (c7 : Nat), s5 = .slice A5 lb c5 ∧ s6 = .slice A6 (m + 1) c6 ∧ s7 = .slice A7 m c7 ∧ s8 = .int .i64 i ∧ i ≤ n ∧ n - i ≤ gg ∧ m ≤ i ∧ Aside (TI w wr gs (.slice A5 lb c5) (.slice A6 (m + 1) c6) (.slice A7 m c7) lb m))
  case atStart => exact ⟨0, [], 0, 0, _, _, _, _, _, _, rfl, rfl, rfl, rfl, Nat.zero_le _, by omega, Nat.le_refl _, T0.out⟩
  case round =>
    obtain ⟨i, gs, lb, m, A5, c5, A6, c6, A7, c7, rfl, rfl, rfl, rfl, hin, hgg, hmi, TT⟩ := hrel
    obtain ⟨wv, rfl⟩ : ∃ wv, wv = wr := ⟨wr, rfl⟩
    by_cases hlt : i < n
    · have i1 : (i : Int) < (n : Int) := by omega
      have i2 : (0 : Int) ≤ (i : Int) := by omega
      obtain ⟨r, hr⟩ := HL.out.get hlt
      obtain ⟨hnum, hid, _, _⟩ := HF.out r (List.mem_of_getElem? hr)
      unfold maxLen at hid
      obtain ⟨b, off, eA, _⟩ := rec_at (HL.out.below TT.out.bel (Nat.le_refl _)) hr
      subst eA
      have CK := Lib.hid (show ∀ u, Below w.heap.size w u → b < u.heap.size ∧ u.cell? ⟨b, off + i * 5, none⟩ = some (.int .i64 r.sp) ∧ u.cell? ⟨b, off + i * 5 + 1, none⟩ = some (.string (tx r.id)) ∧ u.cell? ⟨b, off + i * 5 + 2, none⟩ = some (.int .i64 r.t) ∧ u.cell? ⟨b, off + i * 5 + 3, none⟩ = some (.int .u64 r.v) ∧ u.cell? ⟨b, off + i * 5 + 4, none⟩ = some (.int .u64 r.s) from fun u hu => by
        obtain ⟨b', off', e, _, h⟩ := rec_at (HL.out.below hu (Nat.le_refl _)) hr
        cases e
        exact ⟨World.block_lt_of_cell? u _ h.1, h⟩)
      have hlen : lb ≤ 200 * m := TT.out.few
      have hX := lawCommitlogBytes.encB_len r
      obtain ⟨X, hX'⟩ : ∃ X, encB r = X := ⟨_, rfl⟩
      obtain ⟨lx, hlx⟩ : ∃ k, X.length = k := ⟨_, rfl⟩
      obtain ⟨E, hE⟩ : ∃ E, err r = E := ⟨_, rfl⟩
      rw [hX', hlx] at hX
      have E1 := encode_x wv r hnum hid
      unfold RetEnc at E1
      rw [hX', hlx, hE] at E1
      have E2 := Lib.hid (fun w1 => encode_y w1 r hnum hid)
      unfold RetEnc at E2
      simp only [hX', hlx, hE] at E2
      have E1 := Lib.hid E1
      have XE := Lib.hid (And.intro hX' (And.intro hlx hE))
      have HR := Lib.hid hr
      have HNUM := Lib.hid hnum
      clear hX' hlx hE hr hnum
      obtain ⟨hlb, c0, c1, c2, c3, c4⟩ := CK.out wv TT.out.bel
      go_wp2_with fail
      refine E1.out.mono ?_
      rintro e w1 ⟨A1, x1, rfl, own1, hb1, nil1⟩
      have T1 := Lib.hid (TT.out.quiet hb1)
      have O1 := Lib.hid own1
      have hs1 := hb1.size
      clear own1 hb1 E1 c0 c1 c2 c3 c4 hlb
      obtain ⟨hlb, c0, c1, c2, c3, c4⟩ := CK.out w1 T1.out.bel
      have E2 := Lib.hid (E2.out w1)
      go_wp2_with fail
      refine E2.out.mono ?_
      rintro e w2 ⟨A2, x2, rfl, own2, hb2, nil2⟩
      have T2 := Lib.hid (T1.out.quiet hb2)
      have O2 := Lib.hid (own_keep O1.out hb2 (Nat.le_refl _))
      have hs2 := hb2.size
      clear own2 hb2 E2 c0 c1 c2 c3 c4 hlb
      by_cases hE0 : E = 0
      · subst hE0
        have hxe : X = enc r := by rw [← XE.out.1, encB_ok XE.out.2.2]
        have hX2 := own_bs O2.out
        obtain ⟨B5, hB5⟩ : ∃ B5, encs gs = B5 := ⟨_, rfl⟩
        have ob := T2.out.b
        have sb := T2.out.bel.size
        rw [hB5] at ob
        have HX2 := Lib.hid hX2
        have OB := Lib.hid ob
        have HB5 := Lib.hid hB5
        have HXE := Lib.hid hxe
        clear hX2 ob hB5 hxe
        have hbx : (B5 ++ X).length = lb + lx := by rw [List.length_append, ← HB5.out, T2.out.blen, XE.out.2.1]
        have hen : (encs (gs ++ [r])).length = lb + lx := by rw [encs_append, List.length_append, T2.out.blen]; simp only [encs, List.map_cons, List.map_nil, List.flatten_cons, List.flatten_nil, List.append_nil]; rw [← HXE.out, XE.out.2.1]
        have HEN := Lib.hid hen
        have HBX := Lib.hid hbx
        clear hen hbx
        go_wp2_with (first
          | (at_builtin; refine wpList_append_rd rfl (.tmp 49) (.tmp 50) 22 rfl w.heap.size 5 i0 (.int .u8 0) 1 1 Try.underlying22 hi hz0 hz1 hz2 rfl (by decide) _ lb (u8s B5) rfl OB.out w2.heap.size A1 lx x1 nil1 (u8s X) rfl (by rw [Nat.mul_one]; exact HX2.out) (u8s_one _) (by unfold maxLen; omega) (by omega) sb ?_; intro v3 w3 hown3 hg3 hnn3; rw [← u8s_append] at hown3; obtain ⟨A3, x3, rfl, _, _, _⟩ := own_fit HBX.out hown3; rw [← HB5.out, HXE.out] at hown3; have T3 := Lib.hid (T2.out.b5 hg3 hown3); have s3 := T3.out.bel.size; clear hg3 hnn3 hown3)
          | (at_builtin; refine wpList_append_ow NE (P := Try.prog) Try.underlying37 hj hy0 hy1 hy2 rfl (by decide) rfl (.tmp 52) (.tmp 55) rfl w.heap.size _ (m + 1) (es gs) rfl ((T3.out.quiet ((Below.refl _ _).alloc (Nat.le_refl _) _)).e) (w3.heap.size + 1) (some ⟨w3.heap.size, 0, none⟩) 1 1 (fun e => by cases e) [lb + lx] (by rfl) (by have h9 := ls_new (E := NE) (w := w3) 3 (lb + lx); simpa [NE] using h9) (by omega) (by simp; omega) ?_; intro A4 x4 w4 hown4 hg4 _ _ _ hs4; have T4 := Lib.hid ((T3.out.quiet ((Below.refl _ _).alloc (Nat.le_refl _) _)).e6 HEN.out hg4 hown4); obtain ⟨hlb, c0, c1, c2, c3, c4⟩ := CK.out w4 T4.out.bel; have s4 := T4.out.bel.size; clear hg4 hown4)
          | (at_builtin; refine append_r rfl (.tmp 57) (.tmp 62) rfl w.heap.size _ m gs rfl ((T4.out.quiet ((Below.refl _ _).alloc (Nat.le_refl _) _)).g) (w4.heap.size + 1) (some ⟨w4.heap.size, 0, none⟩) 1 1 (fun e => by cases e) [r] (by rfl) (ls_new (E := RE) (w := w4) 32 r) (by omega) (by simp; omega) ?_; intro A5' x5 w5 hown5 hg5 _ _ _ hs5; have T5' := Lib.hid ((T4.out.quiet ((Below.refl _ _).alloc (Nat.le_refl _) _)).g7 T2.out.len HEN.out (by omega) (fun x hx => (List.mem_append.1 hx).elim (T2.out.good x) (fun e => by simp at e; subst e; exact ⟨good_of XE.out.2.2, HNUM.out⟩)) hg5 hown5)))
        go_roundg (n - (i + 1))
        case measure => omega
        case rel => exact ⟨i + 1, gs ++ [r], lb + lx, m + 1, _, _, _, _, _, _, rfl, rfl, rfl, by go_num, by omega, by omega, by omega, T5'.out⟩
      · have hE1 : (E == 0) = false := by simpa using hE0
        go_wp2_with fail
        go_roundg (n - (i + 1))
        case measure => omega
        case rel => exact ⟨i + 1, gs, lb, m, A5, c5, A6, c6, A7, c7, rfl, rfl, rfl, by go_num, by omega, by omega, by omega, T2.out⟩
    · have i1 : ¬ (i : Int) < (n : Int) := by omega
      have hlen : lb ≤ 200 * m := TT.out.few
      obtain ⟨⟨t1, t2⟩, k, hk2, hkm⟩ := at_mod at_ (lb + 1) (by omega) (by omega)
      simp only [Int.natCast_add, Int.cast_ofNat_Int, Int.natCast_one] at t1 t2 hkm
      rw [← Int.add_assoc] at hkm
      have hv1 : IntKind.i64.wrap ((lb : Int) + 1) = (lb : Int) + 1 := IntWalk.i64_in _ (by omega)
      have hv2 : IntKind.i64.wrap (at_.tmod ((lb : Int) + 1)) = at_.tmod ((lb : Int) + 1) := IntWalk.i64_in _ (by omega)
      have hv3 : IntKind.i64.wrap (at_.tmod ((lb : Int) + 1) + lb) = at_.tmod ((lb : Int) + 1) + lb := IntWalk.i64_in _ (by omega)
      have hv4 : IntKind.i64.wrap (at_.tmod ((lb : Int) + 1) + lb + 1) = at_.tmod ((lb : Int) + 1) + lb + 1 := IntWalk.i64_in _ (by omega)
      have hv5 : IntKind.i64.wrap ((k : Int)) = (k : Int) := IntWalk.i64_in _ (by omega)
      have hnz : ((lb : Int) + 1 == 0) = false := by simp; omega
      have hk3 : (k : Int) ≤ (lb : Int) := by omega
      have hk4 : (0 : Int) ≤ (k : Int) := by omega
      go_wp2_with fail
      go_loopg [13] m (fun gg s13 wr => ∃ (j : Nat), s13 = .int .i64 j ∧ j ≤ m ∧ m - j ≤ gg ∧ Aside (ends gs j ≤ k) ∧ Aside (Below wv.heap.size wv wr))
      case atStart => exact ⟨0, rfl, Nat.zero_le _, by omega, Nat.zero_le _, Below.refl _ _⟩
      case round =>
        obtain ⟨j, rfl, hj1, hj2, EJ, BJ⟩ := hrel
        obtain ⟨wu, rfl⟩ : ∃ wu, wu = wr := ⟨wr, rfl⟩
        have hej := (TT.out.quiet BJ.out).e
        obtain ⟨g6, cc6, e6, _, hg6, hcap6, _⟩ := hej.some_ (by omega)
        injection e6 with e61 e62 e63
        subst e61 e63
        have ENJ := Lib.hid (show ∀ x, x ≤ m → wu.cell? ⟨g6, x, none⟩ = some (.int .i64 (ends gs x : Nat)) from fun x hx => by
          obtain ⟨b', off', e', _, hc'⟩ := hej.ls.at_ (es_at gs (i := x) (by rw [TT.out.len]; exact hx))
          cases e'
          have := hc' 0 (by decide)
          simpa [NE] using this)
        clear hej e62
        have TU := Lib.hid (TT.out.quiet BJ.out)
        obtain ⟨A5', c5', e5, hcap5, hcap5m, hnil5⟩ := (Row.of_own TU.out.b).form
        obtain ⟨rfl, rfl⟩ : A5 = A5' ∧ c5 = c5' := by injection e5 with e1 e2 e3; exact ⟨e1, e3⟩
        obtain ⟨A7', c7', e7, hnil7, hcap7, hcap7m⟩ := TU.out.g.form
        obtain ⟨rfl, rfl⟩ : A7 = A7' ∧ c7 = c7' := by injection e7 with e1 e2 e3; exact ⟨e1, e3⟩
        clear e5 e7
        have hkc : (k : Int) ≤ (c5 : Int) := by omega
        have hjc : (j : Int) ≤ (c7 : Int) := by omega
        have hj0 : (0 : Int) ≤ (j : Int) := by omega
        have hjl : (j : Int) < (m : Int) + 1 := by omega
        have FIN := Lib.hid (fun (hs : j < gs.length → k < ends gs (j + 1)) => dec_torn gs TU.out.good (m := j) (k := k) (by rw [TU.out.len]; exact hj1) EJ.out hs)
        have hgl : (gs.take j).length = j := by rw [List.length_take, TU.out.len]; omega
        have BT := Lib.hid (bs_take (own_bs TU.out.b) (show k ≤ lb by omega))
        have GJ := Lib.hid (TU.out.g.ls.take (i := j) hj1)
        have vj := ENJ.out j hj1
        by_cases hjm : j < m
        · have v0 := ENJ.out (j + 1) (by omega)
          by_cases hle : ends gs (j + 1) ≤ k
          · obtain ⟨V, hV⟩ : ∃ V, ends gs (j + 1) = V := ⟨_, rfl⟩
            have HLE := Lib.hid hle
            rw [hV] at v0 hle
            have u1 : (j : Int) + 1 < (m : Int) + 1 := by omega
            have u2 : (V : Int) ≤ (k : Int) := by omega
            have u3 : (0 : Int) ≤ (j : Int) + 1 := by omega
            clear hV
            go_wp2_with fail
            go_roundg (m - (j + 1))
            case measure => omega
            case rel => exact ⟨j + 1, by go_num, by omega, by omega, HLE.out, BJ.out⟩
          · have HSTOP := Lib.hid (show j < gs.length → k < ends gs (j + 1) from fun _ => by omega)
            obtain ⟨V, hV⟩ : ∃ V, ends gs (j + 1) = V := ⟨_, rfl⟩
            rw [hV] at v0 hle
            have u1 : (j : Int) + 1 < (m : Int) + 1 := by omega
            have u2 : ¬ (V : Int) ≤ (k : Int) := by omega
            have u3 : (0 : Int) ≤ (j : Int) + 1 := by omega
            clear hV
            have DD := decode_x wu wu.heap.size k c5 A5 ((encs gs).take k) BT.out hnil5 (Nat.le_refl _) (by omega) (by omega) (by omega)
            unfold RetDec at DD
            rw [FIN.out HSTOP.out] at DD
            simp only [hgl] at DD
            have DD := Lib.hid DD
            obtain ⟨V2, hV2⟩ : ∃ V, ends gs j = V := ⟨_, rfl⟩
            rw [hV2] at vj DD
            clear hV2 hgl
            go_wp2_with fail
            refine DD.out.mono ?_
            rintro e w9 ⟨A9, c9, rfl, ho9, hb9⟩
            have vj9 : w9.cell? ⟨g6, j, none⟩ = some (.int .i64 (V2 : Nat)) := (hb9.cell (p := ⟨g6, j, none⟩) hg6).trans vj
            have hs9 := hb9.size
            have lg9 : g6 < w9.heap.size := by omega
            have SS := Lib.hid (same_r w9 w9.heap.size w9.heap.size j c9 c7 A9 A7 (gs.take j) ho9.ls ((GJ.out.below hb9 (Nat.le_refl _)).more hs9) (Nat.le_refl _) (Nat.le_refl _) (by omega))
            have B9 := Lib.hid (TU.out.bel.trans (hb9.mono TU.out.bel.size))
            clear ho9 hb9 DD vj
            go_wp2_with fail
            refine SS.out.mono ?_
            rintro e w10 ⟨rfl, hb10⟩
            have B10 := Lib.hid (B9.out.trans (hb10.mono B9.out.size))
            clear hb10 SS vj9
            go_wp2_with fail
            go_ret
            exact ⟨rfl, B10.out⟩
        · have HSTOP := Lib.hid (show j < gs.length → k < ends gs (j + 1) from fun h => by rw [TT.out.len] at h; omega)
          have u1 : ¬ (j : Int) + 1 < (m : Int) + 1 := by omega
          have DD := decode_x wu wu.heap.size k c5 A5 ((encs gs).take k) BT.out hnil5 (Nat.le_refl _) (by omega) (by omega) (by omega)
          unfold RetDec at DD
          rw [FIN.out HSTOP.out] at DD
          simp only [hgl] at DD
          have DD := Lib.hid DD
          obtain ⟨V2, hV2⟩ : ∃ V, ends gs j = V := ⟨_, rfl⟩
          rw [hV2] at vj DD
          clear hV2 hgl
          go_wp2_with fail
          refine DD.out.mono ?_
          rintro e w9 ⟨A9, c9, rfl, ho9, hb9⟩
          have vj9 : w9.cell? ⟨g6, j, none⟩ = some (.int .i64 (V2 : Nat)) := (hb9.cell (p := ⟨g6, j, none⟩) hg6).trans vj
          have hs9 := hb9.size
          have lg9 : g6 < w9.heap.size := by omega
          have SS := Lib.hid (same_r w9 w9.heap.size w9.heap.size j c9 c7 A9 A7 (gs.take j) ho9.ls ((GJ.out.below hb9 (Nat.le_refl _)).more hs9) (Nat.le_refl _) (Nat.le_refl _) (by omega))
          have B9 := Lib.hid (TU.out.bel.trans (hb9.mono TU.out.bel.size))
          clear ho9 hb9 DD vj
          go_wp2_with fail
          refine SS.out.mono ?_
          rintro e w10 ⟨rfl, hb10⟩
          have B10 := Lib.hid (B9.out.trans (hb10.mono B9.out.size))
          clear hb10 SS vj9
          go_wp2_with fail
          go_ret
          exact ⟨rfl, B10.out⟩
end Go.Proofs.Ytmegkemileailaa.lawCommitlogTorn
