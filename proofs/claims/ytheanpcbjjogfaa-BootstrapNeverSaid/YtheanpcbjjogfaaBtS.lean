/-
  Boots: merge.Cut, as a list of the call's own.
-/
import Derived.Test.YtheanpcbjjogfaaBtP
import Derived.Test.YtheanpcbjjogfaaFree
import Derived.Test.YtheanpcbjjogfaaLsOf
import Derived.Lib.SmallJoins
namespace Go.Proofs.Ytheanpcbjjogfaa.bt
open Go.ChangeShapes Go.WideShapes Go.ChangeAt Go.RowKit Go.Shelf Go.Maps plain words ord mem mg al mp

def inT (f t : Int) (p : Pt) : Bool := decide (f ≤ p.1) && decide (p.1 < t)
def cutP (f t : Int) (l : List Pt) : List Pt := l.filter (inT f t)
theorem cutP_snoc {f t : Int} {l : List Pt} {i : Nat} {x : Pt} (h : l[i]? = some x) : cutP f t (l.take (i + 1)) = cutP f t (l.take i) ++ (if inT f t x = true then [x] else []) := by
  unfold cutP
  rw [List.take_add_one, h, Option.toList_some, List.filter_append, List.filter_cons, List.filter_nil]
theorem cutP_len (f t : Int) (l : List Pt) : (cutP f t l).length ≤ l.length := List.length_filter_le _ _
def RetCutP (w : World) (o : List Pt) (e : Ending) (w' : World) : Prop :=
  ∃ A c, e = .returned (.slice A o.length c) ∧ Ow PE w' w.heap.size (.slice A o.length c) o.length o ∧ Below w.heap.size w w'
theorem below_a2 (w : World) (o : Obj) : Below w.heap.size w (w.alloc o) := (Below.refl _ w).alloc (Nat.le_refl _) o
theorem pt_at {w : World} {B n i : Nat} {A : Option Addr} {l : List Pt} (h : Ls PE w B A n l) {x : Pt} (hx : l[i]? = some x) :
    ∃ b off, A = some ⟨b, off, none⟩ ∧ b < B ∧ w.cell? ⟨b, off + i * 3, none⟩ = some (.int .i64 x.1) ∧ w.cell? ⟨b, off + i * 3 + 1, none⟩ = some (.int .u64 x.2.1) ∧ w.cell? ⟨b, off + i * 3 + 2, none⟩ = some (.int .u64 x.2.2) := by
  obtain ⟨b, off, e, hb, hc⟩ := h.at_ hx
  exact ⟨b, off, e, hb, hc 0 (by decide), hc 1 (by decide), hc 2 (by decide)⟩
set_option maxRecDepth 100000 in
set_option maxHeartbeats 2000000 in
theorem cut_p (w : World) (B n c : Nat) (A : Option Addr) (l : List Pt) (f t : Int) (h : Ls PE w B A n l) (hB : B ≤ w.heap.size) (hn : n ≤ 90000) :
    Calls Try.prog 36 #[.slice A n c, .agg #[.int .i64 f, .int .i64 t]] w (RetCutP w (cutP f t l)) := by
  obtain ⟨w1, hw1⟩ : ∃ w1, w.alloc (.cells #[.int .i64 f, .int .i64 t] 27) = w1 := ⟨_, rfl⟩
  have hb1 : Below w.heap.size w w1 := by rw [← hw1]; exact below_a2 _ _
  have hr1 : w1.heap[w.heap.size]? = some (.cells #[.int .i64 f, .int .i64 t] 27 (0, 0)) := by rw [← hw1]; exact alloc_new _ _
  have HL := Lib.hid h
  have HN := Lib.hid h.1
  have W1 := Lib.hid hw1
  have HB1 := Lib.hid hb1
  have R1 := Lib.hid hr1
  obtain ⟨o, ho⟩ : ∃ o, cutP f t l = o := ⟨_, rfl⟩
  have HO := Lib.hid ho
  rw [ho]
  clear h hw1 hb1 hr1 ho
  go_enter Try.func36, Try.ntmps36
  go_wp2_with (fail)
  rw [W1.out]
  go_loopg [5, 7, 10] n (fun gg s5 s7 s10 wr => ∃ (i M c' : Nat) (A' : Option Addr), s10 = .int .i64 i ∧ s5 = .slice A' M c' ∧ i ≤ n ∧ n - i ≤ gg ∧ M ≤ i ∧ Aside (Ow PE wr w1.heap.size (.slice A' M c') M (cutP f t (l.take i))) ∧ Aside (Below w1.heap.size w1 wr))
  case atStart => exact ⟨0, 0, 0, none, rfl, rfl, by omega, by omega, by omega, Ow.nil _ _, Below.refl _ _⟩
  case round =>
    obtain ⟨i, M, c', A', rfl, rfl, hi, hg, hM, HOW, HBR⟩ := hrel
    obtain ⟨wv, hwv⟩ : ∃ wv, wv = wr := ⟨wr, rfl⟩
    obtain rfl := hwv
    have hl1 : w.heap.size < w1.heap.size := blk_lt R1.out
    have hsv := HBR.out.size
    by_cases hlt : i < n
    · have i1 : (i : Int) < (n : Int) := by omega
      have i0 : (0 : Int) ≤ (i : Int) := by omega
      obtain ⟨x, hx⟩ := HL.out.get hlt
      obtain ⟨b, off, hA, hb, x0, x1, x2⟩ := pt_at ((HL.out.below HB1.out hB).below HBR.out (by omega)) hx
      subst hA
      have HSN := Lib.hid (cutP_snoc (f := f) (t := t) hx)
      have hbw : b < wv.heap.size := by omega
      have R := blk_below HBR.out R1.out hl1
      have c0 : wv.cell? ⟨w.heap.size, 0, none⟩ = some (.int .i64 f) := by rw [cell_of_row _ _ _ _ _ _ R]; rfl
      have c1 : wv.cell? ⟨w.heap.size, 1, none⟩ = some (.int .i64 t) := by rw [cell_of_row _ _ _ _ _ _ R]; rfl
      have hgl : w.heap.size < wv.heap.size := by omega
      obtain ⟨p1, p2, p3⟩ := x
      simp only at x0 x1 x2 HSN
      obtain ⟨wa, hwa⟩ : ∃ wa, wv.alloc (.cells #[.int .i64 p1, .int .u64 p2, .int .u64 p3] 91) = wa := ⟨_, rfl⟩
      have hba : Below wv.heap.size wv wa := by rw [← hwa]; exact below_a2 _ _
      have hsa := hba.size
      have HOA := Lib.hid (HOW.out.below hba (Nat.le_refl _))
      have HBA := Lib.hid (HBR.out.trans (hba.mono hsv))
      have HWA := Lib.hid hwa
      have ga : wa.heap[wv.heap.size]? = some (.cells #[.int .i64 p1, .int .u64 p2, .int .u64 p3] 91 (0, 0)) := by rw [← hwa]; exact alloc_new _ _
      have Ra := blk_below hba R hgl
      have y0 : wa.cell? ⟨wv.heap.size, 0, none⟩ = some (.int .i64 p1) := by rw [cell_of_row _ _ _ _ _ _ ga]; rfl
      have y1 : wa.cell? ⟨wv.heap.size, 1, none⟩ = some (.int .u64 p2) := by rw [cell_of_row _ _ _ _ _ _ ga]; rfl
      have y2 : wa.cell? ⟨wv.heap.size, 2, none⟩ = some (.int .u64 p3) := by rw [cell_of_row _ _ _ _ _ _ ga]; rfl
      have hla : wv.heap.size < wa.heap.size := blk_lt ga
      have d0 : wa.cell? ⟨w.heap.size, 0, none⟩ = some (.int .i64 f) := by rw [cell_of_row _ _ _ _ _ _ Ra]; rfl
      have d1 : wa.cell? ⟨w.heap.size, 1, none⟩ = some (.int .i64 t) := by rw [cell_of_row _ _ _ _ _ _ Ra]; rfl
      have hga : w.heap.size < wa.heap.size := by omega
      clear hx R ga Ra hba c0 c1
      obtain ⟨bx, hbx⟩ : ∃ bx, inT f t (p1, p2, p3) = bx := ⟨_, rfl⟩
      rw [hbx] at HSN
      obtain ⟨b1, hb1⟩ : ∃ b1, decide (f ≤ p1) = b1 := ⟨_, rfl⟩
      obtain ⟨b2, hb2⟩ : ∃ b2, decide (p1 < t) = b2 := ⟨_, rfl⟩
      have hbb : bx = (b1 && b2) := by rw [← hbx, ← hb1, ← hb2]; rfl
      subst hbb
      clear hbx
      cases b1 with
      | false =>
        go_wp2_with (fail)
        go_roundg (n - (i + 1))
        case measure => omega
        case rel => exact ⟨i + 1, M, c', A', by go_num, rfl, by omega, by omega, by omega, (show Ow PE wa w1.heap.size (.slice A' M c') M (cutP f t (l.take (i + 1))) by rw [HSN.out]; simpa using HOA.out), HBA.out⟩
      | true =>
        cases b2 with
        | false =>
          go_wp2_with (fail)
          go_roundg (n - (i + 1))
          case measure => omega
          case rel => exact ⟨i + 1, M, c', A', by go_num, rfl, by omega, by omega, by omega, (show Ow PE wa w1.heap.size (.slice A' M c') M (cutP f t (l.take (i + 1))) by rw [HSN.out]; simpa using HOA.out), HBA.out⟩
        | true =>
          obtain ⟨wb, hwb⟩ : ∃ wb, wa.alloc (.cells #[.int .i64 p1, .int .u64 p2, .int .u64 p3] 91) = wb := ⟨_, rfl⟩
          have hbb : Below wa.heap.size wa wb := by rw [← hwb]; exact below_a2 _ _
          have HLB := Lib.hid (show Ls PE wb (wa.heap.size + 1) (some ⟨wa.heap.size, 0, none⟩) 1 [(p1, p2, p3)] by rw [← hwb]; exact ls_new (E := PE) (w := wa) 91 (p1, p2, p3))
          have HOB := Lib.hid (HOA.out.below hbb (Nat.le_refl _))
          have HBb := Lib.hid (HBA.out.trans (hbb.mono (by omega)))
          have hsb := hbb.size
          clear hbb
          go_wp2_with (at_builtin; refine app_p rfl (.tmp 26) (.tmp 28) rfl w1.heap.size _ M _ rfl HOB.out (wa.heap.size + 1) (some ⟨wa.heap.size, 0, none⟩) 1 1 [(p1, p2, p3)] (by rfl) HLB.out (by omega) (by omega) (by omega) ?_; intro g9 c9 w9 hown9 hg9 hat9; have HO9 := Lib.hid hown9; have HB9 := Lib.hid (HOB.out.below_grown HBb.out hg9 (by omega)); clear hown9 hg9 hat9)
          go_roundg (n - (i + 1))
          case measure => omega
          case rel => exact ⟨i + 1, M + 1, c9, _, by go_num, rfl, by omega, by omega, by omega, (show Ow PE w9 w1.heap.size (.slice (some ⟨g9, 0, none⟩) (M + 1) c9) (M + 1) (cutP f t (l.take (i + 1))) by rw [HSN.out]; exact HO9.out), HB9.out⟩
    · obtain rfl : i = n := by omega
      have i1 : ¬ (i : Int) < (i : Int) := by omega
      have HE := Lib.hid (show cutP f t (l.take i) = o by rw [← HO.out, List.take_of_length_le (by rw [HN.out]; exact Nat.le_refl _)])
      go_wp2_with (fail)
      go_ret
      have h1 := HOW.out
      rw [HE.out] at h1
      have h2 := h1.1
      subst h2
      exact ⟨A', c', rfl, h1.base (by omega), HB1.out.trans (HBR.out.mono (by omega))⟩
end Go.Proofs.Ytheanpcbjjogfaa.bt
/-
  Boots: add: more points behind the names'.
-/
namespace Go.Proofs.Ytheanpcbjjogfaa.bt
open Go.ChangeShapes Go.WideShapes Go.ChangeAt Go.RowKit Go.Shelf Go.Maps plain words ord mem mg al mp
open Go.WideMaps (keyOf_string_mk)

def RetPut (w : World) (B : Nat) (F : Nat → Prop) (f : Nat) (es : AL Ent) (s : Nm) (l : List Pt) (e : Ending) (w' : World) : Prop :=
  e = .returned (.tuple #[]) ∧ ∃ es', Pts w' B (Ext F w w') f es' ∧ Chg F w w' ∧ es'.length ≤ es.length + 1 ∧ ∀ r, cont es' r = if r = s then cont es r ++ l else cont es r
theorem cont_put (es : AL Ent) (q : Nm) (h : Hd) (l : List Pt) (r : Nm) : cont (al.put es q (h, l)) r = if r = q then l else cont es r := by
  unfold cont
  by_cases e : r = q
  · subst e; rw [get_put_same, if_pos rfl]
  · rw [get_put_other _ e, if_neg e]
theorem Pts.ext {w w' : World} {B f : Nat} {F : Nat → Prop} {es : AL Ent} (h : Pts w' B F f es) (hs : w.heap.size ≤ w'.heap.size) : Pts w' B (Ext F w w') f es :=
  h.more (fun k hk => .inl hk) (fun k hk => by
    rcases hk with hk | hk
    · exact h.hi k hk
    · exact hk.2)
set_option maxRecDepth 100000 in
set_option maxHeartbeats 2000000 in
theorem put_x (w : World) (B : Nat) (F : Nat → Prop) (f : Nat) (es : AL Ent) (hp : Pts w B F f es) (hB : B ≤ w.heap.size) (g p2 : Nat) (h7 : w.cell? ⟨g, 7, none⟩ = some (.map (some f))) (hg : g < w.heap.size) (hc : w.cell? ⟨p2, 0, none⟩ = some (.pointer (some ⟨g, 0, none⟩))) (hp2 : p2 < w.heap.size) (hgF : ¬ F g) (hpF : ¬ F p2)
    (s : ByteArray) (hs : s.size ≤ maxLen) (B2 m c : Nat) (A : Option Addr) (l : List Pt) (hl : Ls PE w B2 A m l) (hB2 : B2 ≤ w.heap.size) (hm : m ≤ 1000000) (hco : (cont es s.data.toList).length ≤ 1000000000) (hes : es.length ≤ 1000000000) :
    Calls Try.prog 35 #[.string s, .slice A m c, .pointer (some ⟨p2, 0, none⟩)] w (RetPut w B F f es s.data.toList l) := by
  by_cases h0 : m = 0
  · subst h0
    have hl0 : l = [] := List.eq_nil_of_length_eq_zero hl.1
    subst hl0
    have HR := Lib.hid (show RetPut w B F f es s.data.toList [] (.returned (.tuple #[])) w from ⟨rfl, es, hp.ext (Nat.le_refl _), Chg.refl _ _, Nat.le_succ _, fun r => by split <;> simp⟩)
    clear hp hl hco hes
    go_enter Try.func35, Try.ntmps35
    go_wp2_with (fail)
    go_end0
    exact HR.out
  · have i1 : (0 : Int) < (m : Int) := by omega
    have hf1 : ¬ (F g ∧ g ≠ f) := fun e => hgF e.1
    have hf2 : ¬ (F p2 ∧ p2 ≠ f) := fun e => hpF e.1
    have q0 := Wf.at_ (F := fun k => F k ∧ k ≠ f) h7 hf1
    have q1 := Wf.at_ (F := fun k => F k ∧ k ≠ f) hc hf2
    obtain ⟨rA, rc, hrv⟩ := hp.rowV_form s.data.toList
    have hown := hp.rowV_own s.data.toList
    obtain ⟨K, hK⟩ : ∃ K, (cont es s.data.toList).length = K := ⟨_, rfl⟩
    obtain ⟨D, hD1, hD2⟩ := hp.m
    have hlk : ∀ u : Wf (fun k => F k ∧ k ≠ f) w, (Instr.lookup 58 (.map (some f)) (.string s) false).run Try.prog u.w = .ok (.slice rA K rc) u.w := fun u => by
      have := look_m (own_map_chg hD1 u.h (fun e => e.2 rfl)) hD2 s hs
      rw [hrv, hK] at this
      exact this
    have HP := Lib.hid hp
    have HRV := Lib.hid hrv
    have hkey : keyOf Try.prog 9 (.string s) = some (.string s.data.toList) := keyOf_string_mk Try.underlying9 hs
    have HES := Lib.hid hes
    have HD1 := Lib.hid hD1
    have HD2 := Lib.hid hD2
    have HKE := Lib.hid hK
    rw [hrv, hK] at hown
    rw [hK] at hco
    have HOWN := Lib.hid hown
    have HL := Lib.hid hl
    have HC0 := Lib.hid (show ∀ r, cont es r = cont es r from fun _ => rfl)
    have hrow : ∀ k, (rowV es s.data.toList).ownBlock = some k → F k ∧ k ≠ f := fun k hk => by
      unfold rowV at hk
      cases hx : get es s.data.toList with
      | none => rw [hx] at hk; simp [Value.ownBlock] at hk
      | some x =>
        rw [hx] at hk
        have e : x.1.b = k := by simpa [Hd.val, Value.ownBlock] using hk
        have := hp.ne _ x hx
        rw [e] at this
        exact ⟨this.2.1, this.1⟩
    have HROW := Lib.hid hrow
    clear hp hown hl hK h7 hc h0 hes hD1 hD2 hrow hf1 hf2
    go_enter Try.func35, Try.ntmps35
    go_wp2_with (fail)
    refine fr.wp_region_tree (F := fun k => F k ∧ k ≠ f) (.reads [0, 1, 2, 3, 4, 5, 6, 7, 8, 9, 10, 11] (.one 12 false (.one 13 true .stop))) (by kernel_rfl) (by kernel_rfl) ?_
    refine fr.tr_reads _ (by dsimp only [pick, at_]) ?_
    repeat (go_big_quiet_step (fail))
    refine wpQuiet_nil ?_
    clear q0 q1 hlk
    refine fr.tr_one _ (by dsimp only [pick, at_]) ?_
    intro K1 h1 h2
    clear h1
    have HO2 := Lib.hid (HOWN.out.below (Below.refl w.heap.size w).drew (Nat.le_refl _))
    have HL2 := Lib.hid HL.out.drew
    go_wp2_with (at_builtin; refine app_p rfl (.tmp 18) (.tmp 19) rfl B (.slice rA K rc) K _ (by rfl) HO2.out B2 A m c l (by rfl) HL2.out (by omega) (by omega) hB ?_; intro g9 c9 w9 hown9 hg9 hat9; have HO9 := Lib.hid hown9; have HG9 := Lib.hid hg9; have HA9 := Lib.hid hat9; clear hown9 hg9 hat9)
    have HGW := Lib.hid (show w.grownBy w9 (rowV es s.data.toList).ownBlock by rw [HRV.out, HKE.out]; exact ⟨HG9.out.os, HG9.out.tape, HG9.out.output, HG9.out.size, HG9.out.block⟩)
    have HAW := Lib.hid (show (rowV es s.data.toList).ownBlock = some g9 ∨ g9 = w.heap.size by rw [HRV.out, HKE.out]; exact HA9.out)
    have HC9 := Lib.hid (show Chg (fun k => F k ∧ k ≠ f) w w9 from (Chg.refl _ _).grown HGW.out (fun k hk _ => HROW.out k hk))
    have hown9 := own_map_chg HD1.out HC9.out (fun e => e.2 rfl)
    clear HG9 HA9 HO2 HL2 hrv
    refine h2 _ _ HC9.out ?_
    clear h2
    refine fr.tr_write _ (by dsimp only [pick, at_]) ?_
    intro K2 g3
    have hle := HES.out
    go_wp2_with (at_mapUpdate; refine wpList_mapUpdate_own _ rfl _ _ _ 58 rfl 9 51 law Try.underlying58 he f es.length D rfl hown9 (by unfold maxLen; omega) _ _ (.string s.data.toList) rfl rfl hkey (Hd.dat ⟨g9, K + m, c9⟩) [] rfl ?_; intro w10 hown10 hg10; have HN10 := Lib.hid hown10; have HG10 := Lib.hid hg10; clear hown10 hg10)
    refine fr.tr_stop ?_
    refine NoPanic.normal ?_
    have HF := Lib.hid (HP.out.put s.data.toList hB (by omega) HO9.out HGW.out HAW.out HD2.out HN10.out HG10.out)
    clear hown9
    go_wp2_with (fail)
    go_end0
    refine ⟨rfl, _, HF.out.1, HF.out.2, len_put, fun r => ?_⟩
    rw [cont_put]
    split
    · rename_i e; rw [e]
    · rfl
/-- a series as a value -/
structure SerV where
  id : ByteArray
  A : Option Addr
  c : Nat
  l : List Pt
def SerV.nm (s : SerV) : Nm := s.id.data.toList
def serE (s : SerV) : List Value := [.string s.id, .slice s.A s.l.length s.c]
def SE : El SerV := ⟨serE, 2, 53, fun _ => rfl, fun s v hv => by simp [serE] at hv; rcases hv with rfl | rfl <;> rfl, by decide⟩
/-- a list of series: each with its points -/
structure Sers (w : World) (B n : Nat) (A : Option Addr) (l : List SerV) : Prop where
  row : Ls SE w B A n l
  pts : ∀ s ∈ l, Ls PE w B s.A s.l.length s.l
  ids : ∀ s ∈ l, s.id.size ≤ maxLen
  few : ∀ s ∈ l, s.l.length ≤ maxLen
theorem Sers.below {w w' : World} {B n C : Nat} {A : Option Addr} {l : List SerV} (h : Sers w B n A l) (hb : Below C w w') (hB : B ≤ C) : Sers w' B n A l :=
  ⟨h.row.below hb hB, fun s hs => (h.pts s hs).below hb hB, h.ids, h.few⟩
theorem ser_at {w : World} {B n i : Nat} {A : Option Addr} {l : List SerV} (h : Ls SE w B A n l) {s : SerV} (hx : l[i]? = some s) :
    ∃ b off, A = some ⟨b, off, none⟩ ∧ b < B ∧ w.cell? ⟨b, off + i * 2, none⟩ = some (.string s.id) ∧ w.cell? ⟨b, off + i * 2 + 1, none⟩ = some (.slice s.A s.l.length s.c) := by
  obtain ⟨b, off, e, hb, hc⟩ := h.at_ hx
  exact ⟨b, off, e, hb, hc 0 (by decide), hc 1 (by decide)⟩
def addS (f t : Int) : List SerV → (Nm → List Pt) → Nm → List Pt
  | [], C => C
  | s :: l, C => addS f t l (fun r => if r = s.nm then C r ++ cutP f t s.l else C r)
theorem addS_snoc (f t : Int) : ∀ (l : List SerV) (s : SerV) (C : Nm → List Pt) (r : Nm), addS f t (l ++ [s]) C r = if r = s.nm then addS f t l C r ++ cutP f t s.l else addS f t l C r
  | [], s, C, r => rfl
  | x :: l, s, C, r => addS_snoc f t l s _ r
theorem addS_at {f t : Int} {l : List SerV} {i : Nat} {s : SerV} (h : l[i]? = some s) (C : Nm → List Pt) (r : Nm) : addS f t (l.take (i + 1)) C r = if r = s.nm then addS f t (l.take i) C r ++ cutP f t s.l else addS f t (l.take i) C r := by
  rw [List.take_add_one, h]
  exact addS_snoc f t _ s C r
def RetAdd (w : World) (B : Nat) (F : Nat → Prop) (pk : Nat) (es : AL Ent) (f t : Int) (l : List SerV) (e : Ending) (w' : World) : Prop :=
  e = .returned (.tuple #[]) ∧ ∃ es', Pts w' B (Ext F w w') pk es' ∧ Chg F w w' ∧ es'.length ≤ es.length + l.length ∧ ∀ r, cont es' r = addS f t l (cont es) r
theorem below_a3 (w : World) (o : Obj) : Below w.heap.size w (w.alloc o) := (Below.refl _ w).alloc (Nat.le_refl _) o
theorem addS_len {f t : Int} : ∀ (l : List SerV) (C : Nm → List Pt) (M : Nat), (∀ s ∈ l, s.l.length ≤ 2048) → (∀ r, (C r).length ≤ M) → ∀ r, (addS f t l C r).length ≤ M + l.length * 2048
  | [], C, M, _, hC, r => by simpa [addS] using hC r
  | s :: l, C, M, hs, hC, r => by
    have := addS_len (f := f) (t := t) l (fun r => if r = s.nm then C r ++ cutP f t s.l else C r) (M + 2048) (fun x hx => hs x (by simp [hx])) (fun q => by
      have h1 := hC q
      have h2 := hs s (by simp)
      have h3 := cutP_len f t s.l
      split
      · rw [List.length_append]; omega
      · omega) r
    show (addS f t l _ r).length ≤ _
    rw [List.length_cons]
    omega
set_option maxRecDepth 100000 in
set_option maxHeartbeats 2000000 in
theorem add_x (w : World) (B : Nat) (F : Nat → Prop) (pk : Nat) (es : AL Ent) (hp : Pts w B F pk es) (hB : B ≤ w.heap.size) (g : Nat) (f t : Int) (v2 v3 v4 v5 v6 : Value)
    (hbox : w.heap[g]? = some (.cells #[.int .i64 f, .int .i64 t, v2, v3, v4, v5, v6, .map (some pk)] 60 (0, 0))) (hgF : ¬ F g) (B2 n c : Nat) (A : Option Addr) (l : List SerV) (hl : Sers w B2 n A l) (hB2 : ∀ k, F k → B2 ≤ k) (hB2w : B2 ≤ w.heap.size)
    (hn : n ≤ 2048) (hls : ∀ s ∈ l, s.l.length ≤ 2048) (hco : ∀ r, (cont es r).length ≤ 100000000) (hes : es.length ≤ 100000000) :
    Calls Try.prog 18 #[.pointer (some ⟨g, 0, none⟩), .slice A n c] w (RetAdd w B F pk es f t l) := by
  have hmf : ∀ (fn : Fn) (first cap : Array Value) (w : World), (Instr.makeFunc fn first cap).run Try.prog w = .ok (.func fn first cap) w := fun _ _ _ _ => rfl
  obtain ⟨w1, hw1⟩ : ∃ w1, w.alloc (.cells #[.pointer (some ⟨g, 0, none⟩)] 34) = w1 := ⟨_, rfl⟩
  have hb1 : Below w.heap.size w w1 := by rw [← hw1]; exact below_a3 _ _
  have hr1 : w1.heap[w.heap.size]? = some (.cells #[.pointer (some ⟨g, 0, none⟩)] 34 (0, 0)) := by rw [← hw1]; exact alloc_new _ _
  have HW1 := Lib.hid hw1
  have HB1 := Lib.hid hb1
  have HR1 := Lib.hid hr1
  have HP1 := Lib.hid (hp.below hb1 (Nat.le_refl _))
  have HX1 := Lib.hid (blk_below hb1 hbox (blk_lt hbox))
  have HL1 := Lib.hid (hl.below hb1 hB2w)
  have HN := Lib.hid hl.row.1
  have HI := Lib.hid hl.ids
  have HLS := Lib.hid hls
  have HCO := Lib.hid hco
  have HES := Lib.hid hes
  have HF2 := Lib.hid hB2
  have hsz1 := hb1.size
  have hl1 : w.heap.size < w1.heap.size := blk_lt hr1
  have hF1 : ¬ F w.heap.size := fun e => by have := hp.hi _ e; omega
  clear hp hl hls hco hes hbox hw1 hb1 hr1 hB2
  go_enter Try.func18, Try.ntmps18
  go_wp2_with (fail)
  rw [HW1.out]
  go_loopg [6, 10] n (fun gg s6 s10 wr => ∃ (i : Nat), s10 = .int .i64 i ∧ i ≤ n ∧ n - i ≤ gg ∧ Aside (Chg F w1 wr) ∧ Aside (∃ esi, Pts wr B (Ext F w1 wr) pk esi ∧ esi.length ≤ es.length + i ∧ ∀ r, cont esi r = addS f t (l.take i) (cont es) r))
  case atStart => exact ⟨0, rfl, by omega, by omega, Chg.refl _ _, es, HP1.out.ext (Nat.le_refl _), by omega, fun r => by simp [addS]⟩
  case round =>
    obtain ⟨i, rfl, hi, hgk, HCH, HPT⟩ := hrel
    obtain ⟨wv, hwv⟩ : ∃ wv, wv = wr := ⟨wr, rfl⟩
    obtain rfl := hwv
    have hsv := HCH.out.size
    by_cases hlt : i < n
    · have i1 : (i : Int) < (n : Int) := by omega
      have i0 : (0 : Int) ≤ (i : Int) := by omega
      obtain ⟨s, hx⟩ := HL1.out.row.get hlt
      have hmem := List.mem_of_getElem? hx
      have HLV := Lib.hid (HL1.out.below (HCH.out.below (B := B2) (by omega) HF2.out) (Nat.le_refl _))
      obtain ⟨b, off, hA, hb, x0, x1⟩ := ser_at HLV.out.row hx
      subst hA
      have hpl := HLV.out.pts s hmem
      have hsl := HLS.out s hmem
      have hid := HI.out s hmem
      have HAT := Lib.hid (fun (r : Nm) => addS_at (f := f) (t := t) hx (cont es) r)
      have hbw : b < wv.heap.size := by omega
      have hX := HX1.out
      have hgl := blk_lt hX
      have gx := HCH.out.blk hX hgF
      have gr := HCH.out.blk HR1.out hF1
      obtain ⟨sid, sA, sc, sl⟩ := s
      obtain ⟨m, hm⟩ : ∃ m, sl.length = m := ⟨_, rfl⟩
      simp only [SerV.nm, hm] at x0 x1 hpl hsl hid HAT
      obtain ⟨wa, hwa⟩ : ∃ wa, wv.alloc (.cells #[.string sid, .slice sA m sc] 53) = wa := ⟨_, rfl⟩
      have hba : Below wv.heap.size wv wa := by rw [← hwa]; exact below_a3 _ _
      have ga : wa.heap[wv.heap.size]? = some (.cells #[.string sid, .slice sA m sc] 53 (0, 0)) := by rw [← hwa]; exact alloc_new _ _
      have hsa := hba.size
      have gxa := blk_below hba gx (blk_lt gx)
      have gra := blk_below hba gr (blk_lt gr)
      have HWA := Lib.hid hwa
      have HBA := Lib.hid hba
      have hga : g < wa.heap.size := blk_lt gxa
      have hra : w.heap.size < wa.heap.size := blk_lt gra
      have hva : wv.heap.size < wa.heap.size := blk_lt ga
      have y0 : wa.cell? ⟨wv.heap.size, 0, none⟩ = some (.string sid) := by rw [cell_of_row _ _ _ _ _ _ ga]; rfl
      have y1 : wa.cell? ⟨wv.heap.size, 1, none⟩ = some (.slice sA m sc) := by rw [cell_of_row _ _ _ _ _ _ ga]; rfl
      have y2 : wa.cell? ⟨w.heap.size, 0, none⟩ = some (.pointer (some ⟨g, 0, none⟩)) := by rw [cell_of_row _ _ _ _ _ _ gra]; rfl
      have y3 : wa.cell? ⟨g, 0, none⟩ = some (.int .i64 f) := by rw [cell_of_row _ _ _ _ _ _ gxa]; rfl
      have y4 : wa.cell? ⟨g, 1, none⟩ = some (.int .i64 t) := by rw [cell_of_row _ _ _ _ _ _ gxa]; rfl
      have y5 : wa.cell? ⟨g, 7, none⟩ = some (.map (some pk)) := by rw [cell_of_row _ _ _ _ _ _ gxa]; rfl
      have q0 := Wb.at_ y0
      have q1 := Wb.at_ y1
      have q2 := Wb.at_ y2
      have q3 := Wb.at_ y3
      have q4 := Wb.at_ y4
      have HLA := Lib.hid ((hpl.below hba (by omega)).drew)
      have HCU := Lib.hid (cut_p wa.drew B2 m sc sA sl f t HLA.out (show B2 ≤ wa.heap.size by omega) (by omega))
      have HPT2 := Lib.hid HPT.out
      have HGA := Lib.hid gxa
      have HRA := Lib.hid gra
      have HSL := Lib.hid hm
      clear hx hmem ga gxa gra gx gr hba hpl y0 y1 y2 y3 y4 y5
      go_wp2_with (fail)
      refine wp_region_plan [([0, 1, 2, 3, 4, 5, 6, 7, 8], some (9, false)), ([], some (10, true)), ([], none)] (by kernel_rfl) (by kernel_rfl) ?_
      refine seg_act _ (by dsimp only [pick, ord.at_]) _ (by dsimp only [pick, ord.at_]) ?_
      repeat (go_big_quiet_step (fail))
      refine wpQuiet_nil ?_
      intro K1 h1 h2
      clear h1 q0 q1 q2 q3 q4
      go_wp2_with (fail)
      refine HCU.out.mono ?_
      rintro e w3 ⟨A3, c3, rfl, ho3, hb3⟩
      obtain ⟨cu, hcu⟩ : ∃ cu, cutP f t sl = cu := ⟨_, rfl⟩
      rw [hcu] at ho3 HAT
      have hcl : cu.length ≤ 2048 := by rw [← hcu]; have := cutP_len f t sl; omega
      obtain ⟨C, hC⟩ : ∃ C, cu.length = C := ⟨_, rfl⟩
      rw [hcu, hC]
      rw [hC] at ho3 hcl
      have HB3 := Lib.hid (show Below wa.heap.size wa w3 from (Below.refl wa.heap.size wa).drew.trans hb3)
      have HO3 := Lib.hid ho3
      have hs3 := HB3.out.size
      have hcuE := Lib.hid hcu
      clear hcu hb3 ho3
      go_wp2_with (fail)
      refine h2 _ _ HB3.out ?_
      clear h2
      obtain ⟨esi, hpi, hle, hci⟩ := HPT2.out
      have HB13 := Lib.hid (HBA.out.trans (HB3.out.mono hsa))
      have HPI := Lib.hid (hpi.below HB13.out (Nat.le_refl _))
      have hgE : ¬ Ext F w1 wv g := fun e => by
        rcases e with e | e
        · exact hgF e
        · omega
      have hrE : ¬ Ext F w1 wv w.heap.size := fun e => by
        rcases e with e | e
        · exact hF1 e
        · omega
      have gx3 := blk_below HB3.out HGA.out hga
      have gr3 := blk_below HB3.out HRA.out hra
      have z5 : w3.cell? ⟨g, 7, none⟩ = some (.map (some pk)) := by rw [cell_of_row _ _ _ _ _ _ gx3]; rfl
      have z2 : w3.cell? ⟨w.heap.size, 0, none⟩ = some (.pointer (some ⟨g, 0, none⟩)) := by rw [cell_of_row _ _ _ _ _ _ gr3]; rfl
      have hcL : (cont esi sid.data.toList).length ≤ 1000000000 := by
        rw [hci]
        have h5 := addS_len (f := f) (t := t) (l.take i) (cont es) 100000000 (fun x hx => HLS.out x (List.mem_of_mem_take hx)) HCO.out sid.data.toList
        have h6 : (l.take i).length ≤ i := by rw [List.length_take]; omega
        have h7 : (l.take i).length * 2048 ≤ 2048 * 2048 := Nat.mul_le_mul (by omega) (Nat.le_refl _)
        omega
      have HPX := Lib.hid (put_x w3 B (Ext F w1 wv) pk esi HPI.out (by omega) g w.heap.size z5 (by omega) z2 (by omega) hgE hrE sid hid w3.heap.size C c3 A3 cu (HO3.out.ls) (Nat.le_refl _) (by omega) hcL (by have := HES.out; omega))
      have HLE := Lib.hid hle
      have HCI := Lib.hid hci
      clear hpi hle hci hcL z2 z5 gx3 gr3
      refine seg_write _ (by dsimp only [pick, ord.at_]) _ (by dsimp only [pick, ord.at_]) ?_
      repeat (go_big_quiet_step (fail))
      refine wpQuiet_nil ?_
      intro K2 h3
      go_wp2_with (fail)
      refine HPX.out.mono ?_
      rintro e w4 ⟨rfl, es4, hp4, hc4, hle4, hco4⟩
      have hs4 := hc4.size
      have HP4 := Lib.hid (hp4.more (F' := Ext F w1 w4) (fun k hk => by
        rcases hk with (hk | hk) | hk
        · exact .inl hk
        · exact .inr ⟨hk.1, by omega⟩
        · exact .inr ⟨by omega, hk.2⟩) (fun k hk => by
        rcases hk with hk | hk
        · exact hp4.hi k (.inl (.inl hk))
        · exact hk.2))
      have HC4 := Lib.hid (show Chg F w1 w4 from ((HCH.out.then_below HB13.out).trans hc4 (fun k hk e => by
        rcases e with e | e
        · exact e
        · omega)))
      have HL4 := Lib.hid hle4
      have HO4 := Lib.hid hco4
      clear hp4 hc4 hle4 hco4
      go_wp2_with (fail)
      refine seg_end _ (by dsimp only [pick, ord.at_]) ?_
      repeat (go_big_quiet_step (fail))
      refine wpQuiet_nil ?_
      refine NoPanic.normal ?_
      go_wp2_with (fail)
      go_roundg (n - (i + 1))
      case measure => omega
      case rel =>
        refine ⟨i + 1, by go_num, by omega, by omega, HC4.out, es4, HP4.out, by have := HL4.out; have := HLE.out; omega, fun r => ?_⟩
        rw [HO4.out, HCI.out, HAT.out]
        by_cases e : r = sid.data.toList
        · rw [if_pos e]; exact (if_pos e).symm
        · rw [if_neg e]; exact (if_neg e).symm
    · obtain rfl : i = n := by omega
      have i1 : ¬ (i : Int) < (i : Int) := by omega
      have HFIN := Lib.hid (show RetAdd w B F pk es f t l (.returned (.tuple #[])) wv by
        obtain ⟨esi, hpi, hle, hci⟩ := HPT.out
        have htk : l.take i = l := List.take_of_length_le (by rw [HN.out]; exact Nat.le_refl _)
        rw [htk] at hci
        refine ⟨rfl, esi, hpi.more (fun k hk => ?_) (fun k hk => ?_), ?_, by rw [HN.out]; exact hle, hci⟩
        · rcases hk with hk | hk
          · exact .inl hk
          · exact .inr ⟨by omega, hk.2⟩
        · rcases hk with hk | hk
          · exact hpi.hi k (.inl hk)
          · exact hk.2
        · exact ((Chg.of_below HB1.out).mono (S' := F) (fun _ _ e => e.elim)).trans HCH.out (fun _ _ e => e))
      go_wp2_with (fail)
      go_end0
      exact HFIN.out
end Go.Proofs.Ytheanpcbjjogfaa.bt
/-
  Boots: series that came in; law18's heavy.
-/
namespace Go.Proofs.Ytheanpcbjjogfaa.bt
open Go.ChangeShapes Go.WideShapes Go.ChangeAt Go.RowKit Go.Shelf Go.Maps Go.Deep plain words ord mem mg al mp

theorem reads_row {H : Type} {enc : TypeId × Value → H} {P : Program} {W : World} {t e : TypeId} {v : Value} (ht : P.underlying t = some (.slice e)) (h : Reads enc P W t v) : ∃ A L C d p, v = .slice A L C ∧ DataW.Trod enc P W 0 (fun _ => true) true t (.slice A L C) d p := by
  obtain ⟨n, y, h⟩ := h
  rcases open_slice ht h with ⟨hcs, _⟩ | ⟨a, l, c, _, _, _, _, hcs, _⟩
  all_goals
    injection hcs with hcs
    subst hcs
    exact ⟨_, _, _, y.1, y.2, rfl, n, h⟩
def FitP (_ : Pt) : Prop := True
theorem pts_in {H : Type} {enc : TypeId × Value → H} {W : World} {a : Option Addr} {len cap : Nat} {d : DataW H} {p : List MemPlace}
    (h0 : DataW.Trod enc Try.prog W 0 (fun _ => true) true 51 (.slice a len cap) d p) : IsLs PE FitP W a len cap :=
  ls_of PE FitP Try.underlying51 Try.underlying91 (by kernel_rfl) (by kernel_rfl) (by kernel_rfl) (fun vs hv => by
    obtain ⟨n0, e0, _⟩ := reads_int Try.underlying3 (hv 0 _ rfl)
    obtain ⟨n1, e1, _⟩ := reads_int Try.underlying89 (hv 1 _ rfl)
    obtain ⟨n2, e2, _⟩ := reads_int Try.underlying89 (hv 2 _ rfl)
    refine ⟨(n0, n1, n2), fun j hj => ?_, trivial⟩
    have h4 : j = 0 ∨ j = 1 ∨ j = 2 := by have : j < 3 := hj; omega
    rcases h4 with rfl | rfl | rfl
    · rw [e0]; rfl
    · rw [e1]; rfl
    · rw [e2]; rfl) h0
def FitSer (W : World) (s : SerV) : Prop := Ls PE W W.heap.size s.A s.l.length s.l ∧ s.id.size ≤ maxLen ∧ s.l.length ≤ maxLen
/-- a list of series that came in -/
def IsSers (W : World) (a : Option Addr) (len cap : Nat) : Prop := ∃ l, Sers W W.heap.size len a l ∧ len ≤ cap ∧ cap ≤ maxLen ∧ (a = none → cap = 0)
theorem sers_of {H : Type} {enc : TypeId × Value → H} {W : World} {a : Option Addr} {len cap : Nat} {d : DataW H} {p : List MemPlace}
    (h0 : DataW.Trod enc Try.prog W 0 (fun _ => true) true 28 (.slice a len cap) d p) : IsSers W a len cap := by
  obtain ⟨l, h1, h2, h3, h4, h5⟩ := ls_of SE (FitSer W) Try.underlying28 Try.underlying53 (by kernel_rfl) (by kernel_rfl) (by kernel_rfl) (fun vs hv => by
    obtain ⟨s, e0, hs⟩ := reads_string Try.underlying9 (hv 0 _ rfl)
    obtain ⟨A, L, C, d', p', e1, ht⟩ := reads_row Try.underlying51 (hv 1 _ rfl)
    obtain ⟨lp, hp, _, hpc, hpm, _⟩ := pts_in ht
    refine ⟨⟨s, A, C, lp⟩, fun j hj => ?_, ?_, hs, by show lp.length ≤ _; rw [hp.1]; exact Nat.le_trans hpc hpm⟩
    · have h4 : j = 0 ∨ j = 1 := by have : j < 2 := hj; omega
      rcases h4 with rfl | rfl
      · rw [e0]; rfl
      · rw [e1, ← hp.1]; rfl
    · show Ls PE W W.heap.size A lp.length lp
      rw [hp.1]; exact hp) h0
  exact ⟨l, ⟨h1, fun s hs => (h2 s hs).1, fun s hs => (h2 s hs).2.1, fun s hs => (h2 s hs).2.2⟩, h3, h4, h5⟩
/-- a step as a value -/
structure StV where
  kind : Int
  peer : Int
  i : Int
  f : Int
  t : Int
  A : Option Addr
  c : Nat
  l : List SerV
def stE (s : StV) : List Value := [.int .i64 s.kind, .int .i64 s.peer, .int .i64 s.i, .int .i64 s.f, .int .i64 s.t, .slice s.A s.l.length s.c]
def BTE : El StV := ⟨stE, 6, 30, fun _ => rfl, fun s v hv => by simp [stE] at hv; rcases hv with rfl | rfl | rfl | rfl | rfl | rfl <;> rfl, by decide⟩
structure Stps (w : World) (B n : Nat) (A : Option Addr) (l : List StV) : Prop where
  row : Ls BTE w B A n l
  sers : ∀ s ∈ l, Sers w B s.l.length s.A s.l
theorem Stps.below {w w' : World} {B n C : Nat} {A : Option Addr} {l : List StV} (h : Stps w B n A l) (hb : Below C w w') (hB : B ≤ C) : Stps w' B n A l :=
  ⟨h.row.below hb hB, fun s hs => (h.sers s hs).below hb hB⟩
theorem st_at {w : World} {B n i : Nat} {A : Option Addr} {l : List StV} (h : Ls BTE w B A n l) {s : StV} (hx : l[i]? = some s) :
    ∃ b off, A = some ⟨b, off, none⟩ ∧ b < B ∧ w.cell? ⟨b, off + i * 6, none⟩ = some (.int .i64 s.kind) ∧ w.cell? ⟨b, off + i * 6 + 1, none⟩ = some (.int .i64 s.peer) ∧ w.cell? ⟨b, off + i * 6 + 2, none⟩ = some (.int .i64 s.i) ∧ w.cell? ⟨b, off + i * 6 + 3, none⟩ = some (.int .i64 s.f) ∧ w.cell? ⟨b, off + i * 6 + 4, none⟩ = some (.int .i64 s.t) ∧ w.cell? ⟨b, off + i * 6 + 5, none⟩ = some (.slice s.A s.l.length s.c) := by
  obtain ⟨b, off, e, hb, hc⟩ := h.at_ hx
  exact ⟨b, off, e, hb, hc 0 (by decide), hc 1 (by decide), hc 2 (by decide), hc 3 (by decide), hc 4 (by decide), hc 5 (by decide)⟩
/-! ### the law's heavy -/
def m20 (n : Nat) : Nat := min n 1048576
def hsN : Nat → List SerV → Nat
  | n, [] => n
  | n, s :: l => if n ≤ 2048 then hsN (n + (m20 s.id.size + m20 s.l.length)) l else n
def hoN : Nat → List StV → Nat
  | n, [] => n
  | n, s :: l => if n ≤ 2048 then hoN (hsN (n + m20 s.l.length) s.l) l else n
theorem hsN_ge : ∀ (l : List SerV) (n : Nat), n ≤ hsN n l
  | [], n => Nat.le_refl n
  | s :: l, n => by
    unfold hsN
    split
    · have := hsN_ge l (n + (m20 s.id.size + m20 s.l.length)); omega
    · exact Nat.le_refl n
theorem hoN_ge : ∀ (l : List StV) (n : Nat), n ≤ hoN n l
  | [], n => Nat.le_refl n
  | s :: l, n => by
    unfold hoN
    split
    · have h1 := hsN_ge s.l (n + m20 s.l.length)
      have h2 := hoN_ge l (hsN (n + m20 s.l.length) s.l); omega
    · exact Nat.le_refl n
theorem hsN_few : ∀ (l : List SerV) (n : Nat), hsN n l ≤ 2048 → ∀ s ∈ l, s.l.length ≤ 2048 ∧ s.id.size ≤ 2048
  | [], n, _, s, hs => by simp at hs
  | x :: l, n, h, s, hs => by
    have h0 : n ≤ 2048 := Nat.le_trans (hsN_ge _ _) h
    unfold hsN at h
    rw [if_pos h0] at h
    rcases List.mem_cons.1 hs with rfl | hs
    · have := hsN_ge l (n + (m20 s.id.size + m20 s.l.length))
      unfold m20 at this h
      omega
    · exact hsN_few l _ h s hs
theorem hoN_few : ∀ (l : List StV) (n : Nat), hoN n l ≤ 2048 → ∀ s ∈ l, s.l.length ≤ 2048 ∧ ∀ x ∈ s.l, x.l.length ≤ 2048 ∧ x.id.size ≤ 2048
  | [], n, _, s, hs => by simp at hs
  | x :: l, n, h, s, hs => by
    have h0 : n ≤ 2048 := Nat.le_trans (hoN_ge _ _) h
    unfold hoN at h
    rw [if_pos h0] at h
    rcases List.mem_cons.1 hs with rfl | hs
    · have h1 := hoN_ge l (hsN (n + m20 s.l.length) s.l)
      have h2 := hsN_ge s.l (n + m20 s.l.length)
      refine ⟨by unfold m20 at h1 h2 h; omega, hsN_few s.l (n + m20 s.l.length) (by omega)⟩
    · exact hoN_few l _ h s hs
theorem m20_le (n : Nat) : m20 n ≤ 1048576 := Nat.min_le_right _ _
theorem m20_int (n : Nat) : min (n : Int) 1048576 = ((m20 n : Nat) : Int) := by unfold m20; omega
set_option maxRecDepth 100000 in
set_option maxHeartbeats 2000000 in
theorem bheavy_x (w : World) (B n c : Nat) (A : Option Addr) (sts : List StV) (h : Stps w B n A sts) (hB : B ≤ w.heap.size) (hn : n ≤ 9223372036854775807) (hbs : ∀ s ∈ sts, s.l.length ≤ 9223372036854775807 ∧ ∀ x ∈ s.l, x.l.length ≤ 9223372036854775807 ∧ x.id.size ≤ 9223372036854775807) :
    Calls Try.prog 5 #[.slice A n c] w fun e w' => e = .returned (.bool (decide (2048 < hoN n sts))) ∧ Below w.heap.size w w' := by
  obtain ⟨hv, hhv⟩ : ∃ hv, decide (2048 < hoN n sts) = hv := ⟨_, rfl⟩
  rw [hhv]
  have HV := Lib.hid hhv
  have HS := Lib.hid h
  have HL := Lib.hid h.row.1
  have HBS := Lib.hid hbs
  clear h hhv hbs
  go_enter Try.func5, Try.ntmps5
  go_wp2_with (fail)
  go_loopg [3, 4, 5] n (fun gg s3 s4 s5 wr => ∃ (i S : Nat), s4 = .int .i64 i ∧ s3 = .int .i64 S ∧ i ≤ n ∧ n - i ≤ gg ∧ S ≤ 9223372036854775807 ∧ Aside (decide (2048 < hoN S (sts.drop i)) = hv) ∧ Aside (Below w.heap.size w wr))
  case atStart => exact ⟨0, n, rfl, rfl, by omega, by omega, hn, HV.out, Below.refl _ _⟩
  case round =>
    obtain ⟨i, S, rfl, rfl, hi, hg, hS, HD, HW⟩ := hrel
    obtain ⟨wv, hwv⟩ : ∃ wv, wv = wr := ⟨wr, rfl⟩
    obtain rfl := hwv
    have hsv := HW.out.size
    by_cases hlt : i < n
    · have i1 : (i : Int) < (n : Int) := by omega
      have i0 : (0 : Int) ≤ (i : Int) := by omega
      by_cases h2 : S ≤ 2048
      · have s1 : (S : Int) ≤ 2048 := by omega
        obtain ⟨s, hx⟩ := HS.out.row.get hlt
        have hmem := List.mem_of_getElem? hx
        obtain ⟨b, off, hA, hb, _, _, _, _, _, x5⟩ := st_at (HS.out.below HW.out hB).row hx
        subst hA
        have HSR := Lib.hid ((HS.out.below HW.out hB).sers s hmem)
        have HBX := Lib.hid (HBS.out s hmem)
        have hbw : b < wv.heap.size := by omega
        obtain ⟨sk, sp, si, sf, st', sA, sc, sl⟩ := s
        obtain ⟨m, hm⟩ : ∃ m, sl.length = m := ⟨_, rfl⟩
        have HDR := Lib.hid (show hoN S (sts.drop i) = hoN (hsN (S + m20 m) sl) (sts.drop (i + 1)) by
          obtain ⟨h3, e⟩ := List.getElem?_eq_some_iff.1 hx
          rw [List.drop_eq_getElem_cons h3, e]
          show (if S ≤ 2048 then _ else _) = _
          rw [if_pos h2, ← hm])
        have hmb : m ≤ 9223372036854775807 := by have := HBX.out.1; rw [← hm]; exact this
        have HM := Lib.hid hm
        simp only [hm] at x5
        have e20 := m20_int m
        have l20 := m20_le m
        obtain ⟨q, hq⟩ : ∃ q, m20 m = q := ⟨_, rfl⟩
        rw [hq] at e20 l20 HDR
        have w1 : IntKind.i64.wrap ((S : Int) + (q : Int)) = ((S + q : Nat) : Int) := by rw [IntWalk.i64_in _ (by omega)]; omega
        have HX := Lib.hid hx
        clear hx hmem hm hq
        go_wp2_with (fail)
        all_goals
          go_loopg [3, 5] m (fun gg s3 s5 wx => ∃ (k S' : Nat), s5 = .int .i64 k ∧ s3 = .int .i64 S' ∧ k ≤ m ∧ m - k ≤ gg ∧ S' ≤ 9223372036854775807 ∧ Aside (hsN S' (sl.drop k) = hsN (S + q) sl) ∧ Aside (Below w.heap.size w wx))
          case atStart => exact ⟨0, S + q, rfl, by congr 1; omega, by omega, by omega, by omega, rfl, HW.out⟩
          case round =>
            obtain ⟨k, S', rfl, rfl, hk, hgk, hS', HD', HWx⟩ := hrel
            obtain ⟨wy, hwy⟩ : ∃ wy, wy = wr := ⟨wr, rfl⟩
            obtain rfl := hwy
            have hsy := HWx.out.size
            obtain ⟨b', off', eA, _, _, _, _, _, _, y5⟩ := st_at (HS.out.below HWx.out hB).row HX.out
            cases eA
            simp only [HM.out] at y5
            have hby : b < wy.heap.size := by omega
            by_cases hkm : k < m
            · have k1 : (k : Int) < (m : Int) := by omega
              have k0 : (0 : Int) ≤ (k : Int) := by omega
              by_cases h3 : S' ≤ 2048
              · have t1 : (S' : Int) ≤ 2048 := by omega
                obtain ⟨x, hxk⟩ : ∃ x, sl[k]? = some x := ⟨_, List.getElem?_eq_getElem (by rw [HM.out]; exact hkm)⟩
                have HSX := Lib.hid (((HS.out.below HWx.out hB).sers _ (List.mem_of_getElem? HX.out)).row)
                obtain ⟨b2, off2, hA2, hb2, z0, z1⟩ := ser_at HSX.out hxk
                simp only at hA2
                subst hA2
                have hb2w : b2 < wy.heap.size := by omega
                have hxb := HBX.out.2 x (List.mem_of_getElem? hxk)
                obtain ⟨N1, hN1⟩ : ∃ N1, x.id.size = N1 := ⟨_, rfl⟩
                obtain ⟨N2, hN2⟩ : ∃ N2, x.l.length = N2 := ⟨_, rfl⟩
                have HDK := Lib.hid (show hsN S' (sl.drop k) = hsN (S' + (m20 N1 + m20 N2)) (sl.drop (k + 1)) by
                  obtain ⟨h5, e⟩ := List.getElem?_eq_some_iff.1 hxk
                  rw [List.drop_eq_getElem_cons h5, e]
                  show (if S' ≤ 2048 then _ else _) = _
                  rw [if_pos h3, ← hN1, ← hN2])
                obtain ⟨xid, xA, xc, xl⟩ := x
                simp only at z0 z1 hN1 hN2 hxb
                rw [hN2] at z1
                have e1 := m20_int N1
                have e2 := m20_int N2
                have l1 := m20_le N1
                have l2 := m20_le N2
                obtain ⟨r1, hr1⟩ : ∃ r1, m20 N1 = r1 := ⟨_, rfl⟩
                obtain ⟨r2, hr2⟩ : ∃ r2, m20 N2 = r2 := ⟨_, rfl⟩
                rw [hr1] at e1 l1 HDK
                rw [hr2] at e2 l2 HDK
                have p5 := Wb.at_ y5
                have p0 := Wb.at_ z0
                have p1 := Wb.at_ z1
                have wr1 : IntKind.i64.wrap ((r1 : Int) + (r2 : Int)) = ((r1 + r2 : Nat) : Int) := by rw [IntWalk.i64_in _ (by omega)]; omega
                have wr2 : IntKind.i64.wrap ((S' : Int) + ((r1 + r2 : Nat) : Int)) = ((S' + (r1 + r2) : Nat) : Int) := by rw [IntWalk.i64_in _ (by omega)]; omega
                clear hxk hr1 hr2 hxb z0 z1
                go_wp2_with (fail)
                refine wp_region_plan [([0, 1, 2, 3, 4, 5, 6, 7, 8, 9, 10, 11, 12, 13, 14, 15, 16, 17, 18, 19, 20, 21, 22, 23, 24, 25], none)] (by kernel_rfl) (by kernel_rfl) ?_
                refine seg_end _ (by dsimp only [pick, ord.at_]) ?_
                repeat (go_big_quiet_step (fail))
                refine wpQuiet_nil ?_
                refine NoPanic.normal ?_
                clear p0 p1 p5 y5
                go_wp2_with (fail)
                all_goals
                  go_roundg (m - (k + 1))
                  case measure => omega
                  case rel =>
                  exact ⟨k + 1, S' + (r1 + r2), by go_num, by congr 1; omega, by omega, by omega, by omega, (show hsN (S' + (r1 + r2)) (sl.drop (k + 1)) = hsN (S + q) sl by rw [← HDK.out]; exact HD'.out), HWx.out.drew⟩
              · have t1 : ¬ (S' : Int) ≤ 2048 := by omega
                have HE := Lib.hid (show hsN (S + q) sl = S' by
                  rw [← show hsN S' (sl.drop k) = hsN (S + q) sl from HD'.out]
                  cases sl.drop k with
                  | nil => rfl
                  | cons x l => unfold hsN; rw [if_neg h3])
                go_wp2_with (fail)
                go_roundg (n - (i + 1))
                case measure => omega
                case rel =>
                  exact ⟨i + 1, S', by go_num, rfl, by omega, by omega, by omega, (show decide (2048 < hoN S' (sts.drop (i + 1))) = hv by rw [← HE.out, ← HDR.out]; exact HD.out), HWx.out⟩
            · have k1 : ¬ (k : Int) < (m : Int) := by omega
              have HE := Lib.hid (show hsN (S + q) sl = S' by
                rw [← show hsN S' (sl.drop k) = hsN (S + q) sl from HD'.out, List.drop_eq_nil_of_le (by rw [HM.out]; omega)]
                rfl)
              go_wp2_with (fail)
              go_roundg (n - (i + 1))
              case measure => omega
              case rel =>
                exact ⟨i + 1, S', by go_num, rfl, by omega, by omega, by omega, (show decide (2048 < hoN S' (sts.drop (i + 1))) = hv by rw [← HE.out, ← HDR.out]; exact HD.out), HWx.out⟩
      · have s1 : ¬ (S : Int) ≤ 2048 := by omega
        have HE := Lib.hid (show decide (2048 < S) = hv by
          have h1 := HD.out
          have h5 : hoN S (sts.drop i) = S := by
            cases sts.drop i with
            | nil => rfl
            | cons x l => unfold hoN; rw [if_neg h2]
          rw [h5] at h1
          exact h1)
        go_wp2_with (fail)
        go_ret
        exact ⟨ret_bool (by rw [← HE.out]; first | exact decide_eq_decide.2 (by omega) | exact (decide_eq_true (by omega)).symm | exact (decide_eq_false (by omega)).symm), HW.out⟩
    · obtain rfl : i = n := by omega
      have i1 : ¬ (i : Int) < (i : Int) := by omega
      have HE := Lib.hid (show decide (2048 < S) = hv by
        have h1 := HD.out
        rw [List.drop_eq_nil_of_le (by rw [HL.out]; exact Nat.le_refl _)] at h1
        exact h1)
      go_wp2_with (fail)
      go_ret
      exact ⟨ret_bool (by rw [← HE.out]; first | exact decide_eq_decide.2 (by omega) | exact (decide_eq_true (by omega)).symm | exact (decide_eq_false (by omega)).symm), HW.out⟩
end Go.Proofs.Ytheanpcbjjogfaa.bt
