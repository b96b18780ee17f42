/-
  The files' names, in their order; a copy of all files.
-/
import Derived.Test.YtmnliieiiaedeaaDkFi3
import Derived.Maps.RangeWalk
import Derived.Maps.Ext
namespace Go.Proofs.Ytmnliieiiaedeaa.dk
open Go.ChangeShapes Go.WideShapes Go.ChangeAt Go.RowKit Go.Maps Go.Sort Go.Shelf plain words ord mem al
open Go.WideMaps (keyOf_string_mk)

theorem sortsM (m : Nat) : AnyZ.SortsIn Try.prog sortedM_ren Fence.wide m :=
  ⟨fun blk off cap ss W hH hblk hsz => callsIn_wide.2 (AnyM.slices_Sort_string sortM blk off cap ss W hH hblk hsz),
   fun p cap W => callsIn_wide.2 (AnyM.slices_Sort_string_none sortM p cap W)⟩
theorem keys_c (mb : Option Nat) (W : World) : CallsIn Fence.wide 5 Try.prog 71 #[.map mb] W fun e w' => e = .returned (.func (.func 86) #[] #[.pointer (some ⟨W.heap.size, 0, none⟩)]) ∧ w' = W.alloc (.cells #[.map mb] 76) :=
  AnyZ.keys_in keysM Fence.wide 5 trivial rfl mb W
set_option maxHeartbeats 1000000 in
theorem sorted_c (b nn : Nat) (D0 : DU) (w : World) (hown : w.ownsMap Try.prog 9 pe b nn D0) (hmax : Maps.size D0 ≤ maxLen) (hbytes : Maps.size D0 * 16 ≤ 140737488355328) :
    CallsIn Fence.wide 5 Try.prog 70 #[.func (.func 86) #[] #[.pointer (some ⟨w.heap.size, 0, none⟩)]] (w.alloc (.cells #[.map (some b)] 76)) fun e w' => ∃ (v : Value) (ss : List (List UInt8)), e = .returned v ∧ ss.Perm (strKeys D0) ∧
      w'.ownsRow (w.alloc (.cells #[.map (some b)] 76)).heap.size 9 1 v ss.length ((ss.mergeSort (fun x y => decide (x ≤ y))).map encStr) ∧ (v = .slice none 0 0 ↔ ss = []) ∧ Below (w.alloc (.cells #[.map (some b)] 76)).heap.size (w.alloc (.cells #[.map (some b)] 76)) w' := by
  have hbl := hown.lt
  have hseq : SeqGives Fence.wide 2 Try.prog 86 #[.pointer (some ⟨w.heap.size, 0, none⟩)] encStr (fun ss => ss.Perm (strKeys D0)) (Maps.size D0) (w.alloc (.cells #[.map (some b)] 76)) :=
    AnyZ.keys_gives (ρ := keysM_ren) { keysM with } Fence.wide _ trivial rfl (by omega) w.heap.size b nn D0 _ (by simp) (by simp) (by
      obtain ⟨es, clock, hb, Ft, hs, hD⟩ := hown
      exact ⟨es, clock, (Below.heap_alloc _ _ b hbl).trans hb, Ft, hs, hD⟩)
  exact AnyZ.sorted_in sortedM Fence.wide 5 trivial trivial trivial trivial rfl (by omega) (sortsM _) (enters_of Try.func85 (by kernel_rfl) rfl) 86 #[.pointer (some ⟨w.heap.size, 0, none⟩)] trivial (enters_of Try.func86 (by kernel_rfl) rfl) _ _ hmax hbytes _ hseq
theorem sort_names {fs : AL Nm} (hs : Srt fs) {ss : List Nm} (h : ss.Perm (fs.map (·.1))) : ss.mergeSort (fun x y => decide (x ≤ y)) = fs.map (·.1) := by
  have tr : ∀ a b c : List UInt8, decide (a ≤ b) = true → decide (b ≤ c) = true → decide (a ≤ c) = true := fun a b c h1 h2 => by simp only [decide_eq_true_eq] at *; exact List.le_trans h1 h2
  have tot : ∀ a b : List UInt8, (decide (a ≤ b) || decide (b ≤ a)) = true := fun a b => by simp only [Bool.or_eq_true, decide_eq_true_eq]; exact List.le_total a b
  refine List.Perm.eq_of_pairwise (le := fun a b => decide (a ≤ b) = true) (fun a b _ _ h1 h2 => ?_) (List.pairwise_mergeSort tr tot ss) ?_ ((List.mergeSort_perm ss _).trans h)
  · simp only [decide_eq_true_eq] at h1 h2
    exact List.le_antisymm h1 h2
  · exact (srt_names hs).imp fun h1 => by simpa using List.le_of_lt h1
def RetNames (w : World) (fs : AL Nm) (e : Ending) (w' : World) : Prop :=
  ∃ v, e = .returned v ∧ w'.ownsRow w.heap.size 9 1 v fs.length ((fs.map (·.1)).map encStr) ∧ Below w.heap.size w w'
set_option maxHeartbeats 1000000 in
theorem names_f (w : World) (f : Nat) (F : Nat → Prop) (fs : AL Nm) (h : Fil w f F fs) (hfew : fs.length < 1099511627776) :
    Calls Try.prog 50 #[.pointer (some ⟨f, 0, none⟩)] w (RetNames w fs) := by
  have hsr := h.srt
  obtain ⟨mb, D, es, h1, hfs, _, _⟩ := h
  have c0 : w.cell? ⟨f, 0, none⟩ = some (.map (some mb)) := by rw [cell_of_row _ _ _ _ _ _ h1.blk]; rfl
  have hown := h1.map
  have hnm := h1.rep.names h1.srt hown
  have hfl : f < w.heap.size := blk_lt h1.blk
  have hlen : es.length = fs.length := by rw [hfs]; simp [mapv]
  have hsz := hown.size_le
  have hmax : Maps.size D ≤ maxLen := by unfold maxLen; omega
  have hbytes : Maps.size D * 16 ≤ 140737488355328 := by omega
  have e1 : fs.map (·.1) = es.map (·.1) := by rw [hfs]; simp [mapv, Function.comp_def]
  have NM := Lib.hid hnm
  have SR := Lib.hid hsr
  have E1 := Lib.hid e1
  clear h1 hnm hsr e1 hfs
  refine (callsIn_wide (n := 6)).1 ?_
  have hfK : Fence.wide.fn 71 := trivial
  have hfS : Fence.wide.fn 70 := trivial
  refine callsIn_of_wp Try.func50 rfl trivial ?_ rfl
  simp only [Try.ntmps50, List.size_toArray, List.length_cons, List.length_nil, Nat.reduceAdd, Nat.reduceSub, Array.replicate_succ, Array.replicate_zero, List.push_toArray, List.append_toArray, List.nil_append, List.cons_append]
  gi_wp2_with (first
    | (gi_at_call 71; refine (keys_c _ _).mono ?_; rintro e w' ⟨rfl, rfl⟩)
    | (gi_at_call 70; refine (sorted_c mb _ D w hown hmax hbytes).mono ?_; rintro e w' ⟨v, ss, rfl, hS, hrow, hnil, hb⟩))
  go_ret
  have hp : ss.Perm (fs.map (·.1)) := by rw [E1.out]; exact hS.trans NM.out.symm
  rw [sort_names SR.out hp, hp.length_eq, List.length_map] at hrow
  exact ⟨v, rfl, ownsRow_base_a hrow (by simp), ((Below.refl _ w).alloc (Nat.le_refl _) _).trans (hb.mono (by simp))⟩
theorem ranges_chg {w w' : World} {b r n cnt : Nat} {D : DU} {left : Lit → Bool} {S : Nat → Prop} (h : w.ranges Try.prog 9 pe b r n D left cnt) (hc : Chg S w w') (hb : ¬ S b) (hr : ¬ S r) : w'.ranges Try.prog 9 pe b r n D left cnt := by
  obtain ⟨es, clock, since, seen, c0, h1, h2, h3, h4, h5, h6⟩ := h
  exact ⟨es, clock, since, seen, c0, hc.blk h1 hb, h2, h3, h4, hc.blk h5 hr, h6⟩
/-- those whose turn is over -/
def flt (fs : AL Nm) (left : Lit → Bool) : AL Nm := fs.filter fun p => !left (.string p.1)
theorem get_flt (fs : AL Nm) (left : Lit → Bool) (q : Nm) : al.get (flt fs left) q = if left (.string q) then none else al.get fs q := by
  induction fs with
  | nil => simp [flt, al.get]
  | cons p r ih =>
    obtain ⟨k, x⟩ := p
    simp only [flt, List.filter_cons] at ih ⊢
    by_cases hk : k = q
    · subst hk
      cases hl : left (.string k) with
      | false => simp [al.get]
      | true =>
        rw [hl] at ih
        simpa using ih
    · cases hl : left (.string k) with
      | false => simp [al.get, hk, ih]
      | true => simp [al.get, hk, ih]
theorem flt_sum (fs : AL Nm) (left : Lit → Bool) : fsum (flt fs left) ≤ fsum fs := by
  unfold fsum
  induction fs with
  | nil => exact Nat.le_refl _
  | cons p r ih =>
    obtain ⟨k, x⟩ := p
    simp only [flt, List.filter_cons] at ih ⊢
    split
    · simp only [sum]; omega
    · simp only [sum]; omega
theorem flt_srt {fs : AL Nm} (hs : Srt fs) (left : Lit → Bool) : Srt (flt fs left) := List.Pairwise.filter _ hs
theorem flt_step {fs : AL Nm} (hs : Srt fs) {left : Lit → Bool} {q t : Nm} (hl : left (.string q) = true) (hq : al.get fs q = some t) : al.put (flt fs left) q t = flt fs (fun z => left z && !z.sameKey (.string q)) := by
  refine srt_ext (srt_put (flt_srt hs _) _ _) (flt_srt hs _) fun r => ?_
  rw [get_flt]
  by_cases e : r = q
  · subst e; rw [get_put_same]; simp [Lit.sameKey, hq]
  · rw [get_put_other _ e, get_flt]
    have : (Lit.string r).sameKey (.string q) = false := by simpa [Lit.sameKey] using e
    simp [this]
theorem Fi.froze {w w' : World} {f mb : Nat} {D : DU} {es : AL Tx} {q : Nm} {x : Tx} (h : Fi w f mb D es) (hm : (q, x) ∈ es) (ht : IsTx w' x) (hc : Chg (fun k => x.v.ownBlock = some k) w w') : Fi w' f mb D es := by
  have hn := h.neF hm
  refine ⟨hc.blk h.blk (fun e => hn.1 (.inr e)), own_map_chg h.map hc (fun e => hn.2 (.inr e)), h.rep, h.srt, fun p hp => ?_, h.apart⟩
  by_cases e : p.1 = q
  · have h1 := get_mem h.srt (q := p.1) (x := p.2) (by simpa using hp)
    have h2 := get_mem h.srt hm
    rw [e, h2] at h1
    injection h1 with h1
    rw [← h1]; exact ht
  · exact (h.tx p hp).chg hc fun k hk e' => h.apart p hp _ hm e k hk (.inr e')
structure Cl (w : World) (f mb : Nat) (D : DU) (es : AL Tx) (F : Nat → Prop) (c r : Nat) (wr : World) (left : Lit → Bool) (cnt : Nat) (Fc : Nat → Prop) : Prop where
  src : Fi wr f mb D es
  rng : wr.ranges Try.prog 9 pe mb r es.length D left cnt
  dst : Fil wr c Fc (flt (mapv Tx.s es) left)
  low : ∀ k, Fc k → w.heap.size ≤ k ∧ k ≠ r
  chg : Chg F w wr
def RetClone (w : World) (f : Nat) (F : Nat → Prop) (fs : AL Nm) (e : Ending) (w' : World) : Prop :=
  ∃ c, e = .returned (.pointer (some ⟨c, 0, none⟩)) ∧ w.heap.size ≤ c ∧ Fil w' c (fun k => w.heap.size ≤ k ∧ k < w'.heap.size) fs ∧ Fil w' f F fs ∧ Chg F w w'
set_option maxRecDepth 100000 in
set_option maxHeartbeats 2000000 in
theorem clone_f (w : World) (f : Nat) (F : Nat → Prop) (fs : AL Nm) (h : Fil w f F fs) (hbig : fsum fs ≤ 1099511627776) (hfew : fs.length < 1099511627776) :
    Calls Try.prog 49 #[.pointer (some ⟨f, 0, none⟩)] w (RetClone w f F fs) := by
  obtain ⟨mb, D, es, h1, hfs, h3, h4⟩ := h
  have H1 := Lib.hid h1
  have HFS := Lib.hid hfs
  have H3 := Lib.hid h3
  have H4 := Lib.hid h4
  have HN := Lib.hid (new_f w)
  clear h1 hfs h3 h4
  go_enter Try.func49, Try.ntmps49
  go_wp2_with fail
  refine HN.out.mono ?_
  rintro e w1 ⟨c, rfl, hc, hcf, hb1⟩
  have hf1 : Fi w1 f mb D es := H1.out.chg (Chg.of_below hb1) (fun _ _ e => e)
  have c0 : w1.cell? ⟨f, 0, none⟩ = some (.map (some mb)) := by rw [cell_of_row _ _ _ _ _ _ hf1.blk]; rfl
  have hfl : f < w1.heap.size := blk_lt hf1.blk
  have hown1 := hf1.map
  have hs1 : w.heap.size ≤ w1.heap.size := hb1.size
  have F1 := Lib.hid hf1
  have CF := Lib.hid hcf
  have B1 := Lib.hid hb1
  clear hf1 hcf hb1 HN
  go_wp2_with (at_range; refine wpList_range_own _ rfl _ 76 rfl 9 101 law Try.underlying76 pe mb es.length D rfl hown1 ?_; intro w2 hrg0 hg0 hs0)
  go_frame
  have hm := hrg0.owns.size_le
  have C0 := Lib.hid (show Cl w f mb D es F c w1.heap.size w2 (Maps.has D) (Maps.size D) (fun k => w.heap.size ≤ k ∧ k < w1.heap.size) from by
    have hc12 : Chg (fun _ => False) w1 w2 := (Chg.refl _ _).grown hg0 (fun k e _ => by cases e)
    refine ⟨F1.out.chg hc12 (fun _ _ e => e), hrg0, ?_, fun k hk => ⟨hk.1, by omega⟩, ((Chg.of_below B1.out).trans hc12 (fun _ _ e => e)).mono (fun _ _ e => e.elim)⟩
    have : flt (mapv Tx.s es) (Maps.has D) = [] := by
      refine srt_ext (flt_srt (mapv_srt.2 F1.out.srt) _) .nil fun q => ?_
      rw [get_flt, F1.out.rep.has, mapv_get]
      cases al.get es q <;> simp [al.get]
    rw [this]
    exact CF.out.chg hc12 (fun _ _ e => e))
  clear hrg0 hg0 hs0 hown1
  go_loopg [4, 5] (Maps.size D) (fun gg s4 s5 wr => ∃ (left : Lit → Bool) (cnt : Nat) (Fc : Nat → Prop), cnt ≤ gg ∧ Aside (Cl w f mb D es F c w1.heap.size wr left cnt Fc))
  case atStart => exact ⟨_, _, _, Nat.le_refl _, C0.out⟩
  case round =>
    clear C0
    obtain ⟨left, cnt, Fc, hcg, C⟩ := hrel
    obtain ⟨wv, rfl⟩ : ∃ wv, wv = wr := ⟨wr, rfl⟩
    have hrg := C.out.rng
    go_wp2_with (at_next; refine wpList_next_ranges _ rfl _ rfl 9 law pe encStr Value.pointer (fun key kl hkey => by obtain ⟨x, rfl, _⟩ := Maps.keyOf_str Try.underlying9 hkey; exact ⟨x, rfl⟩) (fun v y hv => by
      unfold pe at hv
      split at hv
      · exact ⟨_, rfl⟩
      · exact ⟨_, rfl⟩
      · cases hv) mb w1.heap.size es.length D left cnt rfl hrg ?_ ?_)
    · intro hc0 hl0
      have C2 := Lib.hid C.out
      clear hrg C
      go_wp2_with fail
      go_ret
      have hall : flt (mapv Tx.s es) left = fs := by
        rw [HFS.out]
        refine srt_ext (flt_srt (mapv_srt.2 H1.out.srt) _) (mapv_srt.2 H1.out.srt) fun q => ?_
        rw [get_flt, hl0]; simp
      have hd := C2.out.dst
      rw [hall] at hd
      have hdl := C2.out.low
      refine ⟨c, rfl, hc, hd.mono (fun k hk => ⟨(hdl k hk).1, ?_⟩) (fun k hk => hk.2), ⟨mb, D, es, C2.out.src, HFS.out, H3.out, fun k hk => Nat.lt_of_lt_of_le (H4.out k hk) C2.out.chg.size⟩, C2.out.chg⟩
      obtain ⟨_, _, _, _, _, _, h9⟩ := hd
      exact h9 k hk
    · intro q co kl y ps w3 cnt3 hkq hlk hpe hat hrg3 hlt hg3 hs3 hen
      obtain ⟨q', hqe, rfl, hql⟩ := Maps.keyOf_str Try.underlying9 hkq
      obtain rfl := encStr_inj hqe
      have hhas := has_true_of_atKey hat
      rw [C.out.src.rep.has] at hhas
      obtain ⟨x, hx⟩ := Option.isSome_iff_exists.1 hhas
      have hy1 : y = dg x.g := (hat .nil).symm.trans (C.out.src.rep.at_ q x hx .nil)
      have hco : co = some ⟨x.g, 0, none⟩ := by
        subst hy1
        have := pe_inv hpe
        injection this
      subst hco
      have hr3 : ∀ k, Foot f mb es k → ¬ k = w1.heap.size := fun k hk e => by
        have := H1.out.lt hk
        omega
      have hc03 : Chg (fun k => k = w1.heap.size) wv w3 := (Chg.refl _ _).grown hg3 (fun k e _ => by cases e; rfl)
      have hf3 := C.out.src.chg hc03 hr3
      have hd3 := C.out.dst.chg hc03 (fun k hk e => (C.out.low k hk).2 e)
      have HS := Lib.hid (string_t w3 x (hf3.tx _ (mem_get hx)))
      have hsv3 : wv.heap.size ≤ w3.heap.size := by omega
      have C2 := Lib.hid C.out
      have C03 := Lib.hid hc03
      have F3 := Lib.hid hf3
      have D3 := Lib.hid hd3
      have HX := Lib.hid hx
      have R3 := Lib.hid hrg3
      have HLK := Lib.hid hlk
      clear hrg C hkq hpe hat hrg3 hg3 hs3 hhas hy1 hc03 hf3 hd3 hx hlk hr3
      go_wp2_with fail
      refine HS.out.mono ?_
      rintro e w4 ⟨rfl, ht4, hc4⟩
      have hf4 := F3.out.froze (mem_get HX.out) ht4 hc4
      have hrow : ∀ k, x.v.ownBlock = some k → k < w.heap.size ∧ k ≠ mb := fun k hk => ⟨by have := H1.out.lt (.inr (.inr ⟨_, mem_get HX.out, .inr hk⟩)); omega, fun e => (H1.out.neF (mem_get HX.out)).2 (.inr (by rw [← e]; exact hk))⟩
      have hd4 := D3.out.chg hc4 (fun k hk e => by have := (C2.out.low k hk).1; have := (hrow k e).1; omega)
      have hr4 := ranges_chg R3.out hc4 (fun e => (hrow _ e).2 rfl) (fun e => by have := (hrow _ e).1; omega)
      have hq4 : (⟨q.toArray⟩ : ByteArray).data.toList = q := by simp
      have hx4 : (⟨x.s.toArray⟩ : ByteArray).data.toList = x.s := by simp
      have hxs : (⟨x.s.toArray⟩ : ByteArray).size = x.s.length := by show x.s.toArray.size = _; simp
      have hqs : (⟨q.toArray⟩ : ByteArray).size = q.length := by show q.toArray.size = _; simp
      have hgf : al.get (flt (mapv Tx.s es) left) q = none := by rw [get_flt, HLK.out]; rfl
      have hgm : al.get (mapv Tx.s es) q = some x.s := by rw [mapv_get, HX.out]; rfl
      have hstep := flt_step (mapv_srt.2 H1.out.srt) HLK.out hgm
      have hfs2 : fsum (flt (mapv Tx.s es) left) + x.s.length ≤ 1099511627776 := by
        have h5 := sum_put_new (f := List.length) (x := x.s) hgf
        have h6 := flt_sum (mapv Tx.s es) (fun z => left z && !z.sameKey (.string q))
        rw [← hstep] at h6
        rw [HFS.out] at hbig
        unfold fsum at h6 hbig ⊢
        omega
      have hfl2 : (flt (mapv Tx.s es) left).length < 1099511627776 := Nat.lt_of_le_of_lt (List.length_filter_le _ _) (by rw [← HFS.out]; exact hfew)
      have HA := Lib.hid (add_f w4 c Fc (flt (mapv Tx.s es) left) ⟨q.toArray⟩ ⟨x.s.toArray⟩ hd4 (by rw [hqs]; exact hql) (by rw [hxs]; exact hfs2) hfl2)
      rw [hq4, hx4, hgf] at HA
      have HST := Lib.hid hstep
      have F4 := Lib.hid hf4
      have R4 := Lib.hid hr4
      have C4 := Lib.hid hc4
      have HRO := Lib.hid hrow
      have hs4 : w3.heap.size ≤ w4.heap.size := hc4.size
      clear ht4 hc4 hf4 hd4 hr4 hq4 hx4 hxs hqs hgf hgm hstep hfs2 hfl2 HS hrow
      go_wp2_with fail
      refine HA.out.mono ?_
      rintro e w5 ⟨rfl, hd5, hc5⟩
      have hlow := C2.out.low
      have hrl : w1.heap.size < wv.heap.size := C2.out.rng.lt
      have C5 := Lib.hid (show Cl w f mb D es F c w1.heap.size w5 (fun z => left z && !z.sameKey (.string q)) cnt3 (Ext Fc w4 w5) from by
        refine ⟨F4.out.chg hc5 (fun k hk e => by have := H1.out.lt hk; have := (hlow k e).1; omega), ranges_chg R4.out hc5 (fun e => by have := H1.out.lt (.inr (.inl rfl)); have := (hlow _ e).1; omega) (fun e => (hlow _ e).2 rfl), ?_, fun k hk => ?_, ?_⟩
        · have h5 := hd5
          simp only [Option.getD_none, List.nil_append] at h5
          rw [HST.out] at h5
          exact h5
        · rcases hk with e | e
          · exact hlow k e
          · omega
        · refine ((C2.out.chg.trans C03.out (fun k hk e => by omega)).trans C4.out (fun k hk e => ?_)).trans hc5 (fun k hk e => by have := (hlow k e).1; omega)
          exact H3.out k (.inr (.inr ⟨_, mem_get HX.out, .inr e⟩)))
      clear hd5 hc5 hlow HA
      go_wp2_with fail
      go_roundg cnt3
      case measure => omega
      case rel => exact ⟨_, cnt3, _, Nat.le_refl _, C5.out⟩
end Go.Proofs.Ytmnliieiiaedeaa.dk
