/-
  The log's files, one by one: the program's iterator, as a contract for whatever loop.
-/
import Derived.Test.YtmegkemileailaaGreatDoorLgRd
import Derived.Test.YtmegkemileailaaGreatDoorLgNm
import Derived.Test.YtmegkemileailaaGreatDoorLst
import Derived.Test.YtmegkemileailaaGreatDoorRound
import Derived.Sort.OwnSorted
import Derived.RangeFuncBox
namespace Go.Proofs.YtmegkemileailaaGreatDoor.lg
open Go.ChangeShapes Go.WideShapes Go.ChangeAt Go.RowKit Go.Shelf Go.Maps Go.Sort plain words ord mem al cl uvs dk
attribute [local go_sem] Oper.semAt_some

def IE : El Nat := ⟨fun n => [.int .i64 (n : Int)], 1, 3, fun _ => rfl, fun x v hv => by simp at hv; subst hv; rfl, by decide⟩
theorem infoI : (Tryz.prog.info? 3).map (fun i => (i.zero, i.size, i.bytes)) = some (some (.int .i64 0), 1, 8) := by kernel_rfl
theorem IE_cs (l : List Nat) : cs IE.enc l = (l.map Int.ofNat).map (Value.int .i64) := by
  induction l with
  | nil => rfl
  | cons x l ih => unfold cs at ih ⊢; rw [List.flatMap_cons, ih]; rfl
/-- a number that a file may have -/
abbrev Fn := { n : Nat // 1 ≤ n ∧ n < 1000000000 }
def fnv (x : Fn) : Array Value := #[.int .i64 (x.1 : Int), .string (tx (lname x.1))]
theorem nums_ok (fs : AL By) : ∀ n ∈ nums fs, 1 ≤ n ∧ n < 1000000000 := fun n hn => by
  obtain ⟨p, _, h⟩ := nums_mem.1 hn
  exact (numOf_some h).2
def ns (fs : AL By) : List Fn := (nums fs).pmap (fun n h => ⟨n, h⟩) (nums_ok fs)
theorem ns_val (fs : AL By) : (ns fs).map (·.1) = nums fs := by
  unfold ns
  rw [List.map_pmap]
  simp
theorem ns_len (fs : AL By) : (ns fs).length = (nums fs).length := by unfold ns; simp
theorem ns_at (fs : AL By) {i : Nat} {n : Nat} (h : (nums fs)[i]? = some n) : ∃ x : Fn, x.1 = n ∧ (ns fs)[i]? = some x := by
  have h2 : ((ns fs).map (·.1))[i]? = some n := by rw [ns_val]; exact h
  rw [List.getElem?_map] at h2
  cases hx : (ns fs)[i]? with
  | none => rw [hx] at h2; cases h2
  | some x => rw [hx] at h2; cases h2; exact ⟨x, rfl, rfl⟩
/-- what a round keeps for the iterator -/
structure Kf (A B : World) : Prop where
  size : A.heap.size ≤ B.heap.size
  ints : ∀ (k : Nat) (c : Array Value) (fr : Nat × Nat), A.heap[k]? = some (.cells c 3 fr) → B.heap[k]? = some (.cells c 3 fr)
  lay : LayS A → LayS B
theorem Kf.refl (A : World) : Kf A A := ⟨Nat.le_refl _, fun _ _ _ h => h, fun h => h⟩
theorem Kf.tr {A B C : World} (h : Kf A B) (k : Kf B C) : Kf A C := ⟨Nat.le_trans h.size k.size, fun i c f hi => k.ints i c f (h.ints i c f hi), fun x => k.lay (h.lay x)⟩
theorem var_put {P : Program} {W : World} {l : Nat} {o o' : Obj} {n : String} {cs : Array Value} (h : W.heap[l]? = some o) (hc : o.isCells = false) (hv : W.var? P n = some cs) : (W.putObj l o').var? P n = some cs := by
  unfold World.var? at hv ⊢
  cases hg : P.globalNamed n with
  | none => simp [hg] at hv
  | some g =>
    simp only [hg, Option.bind_some] at hv ⊢
    have hne : g ≠ l := fun e => by
      subst e
      rw [h] at hv
      cases o <;> simp_all [Obj.isCells]
    rw [World.putObj_heap_other (fun e => hne e)]
    exact hv
theorem Kf.put {w : World} (W : World) (l : Nat) (o o' : Obj) (_ : w.heap.size ≤ l) (h : W.heap[l]? = some o) (hc : o.isCells = false) (_ : o.isWalk = false) : Kf W (W.putObj l o') :=
  ⟨by simp, fun k c f hk => by rw [World.putObj_heap_other (fun e => by subst e; rw [h] at hk; cases hk; cases hc)]; exact hk,
   fun x => ⟨var_put h hc x.tab, by obtain ⟨tp, p, e⟩ := x.err; exact ⟨tp, p, var_put h hc e⟩⟩⟩
theorem grown_below {w w' : World} (h : Below w.heap.size w w') : w.grownBy w' none := ⟨h.os, h.tape, h.output, h.size, fun k hk _ => h.block k hk⟩
/-! ### a row of integers, sorted -/
theorem holds_i {w : World} {g : Nat} {cur : Array Value} {e : TypeId} {zs : List Int} (hb : w.heap[g]? = some (.cells cur e (0, 0))) (ht : cur.toList.take zs.length = zs.map (Value.int .i64)) : Holds (Value.int .i64) w g 0 zs.toArray := by
  intro j hj
  have hj' : j < zs.length := by simpa using hj
  refine ⟨?_, by simp [World.frozen?, hb]⟩
  have h1 : (cur.toList.take zs.length)[j]? = (zs.map (Value.int .i64))[j]? := by rw [ht]
  rw [List.getElem?_take_of_lt hj'] at h1
  simp only [World.cell?, hb, Nat.zero_add]
  simp only [Option.isSome_none, Bool.false_eq_true, if_false]
  rw [← Array.getElem?_toList, h1]
  simp [hj']
theorem heap_i {w : World} {g n : Nat} {os : Array Obj} {cur : Array Value} {e : TypeId} {fr : Nat × Nat} (d : Array Int) (hb : w.heap[g]? = some (.cells cur e fr)) :
    (grow (putRow (Value.int .i64) (Sort.ahead w n) g 0 d) os).heap[g]? = some (.cells (putCells (Value.int .i64) 0 d cur) e fr) := by
  have hg : g < w.heap.size := (Array.getElem?_eq_some_iff.1 hb).1
  rw [heap_grow_old _ _ (by simpa using hg)]
  simp [putRow, mapBlock, Sort.ahead, Array.getElem?_modify, hb, onCells]
theorem grown_i {w : World} {g n : Nat} {os : Array Obj} (d : Array Int) : w.grownBy (grow (putRow (Value.int .i64) (Sort.ahead w n) g 0 d) os) (some g) := by
  refine ⟨rfl, rfl, rfl, by simp, fun k hk hne => ?_⟩
  rw [heap_grow_old _ _ (by simpa using hk)]
  have : g ≠ k := fun e => hne (by rw [e])
  simp [putRow, mapBlock, Sort.ahead, Array.getElem?_modify, this]
theorem take_i (cur : Array Value) (ts : List Int) (h : ts.length ≤ cur.size) : (putCells (Value.int .i64) 0 ts.toArray cur).toList.take ts.length = ts.map (Value.int .i64) := by
  apply List.ext_getElem?
  intro j
  by_cases hj : j < ts.length
  · rw [List.getElem?_take_of_lt hj, Array.getElem?_toList]
    simp [putCells, hj, show j < cur.size by omega]
  · rw [List.getElem?_take_eq_none (by omega), List.getElem?_eq_none (by simp; omega)]
theorem sort_nat (l : List Nat) : (l.map Int.ofNat).mergeSort (fun x y => decide (x ≤ y)) = (l.mergeSort).map Int.ofNat := by
  rw [List.map_mergeSort]
  intro a _ b _
  simp
/-- 'slices.Sort(numbers)' -/
theorem sort_c (w : World) (B n c : Nat) (A : Option Addr) (l : List Nat) (h : Ow IE w B (.slice A n c) n l) (hn : n < 4611686018427387904) :
    Calls Tryz.prog 59 #[.slice A n c] w fun e w' => e = .returned (.tuple #[]) ∧ Ow IE w' B (.slice A n c) n (l.mergeSort) ∧ ∃ o, (∀ g, o = some g → B ≤ g ∧ ∃ cu, w.heap[g]? = some (.cells cu 3 (0, 0))) ∧ w.grownBy w' o := by
  obtain ⟨hl, hrow⟩ := h
  rw [IE_cs] at hrow
  rcases Nat.eq_zero_or_pos n with h0 | h0
  · subst h0
    obtain rfl := List.eq_nil_of_length_eq_zero hl
    have := AnyM.slices_Sort_int_none sortI A c w
    rw [show sortI_ren.f 5 = 59 by rfl] at this
    refine this.mono ?_
    rintro e w' ⟨rfl, rfl⟩
    exact ⟨rfl, ⟨by simp, by rw [IE_cs]; simpa using hrow⟩, none, fun g e => (by cases e), World.grownBy.refl _ _⟩
  · rcases hrow.2 with ⟨_, h1⟩ | ⟨g, cap, cur, e0, hbase, hb, h1, h2, h3, h4⟩
    · omega
    · injection e0 with e1 e2 e3
      subst e1 e3
      have hlen : (l.map Int.ofNat).length = n := by simp [hl]
      have hH := holds_i (zs := l.map Int.ofNat) hb (by rw [hlen]; rw [show n * IE.k = n from Nat.mul_one n] at h4; exact h4)
      have := AnyM.slices_Sort_int sortI g 0 c (l.map Int.ofNat) w hH ((Array.getElem?_eq_some_iff.1 hb).1) (by rw [hlen]; exact hn)
      rw [show sortI_ren.f 5 = 59 by rfl, hlen, sort_nat] at this
      refine this.mono ?_
      rintro e w' ⟨rfl, k, os, rfl⟩
      have hl2 : (l.mergeSort.map Int.ofNat).length = n := by simp [hl]
      refine ⟨rfl, ⟨by simp [hl], ?_⟩, some g, fun g' e => by cases e; exact ⟨hbase, cur, hb⟩, grown_i _⟩
      rw [IE_cs]
      refine ⟨by rw [List.length_map, hl2]; exact (Nat.mul_one n).symm, .inr ⟨g, c, _, rfl, hbase, heap_i _ hb, h1, h2, by simp [putCells, h3], ?_⟩⟩
      rw [show n * IE.k = n from Nat.mul_one n]
      have hck : c * IE.k = c := Nat.mul_one c
      have := take_i cur (l.mergeSort.map Int.ofNat) (by rw [hl2]; omega)
      rw [hl2] at this
      exact this
theorem names_le {w : World} {p : Nat} {F : Nat → Prop} {st : St} (h : Dk w p F st) : ∀ a ∈ st.shown.map (·.1), a.length ≤ maxLen := by
  obtain ⟨fs, fh, Fs, Fh, Fo, v, ps, dv, h1, h2, _⟩ := h
  obtain ⟨mb, D, es, h1, hfs, _⟩ := h2.hh
  intro a ha
  have e1 : st.shown.map (·.1) = es.map (·.1) := by rw [hfs]; simp [mapv, Function.comp_def]
  rw [e1] at ha
  exact strKeys_le h1.map Tryz.underlying9 a ((h1.rep.names h1.srt h1.map).mem_iff.1 ha)
/-- the numbers among the first names -/
def some_ (l : List By) : List Nat := l.filterMap numOf
theorem some_snoc (l : List By) (a : By) : some_ (l ++ [a]) = some_ l ++ (match numOf a with | some n => [n] | none => []) := by
  unfold some_
  rw [List.filterMap_append]
  congr 1
  simp only [List.filterMap_cons, List.filterMap_nil]
  cases numOf a <;> rfl
theorem some_len (l : List By) : (some_ l).length ≤ l.length := List.length_filterMap_le _ _
theorem some_ok (l : List By) : ∀ n ∈ some_ l, n < 1000000000 := fun n hn => by
  obtain ⟨a, _, h⟩ := List.mem_filterMap.1 hn
  exact (numOf_some h).2.2
theorem nums_some (fs : AL By) : nums fs = (some_ (fs.map (·.1))).mergeSort := by
  unfold nums some_
  rw [List.filterMap_map]; rfl
/-- names read so far; the numbers among them -/
structure NI (W w : World) (names : List By) (vn : Value) (N i : Nat) (v3 : Value) (m : Nat) : Prop where
  nm : w.ownsRow W.heap.size 9 1 vn N (names.map encStr)
  ow : Ow IE w W.heap.size v3 m (some_ (names.take i))
  bel : Below W.heap.size W w
theorem NI.quiet {W w w' : World} {names : List By} {vn v3 : Value} {N i m : Nat} (h : NI W w names vn N i v3 m) (hb : Below w.heap.size w w') : NI W w' names vn N i v3 m :=
  ⟨own_keep h.nm hb (Nat.le_refl _), h.ow.below hb (Nat.le_refl _), h.bel.trans (hb.mono h.bel.size)⟩
theorem NI.at {W w : World} {names : List By} {vn v3 : Value} {N i m : Nat} (h : NI W w names vn N i v3 m) (hi : i < N) :
    ∃ b off c a, vn = .slice (some ⟨b, off, none⟩) N c ∧ N ≤ c ∧ b < w.heap.size ∧ names[i]? = some a ∧ w.cell? ⟨b, off + i, none⟩ = some (.string (tx a)) := by
  have hf := own_form h.nm
  rcases hf with ⟨e, h0⟩ | ⟨g, c, e, _, hg, h1, _⟩
  · omega
  · subst e
    have h1' : Rd w w.heap.size (some ⟨g, 0, none⟩) (N * 1) (names.map encStr) := own_rd h.nm
    obtain ⟨b, off, v, e, hb, hv, hc⟩ := h1'.at_ i (by omega)
    cases e
    rw [List.getElem?_map] at hv
    cases hx : names[i]? with
    | none => rw [hx] at hv; cases hv
    | some a => rw [hx] at hv; cases hv; exact ⟨g, 0, c, a, rfl, h1, hb, rfl, hc⟩
theorem NI.app {W w w' : World} {names : List By} {vn v3 v3' : Value} {N i m n : Nat} {a : By} (h : NI W w names vn N i v3 m) (ha : names[i]? = some a) (hn : numOf a = some n) (hg : w.grownBy w' v3.ownBlock) (ho : Ow IE w' W.heap.size v3' (m + 1) (some_ (names.take i) ++ [n])) : NI W w' names vn N (i + 1) v3' (m + 1) := by
  have hc : Chg (fun k => v3.ownBlock = some k) w w' := (Chg.refl _ _).grown hg (fun k hk _ => hk)
  refine ⟨own_chg h.nm hc fun g e1 e2 => ?_, ?_, h.ow.below_grown h.bel hg h.bel.size⟩
  · obtain ⟨c1, h1⟩ := own_type h.nm e1
    obtain ⟨c2, h2⟩ := h.ow.type e2
    exact blk_type h1 h2 (by decide) rfl
  · rw [List.take_add_one, ha, Option.toList_some, some_snoc, hn]
    exact ho
theorem NI.skip {W w : World} {names : List By} {vn v3 : Value} {N i m : Nat} {a : By} (h : NI W w names vn N i v3 m) (ha : names[i]? = some a) (hn : numOf a = none) : NI W w names vn N (i + 1) v3 m := by
  refine ⟨h.nm, ?_, h.bel⟩
  rw [List.take_add_one, ha, Option.toList_some, some_snoc, hn, List.append_nil]
  exact h.ow
set_option maxHeartbeats 4000000 in
set_option maxRecDepth 100000 in
theorem seq_f (m p bd : Nat) (F : Nat → Prop) (st : St) (w : World) (hd : Dk w p F st) (hbd : w.heap[bd]? = some (.cells #[ptr p] 23 (0, 0))) (hl : LayS w) (hfew : st.shown.length ≤ 1000000000) :
    SeqStopsK Fence.wide m Tryz.prog 57 #[.pointer (some ⟨bd, 0, none⟩)] fnv Kf (fun ys => ys = ns st.shown) (fun pre => pre <+: ns st.shown) (nums st.shown).length w := by
  intro l J Jx W hW hJ hJx hY h0
  refine callsIn_wide.2 ?_
  show Calls Tryz.prog 57 #[.func (.yield l) #[] #[], .pointer (some ⟨bd, 0, none⟩)] W _
  have hdW : Dk W p F st := hd.chg (Chg.of_below hW) (fun _ _ e => e)
  have hbW := blk_below hW hbd (blk_lt hbd)
  have hlW := hl.below hW
  have hNle := names_le hdW
  have hshl : (st.shown.map (·.1)).length = st.shown.length := List.length_map _
  have HJ := Lib.hid hJ
  have HY := Lib.hid hY
  have H0 := Lib.hid h0
  have HL := Lib.hid hlW
  have HN := Lib.hid (names_d W p F st hdW (by omega))
  have HNE := Lib.hid (nums_some st.shown)
  have c1 : W.cell? ⟨bd, 0, none⟩ = some (ptr p) := by rw [cell_of_row _ _ _ _ _ _ hbW]; rfl
  have l1 := blk_lt hbW
  obtain ⟨names, hnm⟩ : ∃ l, st.shown.map (·.1) = l := ⟨_, rfl⟩
  obtain ⟨N, hN⟩ : ∃ N, st.shown.length = N := ⟨_, rfl⟩
  unfold RetNames at HN
  rw [hnm] at HNE HN hNle hshl
  rw [hN] at HN hshl hfew
  have HNL := Lib.hid hNle
  have HSL := Lib.hid hshl
  have hsome := some_len names
  rw [hshl] at hsome
  obtain ⟨M, hM⟩ : ∃ M, (nums st.shown).length = M := ⟨_, rfl⟩
  have hMN : M ≤ N := by rw [← hM, HNE.out, List.length_mergeSort]; exact hsome
  rw [hM] at HY
  have HM := Lib.hid hM
  obtain ⟨i0, hi, hz0, hz1, hz2⟩ := info_parts infoI
  clear hd hbd hl hW hJ hJx hY h0 hdW hbW hlW hNle hnm hN hshl hM hsome
  go_enter Tryz.func57, Tryz.ntmps57
  go_wp2_with (fail)
  refine HN.out.mono ?_
  rintro e w1 ⟨vn, rfl, hrow, hb1⟩
  obtain ⟨An, cn, en⟩ : ∃ A c, vn = .slice A N c := by
    rcases own_form hrow with ⟨e, e0⟩ | ⟨g, c, e, _⟩
    · exact ⟨none, 0, by rw [e, e0]⟩
    · exact ⟨_, _, e⟩
  subst en
  have I1 := Lib.hid (show NI W w1 names (.slice An N cn) N 0 (.slice none 0 0) 0 from ⟨hrow, Ow.nil _ _, hb1⟩)
  clear hrow hb1 HN c1
  go_wp2_with (fail)
  go_loopg [3, 5, 6, 7, 13] N (fun gg s3 s5 s6 s7 s13 wr => ∃ (i k : Nat) (A3 : Option Addr) (c3 : Nat), s3 = .slice A3 k c3 ∧ s13 = .int .i64 i ∧ i ≤ N ∧ N - i ≤ gg ∧ k ≤ i ∧ Aside (NI W wr names (.slice An N cn) N i (.slice A3 k c3) k))
  case atStart => exact ⟨0, 0, none, 0, rfl, rfl, Nat.zero_le _, by omega, Nat.le_refl _, I1.out⟩
  case round =>
    obtain ⟨i, k, A3, c3, rfl, rfl, hiN, hgg, hki, II⟩ := hrel
    obtain ⟨wv, rfl⟩ : ∃ wv, wv = wr := ⟨wr, rfl⟩
    by_cases hlt : i < N
    · have j1 : (i : Int) < (N : Int) := by omega
      have j0 : (0 : Int) ≤ (i : Int) := by omega
      obtain ⟨b, off, c', a, ev, hcap, hbl, ha, hc⟩ := II.out.at hlt
      injection ev with e1 e2 e3
      subst e1 e3
      have hal := HNL.out a (List.mem_of_getElem? ha)
      have HA := Lib.hid ha
      have HX := Lib.hid (numbered_x wv (HL.out.below II.out.bel) a (by unfold maxLen at hal; omega))
      unfold numV at HX
      clear ha hal e2
      cases hn : numOf a with
      | none =>
        have HNN := Lib.hid hn
        rw [hn] at HX
        clear hn
        go_wp2_with (fail)
        refine HX.out.mono ?_
        rintro e w2 ⟨rfl, hb2⟩
        have I2 := Lib.hid ((II.out.quiet hb2).skip HA.out HNN.out)
        clear hb2 HX hc
        go_wp2_with (fail)
        go_roundg (N - (i + 1))
        case measure => omega
        case rel => exact ⟨i + 1, k, A3, c3, rfl, by go_num, by omega, by omega, by omega, I2.out⟩
      | some n =>
        have HNN := Lib.hid hn
        rw [hn] at HX
        clear hn
        go_wp2_with (fail)
        refine HX.out.mono ?_
        rintro e w2 ⟨rfl, hb2⟩
        have I2 := Lib.hid (II.out.quiet hb2)
        have hsz2 := I2.out.bel.size
        clear hb2 HX hc
        go_wp2_with (at_builtin; refine wpList_append_ow IE (P := Tryz.prog) Tryz.underlying91 hi hz0 hz1 hz2 rfl (by decide) rfl (.tmp 23) (.tmp 25) rfl W.heap.size _ k (some_ (names.take i)) rfl ((I2.out.quiet ((Below.refl _ _).alloc (Nat.le_refl _) _)).ow) (w2.heap.size + 1) (some ⟨w2.heap.size, 0, none⟩) 1 1 (fun e => by cases e) [n] (by rfl) (by have h9 := ls_new (E := IE) (w := w2) 3 n; simpa [IE] using h9) (by omega) (by simp; omega) ?_; intro A4 x4 w4 hown4 hg4 _ _ _ hs4; have I4 := Lib.hid ((I2.out.quiet ((Below.refl _ _).alloc (Nat.le_refl _) _)).app HA.out HNN.out hg4 hown4); clear hg4 hown4)
        go_roundg (N - (i + 1))
        case measure => omega
        case rel => exact ⟨i + 1, k + 1, A4, x4, rfl, by go_num, by omega, by omega, by omega, I4.out⟩
    · obtain rfl : i = N := by omega
      have j1 : ¬ (i : Int) < (i : Int) := by omega
      have ho : Ow IE wv W.heap.size (.slice A3 k c3) k (some_ names) := by
        have := II.out.ow
        rwa [List.take_of_length_le (by rw [HSL.out]; exact Nat.le_refl _)] at this
      have HS := Lib.hid (sort_c wv W.heap.size k c3 A3 _ ho (by omega))
      rw [← HNE.out] at HS
      have hkM : k = M := by have := ho.1; rw [← this, ← HM.out, HNE.out, List.length_mergeSort]
      subst hkM
      clear ho
      go_wp2_with (fail)
      refine HS.out.mono ?_
      rintro e w2 ⟨rfl, ho2, o2, hold, hg2⟩
      have hB2 : Below W.heap.size W w2 := II.out.bel.grown hg2 II.out.bel.size fun g e => (hold g e).1
      have J2 := Lib.hid (HJ.out _ _ _ none H0.out (grown_below hB2) (fun r e => by cases e))
      have L2 := Lib.hid (HL.out.below hB2)
      have O2 := Lib.hid ho2
      have hsz2 := hB2.size
      clear ho2 hold hg2 hB2 HS I1 II
      go_wp2_with (fail)
      go_loopw [9, 32] (fun _ s32 wr => ∃ (j : Nat), j ≤ k ∧ s32 = .int .i64 j ∧ Aside (W.heap.size ≤ wr.heap.size) ∧ J ((ns st.shown).take j) wr ∧ LayS wr ∧ Ow IE wr W.heap.size (.slice A3 k c3) k (nums st.shown)) (fun _ i _ => k - (intOf i).toNat)
      case atStart => exact ⟨0, by omega, rfl, hsz2, J2.out, L2.out, O2.out⟩
      case round =>
        clear J2 L2 O2
        obtain ⟨j, hjk, rfl, HSZ, hJj, hLj, hOj⟩ := hrel
        have JK := Lib.hid hJj
        have LK := Lib.hid hLj
        have OK_ := Lib.hid hOj
        by_cases hlt2 : j < k
        · have q1 : (j : Int) < (k : Int) := by omega
          have q0 : (0 : Int) ≤ (j : Int) := by omega
          obtain ⟨g3, c3', e3, hg3b, hg3, hc3, _⟩ := hOj.some_ (by omega)
          injection e3 with e31 e32 e33
          subst e31 e33
          obtain ⟨n, hn⟩ := hOj.ls.get hlt2
          obtain ⟨x, hx, hxn⟩ := ns_at st.shown hn
          obtain ⟨b', off', e', _, hc'⟩ := hOj.ls.at_ hn
          cases e'
          have d0 : wr.cell? ⟨g3, j, none⟩ = some (.int .i64 (n : Nat)) := by simpa [IE] using hc' 0 (by decide)
          have HX := Lib.hid hx
          have HXN := Lib.hid hxn
          have hx1 := x.2
          rw [hx] at hx1
          have HNM := Lib.hid (callsIn_wide (n := m - 1).2 (named_x wr hLj n (by omega)))
          clear hJj hLj hOj e32 hn hx hxn hc'
          refine (wpIn_wide (n := m)).1 ?_
          gi_wp2
          refine ⟨trivial, fun h => (by cases h), HNM.out.mono ?_⟩
          rintro e w4 ⟨rfl, hb4⟩
          have J4 := Lib.hid (HJ.out _ _ _ none JK.out (grown_below hb4) (fun r e => by cases e))
          have O4 := Lib.hid (OK_.out.below hb4 (Nat.le_refl _))
          have L4 := Lib.hid (LK.out.below hb4)
          have hsz4 := hb4.size
          have hlen : ((ns st.shown).take j).length < k := by rw [List.length_take, ns_len, HM.out]; omega
          obtain ⟨fn, tmps, assign, body, hy, hR⟩ := HY.out _ x w4 J4.out hlen
          have htk : (ns st.shown).take j ++ [x] = (ns st.shown).take (j + 1) := by rw [List.take_add_one, HXN.out]; rfl
          rw [htk] at hR
          unfold fnv at hy
          rw [HX.out] at hy
          have HR := Lib.hid hR
          clear hR hb4 d0 htk HNM
          gi_wp2
          refine ⟨fun e => (by cases e), HR.out.mono ?_⟩
          rintro e W5 (⟨rfl, hJ5, hk5⟩ | ⟨rfl, hJx5⟩)
          · obtain ⟨cu, hcu⟩ := O4.out.type (g := g3) rfl
            have O5 : Ow IE W5 W.heap.size (.slice (some ⟨g3, 0, none⟩) k c3) k (nums st.shown) := by
              obtain ⟨q1, q2⟩ := O4.out
              refine ⟨q1, q2.1, ?_⟩
              rcases q2.2 with ⟨q3, _⟩ | ⟨g, cap, cur, q3, q4, q5, q6⟩
              · cases q3
              · exact .inr ⟨g, cap, cur, q3, q4, hk5.ints _ _ _ q5, q6⟩
            have O5 := Lib.hid O5
            have J5 := Lib.hid hJ5
            have L5 := Lib.hid (hk5.lay L4.out)
            have hsz5 := hk5.size
            clear hJ5 hk5 hy HR hcu
            gi_wp2
            go_wp2_with (fail)
            go_roundw
            case rel => exact ⟨j + 1, by omega, by go_num, Nat.le_trans HSZ.out (Nat.le_trans hsz4 hsz5), J5.out, L5.out, O5.out⟩
            case measure => simp [intOf]; omega
          · clear hy HR
            gi_wp2
            refine bodyPost_ret (results_none rfl _ _ _) rfl ?_
            exact ⟨⟨_, rfl⟩, .inr ⟨_, List.take_prefix _ _, hJx5⟩⟩
        · obtain rfl : j = k := by omega
          have q1 : ¬ (j : Int) < (j : Int) := by omega
          clear hJj hLj hOj
          go_wp2_with (fail)
          go_end0
          exact ⟨⟨_, rfl⟩, .inl (by have h := JK.out; rwa [List.take_of_length_le (by rw [ns_len, HM.out]; exact Nat.le_refl _)] at h)⟩
end Go.Proofs.YtmegkemileailaaGreatDoor.lg
