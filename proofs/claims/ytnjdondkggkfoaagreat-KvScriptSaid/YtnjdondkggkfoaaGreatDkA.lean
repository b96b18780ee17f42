/-
  strings.Builder as memory: its own block, its buffer's row; Len, String, WriteString.
-/
import Derived.Test.YtnjdondkggkfoaaGreatAl
import Derived.Lib.FrozenHead
import Derived.Deep.RegionWith
import Derived.Shelf.RegionOpenPlain
import Derived.Maps.OwnSet
import Derived.Maps.OwnOps
import Derived.Sort.KeysCollected
import Derived.StringKeys
import Derived.Shelf.SlIter.Nil
import Derived.Shelf.SortM.Plain
import Derived.Shelf.SortM.SortNone
import Derived.Ground.GgzProg
import Derived.Ground.SlgmProg
import Derived.Test.YtnjdondkggkfoaaGreatProg
import Derived.Test.YtnjdondkggkfoaaGreatChecked
import Derived.Maps.RangeWalk
import Derived.Maps.Ext
namespace Go.Proofs.YtnjdondkggkfoaaGreat.dk
open Go.ChangeShapes Go.WideShapes Go.ChangeAt Go.RowKit plain words ord mem al

/-- a text: its block, the two cells there, its bytes -/
structure Tx where
  g : Nat
  p : Value
  v : Value
  s : Nm
structure IsTx (w : World) (x : Tx) : Prop where
  blk : w.heap[x.g]? = some (.cells #[x.p, x.v] 145 (0, 0))
  own : w.ownsRowF 0 5 1 x.v x.s.length (Lib.byteCells x.s)
  self : x.p = .pointer none ∨ x.p = .pointer (some ⟨x.g, 0, none⟩)
  nil : x.s = [] → x.v = .slice none 0 0
def Tx.foot (x : Tx) (k : Nat) : Prop := k = x.g ∨ x.v.ownBlock = some k
theorem IsTx.lt {w : World} {x : Tx} (h : IsTx w x) {k : Nat} (hk : x.foot k) : k < w.heap.size := by
  rcases hk with rfl | hk
  · exact blk_lt h.blk
  · exact (h.own.lt k hk).2
theorem IsTx.row {w : World} {x : Tx} (h : IsTx w x) {k : Nat} (hk : x.v.ownBlock = some k) : ∃ c f, w.heap[k]? = some (.cells c 5 f) := by
  rcases h.own.2 with ⟨hv, _⟩ | ⟨g, cap, cur, fz, hv, _, hg, _⟩
  · rw [hv] at hk; cases hk
  · rw [hv] at hk; cases hk; exact ⟨cur, fz, hg⟩
theorem IsTx.ne {w : World} {x : Tx} (h : IsTx w x) : x.v.ownBlock ≠ some x.g := fun e => by
  obtain ⟨c, f, hc⟩ := h.row e
  exact blk_type h.blk hc (by decide) rfl
theorem IsTx.chg {S : Nat → Prop} {w w' : World} {x : Tx} (h : IsTx w x) (hc : Chg S w w') (hS : ∀ k, x.foot k → ¬ S k) : IsTx w' x := by
  refine ⟨hc.blk h.blk (hS _ (.inl rfl)), ⟨h.own.1, ?_⟩, h.self, h.nil⟩
  rcases h.own.2 with hv | ⟨g, cap, cur, fz, hv, h0, hg, hr⟩
  · exact .inl hv
  · exact .inr ⟨g, cap, cur, fz, hv, h0, hc.blk hg (hS g (.inr (by rw [hv]; rfl))), hr⟩
theorem IsTx.form {w : World} {x : Tx} (h : IsTx w x) : ∃ A c, x.v = .slice A x.s.length c := by
  rcases h.own.2 with ⟨hv, hn⟩ | ⟨g, cap, cur, fz, hv, _⟩
  · exact ⟨none, 0, by rw [hv, hn]⟩
  · exact ⟨_, _, hv⟩
theorem chg_set (w : World) (g o : Nat) (u : Value) : Chg (fun k => k = g) w (w.setCell ⟨g, o, none⟩ u) := Chg.setCell (S := fun k => k = g) (Chg.refl _ _) (p := ⟨g, o, none⟩) (fun _ => rfl) u
theorem strCells_eq (s : ByteArray) : Lib.strCells s = Lib.byteCells s.data.toList := rfl
section
variable {P : Program} (w : World)
/-- append of a string's bytes onto a text's row, and where the new row lies -/
theorem run_append_txt (t u ty e : TypeId) (i : TypeInfo) (ht : P.underlying t = some (.slice e)) (hu : P.underlying u = some .string) (hi : P.info? e = some i) (hz : i.zero = some (.int .u8 0))
    (hsize : i.size = 1) (hby : i.bytes = 1) (v : Value) (n : Nat) (xs : List Value) (hown : w.ownsRowF 0 e 1 v n xs) (s : ByteArray)
    (h63 : n + s.size ≤ maxLen) (hbytes : n + s.size ≤ 140737488355328) :
    ∃ v' w', (Builtin.append_ #[t, u] ty #[v, .string s]).run P w = .ok v' w' ∧ w'.ownsRowF 0 e 1 v' (n + s.size) (xs ++ Lib.strCells s) ∧ w.grownBy w' v.ownBlock ∧
      (v' = .slice none 0 0 ↔ v = .slice none 0 0 ∧ s.size = 0) ∧ ∀ k, v'.ownBlock = some k → v.ownBlock = some k ∨ w.heap.size ≤ k := by
  rcases hown.2 with ⟨rfl, rfl⟩ | ⟨g, cap, cur, fz, rfl, hbg, hg, hfz, hnc, hcm, hcs, htake⟩
  · have hx : xs = [] := List.eq_nil_of_length_eq_zero (by simpa using hown.1)
    subst hx
    obtain ⟨v', w', h1, h2, h3, h4⟩ := Lib.run_append_own_stringF (P := P) w w.heap.size t u ty e i ht hu hi hz hsize hby (.slice none 0 0) 0 [] (World.ownsRowF_nil _ _ _ _) s h63 hbytes (Nat.le_refl _)
    refine ⟨v', w', h1, ⟨h2.1, h2.2.imp id ?_⟩, h3, h4, fun k hk => .inr (h2.lt k hk).1⟩
    rintro ⟨g, cap, cur, fz, a, _, b⟩
    exact ⟨g, cap, cur, fz, a, Nat.zero_le _, b⟩
  · by_cases hroom : n + s.size ≤ cap
    · have hcs' : cur.size = cap := by simpa using hcs
      have hr := Lib.run_append_room_stringF (P := P) w t u ty e i ht hu hi hsize g n cap cur fz hg (by simpa using hfz) s hroom (by omega)
      obtain ⟨v', w', h1, h2, h3, h4⟩ := Lib.run_append_own_stringF (P := P) w 0 t u ty e i ht hu hi hz hsize hby _ n xs hown s h63 hbytes (Nat.zero_le _)
      have heq := hr.symm.trans h1
      injection heq with e1 e2
      exact ⟨v', w', h1, h2, h3, h4, fun k hk => .inl (by rw [← e1] at hk; exact hk)⟩
    · have hxl : xs.length = n := by simpa using hown.1
      have holds : ∀ j u, xs[j]? = some u → w.cell? ((⟨g, 0, none⟩ : Addr).add j) = some u := hown.cells (g := g) rfl
      have hr := Lib.run_append_grow_string (P := P) w t u ty e i (.int .u8 0) ht hu hi hz ⟨g, 0, none⟩ n cap xs (by rw [hsize]; simpa using hxl) holds s (by omega) (by simp only [maxLen] at h63; omega) (by rw [hby]; exact growslice_fits (by omega) (by omega))
      obtain ⟨v', w', h1, h2, h3, h4⟩ := Lib.run_append_own_stringF (P := P) w 0 t u ty e i ht hu hi hz hsize hby _ n xs hown s h63 hbytes (Nat.zero_le _)
      have heq := hr.symm.trans h1
      injection heq with e1 e2
      refine ⟨v', w', h1, h2, h3, h4, fun k hk => .inr ?_⟩
      rw [← e1] at hk
      have : w.heap.size = k := by simpa [Value.ownBlock] using hk
      omega
theorem wpList_append_txt {ops : Array Oper} {rest : List Oper} {o : Oper} {a : Act} {Q : Exit → Act → World → Prop} (hgd : o.guard = none) (sl x : Operand) (t u : TypeId)
    (ho : o.op = .call { callee := .builtin .append, args := #[sl, x], argTypes := #[t, u] })
    (e : TypeId) (i : TypeInfo) (ht : P.underlying t = some (.slice e)) (hu : P.underlying u = some .string) (hi : P.info? e = some i) (hz : i.zero = some (.int .u8 0))
    (hsize : i.size = 1) (hby : i.bytes = 1)
    (v : Value) (n : Nat) (xs : List Value) (hs : a.eval sl = v) (hown : w.ownsRowF 0 e 1 v n xs) (s : ByteArray) (hx : a.eval x = .string s)
    (h63 : n + s.size ≤ maxLen) (hbytes : n + s.size ≤ 140737488355328)
    (h : ∀ v' w', w'.ownsRowF 0 e 1 v' (n + s.size) (xs ++ Lib.strCells s) → w.grownBy w' v.ownBlock → (v' = .slice none 0 0 ↔ v = .slice none 0 0 ∧ s.size = 0) → (∀ k, v'.ownBlock = some k → v.ownBlock = some k ∨ w.heap.size ≤ k) → wpList P ops Q rest (a.put o.dst v') w') : wpList P ops Q (o :: rest) a w := by
  refine wpList_plain hgd fun K hK => ?_
  obtain ⟨v', w', hr, h2, h3, h4, h5⟩ := run_append_txt (P := P) w t u o.type e i ht hu hi hz hsize hby v n xs hown s h63 hbytes
  unfold Oper.wp execOp
  simp only [ho, resolve, invoke, builtin, Sem.run_bind, Sem.run_pure, Result.andThen_ok, List.map_toArray, List.map_cons, List.map_nil, hs, hx, hr]
  exact hK _ _ (h v' w' h2 h3 h4 h5)
end
def RetTx (w : World) (x : Tx) (t : Nm) (e : Ending) (w' : World) : Prop :=
  ∃ (n : Int) (y : Tx), e = .returned (.tuple #[.int .i64 n, .nilIface]) ∧ y.g = x.g ∧ y.s = x.s ++ t ∧ IsTx w' y ∧ Chg x.foot w w' ∧ ∀ k, y.foot k → x.foot k ∨ w.heap.size ≤ k
set_option maxRecDepth 100000 in
theorem len_t (w : World) (x : Tx) (h : IsTx w x) : Calls Tryz.prog 112 #[.pointer (some ⟨x.g, 0, none⟩)] w fun e w' => e = .returned (.int .i64 x.s.length) ∧ w = w' := by
  obtain ⟨A, c, hv⟩ := h.form
  have hb := h.blk
  rw [hv] at hb
  have c1 : w.cell? ⟨x.g, 1, none⟩ = some (.slice A x.s.length c) := by rw [cell_of_row _ _ _ _ _ _ hb]; rfl
  clear hb h hv
  go_enter Tryz.func112, Tryz.ntmps112
  go_wp2_with fail
  go_ret
  exact ⟨rfl, rfl⟩
theorem sizeB : (Tryz.prog.info? 145).map (·.size) = some 2 := by kernel_rfl
theorem liesB : liesAt Tryz.prog Tryz.prog.depth 145 (2 / Tryz.prog.cellsOf 145) 0 145 1 = true := by kernel_rfl
set_option maxRecDepth 100000 in
theorem check_t (w : World) (x : Tx) (h : IsTx w x) : Calls Tryz.prog 116 #[.pointer (some ⟨x.g, 0, none⟩)] w fun e w' => e = .returned (.tuple #[]) ∧ IsTx w' { x with p := .pointer (some ⟨x.g, 0, none⟩) } ∧ Chg (fun k => k = x.g) w w' := by
  have hb := h.blk
  have hsh : w.shape? x.g = some (145, 2) := by simp [World.shape?, hb]
  have hfz : w.frozen? ⟨x.g, 0, none⟩ = false := by simp [World.frozen?, hb]
  have c0 : w.cell? ⟨x.g, 0, none⟩ = some x.p := by rw [cell_of_row _ _ _ _ _ _ hb]; rfl
  obtain ⟨j, hj, hjs⟩ := Option.map_eq_some_iff.1 sizeB
  rcases h.self with hp | hp
  · rw [hp] at c0
    have hset : IsTx (w.setCell ⟨x.g, 0, none⟩ (.pointer (some ⟨x.g, 0, none⟩))) { x with p := .pointer (some ⟨x.g, 0, none⟩) } := by
      have hc : Chg (fun k => k = x.g) w (w.setCell ⟨x.g, 0, none⟩ (.pointer (some ⟨x.g, 0, none⟩))) := chg_set _ _ _ _
      have hn := h.ne
      refine ⟨?_, ⟨h.own.1, ?_⟩, .inr rfl, h.nil⟩
      · simp [World.setCell, Array.getElem?_modify, hb]
      · rcases h.own.2 with hv | ⟨g, cap, cur, fz, hv, h0, hg, hr⟩
        · exact .inl hv
        · exact .inr ⟨g, cap, cur, fz, hv, h0, hc.blk hg (fun e => hn (by rw [hv, ← e]; rfl)), hr⟩
    have HS := Lib.hid hset
    have hbl : x.g < w.heap.size := blk_lt hb
    clear hset h hb
    go_enter Tryz.func116, Tryz.ntmps116
    go_wp2_with fail
    rw [Lib.run_to_unsafe w ⟨x.g, 0, none⟩ Tryz.underlying126 Tryz.underlying169 hj (by rw [hjs]; decide) hsh (Nat.zero_lt_succ 1)]
    simp only [Result.andThen]
    rw [Oper.upon_value]
    go_wp2_with fail
    rw [run_callFunc_extern Tryz.func131 (by kernel_rfl) (by kernel_rfl) (by kernel_rfl) (e := Extern.AbiNoEscape.same) (by kernel_rfl)]
    rw [Lib.run_noEscape]
    simp only [Result.andThen]
    rw [Oper.upon_value]
    go_wp2_with fail
    rw [Lib.run_from_unsafe w ⟨x.g, 0, none⟩ Tryz.underlying169 Tryz.underlying126 hj hsh liesB]
    simp only [Result.andThen]
    rw [Oper.upon_value]
    go_wp2_with fail
    go_end0
    exact ⟨rfl, HS.out, chg_set _ _ _ _⟩
  · rw [hp] at c0
    have hnq : (binOp .neq 126 (.pointer (some ⟨x.g, 0, none⟩)) (.pointer (some ⟨x.g, 0, none⟩))).run Tryz.prog w = .ok (.bool false) w := by
      have h1 : ∀ d : Nat, (Op.equalIn (d + 1) 126 (.pointer (some ⟨x.g, 0, none⟩)) (.pointer (some ⟨x.g, 0, none⟩))).run Tryz.prog w = .ok true w := fun d => by
        simp [Op.equalIn, run_underlying Tryz.underlying126, sizeOf, typeInfo, hj, run_sameAddr_same]
      simp only [binOp]
      simp [Op.equal, Op.maxDepth, h1 9999]
    clear hj hjs
    have hx : ({ x with p := .pointer (some ⟨x.g, 0, none⟩) } : Tx) = x := by rw [← hp]
    have HS := Lib.hid h
    clear h hb
    go_enter Tryz.func116, Tryz.ntmps116
    go_wp2_with fail
    go_end0
    exact ⟨rfl, by rw [hx]; exact HS.out, Chg.refl _ _⟩
set_option maxRecDepth 100000 in
theorem write_t (w : World) (x : Tx) (s : ByteArray) (h : IsTx w x) (hl : x.s.length + s.size ≤ 140737488355328) : Calls Tryz.prog 109 #[.pointer (some ⟨x.g, 0, none⟩), .string s] w (RetTx w x s.data.toList) := by
  obtain ⟨i0, hi, hz0, hz1, hz2⟩ := info_parts infoB
  have HC := Lib.hid (check_t w x h)
  have HH := Lib.hid h
  clear h
  go_enter Tryz.func109, Tryz.ntmps109
  go_wp2_with fail
  refine HC.out.mono ?_
  rintro e w1 ⟨rfl, h1, hc1⟩
  have hb := h1.blk
  have hown := h1.own
  have c0 : w1.cell? ⟨x.g, 0, none⟩ = some (.pointer (some ⟨x.g, 0, none⟩)) := by rw [cell_of_row _ _ _ _ _ _ hb]; rfl
  have c1 : w1.cell? ⟨x.g, 1, none⟩ = some x.v := by rw [cell_of_row _ _ _ _ _ _ hb]; rfl
  have hbl : x.g < w1.heap.size := blk_lt hb
  have H1 := Lib.hid h1
  have C1 := Lib.hid hc1
  obtain ⟨v, hv⟩ : ∃ v, x.v = v := ⟨_, rfl⟩
  rw [hv] at c1
  simp only at hown
  rw [hv] at hown
  have HV := Lib.hid hv
  clear HC h1 hc1 hb hv
  go_wp2_with (at_builtin; refine wpList_append_txt _ rfl _ _ 36 9 rfl 5 i0 Tryz.underlying36 Tryz.underlying9 hi hz0 hz1 hz2 _ _ _ rfl hown s rfl ?c3 ?c4 ?_)
  case c3 => unfold maxLen; omega
  case c4 => omega
  intro v' w2 hown' hgrow hnil hloc
  have hb2 : w2.heap[x.g]? = some (.cells #[.pointer (some ⟨x.g, 0, none⟩), v] 145 (0, 0)) := by
    rw [hgrow.block x.g hbl (fun e => H1.out.ne (by show x.v.ownBlock = some x.g; rw [HV.out]; exact e.symm))]
    rw [← HV.out]
    exact H1.out.blk
  have d0 : w2.cell? ⟨x.g, 0, none⟩ = some (.pointer (some ⟨x.g, 0, none⟩)) := by rw [cell_of_row _ _ _ _ _ _ hb2]; rfl
  have d1 : w2.cell? ⟨x.g, 1, none⟩ = some v := by rw [cell_of_row _ _ _ _ _ _ hb2]; rfl
  have f1 : w2.frozen? ⟨x.g, 1, none⟩ = false := by simp [World.frozen?, hb2]
  have hbl2 : x.g < w2.heap.size := blk_lt hb2
  obtain ⟨ao, n', cap, rfl⟩ : ∃ ao n' cap, v' = .slice ao n' cap := by
    rcases hown'.2 with ⟨hv, _⟩ | ⟨g, cap, cur, fz, hv, _⟩
    · exact ⟨_, _, _, hv⟩
    · exact ⟨_, _, _, hv⟩
  have OWN := Lib.hid hown'
  have GR := Lib.hid hgrow
  have NIL := Lib.hid hnil
  have LOC := Lib.hid hloc
  have B2 := Lib.hid hb2
  clear hown' hgrow hnil hloc hb2 hown c0 c1 hi hz0 hz1 hz2
  go_wp2_with fail
  go_ret2
  have hsz : s.size = s.data.toList.length := by show s.data.size = _; simp
  have hcc : Chg (fun k => x.foot k) w w2 := by
    refine (C1.out.mono (S' := x.foot) (fun k _ e => .inl e)).grown GR.out fun k hk _ => .inr ?_
    rw [HV.out]; exact hk
  have hset : Chg (fun k => k = x.g) w2 (w2.setCell ⟨x.g, 1, none⟩ (.slice ao n' cap)) := chg_set _ _ _ _
  have hne : (Value.slice ao n' cap).ownBlock ≠ some x.g := fun e => by
    rcases OWN.out.2 with ⟨hv, _⟩ | ⟨g, cap', cur, fz, hv, _, hg, _⟩
    · rw [hv] at e; cases e
    · rw [hv] at e; cases e; exact blk_type B2.out hg (by decide) rfl
  refine ⟨_, ⟨x.g, .pointer (some ⟨x.g, 0, none⟩), .slice ao n' cap, x.s ++ s.data.toList⟩, rfl, rfl, rfl, ⟨?_, ⟨?_, ?_⟩, .inr rfl, fun e => ?_⟩, hcc.trans hset (fun i _ e => .inl e), fun k hk => ?_⟩
  · simp [World.setCell, Array.getElem?_modify, B2.out]
  · simp [Lib.byteCells]
  · have h2 := OWN.out.2
    simp only [List.length_append, ← hsz]
    rcases h2 with hv | ⟨g, cap', cur, fz, hv, h0, hg, hr⟩
    · exact .inl hv
    · refine .inr ⟨g, cap', cur, fz, hv, h0, hset.blk hg (fun e => hne (by rw [hv, ← e]; rfl)), ?_⟩
      rw [strCells_eq, ← Lib.byteCells_append] at hr
      exact hr
  · have e1 : x.s = [] := (List.append_eq_nil_iff.1 e).1
    have e2 : s.data.toList = [] := (List.append_eq_nil_iff.1 e).2
    exact NIL.out.2 ⟨by rw [← HV.out]; exact HH.out.nil e1, by have : s.data = #[] := Array.toList_eq_nil_iff.1 e2; cases s; simp_all⟩
  · rcases hk with hk | hk
    · exact .inl (.inl hk)
    · rcases LOC.out k hk with h1 | h1
      · exact .inl (.inr (by rw [HV.out]; exact h1))
      · exact .inr (Nat.le_trans C1.out.size h1)
set_option maxRecDepth 100000 in
theorem string_t (w : World) (x : Tx) (h : IsTx w x) : Calls Tryz.prog 91 #[.pointer (some ⟨x.g, 0, none⟩)] w fun e w' => e = .returned (.string ⟨x.s.toArray⟩) ∧ IsTx w' x ∧ Chg (fun k => x.v.ownBlock = some k) w w' := by
  have hb := h.blk
  rcases h.own.2 with ⟨hv, hn⟩ | ⟨g, cap, cur, fz, hv, _, hg, hfz, hnc, hcm, hcs, ht⟩
  · have hs : x.s = [] := List.eq_nil_of_length_eq_zero hn
    rw [hv] at hb
    have c1 : w.drew.cell? ⟨x.g, 1, none⟩ = some (.slice none 0 0) := by rw [cell_of_row _ _ _ _ _ _ (show w.drew.heap[x.g]? = _ from hb)]; rfl
    have q1 := Wb.at_ (show w.cell? ⟨x.g, 1, none⟩ = some (.slice none 0 0) from c1)
    have hbl : x.g < w.heap.size := blk_lt hb
    have hUS := Lib.run_unsafeString_none (P := Tryz.prog) w.drew 150 3 9 none
    have hSD : (Builtin.unsafeSliceData_ #[36] 150 #[.slice none 0 0]).run Tryz.prog w.drew = .ok (.pointer none) w.drew := rfl
    have HH := Lib.hid h
    have HSS := Lib.hid hs
    clear h hb hs
    go_enter Tryz.func91, Tryz.ntmps91
    go_wp2_with fail
    refine wp_region_plan [([0, 1, 2, 3, 5, 6, 7, 8, 9], some (4, false)), ([], some (10, true)), ([11], none)] (by kernel_rfl) (by kernel_rfl) ?_
    refine seg_act _ (by dsimp only [pick, at_]) _ (by dsimp only [pick, at_]) ?_
    repeat (go_big_quiet_step (fail))
    refine wpQuiet_nil ?_
    intro K1 g1 g2
    clear g1
    go_wp2_with (fail)
    refine g2 _ _ (Below.refl _ _).drew ?_
    clear g2
    refine seg_write _ (by dsimp only [pick, at_]) _ (by dsimp only [pick, at_]) ?_
    refine wpQuiet_nil ?_
    intro K2 g1
    go_wp2_with (fail)
    refine seg_end _ (by dsimp only [pick, at_]) ?_
    repeat (go_big_quiet_step (fail))
    refine wpQuiet_nil (NoPanic.normal ?_)
    go_wp2_with (fail)
    go_ret
    exact ⟨by rw [HSS.out]; rfl, HH.out.chg (Chg.refl (fun _ => False) _).drew (fun _ _ e => e), (Chg.refl _ _).drew⟩
  · have hs0 : x.s ≠ [] := fun e => by have := h.nil e; rw [hv] at this; cases this
    have hl0 : x.s.length ≠ 0 := by simpa using hs0
    rw [hv] at hb
    have hnc' : x.s.length ≤ cur.size := by omega
    have c1 : w.drew.cell? ⟨x.g, 1, none⟩ = some (.slice (some ⟨g, 0, none⟩) x.s.length cap) := by rw [cell_of_row _ _ _ _ _ _ (show w.drew.heap[x.g]? = _ from hb)]; rfl
    have hSD : (Builtin.unsafeSliceData_ #[36] 150 #[.slice (some ⟨g, 0, none⟩) x.s.length cap]).run Tryz.prog w.drew = .ok (.pointer (some ⟨g, 0, none⟩)) w.drew :=
      Lib.run_unsafeSliceData_row _ _ _ _ _ _ (by omega)
    have hUS : (Builtin.unsafeString_ #[150, 3] 9 #[.pointer (some ⟨g, 0, none⟩), .int .i64 x.s.length]).run Tryz.prog w.drew = .ok (.string ⟨x.s.toArray⟩) (w.drew.freeze ⟨g, 0, none⟩ x.s.length) := by
      refine Lib.run_unsafeString_row w.drew 150 3 9 5 Tryz.underlying150 (by kernel_rfl) g cur.size (by have hg' : w.drew.heap[g]? = some (.cells cur 5 fz) := hg; simp [World.shape?, hg']) x.s hs0 hnc' (by unfold maxLen at hcm; omega) ?_
      intro j b hx
      exact h.own.cells (g := g) (by rw [hv]; rfl) j (.int .u8 b.toNat) (by simp [Lib.byteCells, hx])
    have hkeep : IsTx (w.drew.freeze ⟨g, 0, none⟩ x.s.length) x := by
      have hA : Lib.BuilderAtF 145 5 0 x.g x.p (Lib.byteCells x.s) w.drew := ⟨Nat.zero_le _, x.v, h.blk, by rw [Lib.byteCells_length]; exact h.own, h.ne⟩
      have hF := hA.froze (g := g) (cap := cap) (by rw [Lib.byteCells_length]; exact c1)
      rw [Lib.byteCells_length] at hF
      obtain ⟨_, v', hb', hown', _⟩ := hF
      have hgb : g ≠ x.g := fun e => h.ne (by rw [hv, e]; rfl)
      have hb2 : (w.drew.freeze ⟨g, 0, none⟩ x.s.length).heap[x.g]? = some (.cells #[x.p, x.v] 145 (0, 0)) := by
        unfold World.freeze
        split
        · exact h.blk
        · simp only [Array.getElem?_modify]
          rw [if_neg hgb]
          exact h.blk
      rw [hb2] at hb'
      have hvv : x.v = v' := by
        injection hb' with hb'
        injection hb' with hb'
        simpa using hb'
      refine ⟨hb2, ?_, h.self, h.nil⟩
      rw [Lib.byteCells_length] at hown'
      rw [hvv]
      exact hown'
    have hchg : Chg (fun k => x.v.ownBlock = some k) w (w.drew.freeze ⟨g, 0, none⟩ x.s.length) := by
      unfold World.freeze
      split
      · exact (Chg.refl _ _).drew
      · refine ⟨rfl, rfl, rfl, by simp, fun k _ hn => ?_⟩
        simp only [Array.getElem?_modify]
        rw [if_neg (fun e => hn (by rw [hv, ← e]; rfl))]
        rfl
    have q1 := Wb.at_ (show w.cell? ⟨x.g, 1, none⟩ = some (.slice (some ⟨g, 0, none⟩) x.s.length cap) from c1)
    have hbl : x.g < w.heap.size := blk_lt hb
    have HK := Lib.hid hkeep
    have HC := Lib.hid hchg
    obtain ⟨n, hn⟩ : ∃ n, x.s.length = n := ⟨_, rfl⟩
    obtain ⟨r, hr⟩ : ∃ r, (Value.string ⟨x.s.toArray⟩) = r := ⟨_, rfl⟩
    rw [hn] at c1 q1 hSD hUS
    rw [hr] at hUS ⊢
    obtain ⟨wf, hwf⟩ : ∃ wf, w.drew.freeze ⟨g, 0, none⟩ n = wf := ⟨_, rfl⟩
    have HK2 := HK.out
    have HC2 := HC.out
    rw [hn, hwf] at HK2 HC2
    rw [hwf] at hUS
    have HK3 := Lib.hid HK2
    have HC3 := Lib.hid HC2
    clear hkeep hchg h hb hg hfz hnc hcm hcs ht hn hr hwf HK HC HK2 HC2 hnc'
    go_enter Tryz.func91, Tryz.ntmps91
    go_wp2_with fail
    refine wp_region_plan [([0, 1, 2, 3, 5, 6, 7, 8, 9], some (4, false)), ([], some (10, true)), ([11], none)] (by kernel_rfl) (by kernel_rfl) ?_
    refine seg_act _ (by dsimp only [pick, at_]) _ (by dsimp only [pick, at_]) ?_
    repeat (go_big_quiet_step (fail))
    refine wpQuiet_nil ?_
    intro K1 g1 g2
    clear g1
    go_wp2_with (fail)
    refine g2 _ _ (Below.refl _ _).drew ?_
    clear g2
    refine seg_write _ (by dsimp only [pick, at_]) _ (by dsimp only [pick, at_]) ?_
    refine wpQuiet_nil ?_
    intro K2 g1
    go_wp2_with (fail)
    refine seg_end _ (by dsimp only [pick, at_]) ?_
    repeat (go_big_quiet_step (fail))
    refine wpQuiet_nil (NoPanic.normal ?_)
    go_wp2_with (fail)
    go_ret
    exact ⟨rfl, HK3.out, HC3.out⟩
end Go.Proofs.YtnjdondkggkfoaaGreat.dk
/-
  The program's files as memory: a map from names to texts, and how many bytes they are.
-/
namespace Go.Proofs.YtnjdondkggkfoaaGreat.dk
open Go.ChangeShapes Go.WideShapes Go.ChangeAt Go.RowKit Go.Maps Go.Sort plain words ord mem al
open Go.WideMaps (keyOf_string_mk)

abbrev DU := DataW Unit
def dg (g : Nat) : DU := .lit (.int .i64 g)
/-- how a text's pointer reads -/
def pe : Value → Option (DU × List MemPlace)
  | .pointer none => some (.nil, [])
  | .pointer (some ⟨b, 0, none⟩) => some (dg b, [])
  | _ => none
theorem pe_inv {v : Value} {g : Nat} {ps : List MemPlace} (h : pe v = some (dg g, ps)) : v = .pointer (some ⟨g, 0, none⟩) := by
  unfold pe at h
  split at h
  · cases h
  · rename_i b
    injection h with h
    injection h with h
    injection h with h
    injection h with _ h
    have : b = g := by omega
    rw [this]
  · cases h
theorem pe_nil {v : Value} {ps : List MemPlace} (h : pe v = some (.nil, ps)) : v = .pointer none := by
  unfold pe at h
  split at h
  · rfl
  · injection h with h
    injection h with h
    cases h
  · cases h
/-- what the map's datum says of the texts -/
structure Rep (D : DU) (es : AL Tx) : Prop where
  isMap : IsMap D
  has : ∀ q : Nm, Maps.has D (.string q) = (get es q).isSome
  at_ : ∀ (q : Nm) (x : Tx), get es q = some x → ∀ z, D.atKey (.string q) z = dg x.g
theorem ne_str {q r : Nm} (h : r ≠ q) : (Lit.string r) ≠ .string q := fun e => h (by injection e)
theorem Rep.nil : Rep (.map []) [] := ⟨isMap_empty, fun _ => rfl, fun q x h => by cases h⟩
theorem Rep.put {D : DU} {es : AL Tx} (h : Rep D es) (q : Nm) (x : Tx) : Rep (D.put (.string q) (dg x.g)) (al.put es q x) := by
  refine ⟨h.isMap.put _ _, fun r => ?_, fun r y hy z => ?_⟩
  · by_cases e : r = q
    · subst e; rw [get_put_same, has_put_same h.isMap (by simp [WideAt.IsKeyLit])]; rfl
    · rw [get_put_other _ e, has_put_other (ne_str e), h.has]
  · by_cases e : r = q
    · subst e; rw [get_put_same] at hy; injection hy with hy; subst hy
      exact atKey_put_same h.isMap (by simp [WideAt.IsKeyLit]) _ _
    · rw [get_put_other _ e] at hy
      rw [atKey_put_other (ne_str e)]; exact h.at_ r y hy z
theorem Rep.same {D : DU} {es : AL Tx} (h : Rep D es) {q : Nm} {x y : Tx} (hx : get es q = some x) (hg : y.g = x.g) : Rep D (al.put es q y) := by
  refine ⟨h.isMap, fun r => ?_, fun r z hz => ?_⟩
  · by_cases e : r = q
    · subst e; rw [get_put_same, h.has, hx]; rfl
    · rw [get_put_other _ e, h.has]
  · by_cases e : r = q
    · subst e; rw [get_put_same] at hz; injection hz with hz; subst hz
      rw [hg]; exact h.at_ r x hx
    · rw [get_put_other _ e] at hz; exact h.at_ r z hz
theorem Rep.del {D : DU} {es : AL Tx} (h : Rep D es) (q : Nm) : Rep (D.del (.string q)) (al.del es q) := by
  refine ⟨h.isMap.del _, fun r => ?_, fun r y hy z => ?_⟩
  · by_cases e : r = q
    · subst e; rw [get_del_same, has_del_same]; rfl
    · rw [get_del_other e, has_del_other (ne_str e), h.has]
  · by_cases e : r = q
    · subst e; rw [get_del_same] at hy; cases hy
    · rw [get_del_other e] at hy
      rw [atKey_del_other (ne_str e)]; exact h.at_ r y hy z
theorem law : Keyed Tryz.prog 9 := string_keyed Tryz.underlying9
theorem zeroT (w : World) : (zeroValue 126).run Tryz.prog w = .ok (.pointer none) w := by kernel_rfl
/-- the names, in whatever order -/
theorem Rep.names {D : DU} {es : AL Tx} {w : World} {b n : Nat} (h : Rep D es) (hs : Srt es) (hown : w.ownsMap Tryz.prog 9 pe b n D) : (es.map (·.1)).Perm (strKeys D) := by
  refine Collected.perm (left := fun _ => false) ⟨?_, fun x => ?_⟩ hown law Tryz.underlying9 (fun _ => rfl)
  · exact (srt_names hs).imp fun h1 e => nm_ne h1 e
  · rw [h.has]
    constructor
    · intro hx
      obtain ⟨p, hp, rfl⟩ := List.mem_map.1 hx
      rw [get_mem hs (x := p.2) (by simpa using hp)]
      exact ⟨rfl, rfl⟩
    · rintro ⟨hx, _⟩
      obtain ⟨y, hy⟩ := Option.isSome_iff_exists.1 hx
      exact List.mem_map.2 ⟨(x, y), mem_get hy, rfl⟩
theorem Rep.tight {D : DU} {es : AL Tx} {w : World} {b n : Nat} (h : Rep D es) (hs : Srt es) (hown : w.ownsMap Tryz.prog 9 pe b n D) : w.ownsMap Tryz.prog 9 pe b es.length D := by
  have hp := (h.names hs hown).length_eq
  obtain ⟨es0, clock, hb, F, hle, hD⟩ := hown
  refine ⟨es0, clock, hb, F, ?_, hD⟩
  rw [hD] at hp
  simp only [strKeys, List.length_map, length_sorted] at hp
  have : es0.size = es0.toList.length := by simp
  omega
theorem own_map_chg {D : DU} {w w' : World} {b n : Nat} {S : Nat → Prop} (h : w.ownsMap Tryz.prog 9 pe b n D) (hc : Chg S w w') (hn : ¬ S b) : w'.ownsMap Tryz.prog 9 pe b n D := by
  obtain ⟨es, clock, hb, F, hs, hD⟩ := h
  exact ⟨es, clock, hc.blk hb hn, F, hs, hD⟩
def txlen (x : Tx) : Nat := x.s.length
/-- the files at block f -/
structure Fi (w : World) (f mb : Nat) (D : DU) (es : AL Tx) : Prop where
  blk : w.heap[f]? = some (.cells #[.map (some mb), .int .i64 (sum txlen es : Nat)] 109 (0, 0))
  map : w.ownsMap Tryz.prog 9 pe mb es.length D
  rep : Rep D es
  srt : Srt es
  tx : ∀ p ∈ es, IsTx w p.2
  apart : ∀ p ∈ es, ∀ q ∈ es, p.1 ≠ q.1 → ∀ k, p.2.foot k → ¬ q.2.foot k
def Foot (f mb : Nat) (es : AL Tx) (k : Nat) : Prop := k = f ∨ k = mb ∨ ∃ p ∈ es, p.2.foot k
theorem Fi.ne {w : World} {f mb : Nat} {D : DU} {es : AL Tx} (h : Fi w f mb D es) : f ≠ mb := fun e => by
  obtain ⟨es0, clock, hb, _⟩ := h.map
  have := h.blk
  rw [e, hb] at this
  cases this
theorem Fi.neF {w : World} {f mb : Nat} {D : DU} {es : AL Tx} (h : Fi w f mb D es) {p : Nm × Tx} (hp : p ∈ es) : ¬ p.2.foot f ∧ ¬ p.2.foot mb := by
  have h1 := h.tx p hp
  obtain ⟨es0, clock, hb, _⟩ := h.map
  constructor
  · rintro (e | e)
    · subst e; exact blk_type h.blk h1.blk (by decide) rfl
    · obtain ⟨c, fz, hc⟩ := h1.row e
      exact blk_type h.blk hc (by decide) rfl
  · rintro (e | e)
    · subst e; rw [h1.blk] at hb; cases hb
    · obtain ⟨c, fz, hc⟩ := h1.row e
      rw [hc] at hb; cases hb
theorem Fi.lt {w : World} {f mb : Nat} {D : DU} {es : AL Tx} (h : Fi w f mb D es) {k : Nat} (hk : Foot f mb es k) : k < w.heap.size := by
  rcases hk with rfl | rfl | ⟨p, hp, hk⟩
  · exact blk_lt h.blk
  · exact h.map.lt
  · exact (h.tx p hp).lt hk
theorem Fi.chg {S : Nat → Prop} {w w' : World} {f mb : Nat} {D : DU} {es : AL Tx} (h : Fi w f mb D es) (hc : Chg S w w') (hS : ∀ k, Foot f mb es k → ¬ S k) : Fi w' f mb D es :=
  ⟨hc.blk h.blk (hS _ (.inl rfl)), own_map_chg h.map hc (hS _ (.inr (.inl rfl))), h.rep, h.srt, fun p hp => (h.tx p hp).chg hc fun k hk => hS k (.inr (.inr ⟨p, hp, hk⟩)), h.apart⟩
theorem Fi.look {w : World} {f mb : Nat} {D : DU} {es : AL Tx} (h : Fi w f mb D es) (s : ByteArray) (hl : s.size ≤ maxLen) {x : Tx} (hx : get es s.data.toList = some x) :
    (Instr.lookup 107 (.map (some mb)) (.string s) false).run Tryz.prog w = .ok (.pointer (some ⟨x.g, 0, none⟩)) w := by
  obtain ⟨v, ps, hrun, hv⟩ := h.map.lookup law Tryz.underlying107 (zeroT w) (zd := .nil) (zp := []) rfl (keyOf_string_mk Tryz.underlying9 hl)
  rw [h.rep.at_ _ x hx] at hv
  rw [pe_inv hv] at hrun
  exact hrun
theorem Fi.look0 {w : World} {f mb : Nat} {D : DU} {es : AL Tx} (h : Fi w f mb D es) (s : ByteArray) (hl : s.size ≤ maxLen) (hx : get es s.data.toList = none) :
    (Instr.lookup 107 (.map (some mb)) (.string s) false).run Tryz.prog w = .ok (.pointer none) w := by
  obtain ⟨v, ps, hrun, hv⟩ := h.map.lookup law Tryz.underlying107 (zeroT w) (zd := .nil) (zp := []) rfl (keyOf_string_mk Tryz.underlying9 hl)
  rw [atKey_of_not_has (by rw [h.rep.has, hx]; rfl)] at hv
  rw [pe_nil hv] at hrun
  exact hrun
/-- a text put at a name -/
theorem Fi.put {w w' : World} {f mb n : Nat} {D D' : DU} {es : AL Tx} {q : Nm} {y : Tx} (h : Fi w f mb D es) {S : Nat → Prop} (hc : Chg S w w') (hSf : S f → w'.heap[f]? = some (.cells #[.map (some mb), .int .i64 (sum txlen (al.put es q y) : Nat)] 109 (0, 0)))
    (hf : ¬ S f → sum txlen (al.put es q y) = sum txlen es) (hm : w'.ownsMap Tryz.prog 9 pe mb n D') (hr : Rep D' (al.put es q y)) (hy : IsTx w' y)
    (hS : ∀ p ∈ es, p.1 ≠ q → ∀ k, p.2.foot k → ¬ S k ∧ ¬ y.foot k) : Fi w' f mb D' (al.put es q y) := by
  have hs := srt_put h.srt q y
  have hmem : ∀ p ∈ al.put es q y, p = (q, y) ∨ (p ∈ es ∧ p.1 ≠ q) := fun p hp => by
    by_cases e : p.1 = q
    · have h1 := get_mem hs (q := p.1) (x := p.2) (by simpa using hp)
      rw [e, get_put_same] at h1
      injection h1 with h1
      exact .inl (by rw [← e, h1])
    · rcases mem_put hp with h1 | h1
      · exact absurd (by rw [h1]) e
      · exact .inr ⟨h1, e⟩
  refine ⟨?_, hr.tight hs hm, hr, hs, fun p hp => ?_, fun p hp r hrr hne k hk hk2 => ?_⟩
  · by_cases e : S f
    · exact hSf e
    · rw [hf e]; exact hc.blk h.blk e
  · rcases hmem p hp with rfl | ⟨h1, h2⟩
    · exact hy
    · exact (h.tx p h1).chg hc fun k hk => (hS p h1 h2 k hk).1
  · rcases hmem p hp with rfl | ⟨h1, h2⟩
    · rcases hmem r hrr with rfl | ⟨h3, h4⟩
      · exact hne rfl
      · exact (hS r h3 h4 k hk2).2 hk
    · rcases hmem r hrr with rfl | ⟨h3, h4⟩
      · exact (hS p h1 h2 k hk).2 hk2
      · exact h.apart p h1 r h3 hne k hk hk2
/-- the files as the rest of the disk sees them: within F -/
def Fil (w : World) (f : Nat) (F : Nat → Prop) (fs : AL Nm) : Prop :=
  ∃ mb D es, Fi w f mb D es ∧ fs = mapv Tx.s es ∧ (∀ k, Foot f mb es k → F k) ∧ ∀ k, F k → k < w.heap.size
def Ext (F : Nat → Prop) (w w' : World) (k : Nat) : Prop := F k ∨ (w.heap.size ≤ k ∧ k < w'.heap.size)
theorem Fil.chg {S F : Nat → Prop} {w w' : World} {f : Nat} {fs : AL Nm} (h : Fil w f F fs) (hc : Chg S w w') (hS : ∀ k, F k → ¬ S k) : Fil w' f F fs := by
  obtain ⟨mb, D, es, h1, h2, h3, h4⟩ := h
  exact ⟨mb, D, es, h1.chg hc fun k hk => hS k (h3 k hk), h2, h3, fun k hk => Nat.lt_of_lt_of_le (h4 k hk) hc.size⟩
theorem Fil.mono {F G : Nat → Prop} {w : World} {f : Nat} {fs : AL Nm} (h : Fil w f F fs) (hs : ∀ k, F k → G k) (hG : ∀ k, G k → k < w.heap.size) : Fil w f G fs := by
  obtain ⟨mb, D, es, h1, h2, h3, h4⟩ := h
  exact ⟨mb, D, es, h1, h2, fun k hk => hs k (h3 k hk), hG⟩
theorem Fil.srt {F : Nat → Prop} {w : World} {f : Nat} {fs : AL Nm} (h : Fil w f F fs) : Srt fs := by
  obtain ⟨mb, D, es, h1, rfl, _⟩ := h
  exact mapv_srt.2 h1.srt
def fsum (fs : AL Nm) : Nat := sum List.length fs
theorem fsum_mapv (es : AL Tx) : fsum (mapv Tx.s es) = sum txlen es := sum_mapv _ _ _
def RetFil (w : World) (f : Nat) (F : Nat → Prop) (fs : AL Nm) (e : Ending) (w' : World) : Prop :=
  e = .returned (.tuple #[]) ∧ Fil w' f (Ext F w w') fs ∧ Chg F w w'
set_option maxRecDepth 100000 in
theorem has_f (w : World) (f : Nat) (F : Nat → Prop) (fs : AL Nm) (s : ByteArray) (h : Fil w f F fs) (hl : s.size ≤ maxLen) :
    Calls Tryz.prog 99 #[.pointer (some ⟨f, 0, none⟩), .string s] w fun e w' => e = .returned (.bool (get fs s.data.toList).isSome) ∧ w = w' := by
  obtain ⟨mb, D, es, h1, rfl, _, _⟩ := h
  have c0 : w.cell? ⟨f, 0, none⟩ = some (.map (some mb)) := by rw [cell_of_row _ _ _ _ _ _ h1.blk]; rfl
  rw [mapv_get]
  cases hq : get es s.data.toList with
  | none =>
    have hk := h1.look0 s hl hq
    clear h1 hq
    go_enter Tryz.func99, Tryz.ntmps99
    go_wp2_with fail
    go_ret
    exact ⟨rfl, rfl⟩
  | some x =>
    have hk := h1.look s hl hq
    clear h1 hq
    go_enter Tryz.func99, Tryz.ntmps99
    go_wp2_with fail
    go_ret
    exact ⟨rfl, rfl⟩
end Go.Proofs.YtnjdondkggkfoaaGreat.dk
/-
  What the program does with its files.
-/
namespace Go.Proofs.YtnjdondkggkfoaaGreat.dk
open Go.ChangeShapes Go.WideShapes Go.ChangeAt Go.RowKit Go.Maps Go.Sort plain words ord mem al
open Go.WideMaps (keyOf_string_mk)

theorem Fil.ext {F : Nat → Prop} {w w' : World} {f mb : Nat} {D : DU} {es : AL Tx} (h : Fi w' f mb D es) (hF : ∀ k, F k → k < w.heap.size) (hs : w.heap.size ≤ w'.heap.size) (hnew : ∀ k, Foot f mb es k → F k ∨ w.heap.size ≤ k) : Fil w' f (Ext F w w') (mapv Tx.s es) :=
  ⟨mb, D, es, h, rfl, fun k hk => (hnew k hk).imp id (fun e => ⟨e, h.lt hk⟩), fun k hk => by
    rcases hk with e | e
    · exact Nat.lt_of_lt_of_le (hF k e) hs
    · exact e.2⟩
/-- what a read answers -/
def ans (o : Option Nm) : Value := match o with
  | some t => .tuple #[.string ⟨t.toArray⟩, .bool true]
  | none => .tuple #[.string ⟨#[]⟩, .bool false]
set_option maxRecDepth 100000 in
theorem read_f (w : World) (f : Nat) (F : Nat → Prop) (fs : AL Nm) (s : ByteArray) (h : Fil w f F fs) (hl : s.size ≤ maxLen) :
    Calls Tryz.prog 60 #[.pointer (some ⟨f, 0, none⟩), .string s] w fun e w' => e = .returned (ans (get fs s.data.toList)) ∧ Fil w' f F fs ∧ Chg F w w' := by
  have HH := Lib.hid h
  obtain ⟨mb, D, es, h1, rfl, h3, h4⟩ := h
  have c0 : w.cell? ⟨f, 0, none⟩ = some (.map (some mb)) := by rw [cell_of_row _ _ _ _ _ _ h1.blk]; rfl
  rw [mapv_get]
  cases hq : get es s.data.toList with
  | none =>
    have hk := h1.look0 s hl hq
    clear h1 hq h3 h4
    go_enter Tryz.func60, Tryz.ntmps60
    go_wp2_with fail
    go_ret2
    exact ⟨rfl, HH.out, Chg.refl _ _⟩
  | some x =>
    have hk := h1.look s hl hq
    have HS := Lib.hid (string_t w x (h1.tx _ (mem_get hq)))
    have H1 := Lib.hid h1
    have H3 := Lib.hid h3
    have H4 := Lib.hid h4
    have HQ := Lib.hid hq
    clear h1 hq h3 h4
    go_enter Tryz.func60, Tryz.ntmps60
    go_wp2_with fail
    refine HS.out.mono ?_
    rintro e w1 ⟨rfl, ht, hc⟩
    have HT := Lib.hid ht
    have HC := Lib.hid hc
    clear ht hc HS hk
    go_wp2_with fail
    go_ret2
    refine ⟨rfl, ⟨mb, D, es, ?_, rfl, H3.out, fun k hk => Nat.lt_of_lt_of_le (H4.out k hk) HC.out.size⟩, HC.out.mono fun k _ e => H3.out k (.inr (.inr ⟨_, mem_get HQ.out, .inr e⟩))⟩
    have hm := mem_get HQ.out
    have hn := H1.out.neF hm
    refine ⟨HC.out.blk H1.out.blk (fun e => hn.1 (.inr e)), own_map_chg H1.out.map HC.out (fun e => hn.2 (.inr e)), H1.out.rep, H1.out.srt, fun p hp => ?_, H1.out.apart⟩
    by_cases e : p.1 = s.data.toList
    · have := get_mem H1.out.srt (q := p.1) (x := p.2) (by simpa using hp)
      rw [e, HQ.out] at this
      injection this with this
      rw [← this]; exact HT.out
    · exact (H1.out.tx p hp).chg HC.out fun k hk e' => H1.out.apart p hp _ hm e k hk (.inr e')
set_option maxRecDepth 100000 in
theorem new_f (w : World) :
    Calls Tryz.prog 33 #[] w fun e w' => ∃ f, e = .returned (.pointer (some ⟨f, 0, none⟩)) ∧ w.heap.size ≤ f ∧ Fil w' f (fun k => w.heap.size ≤ k ∧ k < w'.heap.size) [] ∧ Below w.heap.size w w' := by
  have hmm := @run_makeMap Tryz.prog
  go_enter Tryz.func33, Tryz.ntmps33
  go_wp2_with fail
  go_ret
  have hown := World.ownsMap_made w Tryz.prog 9 pe
  have hb : Below w.heap.size w ((w.alloc (.map #[] 0)).alloc (.cells #[.map (some w.heap.size), .int .i64 0] 109)) := ((Below.refl _ _).alloc (Nat.le_refl _) _).alloc (by simp) _
  have hf : Fi ((w.alloc (.map #[] 0)).alloc (.cells #[.map (some w.heap.size), .int .i64 0] 109)) (w.heap.size + 1) w.heap.size (.map []) [] :=
    ⟨by have := alloc_new (w.alloc (.map #[] 0)) (.cells #[.map (some w.heap.size), .int .i64 0] 109); rw [show (w.alloc (.map #[] 0)).heap.size = w.heap.size + 1 by simp] at this; exact this, hown.alloc _, Rep.nil, .nil, fun p hp => (by cases hp), fun p hp => (by cases hp)⟩
  refine ⟨w.heap.size + 1, rfl, by omega, ⟨w.heap.size, _, [], hf, rfl, fun k hk => ⟨?_, hf.lt hk⟩, fun k hk => hk.2⟩, hb⟩
  rcases hk with rfl | rfl | ⟨p, hp, _⟩
  · omega
  · exact Nat.le_refl _
  · cases hp
set_option maxRecDepth 100000 in
set_option maxHeartbeats 1000000 in
theorem add_f (w : World) (f : Nat) (F : Nat → Prop) (fs : AL Nm) (s t : ByteArray) (h : Fil w f F fs) (hl : s.size ≤ maxLen) (hbig : fsum fs + t.size ≤ 1099511627776) (hfew : fs.length < 1099511627776) :
    Calls Tryz.prog 90 #[.pointer (some ⟨f, 0, none⟩), .string s, .string t] w (RetFil w f F (al.put fs s.data.toList ((get fs s.data.toList).getD [] ++ t.data.toList))) := by
  have HH := Lib.hid (has_f w f F fs s h hl)
  obtain ⟨mb, D, es, h1, rfl, h3, h4⟩ := h
  rw [fsum_mapv] at hbig
  have hfew' : es.length < 1099511627776 := by simpa [mapv] using hfew
  have H1 := Lib.hid h1
  have H3 := Lib.hid h3
  have LT := Lib.hid h4
  have HKEY := Lib.hid (keyOf_string_mk (k := 9) Tryz.underlying9 hl)
  clear hfew
  cases hq : get es s.data.toList with
  | none =>
    have HQ := Lib.hid hq
    have hhas : (get (mapv Tx.s es) s.data.toList).isSome = false := by rw [mapv_get, hq]; rfl
    have HAS := Lib.hid hhas
    have c0 : w.cell? ⟨f, 0, none⟩ = some (.map (some mb)) := by rw [cell_of_row _ _ _ _ _ _ h1.blk]; rfl
    have hown1 := h1.map.alloc (.cells #[.pointer none, .slice none 0 0] 145)
    have hfl0 : f < w.heap.size := blk_lt h1.blk
    have hml0 : mb < w.heap.size := h1.map.lt
    have hkey := HKEY.out
    clear h1 h3 h4 hq hhas
    go_enter Tryz.func90, Tryz.ntmps90
    go_wp2_with fail
    refine HH.out.mono ?_
    rintro e w1 ⟨rfl, rfl⟩
    rw [HAS.out]
    clear HH
    go_wp2_with (at_mapUpdate; refine wpList_mapUpdate_own _ rfl _ _ _ 107 rfl 9 126 law Tryz.underlying107 pe mb es.length D rfl hown1 (by unfold maxLen; omega) _ _ _ rfl rfl hkey (dg w.heap.size) [] rfl ?_)
    intro w2 hown2 hgrow2
    obtain ⟨x2, hx2⟩ : ∃ x2 : Tx, x2 = ⟨w.heap.size, .pointer none, .slice none 0 0, []⟩ := ⟨_, rfl⟩
    obtain ⟨es2, hes2⟩ : ∃ es2, al.put es s.data.toList x2 = es2 := ⟨_, rfl⟩
    have hc02 : Chg (fun k => k = mb) w w2 := ((Chg.refl _ _).alloc _).grown hgrow2 (fun k hk _ => by cases hk; rfl)
    have hsz2 : w.heap.size < w2.heap.size := by have := hgrow2.size; simp at this; omega
    have hx0 : IsTx w2 x2 := by
      rw [hx2]
      refine ⟨?_, World.ownsRowF_nil _ _ _ _, .inl rfl, fun _ => rfl⟩
      rw [hgrow2.block w.heap.size (by simp) (fun e => by injection e with e; omega)]
      exact alloc_new _ _
    have h2 : Fi w2 f mb (D.put (.string s.data.toList) (dg w.heap.size)) es2 := by
      rw [← hes2]
      refine H1.out.put hc02 (fun e => absurd e H1.out.ne) (fun _ => ?_) hown2 ?_ hx0 fun p hp _ k hk => ⟨fun e => ?_, fun e => ?_⟩
      · rw [sum_put_new HQ.out, hx2]; rfl
      · have := H1.out.rep.put s.data.toList x2
        rw [hx2] at this ⊢
        exact this
      · subst e; exact (H1.out.neF hp).2 hk
      · have := (H1.out.tx p hp).lt hk
        rw [hx2] at e
        rcases e with e | e
        · simp at e; omega
        · cases e
    have hgx : get es2 s.data.toList = some x2 := by rw [← hes2, get_put_same]
    have hlen2 : x2.s.length + sum txlen es2 + t.size ≤ 1099511627776 := by
      rw [← hes2, sum_put_new HQ.out, hx2]; show 0 + (_ + 0) + _ ≤ _; omega
    have H2 := Lib.hid h2
    have HX2 := Lib.hid hgx
    have hs02 : w.heap.size ≤ w2.heap.size := by omega
    have NEW := Lib.hid (show ∀ k, Foot f mb es2 k → F k ∨ w.heap.size ≤ k from fun k hk => by
      rw [← hes2] at hk
      rcases hk with e | e | ⟨p, hp, hk⟩
      · exact .inl (H3.out k (.inl e))
      · exact .inl (H3.out k (.inr (.inl e)))
      · rcases mem_put hp with rfl | hp
        · rw [hx2] at hk
          rcases hk with e | e
          · exact .inr (Nat.le_of_eq e.symm)
          · cases e
        · exact .inl (H3.out k (.inr (.inr ⟨p, hp, hk⟩))))
    have SAME := Lib.hid (show al.put (mapv Tx.s es) s.data.toList (((get (mapv Tx.s es) s.data.toList).getD []) ++ t.data.toList) = al.put (mapv Tx.s es2) s.data.toList (x2.s ++ t.data.toList) from by
      rw [← hes2, mapv_put, put_put _ _ _ _ (mapv_srt.2 H1.out.srt), mapv_get, HQ.out, hx2]; rfl)
    have C02 := Lib.hid (hc02.mono (S' := F) fun k _ e => by subst e; exact H3.out k (.inr (.inl rfl)))
    clear hown2 hgrow2 hc02 hx0 h2 hgx hx2 hes2 hown1 hkey c0
    have look := H2.out.look s hl HX2.out
    have HW := Lib.hid (write_t w2 x2 t (H2.out.tx _ (mem_get HX2.out)) (by have := hlen2; omega))
    have hb2 := H2.out.blk
    have c0 : w2.cell? ⟨f, 0, none⟩ = some (.map (some mb)) := by rw [cell_of_row _ _ _ _ _ _ hb2]; rfl
    have hfl : f < w2.heap.size := blk_lt hb2
    clear hb2
    go_wp2_with fail
    refine HW.out.mono ?_
    rintro e w3 ⟨_, y, rfl, hyg, hys, hy, hcy, hyf⟩
    have hnf := (H2.out.neF (mem_get HX2.out)).1
    have hb3 := hcy.blk H2.out.blk hnf
    have d1 : w3.cell? ⟨f, 1, none⟩ = some (.int .i64 (sum txlen es2 : Nat)) := by rw [cell_of_row _ _ _ _ _ _ hb3]; rfl
    have f1 : w3.frozen? ⟨f, 1, none⟩ = false := by simp [World.frozen?, hb3]
    have hfl3 : f < w3.heap.size := blk_lt hb3
    have HY := Lib.hid hy
    have HCY := Lib.hid hcy
    have HYF := Lib.hid hyf
    have HYS := Lib.hid hys
    have HYG := Lib.hid hyg
    have HB3 := Lib.hid hb3
    have HNF := Lib.hid hnf
    have hz1 : IntKind.i64.wrap (((sum txlen es2 : Nat) : Int) + (t.size : Int)) = ((sum txlen es2 + t.size : Nat) : Int) := by rw [IntWalk.i64_in _ (by omega)]; omega
    have hcw : Chg (fun k => x2.foot k ∨ k = f) w2 (w3.setCell ⟨f, 1, none⟩ (.int .i64 ((sum txlen es2 + t.size : Nat) : Int))) := (hcy.mono (fun _ _ e => .inl e)).trans (chg_set _ _ _ _) (fun _ _ e => .inr e)
    have CW := Lib.hid hcw
    clear hb3 hy hcy hyf hys hyg hnf hcw HW look
    go_wp2_with fail
    go_end0
    have hst := sum_put_old (f := txlen) (x := y) H2.out.srt HX2.out
    have hty : txlen y = txlen x2 + t.size := by show y.s.length = x2.s.length + t.size; rw [HYS.out, List.length_append]; have : t.data.toList.length = t.size := (by show _ = t.data.size; simp); rw [this]
    have hsum : sum txlen (al.put es2 s.data.toList y) = sum txlen es2 + t.size := by omega
    have hfi := H2.out.put (q := s.data.toList) (y := y) CW.out (fun _ => by rw [hsum]; simp [World.setCell, Array.getElem?_modify, HB3.out]) (fun e => absurd (.inr rfl) e) (own_map_chg H2.out.map CW.out (fun e => by
        rcases e with e | e
        · exact (H2.out.neF (mem_get HX2.out)).2 e
        · exact H2.out.ne e.symm)) (H2.out.rep.same HX2.out HYG.out) (HY.out.chg (chg_set _ _ _ _) (fun k hk e => by
          subst e
          rcases HYF.out k hk with e | e
          · exact HNF.out e
          · omega)) (fun p hp hne k hk => ⟨fun e => by
            rcases e with e | e
            · exact H2.out.apart p hp _ (mem_get HX2.out) hne k hk e
            · subst e; exact (H2.out.neF hp).1 hk, fun e => by
            rcases HYF.out k e with e | e
            · exact H2.out.apart p hp _ (mem_get HX2.out) hne k hk e
            · have := (H2.out.tx p hp).lt hk; omega⟩)
    have hnew : ∀ k, Foot f mb (al.put es2 s.data.toList y) k → F k ∨ w.heap.size ≤ k := fun k hk => by
      rcases hk with e | e | ⟨p, hp, hk⟩
      · exact NEW.out k (.inl e)
      · exact NEW.out k (.inr (.inl e))
      · rcases mem_put hp with rfl | hp
        · rcases HYF.out k hk with e | e
          · exact NEW.out k (.inr (.inr ⟨_, mem_get HX2.out, e⟩))
          · exact .inr (Nat.le_trans hs02 e)
        · exact NEW.out k (.inr (.inr ⟨p, hp, hk⟩))
    refine ⟨rfl, ?_, ?_⟩
    · have := Fil.ext hfi LT.out (Nat.le_trans hs02 CW.out.size) hnew
      rw [mapv_put, HYS.out] at this
      rw [show al.put (mapv Tx.s es) s.data.toList (((get (mapv Tx.s es) s.data.toList).getD []) ++ t.data.toList) = al.put (mapv Tx.s es2) s.data.toList (x2.s ++ t.data.toList) from SAME.out]
      exact this
    · refine C02.out.trans CW.out fun k hk e => ?_
      rcases e with e | e
      · rcases NEW.out k (.inr (.inr ⟨_, mem_get HX2.out, e⟩)) with e | e
        · exact e
        · omega
      · subst e
        rcases NEW.out k (.inl rfl) with e | e
        · exact e
        · omega
  | some x2 =>
    have hhas : (get (mapv Tx.s es) s.data.toList).isSome = true := by rw [mapv_get, hq]; rfl
    have HAS := Lib.hid hhas
    have HX2 := Lib.hid hq
    have hle := sum_put_old (f := txlen) (x := (⟨0, .nilIface, .nilIface, []⟩ : Tx)) h1.srt hq
    have hle2 : x2.s.length + sum txlen es + t.size ≤ 2199023255552 := by
      simp only [txlen, List.length_nil] at hle; omega
    clear h1 h3 h4 hq hhas hle
    go_enter Tryz.func90, Tryz.ntmps90
    go_wp2_with fail
    refine HH.out.mono ?_
    rintro e w2 ⟨rfl, rfl⟩
    rw [HAS.out]
    clear HH
    obtain ⟨es2, hes2⟩ : ∃ es2, es = es2 := ⟨_, rfl⟩
    have hlen2 : x2.s.length + sum txlen es2 + t.size ≤ 2199023255552 := by rw [← hes2]; exact hle2
    have H2 := Lib.hid (show Fi w f mb D es2 from hes2 ▸ H1.out)
    have HX2 := Lib.hid (show get es2 s.data.toList = some x2 from hes2 ▸ HX2.out)
    have NEW := Lib.hid (show ∀ k, Foot f mb es2 k → F k ∨ w.heap.size ≤ k from fun k hk => .inl (H3.out k (hes2 ▸ hk)))
    have SAME := Lib.hid (show al.put (mapv Tx.s es) s.data.toList (((get (mapv Tx.s es) s.data.toList).getD []) ++ t.data.toList) = al.put (mapv Tx.s es2) s.data.toList (x2.s ++ t.data.toList) from by
      rw [hes2, mapv_get, HX2.out]; rfl)
    have C02 := Lib.hid (Chg.refl F w)
    have hs02 : w.heap.size ≤ w.heap.size := Nat.le_refl _
    clear hes2 hle2
    have look := H2.out.look s hl HX2.out
    have HW := Lib.hid (write_t w x2 t (H2.out.tx _ (mem_get HX2.out)) (by have := hlen2; omega))
    have hb2 := H2.out.blk
    have c0 : w.cell? ⟨f, 0, none⟩ = some (.map (some mb)) := by rw [cell_of_row _ _ _ _ _ _ hb2]; rfl
    have hfl : f < w.heap.size := blk_lt hb2
    clear hb2
    go_wp2_with fail
    refine HW.out.mono ?_
    rintro e w3 ⟨_, y, rfl, hyg, hys, hy, hcy, hyf⟩
    have hnf := (H2.out.neF (mem_get HX2.out)).1
    have hb3 := hcy.blk H2.out.blk hnf
    have d1 : w3.cell? ⟨f, 1, none⟩ = some (.int .i64 (sum txlen es2 : Nat)) := by rw [cell_of_row _ _ _ _ _ _ hb3]; rfl
    have f1 : w3.frozen? ⟨f, 1, none⟩ = false := by simp [World.frozen?, hb3]
    have hfl3 : f < w3.heap.size := blk_lt hb3
    have HY := Lib.hid hy
    have HCY := Lib.hid hcy
    have HYF := Lib.hid hyf
    have HYS := Lib.hid hys
    have HYG := Lib.hid hyg
    have HB3 := Lib.hid hb3
    have HNF := Lib.hid hnf
    have hz1 : IntKind.i64.wrap (((sum txlen es2 : Nat) : Int) + (t.size : Int)) = ((sum txlen es2 + t.size : Nat) : Int) := by rw [IntWalk.i64_in _ (by omega)]; omega
    have hcw : Chg (fun k => x2.foot k ∨ k = f) w (w3.setCell ⟨f, 1, none⟩ (.int .i64 ((sum txlen es2 + t.size : Nat) : Int))) := (hcy.mono (fun _ _ e => .inl e)).trans (chg_set _ _ _ _) (fun _ _ e => .inr e)
    have CW := Lib.hid hcw
    clear hb3 hy hcy hyf hys hyg hnf hcw HW look
    go_wp2_with fail
    go_end0
    have hst := sum_put_old (f := txlen) (x := y) H2.out.srt HX2.out
    have hty : txlen y = txlen x2 + t.size := by show y.s.length = x2.s.length + t.size; rw [HYS.out, List.length_append]; have : t.data.toList.length = t.size := (by show _ = t.data.size; simp); rw [this]
    have hsum : sum txlen (al.put es2 s.data.toList y) = sum txlen es2 + t.size := by omega
    have hfi := H2.out.put (q := s.data.toList) (y := y) CW.out (fun _ => by rw [hsum]; simp [World.setCell, Array.getElem?_modify, HB3.out]) (fun e => absurd (.inr rfl) e) (own_map_chg H2.out.map CW.out (fun e => by
        rcases e with e | e
        · exact (H2.out.neF (mem_get HX2.out)).2 e
        · exact H2.out.ne e.symm)) (H2.out.rep.same HX2.out HYG.out) (HY.out.chg (chg_set _ _ _ _) (fun k hk e => by
          subst e
          rcases HYF.out k hk with e | e
          · exact HNF.out e
          · omega)) (fun p hp hne k hk => ⟨fun e => by
            rcases e with e | e
            · exact H2.out.apart p hp _ (mem_get HX2.out) hne k hk e
            · subst e; exact (H2.out.neF hp).1 hk, fun e => by
            rcases HYF.out k e with e | e
            · exact H2.out.apart p hp _ (mem_get HX2.out) hne k hk e
            · have := (H2.out.tx p hp).lt hk; omega⟩)
    have hnew : ∀ k, Foot f mb (al.put es2 s.data.toList y) k → F k ∨ w.heap.size ≤ k := fun k hk => by
      rcases hk with e | e | ⟨p, hp, hk⟩
      · exact NEW.out k (.inl e)
      · exact NEW.out k (.inr (.inl e))
      · rcases mem_put hp with rfl | hp
        · rcases HYF.out k hk with e | e
          · exact NEW.out k (.inr (.inr ⟨_, mem_get HX2.out, e⟩))
          · exact .inr (Nat.le_trans hs02 e)
        · exact NEW.out k (.inr (.inr ⟨p, hp, hk⟩))
    refine ⟨rfl, ?_, ?_⟩
    · have := Fil.ext hfi LT.out (Nat.le_trans hs02 CW.out.size) hnew
      rw [mapv_put, HYS.out] at this
      rw [show al.put (mapv Tx.s es) s.data.toList (((get (mapv Tx.s es) s.data.toList).getD []) ++ t.data.toList) = al.put (mapv Tx.s es2) s.data.toList (x2.s ++ t.data.toList) from SAME.out]
      exact this
    · refine C02.out.trans CW.out fun k hk e => ?_
      rcases e with e | e
      · rcases NEW.out k (.inr (.inr ⟨_, mem_get HX2.out, e⟩)) with e | e
        · exact e
        · omega
      · subst e
        rcases NEW.out k (.inl rfl) with e | e
        · exact e
        · omega
end Go.Proofs.YtnjdondkggkfoaaGreat.dk
/-
  The library's contracts laid at this program (printed by the kit's tool, by names).
-/
namespace Go.Proofs.YtnjdondkggkfoaaGreat.dk
open Go.Shelf
def keysM_ren : Go.Shelf.Ren := ⟨fun | 7 => 82 | 10 => 106 | n => n, fun | 23 => 107 | 26 => 9 | 3 => 126 | 28 => 124 | 0 => 0 | 27 => 123 | 33 => 132 | 4 => 4 | n => n, fun | n => n⟩
theorem keysM : Go.Proofs.SlLaysZ.n7 Tryz.prog keysM_ren := {
  mixed := by kernel_rfl
  f7 := ⟨Tryz.f82.name, by decide, Tryz.func82.trans (congrArg some (by kernel_rfl))⟩
  f10 := ⟨Tryz.f106.name, by decide, Tryz.func106.trans (congrArg some (by kernel_rfl))⟩
  t0 := Tryz.underlying0
  a0 := Tryz.isAgg0
  z0 := Tryz.sizeOf0
  v0 := Tryz.zeroValue0
  t4 := Tryz.underlying4
  a4 := Tryz.isAgg4
  z4 := Tryz.sizeOf4
  v4 := Tryz.zeroValue4
  t23 := Tryz.underlying107
  a23 := Tryz.isAgg107
  z23 := Tryz.sizeOf107
  v23 := Tryz.zeroValue107
  t26 := Tryz.underlying9
  a26 := Tryz.isAgg9
  z26 := Tryz.sizeOf9
  v26 := Tryz.zeroValue9
  t27 := Tryz.underlying123
  a27 := Tryz.isAgg123
  z27 := Tryz.sizeOf123
  v27 := Tryz.zeroValue123
  t28 := Tryz.underlying124
  a28 := Tryz.isAgg124
  z28 := Tryz.sizeOf124
  v28 := Tryz.zeroValue124
  t33 := Tryz.underlying132
  a33 := Tryz.isAgg132
  z33 := Tryz.sizeOf132
  v33 := Tryz.zeroValue132 }
def sortedM_ren : Go.Shelf.Ren := ⟨fun | 6 => 81 | 8 => 104 | 9 => 105 | 11 => 113 | 13 => 115 | 12 => 114 | 23 => 129 | 24 => 130 | 14 => 120 | 15 => 121 | 16 => 122 | 17 => 123 | 18 => 124 | 19 => 125 | 20 => 126 | 21 => 127 | 22 => 128 | 25 => 132 | 26 => 133 | 27 => 134 | 28 => 135 | 29 => 136 | 30 => 137 | 31 => 138 | n => n, fun | 26 => 9 | 28 => 124 | 24 => 43 | 0 => 0 | 3 => 3 | 37 => 140 | 48 => 167 | 50 => 83 | 4 => 4 | 40 => 160 | 39 => 159 | 45 => 127 | 5 => 5 | 9 => 9 | 51 => 171 | 55 => 175 | 57 => 177 | 58 => 114 | 33 => 132 | n => n, fun | n => n⟩
theorem sortedM : Go.Proofs.SlLaysZ.n6 Tryz.prog sortedM_ren := {
  mixed := by kernel_rfl
  f6 := ⟨Tryz.f81.name, by decide, Tryz.func81.trans (congrArg some (by kernel_rfl))⟩
  f8 := ⟨Tryz.f104.name, by decide, Tryz.func104.trans (congrArg some (by kernel_rfl))⟩
  f11 := ⟨Tryz.f113.name, by decide, Tryz.func113.trans (congrArg some (by kernel_rfl))⟩
  t0 := Tryz.underlying0
  a0 := Tryz.isAgg0
  z0 := Tryz.sizeOf0
  v0 := Tryz.zeroValue0
  t24 := Tryz.underlying43
  a24 := Tryz.isAgg43
  z24 := Tryz.sizeOf43
  v24 := Tryz.zeroValue43
  t26 := Tryz.underlying9
  a26 := Tryz.isAgg9
  z26 := Tryz.sizeOf9
  v26 := Tryz.zeroValue9
  t28 := Tryz.underlying124
  a28 := Tryz.isAgg124
  z28 := Tryz.sizeOf124
  v28 := Tryz.zeroValue124
  i26 := by kernel_rfl }
def sortM_ren : Go.Shelf.Ren := ⟨fun | 6 => 105 | 8 => 115 | 9 => 114 | 19 => 129 | 20 => 130 | 21 => 120 | 22 => 121 | 23 => 122 | 24 => 123 | 25 => 124 | 26 => 125 | 27 => 126 | 28 => 127 | 29 => 128 | 36 => 132 | 31 => 133 | 32 => 134 | 37 => 135 | 38 => 136 | 39 => 137 | 41 => 138 | n => n, fun | 27 => 43 | 29 => 9 | 3 => 3 | 32 => 140 | 26 => 43 | 0 => 0 | 44 => 167 | 46 => 83 | 4 => 4 | 36 => 160 | 35 => 159 | 41 => 127 | 5 => 5 | 9 => 9 | 53 => 171 | 57 => 175 | 63 => 177 | 64 => 114 | n => n, fun | n => n⟩
theorem sortM : Go.Proofs.SlLaysM.n6 Tryz.prog sortM_ren := {
  mixed := by kernel_rfl
  f6 := ⟨Tryz.f105.name, by decide, Tryz.func105.trans (congrArg some (by kernel_rfl))⟩
  f8 := Tryz.func115.trans (congrArg some (by kernel_rfl))
  f9 := ⟨Tryz.f114.name, by decide, Tryz.func114.trans (congrArg some (by kernel_rfl))⟩
  f19 := Tryz.func129.trans (congrArg some (by kernel_rfl))
  f20 := Tryz.func130.trans (congrArg some (by kernel_rfl))
  f21 := ⟨Tryz.f120.name, by decide, Tryz.func120.trans (congrArg some (by kernel_rfl))⟩
  f22 := ⟨Tryz.f121.name, by decide, Tryz.func121.trans (congrArg some (by kernel_rfl))⟩
  f23 := ⟨Tryz.f122.name, by decide, Tryz.func122.trans (congrArg some (by kernel_rfl))⟩
  f24 := ⟨Tryz.f123.name, by decide, Tryz.func123.trans (congrArg some (by kernel_rfl))⟩
  f25 := ⟨Tryz.f124.name, by decide, Tryz.func124.trans (congrArg some (by kernel_rfl))⟩
  f26 := ⟨Tryz.f125.name, by decide, Tryz.func125.trans (congrArg some (by kernel_rfl))⟩
  f27 := ⟨Tryz.f126.name, by decide, Tryz.func126.trans (congrArg some (by kernel_rfl))⟩
  f28 := ⟨Tryz.f127.name, by decide, Tryz.func127.trans (congrArg some (by kernel_rfl))⟩
  f29 := ⟨Tryz.f128.name, by decide, Tryz.func128.trans (congrArg some (by kernel_rfl))⟩
  f31 := Tryz.func133.trans (congrArg some (by kernel_rfl))
  f32 := Tryz.func134.trans (congrArg some (by kernel_rfl))
  f36 := ⟨Tryz.f132.name, by decide, Tryz.func132.trans (congrArg some (by kernel_rfl))⟩
  f37 := ⟨Tryz.f135.name, by decide, Tryz.func135.trans (congrArg some (by kernel_rfl))⟩
  f38 := ⟨Tryz.f136.name, by decide, Tryz.func136.trans (congrArg some (by kernel_rfl))⟩
  f39 := ⟨Tryz.f137.name, by decide, Tryz.func137.trans (congrArg some (by kernel_rfl))⟩
  f41 := ⟨Tryz.f138.name, by decide, Tryz.func138.trans (congrArg some (by kernel_rfl))⟩
  t0 := Tryz.underlying0
  a0 := Tryz.isAgg0
  z0 := Tryz.sizeOf0
  v0 := Tryz.zeroValue0
  t3 := Tryz.underlying3
  a3 := Tryz.isAgg3
  z3 := Tryz.sizeOf3
  v3 := Tryz.zeroValue3
  t4 := Tryz.underlying4
  a4 := Tryz.isAgg4
  z4 := Tryz.sizeOf4
  v4 := Tryz.zeroValue4
  t5 := Tryz.underlying5
  a5 := Tryz.isAgg5
  z5 := Tryz.sizeOf5
  v5 := Tryz.zeroValue5
  t9 := Tryz.underlying9
  a9 := Tryz.isAgg9
  z9 := Tryz.sizeOf9
  v9 := Tryz.zeroValue9
  t26 := Tryz.underlying43
  a26 := Tryz.isAgg43
  z26 := Tryz.sizeOf43
  v26 := Tryz.zeroValue43
  t27 := Tryz.underlying43
  a27 := Tryz.isAgg43
  z27 := Tryz.sizeOf43
  v27 := Tryz.zeroValue43
  t29 := Tryz.underlying9
  a29 := Tryz.isAgg9
  z29 := Tryz.sizeOf9
  v29 := Tryz.zeroValue9
  t32 := Tryz.underlying140
  a32 := Tryz.isAgg140
  z32 := Tryz.sizeOf140
  v32 := Tryz.zeroValue140
  t35 := Tryz.underlying159
  a35 := Tryz.isAgg159
  z35 := Tryz.sizeOf159
  v35 := Tryz.zeroValue159
  t36 := Tryz.underlying160
  a36 := Tryz.isAgg160
  z36 := Tryz.sizeOf160
  v36 := Tryz.zeroValue160
  t41 := Tryz.underlying127
  a41 := Tryz.isAgg127
  z41 := Tryz.sizeOf127
  v41 := Tryz.zeroValue127
  t44 := Tryz.underlying167
  a44 := Tryz.isAgg167
  z44 := Tryz.sizeOf167
  v44 := Tryz.zeroValue167
  t46 := Tryz.underlying83
  a46 := Tryz.isAgg83
  z46 := Tryz.sizeOf83
  v46 := Tryz.zeroValue83
  t53 := Tryz.underlying171
  a53 := Tryz.isAgg171
  z53 := Tryz.sizeOf171
  v53 := Tryz.zeroValue171
  t57 := Tryz.underlying175
  a57 := Tryz.isAgg175
  z57 := Tryz.sizeOf175
  v57 := Tryz.zeroValue175
  t63 := Tryz.underlying177
  a63 := Tryz.isAgg177
  z63 := Tryz.sizeOf177
  v63 := Tryz.zeroValue177
  t64 := Tryz.underlying114
  a64 := Tryz.isAgg114
  z64 := Tryz.sizeOf114
  v64 := Tryz.zeroValue114 }
end Go.Proofs.YtnjdondkggkfoaaGreat.dk
/-
  What the program does with its files: remove, move; their names.
-/
namespace Go.Proofs.YtnjdondkggkfoaaGreat.dk
open Go.ChangeShapes Go.WideShapes Go.ChangeAt Go.RowKit Go.Maps Go.Sort Go.Shelf plain words ord mem al
open Go.WideMaps (keyOf_string_mk)

theorem Fil.keep {F : Nat → Prop} {w w' : World} {f : Nat} {fs : AL Nm} (h : Fil w f F fs) (hb : Below w.heap.size w w') : Fil w' f (Ext F w w') fs := by
  have h1 := h.chg (Chg.of_below hb) (fun _ _ e => e)
  obtain ⟨_, _, _, _, _, _, h4⟩ := h
  exact h1.mono (fun k hk => .inl hk) (fun k hk => by
    rcases hk with e | e
    · exact Nat.lt_of_lt_of_le (h4 k e) hb.size
    · exact e.2)
/-- what is left of the texts, under the same or other names -/
theorem Fi.less {w w' : World} {f mb n : Nat} {D D' : DU} {es es' : AL Tx} (h : Fi w f mb D es) (hc : Chg (fun k => k = f ∨ k = mb) w w') (hb : w'.heap[f]? = some (.cells #[.map (some mb), .int .i64 (sum txlen es' : Nat)] 109 (0, 0)))
    (hm : w'.ownsMap Tryz.prog 9 pe mb n D') (hr : Rep D' es') (hs : Srt es') (hin : ∀ p ∈ es', ∃ p0 ∈ es, p0.2 = p.2)
    (hap : ∀ p ∈ es', ∀ q ∈ es', p.1 ≠ q.1 → ∀ k, p.2.foot k → ¬ q.2.foot k) : Fi w' f mb D' es' := by
  refine ⟨hb, hr.tight hs hm, hr, hs, fun p hp => ?_, hap⟩
  obtain ⟨p0, h0, e⟩ := hin p hp
  rw [← e]
  exact (h.tx p0 h0).chg hc fun k hk e' => by
    rcases e' with e' | e'
    · subst e'; exact (h.neF h0).1 hk
    · subst e'; exact (h.neF h0).2 hk
theorem del_in {α : Type} {l : AL α} {q : Nm} {p : Nm × α} (h : p ∈ al.del l q) : p ∈ l := (mem_del.1 h).1
set_option maxRecDepth 100000 in
set_option maxHeartbeats 1000000 in
theorem remove_f (w : World) (f : Nat) (F : Nat → Prop) (fs : AL Nm) (s : ByteArray) (h : Fil w f F fs) (hl : s.size ≤ maxLen) (hbig : fsum fs ≤ 2199023255552) :
    Calls Tryz.prog 103 #[.pointer (some ⟨f, 0, none⟩), .string s] w (RetFil w f F (al.del fs s.data.toList)) := by
  have HH := Lib.hid (has_f w f F fs s h hl)
  have FH := Lib.hid h
  cases hq : get fs s.data.toList with
  | none =>
    have HD := Lib.hid (del_absent hq)
    rw [hq] at HH
    clear h hq
    go_enter Tryz.func103, Tryz.ntmps103
    go_wp2_with fail
    refine HH.out.mono ?_
    rintro e w1 ⟨rfl, rfl⟩
    clear HH
    simp only [Option.isSome_none]
    go_wp2_with fail
    go_end0
    exact ⟨rfl, by rw [HD.out]; exact FH.out.keep (Below.refl _ _), Chg.refl _ _⟩
  | some t =>
    obtain ⟨mb, D, es, h1, rfl, h3, h4⟩ := h
    have hq0 := hq
    rw [mapv_get] at hq
    obtain ⟨x, hx, rfl⟩ := Option.map_eq_some_iff.1 hq
    rw [hq0] at HH
    rw [fsum_mapv] at hbig
    have hsd := sum_del (f := txlen) h1.srt hx
    obtain ⟨L, hL⟩ : ∃ L, x.s.length = L := ⟨_, rfl⟩
    obtain ⟨T, hT⟩ : ∃ T, sum txlen es = T := ⟨_, rfl⟩
    have hLT : L ≤ T := by rw [← hL, ← hT]; have : txlen x = x.s.length := rfl; omega
    have hsum : sum txlen (al.del es s.data.toList) = T - L := by rw [← hL, ← hT]; have : txlen x = x.s.length := rfl; omega
    have hb0 := h1.blk
    rw [hT] at hb0 hbig
    have c0 : w.cell? ⟨f, 0, none⟩ = some (.map (some mb)) := by rw [cell_of_row _ _ _ _ _ _ hb0]; rfl
    have c1 : w.cell? ⟨f, 1, none⟩ = some (.int .i64 (T : Nat)) := by rw [cell_of_row _ _ _ _ _ _ hb0]; rfl
    have f1 : w.drew.frozen? ⟨f, 1, none⟩ = false := by
      have : w.drew.heap[f]? = _ := hb0
      simp [World.frozen?, this]
    have f1' : w.frozen? ⟨f, 1, none⟩ = false := by simp [World.frozen?, hb0]
    have q0 := Wb.at_ c0
    have q1 := Wb.at_ c1
    have hk : ∀ u : Wb w, (Instr.lookup 107 (.map (some mb)) (.string s) false).run Tryz.prog u.w = .ok (.pointer (some ⟨x.g, 0, none⟩)) u.w := fun u => (h1.chg (Chg.of_below u.h) (fun _ _ e => e)).look s hl hx
    have HLEN := Lib.hid (len_t w.drew x ((h1.tx _ (mem_get hx)).chg (Chg.refl (fun _ => False) _).drew (fun _ _ e => e)))
    rw [hL] at HLEN
    have hw1 : IntKind.i64.wrap ((T : Int) - (L : Int)) = ((T - L : Nat) : Int) := by rw [IntWalk.i64_in _ (by omega)]; omega
    have hfl : f < w.heap.size := blk_lt hb0
    obtain ⟨w2, hw2⟩ : ∃ w2, (w.setCell ⟨f, 1, none⟩ (.int .i64 ((T - L : Nat) : Int))).drew = w2 := ⟨_, rfl⟩
    have hb2 : w2.heap[f]? = some (.cells #[.map (some mb), .int .i64 ((T - L : Nat) : Int)] 109 (0, 0)) := by
      rw [← hw2]
      show (w.setCell ⟨f, 1, none⟩ (.int .i64 ((T - L : Nat) : Int))).heap[f]? = _
      simp [World.setCell, Array.getElem?_modify, hb0]
    have hc2 : Chg (fun k => k = f) w w2 := by rw [← hw2]; exact (chg_set _ _ _ _).drew
    have hown2 := own_map_chg h1.map hc2 (fun e => h1.ne e.symm)
    have d0 : w2.cell? ⟨f, 0, none⟩ = some (.map (some mb)) := by rw [cell_of_row _ _ _ _ _ _ hb2]; rfl
    have hfl2 : f < w2.heap.size := blk_lt hb2
    have hkey := keyOf_string_mk (k := 9) Tryz.underlying9 hl
    have H1 := Lib.hid h1
    have H3 := Lib.hid h3
    have H4 := Lib.hid h4
    have HX := Lib.hid hx
    have SUM := Lib.hid hsum
    have B2 := Lib.hid hb2
    have C2 := Lib.hid hc2
    have W2 := Lib.hid hw2
    clear h1 h3 h4 hx hq hq0 hsd hsum hb0 hb2 hc2 hL hT hw2 c0
    go_enter Tryz.func103, Tryz.ntmps103
    go_wp2_with fail
    refine HH.out.mono ?_
    rintro e w1 ⟨rfl, rfl⟩
    clear HH
    simp only [Option.isSome_some]
    go_wp2_with fail
    refine wp_region_plan [([0, 1, 2, 3, 4, 5, 6, 7, 8, 9], some (10, false)), ([11, 12, 13], some (14, true)), ([], none)] (by kernel_rfl) (by kernel_rfl) ?_
    refine seg_act _ (by dsimp only [pick, at_]) _ (by dsimp only [pick, at_]) ?_
    repeat (go_big_quiet_step (fail))
    refine wpQuiet_nil ?_
    intro K1 g1 g2
    clear g1 q0 q1 hk
    go_wp2_with (fail)
    refine HLEN.out.mono ?_
    rintro e w3 ⟨rfl, rfl⟩
    clear HLEN
    go_wp2_with (fail)
    refine g2 _ _ (Below.refl _ _).drew ?_
    clear g2
    refine seg_write _ (by dsimp only [pick, at_]) _ (by dsimp only [pick, at_]) ?_
    repeat (go_big_quiet_step (fail))
    refine wpQuiet_nil ?_
    intro K2 g1
    go_wp2_with (fail)
    refine seg_end _ (by dsimp only [pick, at_]) ?_
    repeat (go_big_quiet_step (fail))
    refine wpQuiet_nil (NoPanic.normal ?_)
    rw [W2.out]
    go_wp2_with (at_delete; refine wpList_delete_own _ rfl _ _ 107 9 rfl 126 law Tryz.underlying107 pe mb es.length D rfl hown2 _ _ rfl hkey ?_; intro w3 hown3 hturn3)
    go_end0
    have hc3 : Chg (fun k => k = f ∨ k = mb) w w3 := (C2.out.mono (fun _ _ e => .inl e)).grown hturn3.grown (fun k e _ => by cases e; exact .inr rfl)
    have hb3 : w3.heap[f]? = some (.cells #[.map (some mb), .int .i64 ((T - L : Nat) : Int)] 109 (0, 0)) := (hturn3.grown.block f hfl2 (fun e => H1.out.ne (by injection e))).trans B2.out
    have hfi : Fi w3 f mb (D.del (.string s.data.toList)) (al.del es s.data.toList) := H1.out.less hc3 (by rw [SUM.out]; exact hb3) hown3 (H1.out.rep.del _) (srt_del H1.out.srt _) (fun p hp => ⟨p, del_in hp, rfl⟩) (fun p hp q hq => H1.out.apart p (del_in hp) q (del_in hq))
    refine ⟨rfl, ?_, hc3.mono fun k _ e => ?_⟩
    · have := Fil.ext hfi H4.out hc3.size (F := F) fun k hk => .inl (by
        rcases hk with e | e | ⟨p, hp, hk⟩
        · exact H3.out k (.inl e)
        · exact H3.out k (.inr (.inl e))
        · exact H3.out k (.inr (.inr ⟨p, del_in hp, hk⟩)))
      rw [mapv_del] at this
      exact this
    · rcases e with e | e
      · exact H3.out k (.inl e)
      · exact H3.out k (.inr (.inl e))
/-- a file under another name -/
def mv (fs : AL Nm) (a b : Nm) : AL Nm := if a = b then fs else match get fs a with
  | none => fs
  | some s => al.put (al.del fs a) b s
theorem mv_eq {fs : AL Nm} (hs : Srt fs) {a b s : Nm} (hab : ¬ a = b) (ha : get fs a = some s) : mv fs a b = al.del (al.put (al.del fs b) b s) a := by
  unfold mv
  rw [if_neg hab, ha]
  refine srt_ext (srt_put (srt_del hs _) _ _) (srt_del (srt_put (srt_del hs _) _ _) _) fun q => ?_
  by_cases e1 : q = b
  · subst e1; rw [get_put_same, get_del_other (fun e => hab e.symm), get_put_same]
  · rw [get_put_other _ e1]
    by_cases e2 : q = a
    · subst e2; rw [get_del_same, get_del_same]
    · rw [get_del_other e2, get_del_other e2, get_put_other _ e1, get_del_other e1]
set_option maxRecDepth 100000 in
set_option maxHeartbeats 1000000 in
theorem move_f (w : World) (f : Nat) (F : Nat → Prop) (fs : AL Nm) (s t : ByteArray) (h : Fil w f F fs) (hl : s.size ≤ maxLen) (hlt : t.size ≤ maxLen) (hbig : fsum fs ≤ 2199023255552) (hfew : fs.length < 1099511627776) (hthere : get fs s.data.toList ≠ none) :
    Calls Tryz.prog 101 #[.pointer (some ⟨f, 0, none⟩), .string s, .string t] w (RetFil w f F (mv fs s.data.toList t.data.toList)) := by
  have FH := Lib.hid h
  by_cases hst : s = t
  · subst hst
    have hmv : mv fs s.data.toList s.data.toList = fs := by unfold mv; rw [if_pos rfl]
    have HM := Lib.hid hmv
    clear h hmv
    go_enter Tryz.func101, Tryz.ntmps101
    go_wp2_with fail
    go_end0
    exact ⟨rfl, by rw [HM.out]; exact FH.out.keep (Below.refl _ _), Chg.refl _ _⟩
  · have hne : ¬ s.data.toList = t.data.toList := fun e => hst (by cases s; cases t; congr; exact Array.toList_inj.1 e)
    obtain ⟨c, hc⟩ := Option.ne_none_iff_exists'.1 hthere
    have HMV := Lib.hid (mv_eq h.srt hne hc)
    have hd : get (al.del fs t.data.toList) s.data.toList = some c := by rw [get_del_other hne]; exact hc
    have hbig2 : fsum (al.del fs t.data.toList) ≤ 2199023255552 := by
      cases hg : get fs t.data.toList with
      | none => rw [del_absent hg]; exact hbig
      | some y => have := sum_del (f := List.length) h.srt hg; unfold fsum at hbig ⊢; omega
    have hfew2 : (al.del fs t.data.toList).length < 1099511627776 := Nat.lt_of_le_of_lt (List.length_filter_le _ _) hfew
    have HR := Lib.hid (remove_f w f F fs t h hlt hbig)
    have HD := Lib.hid hd
    have HNE := Lib.hid hne
    have h4 : ∀ k, F k → k < w.heap.size := by obtain ⟨_, _, _, _, _, _, h4⟩ := h; exact h4
    have H4 := Lib.hid h4
    have hst' : (s.toList == t.toList) = false := by rw [ByteArray.toList_eq, ByteArray.toList_eq]; simpa using hne
    clear h hthere hc hd hne h4
    go_enter Tryz.func101, Tryz.ntmps101
    go_wp2_with fail
    refine HR.out.mono ?_
    rintro e w1 ⟨rfl, h1, hc1⟩
    clear HR
    obtain ⟨mb, D, es, h1, hfs, h3, h4'⟩ := h1
    have hd := HD.out
    rw [hfs, mapv_get] at hd
    obtain ⟨x, hx, rfl⟩ := Option.map_eq_some_iff.1 hd
    have hnone : get es t.data.toList = none := by
      have := get_del_same fs t.data.toList
      rw [hfs, mapv_get] at this
      simpa using this
    have hb1 := h1.blk
    obtain ⟨T, hT⟩ : ∃ T, sum txlen es = T := ⟨_, rfl⟩
    rw [hT] at hb1
    have c0 : w1.cell? ⟨f, 0, none⟩ = some (.map (some mb)) := by rw [cell_of_row _ _ _ _ _ _ hb1]; rfl
    have q0 := Wb.at_ c0
    have hk : ∀ u : Wb w1, (Instr.lookup 107 (.map (some mb)) (.string s) false).run Tryz.prog u.w = .ok (.pointer (some ⟨x.g, 0, none⟩)) u.w := fun u => (h1.chg (Chg.of_below u.h) (fun _ _ e => e)).look s hl hx
    have hfl : f < w1.heap.size := blk_lt hb1
    have hml : mb < w1.heap.size := h1.map.lt
    have hkeyt := keyOf_string_mk (k := 9) Tryz.underlying9 hlt
    have hkeys := keyOf_string_mk (k := 9) Tryz.underlying9 hl
    have hown1 : w1.drew.ownsMap Tryz.prog 9 pe mb es.length D := h1.map
    have hlen : es.length < 1099511627776 := by
      have := congrArg List.length hfs
      simp only [mapv, List.length_map] at this
      omega
    have H1 := Lib.hid h1
    have H3 := Lib.hid h3
    have HX := Lib.hid hx
    have HN := Lib.hid hnone
    have HFS := Lib.hid hfs
    have HT := Lib.hid hT
    have B1 := Lib.hid hb1
    have C1 := Lib.hid hc1
    have hs1 : w.heap.size ≤ w1.heap.size := hc1.size
    clear h1 h3 h4' hd hx hnone hb1 hT hc1 hfs
    go_wp2_with fail
    refine wp_region_plan [([0, 1, 2, 3, 4, 5, 6, 7, 8, 9, 10], some (11, true)), ([], none)] (by kernel_rfl) (by kernel_rfl) ?_
    refine seg_write _ (by dsimp only [pick, at_]) _ (by dsimp only [pick, at_]) ?_
    repeat (go_big_quiet_step (fail))
    refine wpQuiet_nil ?_
    intro K2 g1
    clear q0 hk
    go_wp2_with (at_mapUpdate; refine wpList_mapUpdate_own _ rfl _ _ _ 107 rfl 9 126 law Tryz.underlying107 pe mb es.length D rfl hown1 (by unfold maxLen; omega) _ _ _ rfl rfl hkeyt (dg x.g) [] rfl ?_; intro w2 hown2 hgrow2)
    refine seg_end _ (by dsimp only [pick, at_]) ?_
    repeat (go_big_quiet_step (fail))
    refine wpQuiet_nil (NoPanic.normal ?_)
    have hfm : f ≠ mb := H1.out.ne
    have hb2 : w2.heap[f]? = some (.cells #[.map (some mb), .int .i64 (T : Nat)] 109 (0, 0)) := (hgrow2.block f hfl (fun e => hfm (by injection e))).trans B1.out
    have d0 : w2.cell? ⟨f, 0, none⟩ = some (.map (some mb)) := by rw [cell_of_row _ _ _ _ _ _ hb2]; rfl
    have hfl2 : f < w2.heap.size := blk_lt hb2
    have GR2 := Lib.hid hgrow2
    have B2 := Lib.hid hb2
    clear hgrow2 hb2 hown1 c0
    go_wp2_with (at_delete; refine wpList_delete_own _ rfl _ _ 107 9 rfl 126 law Tryz.underlying107 pe mb _ _ rfl hown2 _ _ rfl hkeys ?_; intro w3 hown3 hturn3)
    go_end0
    have hc12 : Chg (fun k => k = f ∨ k = mb) w1 w2 := ((Chg.refl _ _).drew).grown GR2.out (fun k e _ => by cases e; exact .inr rfl)
    have hc3 : Chg (fun k => k = f ∨ k = mb) w1 w3 := hc12.grown hturn3.grown (fun k e _ => by cases e; exact .inr rfl)
    have hb3 : w3.heap[f]? = some (.cells #[.map (some mb), .int .i64 (T : Nat)] 109 (0, 0)) := (hturn3.grown.block f hfl2 (fun e => hfm (by injection e))).trans B2.out
    have hput : get (al.put es t.data.toList x) s.data.toList = some x := by rw [get_put_other _ HNE.out]; exact HX.out
    have hsum : sum txlen (al.del (al.put es t.data.toList x) s.data.toList) = T := by
      have h5 := sum_del (f := txlen) (srt_put H1.out.srt t.data.toList x) hput
      rw [sum_put_new HN.out, HT.out] at h5
      omega
    have hmem : ∀ p ∈ al.del (al.put es t.data.toList x) s.data.toList, p = (t.data.toList, x) ∨ (p ∈ es ∧ p.1 ≠ s.data.toList) := fun p hp => by
      obtain ⟨h5, h6⟩ := mem_del.1 hp
      rcases mem_put h5 with h7 | h7
      · exact .inl h7
      · exact .inr ⟨h7, h6⟩
    have hfi := H1.out.less hc3 (by rw [hsum]; exact hb3) hown3 ((H1.out.rep.put t.data.toList x).del s.data.toList) (srt_del (srt_put H1.out.srt _ _) _) (fun p hp => by
        rcases hmem p hp with rfl | ⟨h5, _⟩
        · exact ⟨_, mem_get HX.out, rfl⟩
        · exact ⟨p, h5, rfl⟩) (fun p hp q hq hne k hk hk2 => by
        rcases hmem p hp with rfl | ⟨h5, h6⟩
        · rcases hmem q hq with rfl | ⟨h7, h8⟩
          · exact hne rfl
          · exact H1.out.apart _ (mem_get HX.out) q h7 (fun e => h8 e.symm) k hk hk2
        · rcases hmem q hq with rfl | ⟨h7, h8⟩
          · exact H1.out.apart p h5 _ (mem_get HX.out) h6 k hk hk2
          · exact H1.out.apart p h5 q h7 hne k hk hk2)
    refine ⟨rfl, ?_, ?_⟩
    · have h9 := Fil.ext hfi (w := w) (F := F) H4.out (Nat.le_trans hs1 hc3.size) fun k hk => by
        have h10 : Foot f mb es k := by
          rcases hk with e | e | ⟨p, hp, hk⟩
          · exact .inl e
          · exact .inr (.inl e)
          · rcases hmem p hp with rfl | ⟨h5, _⟩
            · exact .inr (.inr ⟨_, mem_get HX.out, hk⟩)
            · exact .inr (.inr ⟨p, h5, hk⟩)
        exact (H3.out k h10).imp id (fun e => e.1)
      rw [mapv_del, mapv_put, ← HFS.out] at h9
      rw [HMV.out]
      exact h9
    · refine C1.out.trans hc3 fun k hk e => ?_
      have h10 : Foot f mb es k := by
        rcases e with e | e
        · exact .inl e
        · exact .inr (.inl e)
      rcases H3.out k h10 with e | e
      · exact e
      · omega
end Go.Proofs.YtnjdondkggkfoaaGreat.dk
/-
  The files' names, in their order; a copy of all files.
-/
namespace Go.Proofs.YtnjdondkggkfoaaGreat.dk
open Go.ChangeShapes Go.WideShapes Go.ChangeAt Go.RowKit Go.Maps Go.Sort Go.Shelf plain words ord mem al
open Go.WideMaps (keyOf_string_mk)

theorem sortsM (m : Nat) : AnyZ.SortsIn Tryz.prog sortedM_ren Fence.wide m :=
  ⟨fun blk off cap ss W hH hblk hsz => callsIn_wide.2 (AnyM.slices_Sort_string sortM blk off cap ss W hH hblk hsz),
   fun p cap W => callsIn_wide.2 (AnyM.slices_Sort_string_none sortM p cap W)⟩
theorem keys_c (mb : Option Nat) (W : World) : CallsIn Fence.wide 5 Tryz.prog 82 #[.map mb] W fun e w' => e = .returned (.func (.func 106) #[] #[.pointer (some ⟨W.heap.size, 0, none⟩)]) ∧ w' = W.alloc (.cells #[.map mb] 107) :=
  AnyZ.keys_in keysM Fence.wide 5 trivial rfl mb W
set_option maxHeartbeats 1000000 in
theorem sorted_c (b nn : Nat) (D0 : DU) (w : World) (hown : w.ownsMap Tryz.prog 9 pe b nn D0) (hmax : Maps.size D0 ≤ maxLen) (hbytes : Maps.size D0 * 16 ≤ 140737488355328) :
    CallsIn Fence.wide 5 Tryz.prog 81 #[.func (.func 106) #[] #[.pointer (some ⟨w.heap.size, 0, none⟩)]] (w.alloc (.cells #[.map (some b)] 107)) fun e w' => ∃ (v : Value) (ss : List (List UInt8)), e = .returned v ∧ ss.Perm (strKeys D0) ∧
      w'.ownsRow (w.alloc (.cells #[.map (some b)] 107)).heap.size 9 1 v ss.length ((ss.mergeSort (fun x y => decide (x ≤ y))).map encStr) ∧ (v = .slice none 0 0 ↔ ss = []) ∧ Below (w.alloc (.cells #[.map (some b)] 107)).heap.size (w.alloc (.cells #[.map (some b)] 107)) w' := by
  have hbl := hown.lt
  have hseq : SeqGives Fence.wide 2 Tryz.prog 106 #[.pointer (some ⟨w.heap.size, 0, none⟩)] encStr (fun ss => ss.Perm (strKeys D0)) (Maps.size D0) (w.alloc (.cells #[.map (some b)] 107)) :=
    AnyZ.keys_gives (ρ := keysM_ren) { keysM with } Fence.wide _ trivial rfl (by omega) w.heap.size b nn D0 _ (by simp) (by simp) (by
      obtain ⟨es, clock, hb, Ft, hs, hD⟩ := hown
      exact ⟨es, clock, (Below.heap_alloc _ _ b hbl).trans hb, Ft, hs, hD⟩)
  exact AnyZ.sorted_in sortedM Fence.wide 5 trivial trivial trivial trivial rfl (by omega) (sortsM _) (enters_of Tryz.func105 (by kernel_rfl) rfl) 106 #[.pointer (some ⟨w.heap.size, 0, none⟩)] trivial (enters_of Tryz.func106 (by kernel_rfl) rfl) _ _ hmax hbytes _ hseq
theorem sort_names {fs : AL Nm} (hs : Srt fs) {ss : List Nm} (h : ss.Perm (fs.map (·.1))) : ss.mergeSort (fun x y => decide (x ≤ y)) = fs.map (·.1) := by
  have tr : ∀ a b c : List UInt8, decide (a ≤ b) = true → decide (b ≤ c) = true → decide (a ≤ c) = true := fun a b c h1 h2 => by simp only [decide_eq_true_eq] at *; exact List.le_trans h1 h2
  have tot : ∀ a b : List UInt8, (decide (a ≤ b) || decide (b ≤ a)) = true := fun a b => by simp only [Bool.or_eq_true, decide_eq_true_eq]; exact List.le_total a b
  refine List.Perm.eq_of_pairwise (le := fun a b => decide (a ≤ b) = true) (fun a b _ _ h1 h2 => ?_) (List.pairwise_mergeSort tr tot ss) ?_ ((List.mergeSort_perm ss _).trans h)
  · simp only [decide_eq_true_eq] at h1 h2
    exact List.le_antisymm h1 h2
  · exact (srt_names hs).imp fun h1 => by simpa using List.le_of_lt h1
def RetNames (w : World) (fs : AL Nm) (e : Ending) (w' : World) : Prop :=
  ∃ v, e = .returned v ∧ w'.ownsRow w.heap.size 9 1 v fs.length ((fs.map (·.1)).map encStr) ∧ Below w.heap.size w w'
set_option maxHeartbeats 1000000 in
theorem names_f (w : World) (f : Nat) (F : Nat → Prop) (fs : AL Nm) (h : Fil w f F fs) (hfew : fs.length < 1099511627776) :
    Calls Tryz.prog 45 #[.pointer (some ⟨f, 0, none⟩)] w (RetNames w fs) := by
  have hsr := h.srt
  obtain ⟨mb, D, es, h1, hfs, _, _⟩ := h
  have c0 : w.cell? ⟨f, 0, none⟩ = some (.map (some mb)) := by rw [cell_of_row _ _ _ _ _ _ h1.blk]; rfl
  have hown := h1.map
  have hnm := h1.rep.names h1.srt hown
  have hfl : f < w.heap.size := blk_lt h1.blk
  have hlen : es.length = fs.length := by rw [hfs]; simp [mapv]
  have hsz := hown.size_le
  have hmax : Maps.size D ≤ maxLen := by unfold maxLen; omega
  have hbytes : Maps.size D * 16 ≤ 140737488355328 := by omega
  have e1 : fs.map (·.1) = es.map (·.1) := by rw [hfs]; simp [mapv, Function.comp_def]
  have NM := Lib.hid hnm
  have SR := Lib.hid hsr
  have E1 := Lib.hid e1
  clear h1 hnm hsr e1 hfs
  refine (callsIn_wide (n := 6)).1 ?_
  have hfK : Fence.wide.fn 82 := trivial
  have hfS : Fence.wide.fn 81 := trivial
  refine callsIn_of_wp Tryz.func45 rfl trivial ?_ rfl
  simp only [Tryz.ntmps45, List.size_toArray, List.length_cons, List.length_nil, Nat.reduceAdd, Nat.reduceSub, Array.replicate_succ, Array.replicate_zero, List.push_toArray, List.append_toArray, List.nil_append, List.cons_append]
  gi_wp2_with (first
    | (gi_at_call 82; refine (keys_c _ _).mono ?_; rintro e w' ⟨rfl, rfl⟩)
    | (gi_at_call 81; refine (sorted_c mb _ D w hown hmax hbytes).mono ?_; rintro e w' ⟨v, ss, rfl, hS, hrow, hnil, hb⟩))
  go_ret
  have hp : ss.Perm (fs.map (·.1)) := by rw [E1.out]; exact hS.trans NM.out.symm
  rw [sort_names SR.out hp, hp.length_eq, List.length_map] at hrow
  exact ⟨v, rfl, ownsRow_base_a hrow (by simp), ((Below.refl _ w).alloc (Nat.le_refl _) _).trans (hb.mono (by simp))⟩
theorem ranges_chg {w w' : World} {b r n cnt : Nat} {D : DU} {left : Lit → Bool} {S : Nat → Prop} (h : w.ranges Tryz.prog 9 pe b r n D left cnt) (hc : Chg S w w') (hb : ¬ S b) (hr : ¬ S r) : w'.ranges Tryz.prog 9 pe b r n D left cnt := by
  obtain ⟨es, clock, since, seen, c0, h1, h2, h3, h4, h5, h6⟩ := h
  exact ⟨es, clock, since, seen, c0, hc.blk h1 hb, h2, h3, h4, hc.blk h5 hr, h6⟩
/-- those whose turn is over -/
def flt (fs : AL Nm) (left : Lit → Bool) : AL Nm := fs.filter fun p => !left (.string p.1)
theorem get_flt (fs : AL Nm) (left : Lit → Bool) (q : Nm) : al.get (flt fs left) q = if left (.string q) then none else al.get fs q := by
  induction fs with
  | nil => simp [flt, al.get]
  | cons p r ih =>
    obtain ⟨k, x⟩ := p
    simp only [flt, List.filter_cons] at ih ⊢
    by_cases hk : k = q
    · subst hk
      cases hl : left (.string k) with
      | false => simp [al.get]
      | true =>
        rw [hl] at ih
        simpa using ih
    · cases hl : left (.string k) with
      | false => simp [al.get, hk, ih]
      | true => simp [al.get, hk, ih]
theorem flt_sum (fs : AL Nm) (left : Lit → Bool) : fsum (flt fs left) ≤ fsum fs := by
  unfold fsum
  induction fs with
  | nil => exact Nat.le_refl _
  | cons p r ih =>
    obtain ⟨k, x⟩ := p
    simp only [flt, List.filter_cons] at ih ⊢
    split
    · simp only [sum]; omega
    · simp only [sum]; omega
theorem flt_srt {fs : AL Nm} (hs : Srt fs) (left : Lit → Bool) : Srt (flt fs left) := List.Pairwise.filter _ hs
theorem flt_step {fs : AL Nm} (hs : Srt fs) {left : Lit → Bool} {q t : Nm} (hl : left (.string q) = true) (hq : al.get fs q = some t) : al.put (flt fs left) q t = flt fs (fun z => left z && !z.sameKey (.string q)) := by
  refine srt_ext (srt_put (flt_srt hs _) _ _) (flt_srt hs _) fun r => ?_
  rw [get_flt]
  by_cases e : r = q
  · subst e; rw [get_put_same]; simp [Lit.sameKey, hq]
  · rw [get_put_other _ e, get_flt]
    have : (Lit.string r).sameKey (.string q) = false := by simpa [Lit.sameKey] using e
    simp [this]
theorem Fi.froze {w w' : World} {f mb : Nat} {D : DU} {es : AL Tx} {q : Nm} {x : Tx} (h : Fi w f mb D es) (hm : (q, x) ∈ es) (ht : IsTx w' x) (hc : Chg (fun k => x.v.ownBlock = some k) w w') : Fi w' f mb D es := by
  have hn := h.neF hm
  refine ⟨hc.blk h.blk (fun e => hn.1 (.inr e)), own_map_chg h.map hc (fun e => hn.2 (.inr e)), h.rep, h.srt, fun p hp => ?_, h.apart⟩
  by_cases e : p.1 = q
  · have h1 := get_mem h.srt (q := p.1) (x := p.2) (by simpa using hp)
    have h2 := get_mem h.srt hm
    rw [e, h2] at h1
    injection h1 with h1
    rw [← h1]; exact ht
  · exact (h.tx p hp).chg hc fun k hk e' => h.apart p hp _ hm e k hk (.inr e')
structure Cl (w : World) (f mb : Nat) (D : DU) (es : AL Tx) (F : Nat → Prop) (c r : Nat) (wr : World) (left : Lit → Bool) (cnt : Nat) (Fc : Nat → Prop) : Prop where
  src : Fi wr f mb D es
  rng : wr.ranges Tryz.prog 9 pe mb r es.length D left cnt
  dst : Fil wr c Fc (flt (mapv Tx.s es) left)
  low : ∀ k, Fc k → w.heap.size ≤ k ∧ k ≠ r
  chg : Chg F w wr
def RetClone (w : World) (f : Nat) (F : Nat → Prop) (fs : AL Nm) (e : Ending) (w' : World) : Prop :=
  ∃ c, e = .returned (.pointer (some ⟨c, 0, none⟩)) ∧ w.heap.size ≤ c ∧ Fil w' c (fun k => w.heap.size ≤ k ∧ k < w'.heap.size) fs ∧ Fil w' f F fs ∧ Chg F w w'
set_option maxRecDepth 100000 in
set_option maxHeartbeats 2000000 in
theorem clone_f (w : World) (f : Nat) (F : Nat → Prop) (fs : AL Nm) (h : Fil w f F fs) (hbig : fsum fs ≤ 1099511627776) (hfew : fs.length < 1099511627776) :
    Calls Tryz.prog 52 #[.pointer (some ⟨f, 0, none⟩)] w (RetClone w f F fs) := by
  obtain ⟨mb, D, es, h1, hfs, h3, h4⟩ := h
  have H1 := Lib.hid h1
  have HFS := Lib.hid hfs
  have H3 := Lib.hid h3
  have H4 := Lib.hid h4
  have HN := Lib.hid (new_f w)
  clear h1 hfs h3 h4
  go_enter Tryz.func52, Tryz.ntmps52
  go_wp2_with fail
  refine HN.out.mono ?_
  rintro e w1 ⟨c, rfl, hc, hcf, hb1⟩
  have hf1 : Fi w1 f mb D es := H1.out.chg (Chg.of_below hb1) (fun _ _ e => e)
  have c0 : w1.cell? ⟨f, 0, none⟩ = some (.map (some mb)) := by rw [cell_of_row _ _ _ _ _ _ hf1.blk]; rfl
  have hfl : f < w1.heap.size := blk_lt hf1.blk
  have hown1 := hf1.map
  have hs1 : w.heap.size ≤ w1.heap.size := hb1.size
  have F1 := Lib.hid hf1
  have CF := Lib.hid hcf
  have B1 := Lib.hid hb1
  clear hf1 hcf hb1 HN
  go_wp2_with (at_range; refine wpList_range_own _ rfl _ 107 rfl 9 126 law Tryz.underlying107 pe mb es.length D rfl hown1 ?_; intro w2 hrg0 hg0 hs0)
  go_frame
  have hm := hrg0.owns.size_le
  have C0 := Lib.hid (show Cl w f mb D es F c w1.heap.size w2 (Maps.has D) (Maps.size D) (fun k => w.heap.size ≤ k ∧ k < w1.heap.size) from by
    have hc12 : Chg (fun _ => False) w1 w2 := (Chg.refl _ _).grown hg0 (fun k e _ => by cases e)
    refine ⟨F1.out.chg hc12 (fun _ _ e => e), hrg0, ?_, fun k hk => ⟨hk.1, by omega⟩, ((Chg.of_below B1.out).trans hc12 (fun _ _ e => e)).mono (fun _ _ e => e.elim)⟩
    have : flt (mapv Tx.s es) (Maps.has D) = [] := by
      refine srt_ext (flt_srt (mapv_srt.2 F1.out.srt) _) .nil fun q => ?_
      rw [get_flt, F1.out.rep.has, mapv_get]
      cases al.get es q <;> simp [al.get]
    rw [this]
    exact CF.out.chg hc12 (fun _ _ e => e))
  clear hrg0 hg0 hs0 hown1
  go_loopg [4, 5] (Maps.size D) (fun gg s4 s5 wr => ∃ (left : Lit → Bool) (cnt : Nat) (Fc : Nat → Prop), cnt ≤ gg ∧ Aside (Cl w f mb D es F c w1.heap.size wr left cnt Fc))
  case atStart => exact ⟨_, _, _, Nat.le_refl _, C0.out⟩
  case round =>
    clear C0
    obtain ⟨left, cnt, Fc, hcg, C⟩ := hrel
    obtain ⟨wv, rfl⟩ : ∃ wv, wv = wr := ⟨wr, rfl⟩
    have hrg := C.out.rng
    go_wp2_with (at_next; refine wpList_next_ranges _ rfl _ rfl 9 law pe encStr Value.pointer (fun key kl hkey => by obtain ⟨x, rfl, _⟩ := Maps.keyOf_str Tryz.underlying9 hkey; exact ⟨x, rfl⟩) (fun v y hv => by
      unfold pe at hv
      split at hv
      · exact ⟨_, rfl⟩
      · exact ⟨_, rfl⟩
      · cases hv) mb w1.heap.size es.length D left cnt rfl hrg ?_ ?_)
    · intro hc0 hl0
      have C2 := Lib.hid C.out
      clear hrg C
      go_wp2_with fail
      go_ret
      have hall : flt (mapv Tx.s es) left = fs := by
        rw [HFS.out]
        refine srt_ext (flt_srt (mapv_srt.2 H1.out.srt) _) (mapv_srt.2 H1.out.srt) fun q => ?_
        rw [get_flt, hl0]; simp
      have hd := C2.out.dst
      rw [hall] at hd
      have hdl := C2.out.low
      refine ⟨c, rfl, hc, hd.mono (fun k hk => ⟨(hdl k hk).1, ?_⟩) (fun k hk => hk.2), ⟨mb, D, es, C2.out.src, HFS.out, H3.out, fun k hk => Nat.lt_of_lt_of_le (H4.out k hk) C2.out.chg.size⟩, C2.out.chg⟩
      obtain ⟨_, _, _, _, _, _, h9⟩ := hd
      exact h9 k hk
    · intro q co kl y ps w3 cnt3 hkq hlk hpe hat hrg3 hlt hg3 hs3 hen
      obtain ⟨q', hqe, rfl, hql⟩ := Maps.keyOf_str Tryz.underlying9 hkq
      obtain rfl := encStr_inj hqe
      have hhas := has_true_of_atKey hat
      rw [C.out.src.rep.has] at hhas
      obtain ⟨x, hx⟩ := Option.isSome_iff_exists.1 hhas
      have hy1 : y = dg x.g := (hat .nil).symm.trans (C.out.src.rep.at_ q x hx .nil)
      have hco : co = some ⟨x.g, 0, none⟩ := by
        subst hy1
        have := pe_inv hpe
        injection this
      subst hco
      have hr3 : ∀ k, Foot f mb es k → ¬ k = w1.heap.size := fun k hk e => by
        have := H1.out.lt hk
        omega
      have hc03 : Chg (fun k => k = w1.heap.size) wv w3 := (Chg.refl _ _).grown hg3 (fun k e _ => by cases e; rfl)
      have hf3 := C.out.src.chg hc03 hr3
      have hd3 := C.out.dst.chg hc03 (fun k hk e => (C.out.low k hk).2 e)
      have HS := Lib.hid (string_t w3 x (hf3.tx _ (mem_get hx)))
      have hsv3 : wv.heap.size ≤ w3.heap.size := by omega
      have C2 := Lib.hid C.out
      have C03 := Lib.hid hc03
      have F3 := Lib.hid hf3
      have D3 := Lib.hid hd3
      have HX := Lib.hid hx
      have R3 := Lib.hid hrg3
      have HLK := Lib.hid hlk
      clear hrg C hkq hpe hat hrg3 hg3 hs3 hhas hy1 hc03 hf3 hd3 hx hlk hr3
      go_wp2_with fail
      refine HS.out.mono ?_
      rintro e w4 ⟨rfl, ht4, hc4⟩
      have hf4 := F3.out.froze (mem_get HX.out) ht4 hc4
      have hrow : ∀ k, x.v.ownBlock = some k → k < w.heap.size ∧ k ≠ mb := fun k hk => ⟨by have := H1.out.lt (.inr (.inr ⟨_, mem_get HX.out, .inr hk⟩)); omega, fun e => (H1.out.neF (mem_get HX.out)).2 (.inr (by rw [← e]; exact hk))⟩
      have hd4 := D3.out.chg hc4 (fun k hk e => by have := (C2.out.low k hk).1; have := (hrow k e).1; omega)
      have hr4 := ranges_chg R3.out hc4 (fun e => (hrow _ e).2 rfl) (fun e => by have := (hrow _ e).1; omega)
      have hq4 : (⟨q.toArray⟩ : ByteArray).data.toList = q := by simp
      have hx4 : (⟨x.s.toArray⟩ : ByteArray).data.toList = x.s := by simp
      have hxs : (⟨x.s.toArray⟩ : ByteArray).size = x.s.length := by show x.s.toArray.size = _; simp
      have hqs : (⟨q.toArray⟩ : ByteArray).size = q.length := by show q.toArray.size = _; simp
      have hgf : al.get (flt (mapv Tx.s es) left) q = none := by rw [get_flt, HLK.out]; rfl
      have hgm : al.get (mapv Tx.s es) q = some x.s := by rw [mapv_get, HX.out]; rfl
      have hstep := flt_step (mapv_srt.2 H1.out.srt) HLK.out hgm
      have hfs2 : fsum (flt (mapv Tx.s es) left) + x.s.length ≤ 1099511627776 := by
        have h5 := sum_put_new (f := List.length) (x := x.s) hgf
        have h6 := flt_sum (mapv Tx.s es) (fun z => left z && !z.sameKey (.string q))
        rw [← hstep] at h6
        rw [HFS.out] at hbig
        unfold fsum at h6 hbig ⊢
        omega
      have hfl2 : (flt (mapv Tx.s es) left).length < 1099511627776 := Nat.lt_of_le_of_lt (List.length_filter_le _ _) (by rw [← HFS.out]; exact hfew)
      have HA := Lib.hid (add_f w4 c Fc (flt (mapv Tx.s es) left) ⟨q.toArray⟩ ⟨x.s.toArray⟩ hd4 (by rw [hqs]; exact hql) (by rw [hxs]; exact hfs2) hfl2)
      rw [hq4, hx4, hgf] at HA
      have HST := Lib.hid hstep
      have F4 := Lib.hid hf4
      have R4 := Lib.hid hr4
      have C4 := Lib.hid hc4
      have HRO := Lib.hid hrow
      have hs4 : w3.heap.size ≤ w4.heap.size := hc4.size
      clear ht4 hc4 hf4 hd4 hr4 hq4 hx4 hxs hqs hgf hgm hstep hfs2 hfl2 HS hrow
      go_wp2_with fail
      refine HA.out.mono ?_
      rintro e w5 ⟨rfl, hd5, hc5⟩
      have hlow := C2.out.low
      have hrl : w1.heap.size < wv.heap.size := C2.out.rng.lt
      have C5 := Lib.hid (show Cl w f mb D es F c w1.heap.size w5 (fun z => left z && !z.sameKey (.string q)) cnt3 (Ext Fc w4 w5) from by
        refine ⟨F4.out.chg hc5 (fun k hk e => by have := H1.out.lt hk; have := (hlow k e).1; omega), ranges_chg R4.out hc5 (fun e => by have := H1.out.lt (.inr (.inl rfl)); have := (hlow _ e).1; omega) (fun e => (hlow _ e).2 rfl), ?_, fun k hk => ?_, ?_⟩
        · have h5 := hd5
          simp only [Option.getD_none, List.nil_append] at h5
          rw [HST.out] at h5
          exact h5
        · rcases hk with e | e
          · exact hlow k e
          · omega
        · refine ((C2.out.chg.trans C03.out (fun k hk e => by omega)).trans C4.out (fun k hk e => ?_)).trans hc5 (fun k hk e => by have := (hlow k e).1; omega)
          exact H3.out k (.inr (.inr ⟨_, mem_get HX.out, .inr e⟩)))
      clear hd5 hc5 hlow HA
      go_wp2_with fail
      go_roundg cnt3
      case measure => omega
      case rel => exact ⟨_, cnt3, _, Nat.le_refl _, C5.out⟩
end Go.Proofs.YtnjdondkggkfoaaGreat.dk
