/-
  strings.Builder as memory: its own block, its buffer's row; Len, String, WriteString.
-/
import Derived.Test.YtmnliieiiaedeaaAl
import Derived.Lib.FrozenHead
import Derived.Deep.RegionWith
import Derived.Shelf.RegionOpenPlain
namespace Go.Proofs.Ytmnliieiiaedeaa.dk
open Go.ChangeShapes Go.WideShapes Go.ChangeAt Go.RowKit plain words ord mem al

/-- a text: its block, the two cells there, its bytes -/
structure Tx where
  g : Nat
  p : Value
  v : Value
  s : Nm
structure IsTx (w : World) (x : Tx) : Prop where
  blk : w.heap[x.g]? = some (.cells #[x.p, x.v] 103 (0, 0))
  own : w.ownsRowF 0 5 1 x.v x.s.length (Lib.byteCells x.s)
  self : x.p = .pointer none ∨ x.p = .pointer (some ⟨x.g, 0, none⟩)
  nil : x.s = [] → x.v = .slice none 0 0
def Tx.foot (x : Tx) (k : Nat) : Prop := k = x.g ∨ x.v.ownBlock = some k
theorem IsTx.lt {w : World} {x : Tx} (h : IsTx w x) {k : Nat} (hk : x.foot k) : k < w.heap.size := by
  rcases hk with rfl | hk
  · exact blk_lt h.blk
  · exact (h.own.lt k hk).2
theorem IsTx.row {w : World} {x : Tx} (h : IsTx w x) {k : Nat} (hk : x.v.ownBlock = some k) : ∃ c f, w.heap[k]? = some (.cells c 5 f) := by
  rcases h.own.2 with ⟨hv, _⟩ | ⟨g, cap, cur, fz, hv, _, hg, _⟩
  · rw [hv] at hk; cases hk
  · rw [hv] at hk; cases hk; exact ⟨cur, fz, hg⟩
theorem IsTx.ne {w : World} {x : Tx} (h : IsTx w x) : x.v.ownBlock ≠ some x.g := fun e => by
  obtain ⟨c, f, hc⟩ := h.row e
  exact blk_type h.blk hc (by decide) rfl
theorem IsTx.chg {S : Nat → Prop} {w w' : World} {x : Tx} (h : IsTx w x) (hc : Chg S w w') (hS : ∀ k, x.foot k → ¬ S k) : IsTx w' x := by
  refine ⟨hc.blk h.blk (hS _ (.inl rfl)), ⟨h.own.1, ?_⟩, h.self, h.nil⟩
  rcases h.own.2 with hv | ⟨g, cap, cur, fz, hv, h0, hg, hr⟩
  · exact .inl hv
  · exact .inr ⟨g, cap, cur, fz, hv, h0, hc.blk hg (hS g (.inr (by rw [hv]; rfl))), hr⟩
theorem IsTx.form {w : World} {x : Tx} (h : IsTx w x) : ∃ A c, x.v = .slice A x.s.length c := by
  rcases h.own.2 with ⟨hv, hn⟩ | ⟨g, cap, cur, fz, hv, _⟩
  · exact ⟨none, 0, by rw [hv, hn]⟩
  · exact ⟨_, _, hv⟩
theorem chg_set (w : World) (g o : Nat) (u : Value) : Chg (fun k => k = g) w (w.setCell ⟨g, o, none⟩ u) := Chg.setCell (S := fun k => k = g) (Chg.refl _ _) (p := ⟨g, o, none⟩) (fun _ => rfl) u
theorem strCells_eq (s : ByteArray) : Lib.strCells s = Lib.byteCells s.data.toList := rfl
section
variable {P : Program} (w : World)
/-- append of a string's bytes onto a text's row, and where the new row lies -/
theorem run_append_txt (t u ty e : TypeId) (i : TypeInfo) (ht : P.underlying t = some (.slice e)) (hu : P.underlying u = some .string) (hi : P.info? e = some i) (hz : i.zero = some (.int .u8 0))
    (hsize : i.size = 1) (hby : i.bytes = 1) (v : Value) (n : Nat) (xs : List Value) (hown : w.ownsRowF 0 e 1 v n xs) (s : ByteArray)
    (h63 : n + s.size ≤ maxLen) (hbytes : n + s.size ≤ 140737488355328) :
    ∃ v' w', (Builtin.append_ #[t, u] ty #[v, .string s]).run P w = .ok v' w' ∧ w'.ownsRowF 0 e 1 v' (n + s.size) (xs ++ Lib.strCells s) ∧ w.grownBy w' v.ownBlock ∧
      (v' = .slice none 0 0 ↔ v = .slice none 0 0 ∧ s.size = 0) ∧ ∀ k, v'.ownBlock = some k → v.ownBlock = some k ∨ w.heap.size ≤ k := by
  rcases hown.2 with ⟨rfl, rfl⟩ | ⟨g, cap, cur, fz, rfl, hbg, hg, hfz, hnc, hcm, hcs, htake⟩
  · have hx : xs = [] := List.eq_nil_of_length_eq_zero (by simpa using hown.1)
    subst hx
    obtain ⟨v', w', h1, h2, h3, h4⟩ := Lib.run_append_own_stringF (P := P) w w.heap.size t u ty e i ht hu hi hz hsize hby (.slice none 0 0) 0 [] (World.ownsRowF_nil _ _ _ _) s h63 hbytes (Nat.le_refl _)
    refine ⟨v', w', h1, ⟨h2.1, h2.2.imp id ?_⟩, h3, h4, fun k hk => .inr (h2.lt k hk).1⟩
    rintro ⟨g, cap, cur, fz, a, _, b⟩
    exact ⟨g, cap, cur, fz, a, Nat.zero_le _, b⟩
  · by_cases hroom : n + s.size ≤ cap
    · have hcs' : cur.size = cap := by simpa using hcs
      have hr := Lib.run_append_room_stringF (P := P) w t u ty e i ht hu hi hsize g n cap cur fz hg (by simpa using hfz) s hroom (by omega)
      obtain ⟨v', w', h1, h2, h3, h4⟩ := Lib.run_append_own_stringF (P := P) w 0 t u ty e i ht hu hi hz hsize hby _ n xs hown s h63 hbytes (Nat.zero_le _)
      have heq := hr.symm.trans h1
      injection heq with e1 e2
      exact ⟨v', w', h1, h2, h3, h4, fun k hk => .inl (by rw [← e1] at hk; exact hk)⟩
    · have hxl : xs.length = n := by simpa using hown.1
      have holds : ∀ j u, xs[j]? = some u → w.cell? ((⟨g, 0, none⟩ : Addr).add j) = some u := hown.cells (g := g) rfl
      have hr := Lib.run_append_grow_string (P := P) w t u ty e i (.int .u8 0) ht hu hi hz ⟨g, 0, none⟩ n cap xs (by rw [hsize]; simpa using hxl) holds s (by omega) (by simp only [maxLen] at h63; omega) (by rw [hby]; exact growslice_fits (by omega) (by omega))
      obtain ⟨v', w', h1, h2, h3, h4⟩ := Lib.run_append_own_stringF (P := P) w 0 t u ty e i ht hu hi hz hsize hby _ n xs hown s h63 hbytes (Nat.zero_le _)
      have heq := hr.symm.trans h1
      injection heq with e1 e2
      refine ⟨v', w', h1, h2, h3, h4, fun k hk => .inr ?_⟩
      rw [← e1] at hk
      have : w.heap.size = k := by simpa [Value.ownBlock] using hk
      omega
theorem wpList_append_txt {ops : Array Oper} {rest : List Oper} {o : Oper} {a : Act} {Q : Exit → Act → World → Prop} (hgd : o.guard = none) (sl x : Operand) (t u : TypeId)
    (ho : o.op = .call { callee := .builtin .append, args := #[sl, x], argTypes := #[t, u] })
    (e : TypeId) (i : TypeInfo) (ht : P.underlying t = some (.slice e)) (hu : P.underlying u = some .string) (hi : P.info? e = some i) (hz : i.zero = some (.int .u8 0))
    (hsize : i.size = 1) (hby : i.bytes = 1)
    (v : Value) (n : Nat) (xs : List Value) (hs : a.eval sl = v) (hown : w.ownsRowF 0 e 1 v n xs) (s : ByteArray) (hx : a.eval x = .string s)
    (h63 : n + s.size ≤ maxLen) (hbytes : n + s.size ≤ 140737488355328)
    (h : ∀ v' w', w'.ownsRowF 0 e 1 v' (n + s.size) (xs ++ Lib.strCells s) → w.grownBy w' v.ownBlock → (v' = .slice none 0 0 ↔ v = .slice none 0 0 ∧ s.size = 0) → (∀ k, v'.ownBlock = some k → v.ownBlock = some k ∨ w.heap.size ≤ k) → wpList P ops Q rest (a.put o.dst v') w') : wpList P ops Q (o :: rest) a w := by
  refine wpList_plain hgd fun K hK => ?_
  obtain ⟨v', w', hr, h2, h3, h4, h5⟩ := run_append_txt (P := P) w t u o.type e i ht hu hi hz hsize hby v n xs hown s h63 hbytes
  unfold Oper.wp execOp
  simp only [ho, resolve, invoke, builtin, Sem.run_bind, Sem.run_pure, Result.andThen_ok, List.map_toArray, List.map_cons, List.map_nil, hs, hx, hr]
  exact hK _ _ (h v' w' h2 h3 h4 h5)
end
def RetTx (w : World) (x : Tx) (t : Nm) (e : Ending) (w' : World) : Prop :=
  ∃ (n : Int) (y : Tx), e = .returned (.tuple #[.int .i64 n, .nilIface]) ∧ y.g = x.g ∧ y.s = x.s ++ t ∧ IsTx w' y ∧ Chg x.foot w w' ∧ ∀ k, y.foot k → x.foot k ∨ w.heap.size ≤ k
set_option maxRecDepth 100000 in
theorem len_t (w : World) (x : Tx) (h : IsTx w x) : Calls Try.prog 79 #[.pointer (some ⟨x.g, 0, none⟩)] w fun e w' => e = .returned (.int .i64 x.s.length) ∧ w = w' := by
  obtain ⟨A, c, hv⟩ := h.form
  have hb := h.blk
  rw [hv] at hb
  have c1 : w.cell? ⟨x.g, 1, none⟩ = some (.slice A x.s.length c) := by rw [cell_of_row _ _ _ _ _ _ hb]; rfl
  clear hb h hv
  go_enter Try.func79, Try.ntmps79
  go_wp2_with fail
  go_ret
  exact ⟨rfl, rfl⟩
theorem sizeB : (Try.prog.info? 103).map (·.size) = some 2 := by kernel_rfl
theorem liesB : liesAt Try.prog Try.prog.depth 103 (2 / Try.prog.cellsOf 103) 0 103 1 = true := by kernel_rfl
set_option maxRecDepth 100000 in
theorem check_t (w : World) (x : Tx) (h : IsTx w x) : Calls Try.prog 83 #[.pointer (some ⟨x.g, 0, none⟩)] w fun e w' => e = .returned (.tuple #[]) ∧ IsTx w' { x with p := .pointer (some ⟨x.g, 0, none⟩) } ∧ Chg (fun k => k = x.g) w w' := by
  have hb := h.blk
  have hsh : w.shape? x.g = some (103, 2) := by simp [World.shape?, hb]
  have hfz : w.frozen? ⟨x.g, 0, none⟩ = false := by simp [World.frozen?, hb]
  have c0 : w.cell? ⟨x.g, 0, none⟩ = some x.p := by rw [cell_of_row _ _ _ _ _ _ hb]; rfl
  obtain ⟨j, hj, hjs⟩ := Option.map_eq_some_iff.1 sizeB
  rcases h.self with hp | hp
  · rw [hp] at c0
    have hset : IsTx (w.setCell ⟨x.g, 0, none⟩ (.pointer (some ⟨x.g, 0, none⟩))) { x with p := .pointer (some ⟨x.g, 0, none⟩) } := by
      have hc : Chg (fun k => k = x.g) w (w.setCell ⟨x.g, 0, none⟩ (.pointer (some ⟨x.g, 0, none⟩))) := chg_set _ _ _ _
      have hn := h.ne
      refine ⟨?_, ⟨h.own.1, ?_⟩, .inr rfl, h.nil⟩
      · simp [World.setCell, Array.getElem?_modify, hb]
      · rcases h.own.2 with hv | ⟨g, cap, cur, fz, hv, h0, hg, hr⟩
        · exact .inl hv
        · exact .inr ⟨g, cap, cur, fz, hv, h0, hc.blk hg (fun e => hn (by rw [hv, ← e]; rfl)), hr⟩
    have HS := Lib.hid hset
    have hbl : x.g < w.heap.size := blk_lt hb
    clear hset h hb
    go_enter Try.func83, Try.ntmps83
    go_wp2_with fail
    rw [Lib.run_to_unsafe w ⟨x.g, 0, none⟩ Try.underlying101 Try.underlying128 hj (by rw [hjs]; decide) hsh (Nat.zero_lt_succ 1)]
    simp only [Result.andThen]
    rw [Oper.upon_value]
    go_wp2_with fail
    rw [run_callFunc_extern Try.func93 (by kernel_rfl) (by kernel_rfl) (by kernel_rfl) (e := Extern.AbiNoEscape.same) (by kernel_rfl)]
    rw [Lib.run_noEscape]
    simp only [Result.andThen]
    rw [Oper.upon_value]
    go_wp2_with fail
    rw [Lib.run_from_unsafe w ⟨x.g, 0, none⟩ Try.underlying128 Try.underlying101 hj hsh liesB]
    simp only [Result.andThen]
    rw [Oper.upon_value]
    go_wp2_with fail
    go_end0
    exact ⟨rfl, HS.out, chg_set _ _ _ _⟩
  · rw [hp] at c0
    have hnq : (binOp .neq 101 (.pointer (some ⟨x.g, 0, none⟩)) (.pointer (some ⟨x.g, 0, none⟩))).run Try.prog w = .ok (.bool false) w := by
      have h1 : ∀ d : Nat, (Op.equalIn (d + 1) 101 (.pointer (some ⟨x.g, 0, none⟩)) (.pointer (some ⟨x.g, 0, none⟩))).run Try.prog w = .ok true w := fun d => by
        simp [Op.equalIn, run_underlying Try.underlying101, sizeOf, typeInfo, hj, run_sameAddr_same]
      simp only [binOp]
      simp [Op.equal, Op.maxDepth, h1 9999]
    clear hj hjs
    have hx : ({ x with p := .pointer (some ⟨x.g, 0, none⟩) } : Tx) = x := by rw [← hp]
    have HS := Lib.hid h
    clear h hb
    go_enter Try.func83, Try.ntmps83
    go_wp2_with fail
    go_end0
    exact ⟨rfl, by rw [hx]; exact HS.out, Chg.refl _ _⟩
set_option maxRecDepth 100000 in
theorem write_t (w : World) (x : Tx) (s : ByteArray) (h : IsTx w x) (hl : x.s.length + s.size ≤ 140737488355328) : Calls Try.prog 68 #[.pointer (some ⟨x.g, 0, none⟩), .string s] w (RetTx w x s.data.toList) := by
  obtain ⟨i0, hi, hz0, hz1, hz2⟩ := info_parts infoB
  have HC := Lib.hid (check_t w x h)
  have HH := Lib.hid h
  clear h
  go_enter Try.func68, Try.ntmps68
  go_wp2_with fail
  refine HC.out.mono ?_
  rintro e w1 ⟨rfl, h1, hc1⟩
  have hb := h1.blk
  have hown := h1.own
  have c0 : w1.cell? ⟨x.g, 0, none⟩ = some (.pointer (some ⟨x.g, 0, none⟩)) := by rw [cell_of_row _ _ _ _ _ _ hb]; rfl
  have c1 : w1.cell? ⟨x.g, 1, none⟩ = some x.v := by rw [cell_of_row _ _ _ _ _ _ hb]; rfl
  have hbl : x.g < w1.heap.size := blk_lt hb
  have H1 := Lib.hid h1
  have C1 := Lib.hid hc1
  obtain ⟨v, hv⟩ : ∃ v, x.v = v := ⟨_, rfl⟩
  rw [hv] at c1
  simp only at hown
  rw [hv] at hown
  have HV := Lib.hid hv
  clear HC h1 hc1 hb hv
  go_wp2_with (at_builtin; refine wpList_append_txt _ rfl _ _ 57 9 rfl 5 i0 Try.underlying57 Try.underlying9 hi hz0 hz1 hz2 _ _ _ rfl hown s rfl ?c3 ?c4 ?_)
  case c3 => unfold maxLen; omega
  case c4 => omega
  intro v' w2 hown' hgrow hnil hloc
  have hb2 : w2.heap[x.g]? = some (.cells #[.pointer (some ⟨x.g, 0, none⟩), v] 103 (0, 0)) := by
    rw [hgrow.block x.g hbl (fun e => H1.out.ne (by show x.v.ownBlock = some x.g; rw [HV.out]; exact e.symm))]
    rw [← HV.out]
    exact H1.out.blk
  have d0 : w2.cell? ⟨x.g, 0, none⟩ = some (.pointer (some ⟨x.g, 0, none⟩)) := by rw [cell_of_row _ _ _ _ _ _ hb2]; rfl
  have d1 : w2.cell? ⟨x.g, 1, none⟩ = some v := by rw [cell_of_row _ _ _ _ _ _ hb2]; rfl
  have f1 : w2.frozen? ⟨x.g, 1, none⟩ = false := by simp [World.frozen?, hb2]
  have hbl2 : x.g < w2.heap.size := blk_lt hb2
  obtain ⟨ao, n', cap, rfl⟩ : ∃ ao n' cap, v' = .slice ao n' cap := by
    rcases hown'.2 with ⟨hv, _⟩ | ⟨g, cap, cur, fz, hv, _⟩
    · exact ⟨_, _, _, hv⟩
    · exact ⟨_, _, _, hv⟩
  have OWN := Lib.hid hown'
  have GR := Lib.hid hgrow
  have NIL := Lib.hid hnil
  have LOC := Lib.hid hloc
  have B2 := Lib.hid hb2
  clear hown' hgrow hnil hloc hb2 hown c0 c1 hi hz0 hz1 hz2
  go_wp2_with fail
  go_ret2
  have hsz : s.size = s.data.toList.length := by show s.data.size = _; simp
  have hcc : Chg (fun k => x.foot k) w w2 := by
    refine (C1.out.mono (S' := x.foot) (fun k _ e => .inl e)).grown GR.out fun k hk _ => .inr ?_
    rw [HV.out]; exact hk
  have hset : Chg (fun k => k = x.g) w2 (w2.setCell ⟨x.g, 1, none⟩ (.slice ao n' cap)) := chg_set _ _ _ _
  have hne : (Value.slice ao n' cap).ownBlock ≠ some x.g := fun e => by
    rcases OWN.out.2 with ⟨hv, _⟩ | ⟨g, cap', cur, fz, hv, _, hg, _⟩
    · rw [hv] at e; cases e
    · rw [hv] at e; cases e; exact blk_type B2.out hg (by decide) rfl
  refine ⟨_, ⟨x.g, .pointer (some ⟨x.g, 0, none⟩), .slice ao n' cap, x.s ++ s.data.toList⟩, rfl, rfl, rfl, ⟨?_, ⟨?_, ?_⟩, .inr rfl, fun e => ?_⟩, hcc.trans hset (fun i _ e => .inl e), fun k hk => ?_⟩
  · simp [World.setCell, Array.getElem?_modify, B2.out]
  · simp [Lib.byteCells]
  · have h2 := OWN.out.2
    simp only [List.length_append, ← hsz]
    rcases h2 with hv | ⟨g, cap', cur, fz, hv, h0, hg, hr⟩
    · exact .inl hv
    · refine .inr ⟨g, cap', cur, fz, hv, h0, hset.blk hg (fun e => hne (by rw [hv, ← e]; rfl)), ?_⟩
      rw [strCells_eq, ← Lib.byteCells_append] at hr
      exact hr
  · have e1 : x.s = [] := (List.append_eq_nil_iff.1 e).1
    have e2 : s.data.toList = [] := (List.append_eq_nil_iff.1 e).2
    exact NIL.out.2 ⟨by rw [← HV.out]; exact HH.out.nil e1, by have : s.data = #[] := Array.toList_eq_nil_iff.1 e2; cases s; simp_all⟩
  · rcases hk with hk | hk
    · exact .inl (.inl hk)
    · rcases LOC.out k hk with h1 | h1
      · exact .inl (.inr (by rw [HV.out]; exact h1))
      · exact .inr (Nat.le_trans C1.out.size h1)
set_option maxRecDepth 100000 in
theorem string_t (w : World) (x : Tx) (h : IsTx w x) : Calls Try.prog 69 #[.pointer (some ⟨x.g, 0, none⟩)] w fun e w' => e = .returned (.string ⟨x.s.toArray⟩) ∧ IsTx w' x ∧ Chg (fun k => x.v.ownBlock = some k) w w' := by
  have hb := h.blk
  rcases h.own.2 with ⟨hv, hn⟩ | ⟨g, cap, cur, fz, hv, _, hg, hfz, hnc, hcm, hcs, ht⟩
  · have hs : x.s = [] := List.eq_nil_of_length_eq_zero hn
    rw [hv] at hb
    have c1 : w.drew.cell? ⟨x.g, 1, none⟩ = some (.slice none 0 0) := by rw [cell_of_row _ _ _ _ _ _ (show w.drew.heap[x.g]? = _ from hb)]; rfl
    have q1 := Wb.at_ (show w.cell? ⟨x.g, 1, none⟩ = some (.slice none 0 0) from c1)
    have hbl : x.g < w.heap.size := blk_lt hb
    have hUS := Lib.run_unsafeString_none (P := Try.prog) w.drew 121 3 9 none
    have hSD : (Builtin.unsafeSliceData_ #[57] 121 #[.slice none 0 0]).run Try.prog w.drew = .ok (.pointer none) w.drew := rfl
    have HH := Lib.hid h
    have HSS := Lib.hid hs
    clear h hb hs
    go_enter Try.func69, Try.ntmps69
    go_wp2_with fail
    refine wp_region_plan [([0, 1, 2, 3, 5, 6, 7, 8, 9], some (4, false)), ([], some (10, true)), ([11], none)] (by kernel_rfl) (by kernel_rfl) ?_
    refine seg_act _ (by dsimp only [pick, at_]) _ (by dsimp only [pick, at_]) ?_
    repeat (go_big_quiet_step (fail))
    refine wpQuiet_nil ?_
    intro K1 g1 g2
    clear g1
    go_wp2_with (fail)
    refine g2 _ _ (Below.refl _ _).drew ?_
    clear g2
    refine seg_write _ (by dsimp only [pick, at_]) _ (by dsimp only [pick, at_]) ?_
    refine wpQuiet_nil ?_
    intro K2 g1
    go_wp2_with (fail)
    refine seg_end _ (by dsimp only [pick, at_]) ?_
    repeat (go_big_quiet_step (fail))
    refine wpQuiet_nil (NoPanic.normal ?_)
    go_wp2_with (fail)
    go_ret
    exact ⟨by rw [HSS.out]; rfl, HH.out.chg (Chg.refl (fun _ => False) _).drew (fun _ _ e => e), (Chg.refl _ _).drew⟩
  · have hs0 : x.s ≠ [] := fun e => by have := h.nil e; rw [hv] at this; cases this
    have hl0 : x.s.length ≠ 0 := by simpa using hs0
    rw [hv] at hb
    have hnc' : x.s.length ≤ cur.size := by omega
    have c1 : w.drew.cell? ⟨x.g, 1, none⟩ = some (.slice (some ⟨g, 0, none⟩) x.s.length cap) := by rw [cell_of_row _ _ _ _ _ _ (show w.drew.heap[x.g]? = _ from hb)]; rfl
    have hSD : (Builtin.unsafeSliceData_ #[57] 121 #[.slice (some ⟨g, 0, none⟩) x.s.length cap]).run Try.prog w.drew = .ok (.pointer (some ⟨g, 0, none⟩)) w.drew :=
      Lib.run_unsafeSliceData_row _ _ _ _ _ _ (by omega)
    have hUS : (Builtin.unsafeString_ #[121, 3] 9 #[.pointer (some ⟨g, 0, none⟩), .int .i64 x.s.length]).run Try.prog w.drew = .ok (.string ⟨x.s.toArray⟩) (w.drew.freeze ⟨g, 0, none⟩ x.s.length) := by
      refine Lib.run_unsafeString_row w.drew 121 3 9 5 Try.underlying121 (by kernel_rfl) g cur.size (by have hg' : w.drew.heap[g]? = some (.cells cur 5 fz) := hg; simp [World.shape?, hg']) x.s hs0 hnc' (by unfold maxLen at hcm; omega) ?_
      intro j b hx
      exact h.own.cells (g := g) (by rw [hv]; rfl) j (.int .u8 b.toNat) (by simp [Lib.byteCells, hx])
    have hkeep : IsTx (w.drew.freeze ⟨g, 0, none⟩ x.s.length) x := by
      have hA : Lib.BuilderAtF 103 5 0 x.g x.p (Lib.byteCells x.s) w.drew := ⟨Nat.zero_le _, x.v, h.blk, by rw [Lib.byteCells_length]; exact h.own, h.ne⟩
      have hF := hA.froze (g := g) (cap := cap) (by rw [Lib.byteCells_length]; exact c1)
      rw [Lib.byteCells_length] at hF
      obtain ⟨_, v', hb', hown', _⟩ := hF
      have hgb : g ≠ x.g := fun e => h.ne (by rw [hv, e]; rfl)
      have hb2 : (w.drew.freeze ⟨g, 0, none⟩ x.s.length).heap[x.g]? = some (.cells #[x.p, x.v] 103 (0, 0)) := by
        unfold World.freeze
        split
        · exact h.blk
        · simp only [Array.getElem?_modify]
          rw [if_neg hgb]
          exact h.blk
      rw [hb2] at hb'
      have hvv : x.v = v' := by
        injection hb' with hb'
        injection hb' with hb'
        simpa using hb'
      refine ⟨hb2, ?_, h.self, h.nil⟩
      rw [Lib.byteCells_length] at hown'
      rw [hvv]
      exact hown'
    have hchg : Chg (fun k => x.v.ownBlock = some k) w (w.drew.freeze ⟨g, 0, none⟩ x.s.length) := by
      unfold World.freeze
      split
      · exact (Chg.refl _ _).drew
      · refine ⟨rfl, rfl, rfl, by simp, fun k _ hn => ?_⟩
        simp only [Array.getElem?_modify]
        rw [if_neg (fun e => hn (by rw [hv, ← e]; rfl))]
        rfl
    have q1 := Wb.at_ (show w.cell? ⟨x.g, 1, none⟩ = some (.slice (some ⟨g, 0, none⟩) x.s.length cap) from c1)
    have hbl : x.g < w.heap.size := blk_lt hb
    have HK := Lib.hid hkeep
    have HC := Lib.hid hchg
    obtain ⟨n, hn⟩ : ∃ n, x.s.length = n := ⟨_, rfl⟩
    obtain ⟨r, hr⟩ : ∃ r, (Value.string ⟨x.s.toArray⟩) = r := ⟨_, rfl⟩
    rw [hn] at c1 q1 hSD hUS
    rw [hr] at hUS ⊢
    obtain ⟨wf, hwf⟩ : ∃ wf, w.drew.freeze ⟨g, 0, none⟩ n = wf := ⟨_, rfl⟩
    have HK2 := HK.out
    have HC2 := HC.out
    rw [hn, hwf] at HK2 HC2
    rw [hwf] at hUS
    have HK3 := Lib.hid HK2
    have HC3 := Lib.hid HC2
    clear hkeep hchg h hb hg hfz hnc hcm hcs ht hn hr hwf HK HC HK2 HC2 hnc'
    go_enter Try.func69, Try.ntmps69
    go_wp2_with fail
    refine wp_region_plan [([0, 1, 2, 3, 5, 6, 7, 8, 9], some (4, false)), ([], some (10, true)), ([11], none)] (by kernel_rfl) (by kernel_rfl) ?_
    refine seg_act _ (by dsimp only [pick, at_]) _ (by dsimp only [pick, at_]) ?_
    repeat (go_big_quiet_step (fail))
    refine wpQuiet_nil ?_
    intro K1 g1 g2
    clear g1
    go_wp2_with (fail)
    refine g2 _ _ (Below.refl _ _).drew ?_
    clear g2
    refine seg_write _ (by dsimp only [pick, at_]) _ (by dsimp only [pick, at_]) ?_
    refine wpQuiet_nil ?_
    intro K2 g1
    go_wp2_with (fail)
    refine seg_end _ (by dsimp only [pick, at_]) ?_
    repeat (go_big_quiet_step (fail))
    refine wpQuiet_nil (NoPanic.normal ?_)
    go_wp2_with (fail)
    go_ret
    exact ⟨rfl, HK3.out, HC3.out⟩
end Go.Proofs.Ytmnliieiiaedeaa.dk
