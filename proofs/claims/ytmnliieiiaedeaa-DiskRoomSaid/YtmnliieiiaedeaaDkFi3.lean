/-
  What the program does with its files: remove, move; their names.
-/
import Derived.Test.YtmnliieiiaedeaaDkFi2
import Derived.Test.YtmnliieiiaedeaaDkKeys
namespace Go.Proofs.Ytmnliieiiaedeaa.dk
open Go.ChangeShapes Go.WideShapes Go.ChangeAt Go.RowKit Go.Maps Go.Sort Go.Shelf plain words ord mem al
open Go.WideMaps (keyOf_string_mk)

theorem Fil.keep {F : Nat → Prop} {w w' : World} {f : Nat} {fs : AL Nm} (h : Fil w f F fs) (hb : Below w.heap.size w w') : Fil w' f (Ext F w w') fs := by
  have h1 := h.chg (Chg.of_below hb) (fun _ _ e => e)
  obtain ⟨_, _, _, _, _, _, h4⟩ := h
  exact h1.mono (fun k hk => .inl hk) (fun k hk => by
    rcases hk with e | e
    · exact Nat.lt_of_lt_of_le (h4 k e) hb.size
    · exact e.2)
/-- what is left of the texts, under the same or other names -/
theorem Fi.less {w w' : World} {f mb n : Nat} {D D' : DU} {es es' : AL Tx} (h : Fi w f mb D es) (hc : Chg (fun k => k = f ∨ k = mb) w w') (hb : w'.heap[f]? = some (.cells #[.map (some mb), .int .i64 (sum txlen es' : Nat)] 78 (0, 0)))
    (hm : w'.ownsMap Try.prog 9 pe mb n D') (hr : Rep D' es') (hs : Srt es') (hin : ∀ p ∈ es', ∃ p0 ∈ es, p0.2 = p.2)
    (hap : ∀ p ∈ es', ∀ q ∈ es', p.1 ≠ q.1 → ∀ k, p.2.foot k → ¬ q.2.foot k) : Fi w' f mb D' es' := by
  refine ⟨hb, hr.tight hs hm, hr, hs, fun p hp => ?_, hap⟩
  obtain ⟨p0, h0, e⟩ := hin p hp
  rw [← e]
  exact (h.tx p0 h0).chg hc fun k hk e' => by
    rcases e' with e' | e'
    · subst e'; exact (h.neF h0).1 hk
    · subst e'; exact (h.neF h0).2 hk
theorem del_in {α : Type} {l : AL α} {q : Nm} {p : Nm × α} (h : p ∈ al.del l q) : p ∈ l := (mem_del.1 h).1
set_option maxRecDepth 100000 in
set_option maxHeartbeats 1000000 in
theorem remove_f (w : World) (f : Nat) (F : Nat → Prop) (fs : AL Nm) (s : ByteArray) (h : Fil w f F fs) (hl : s.size ≤ maxLen) (hbig : fsum fs ≤ 2199023255552) :
    Calls Try.prog 62 #[.pointer (some ⟨f, 0, none⟩), .string s] w (RetFil w f F (al.del fs s.data.toList)) := by
  have HH := Lib.hid (has_f w f F fs s h hl)
  have FH := Lib.hid h
  cases hq : get fs s.data.toList with
  | none =>
    have HD := Lib.hid (del_absent hq)
    rw [hq] at HH
    clear h hq
    go_enter Try.func62, Try.ntmps62
    go_wp2_with fail
    refine HH.out.mono ?_
    rintro e w1 ⟨rfl, rfl⟩
    clear HH
    simp only [Option.isSome_none]
    go_wp2_with fail
    go_end0
    exact ⟨rfl, by rw [HD.out]; exact FH.out.keep (Below.refl _ _), Chg.refl _ _⟩
  | some t =>
    obtain ⟨mb, D, es, h1, rfl, h3, h4⟩ := h
    have hq0 := hq
    rw [mapv_get] at hq
    obtain ⟨x, hx, rfl⟩ := Option.map_eq_some_iff.1 hq
    rw [hq0] at HH
    rw [fsum_mapv] at hbig
    have hsd := sum_del (f := txlen) h1.srt hx
    obtain ⟨L, hL⟩ : ∃ L, x.s.length = L := ⟨_, rfl⟩
    obtain ⟨T, hT⟩ : ∃ T, sum txlen es = T := ⟨_, rfl⟩
    have hLT : L ≤ T := by rw [← hL, ← hT]; have : txlen x = x.s.length := rfl; omega
    have hsum : sum txlen (al.del es s.data.toList) = T - L := by rw [← hL, ← hT]; have : txlen x = x.s.length := rfl; omega
    have hb0 := h1.blk
    rw [hT] at hb0 hbig
    have c0 : w.cell? ⟨f, 0, none⟩ = some (.map (some mb)) := by rw [cell_of_row _ _ _ _ _ _ hb0]; rfl
    have c1 : w.cell? ⟨f, 1, none⟩ = some (.int .i64 (T : Nat)) := by rw [cell_of_row _ _ _ _ _ _ hb0]; rfl
    have f1 : w.drew.frozen? ⟨f, 1, none⟩ = false := by
      have : w.drew.heap[f]? = _ := hb0
      simp [World.frozen?, this]
    have f1' : w.frozen? ⟨f, 1, none⟩ = false := by simp [World.frozen?, hb0]
    have q0 := Wb.at_ c0
    have q1 := Wb.at_ c1
    have hk : ∀ u : Wb w, (Instr.lookup 76 (.map (some mb)) (.string s) false).run Try.prog u.w = .ok (.pointer (some ⟨x.g, 0, none⟩)) u.w := fun u => (h1.chg (Chg.of_below u.h) (fun _ _ e => e)).look s hl hx
    have HLEN := Lib.hid (len_t w.drew x ((h1.tx _ (mem_get hx)).chg (Chg.refl (fun _ => False) _).drew (fun _ _ e => e)))
    rw [hL] at HLEN
    have hw1 : IntKind.i64.wrap ((T : Int) - (L : Int)) = ((T - L : Nat) : Int) := by rw [IntWalk.i64_in _ (by omega)]; omega
    have hfl : f < w.heap.size := blk_lt hb0
    obtain ⟨w2, hw2⟩ : ∃ w2, (w.setCell ⟨f, 1, none⟩ (.int .i64 ((T - L : Nat) : Int))).drew = w2 := ⟨_, rfl⟩
    have hb2 : w2.heap[f]? = some (.cells #[.map (some mb), .int .i64 ((T - L : Nat) : Int)] 78 (0, 0)) := by
      rw [← hw2]
      show (w.setCell ⟨f, 1, none⟩ (.int .i64 ((T - L : Nat) : Int))).heap[f]? = _
      simp [World.setCell, Array.getElem?_modify, hb0]
    have hc2 : Chg (fun k => k = f) w w2 := by rw [← hw2]; exact (chg_set _ _ _ _).drew
    have hown2 := own_map_chg h1.map hc2 (fun e => h1.ne e.symm)
    have d0 : w2.cell? ⟨f, 0, none⟩ = some (.map (some mb)) := by rw [cell_of_row _ _ _ _ _ _ hb2]; rfl
    have hfl2 : f < w2.heap.size := blk_lt hb2
    have hkey := keyOf_string_mk (k := 9) Try.underlying9 hl
    have H1 := Lib.hid h1
    have H3 := Lib.hid h3
    have H4 := Lib.hid h4
    have HX := Lib.hid hx
    have SUM := Lib.hid hsum
    have B2 := Lib.hid hb2
    have C2 := Lib.hid hc2
    have W2 := Lib.hid hw2
    clear h1 h3 h4 hx hq hq0 hsd hsum hb0 hb2 hc2 hL hT hw2 c0
    go_enter Try.func62, Try.ntmps62
    go_wp2_with fail
    refine HH.out.mono ?_
    rintro e w1 ⟨rfl, rfl⟩
    clear HH
    simp only [Option.isSome_some]
    go_wp2_with fail
    refine wp_region_plan [([0, 1, 2, 3, 4, 5, 6, 7, 8, 9], some (10, false)), ([11, 12, 13], some (14, true)), ([], none)] (by kernel_rfl) (by kernel_rfl) ?_
    refine seg_act _ (by dsimp only [pick, at_]) _ (by dsimp only [pick, at_]) ?_
    repeat (go_big_quiet_step (fail))
    refine wpQuiet_nil ?_
    intro K1 g1 g2
    clear g1 q0 q1 hk
    go_wp2_with (fail)
    refine HLEN.out.mono ?_
    rintro e w3 ⟨rfl, rfl⟩
    clear HLEN
    go_wp2_with (fail)
    refine g2 _ _ (Below.refl _ _).drew ?_
    clear g2
    refine seg_write _ (by dsimp only [pick, at_]) _ (by dsimp only [pick, at_]) ?_
    repeat (go_big_quiet_step (fail))
    refine wpQuiet_nil ?_
    intro K2 g1
    go_wp2_with (fail)
    refine seg_end _ (by dsimp only [pick, at_]) ?_
    repeat (go_big_quiet_step (fail))
    refine wpQuiet_nil (NoPanic.normal ?_)
    rw [W2.out]
    go_wp2_with (at_delete; refine wpList_delete_own _ rfl _ _ 76 9 rfl 101 law Try.underlying76 pe mb es.length D rfl hown2 _ _ rfl hkey ?_; intro w3 hown3 hturn3)
    go_end0
    have hc3 : Chg (fun k => k = f ∨ k = mb) w w3 := (C2.out.mono (fun _ _ e => .inl e)).grown hturn3.grown (fun k e _ => by cases e; exact .inr rfl)
    have hb3 : w3.heap[f]? = some (.cells #[.map (some mb), .int .i64 ((T - L : Nat) : Int)] 78 (0, 0)) := (hturn3.grown.block f hfl2 (fun e => H1.out.ne (by injection e))).trans B2.out
    have hfi : Fi w3 f mb (D.del (.string s.data.toList)) (al.del es s.data.toList) := H1.out.less hc3 (by rw [SUM.out]; exact hb3) hown3 (H1.out.rep.del _) (srt_del H1.out.srt _) (fun p hp => ⟨p, del_in hp, rfl⟩) (fun p hp q hq => H1.out.apart p (del_in hp) q (del_in hq))
    refine ⟨rfl, ?_, hc3.mono fun k _ e => ?_⟩
    · have := Fil.ext hfi H4.out hc3.size (F := F) fun k hk => .inl (by
        rcases hk with e | e | ⟨p, hp, hk⟩
        · exact H3.out k (.inl e)
        · exact H3.out k (.inr (.inl e))
        · exact H3.out k (.inr (.inr ⟨p, del_in hp, hk⟩)))
      rw [mapv_del] at this
      exact this
    · rcases e with e | e
      · exact H3.out k (.inl e)
      · exact H3.out k (.inr (.inl e))
/-- a file under another name -/
def mv (fs : AL Nm) (a b : Nm) : AL Nm := if a = b then fs else match get fs a with
  | none => fs
  | some s => al.put (al.del fs a) b s
theorem mv_eq {fs : AL Nm} (hs : Srt fs) {a b s : Nm} (hab : ¬ a = b) (ha : get fs a = some s) : mv fs a b = al.del (al.put (al.del fs b) b s) a := by
  unfold mv
  rw [if_neg hab, ha]
  refine srt_ext (srt_put (srt_del hs _) _ _) (srt_del (srt_put (srt_del hs _) _ _) _) fun q => ?_
  by_cases e1 : q = b
  · subst e1; rw [get_put_same, get_del_other (fun e => hab e.symm), get_put_same]
  · rw [get_put_other _ e1]
    by_cases e2 : q = a
    · subst e2; rw [get_del_same, get_del_same]
    · rw [get_del_other e2, get_del_other e2, get_put_other _ e1, get_del_other e1]
set_option maxRecDepth 100000 in
set_option maxHeartbeats 1000000 in
theorem move_f (w : World) (f : Nat) (F : Nat → Prop) (fs : AL Nm) (s t : ByteArray) (h : Fil w f F fs) (hl : s.size ≤ maxLen) (hlt : t.size ≤ maxLen) (hbig : fsum fs ≤ 2199023255552) (hfew : fs.length < 1099511627776) (hthere : get fs s.data.toList ≠ none) :
    Calls Try.prog 64 #[.pointer (some ⟨f, 0, none⟩), .string s, .string t] w (RetFil w f F (mv fs s.data.toList t.data.toList)) := by
  have FH := Lib.hid h
  by_cases hst : s = t
  · subst hst
    have hmv : mv fs s.data.toList s.data.toList = fs := by unfold mv; rw [if_pos rfl]
    have HM := Lib.hid hmv
    clear h hmv
    go_enter Try.func64, Try.ntmps64
    go_wp2_with fail
    go_end0
    exact ⟨rfl, by rw [HM.out]; exact FH.out.keep (Below.refl _ _), Chg.refl _ _⟩
  · have hne : ¬ s.data.toList = t.data.toList := fun e => hst (by cases s; cases t; congr; exact Array.toList_inj.1 e)
    obtain ⟨c, hc⟩ := Option.ne_none_iff_exists'.1 hthere
    have HMV := Lib.hid (mv_eq h.srt hne hc)
    have hd : get (al.del fs t.data.toList) s.data.toList = some c := by rw [get_del_other hne]; exact hc
    have hbig2 : fsum (al.del fs t.data.toList) ≤ 2199023255552 := by
      cases hg : get fs t.data.toList with
      | none => rw [del_absent hg]; exact hbig
      | some y => have := sum_del (f := List.length) h.srt hg; unfold fsum at hbig ⊢; omega
    have hfew2 : (al.del fs t.data.toList).length < 1099511627776 := Nat.lt_of_le_of_lt (List.length_filter_le _ _) hfew
    have HR := Lib.hid (remove_f w f F fs t h hlt hbig)
    have HD := Lib.hid hd
    have HNE := Lib.hid hne
    have h4 : ∀ k, F k → k < w.heap.size := by obtain ⟨_, _, _, _, _, _, h4⟩ := h; exact h4
    have H4 := Lib.hid h4
    have hst' : (s.toList == t.toList) = false := by rw [ByteArray.toList_eq, ByteArray.toList_eq]; simpa using hne
    clear h hthere hc hd hne h4
    go_enter Try.func64, Try.ntmps64
    go_wp2_with fail
    refine HR.out.mono ?_
    rintro e w1 ⟨rfl, h1, hc1⟩
    clear HR
    obtain ⟨mb, D, es, h1, hfs, h3, h4'⟩ := h1
    have hd := HD.out
    rw [hfs, mapv_get] at hd
    obtain ⟨x, hx, rfl⟩ := Option.map_eq_some_iff.1 hd
    have hnone : get es t.data.toList = none := by
      have := get_del_same fs t.data.toList
      rw [hfs, mapv_get] at this
      simpa using this
    have hb1 := h1.blk
    obtain ⟨T, hT⟩ : ∃ T, sum txlen es = T := ⟨_, rfl⟩
    rw [hT] at hb1
    have c0 : w1.cell? ⟨f, 0, none⟩ = some (.map (some mb)) := by rw [cell_of_row _ _ _ _ _ _ hb1]; rfl
    have q0 := Wb.at_ c0
    have hk : ∀ u : Wb w1, (Instr.lookup 76 (.map (some mb)) (.string s) false).run Try.prog u.w = .ok (.pointer (some ⟨x.g, 0, none⟩)) u.w := fun u => (h1.chg (Chg.of_below u.h) (fun _ _ e => e)).look s hl hx
    have hfl : f < w1.heap.size := blk_lt hb1
    have hml : mb < w1.heap.size := h1.map.lt
    have hkeyt := keyOf_string_mk (k := 9) Try.underlying9 hlt
    have hkeys := keyOf_string_mk (k := 9) Try.underlying9 hl
    have hown1 : w1.drew.ownsMap Try.prog 9 pe mb es.length D := h1.map
    have hlen : es.length < 1099511627776 := by
      have := congrArg List.length hfs
      simp only [mapv, List.length_map] at this
      omega
    have H1 := Lib.hid h1
    have H3 := Lib.hid h3
    have HX := Lib.hid hx
    have HN := Lib.hid hnone
    have HFS := Lib.hid hfs
    have HT := Lib.hid hT
    have B1 := Lib.hid hb1
    have C1 := Lib.hid hc1
    have hs1 : w.heap.size ≤ w1.heap.size := hc1.size
    clear h1 h3 h4' hd hx hnone hb1 hT hc1 hfs
    go_wp2_with fail
    refine wp_region_plan [([0, 1, 2, 3, 4, 5, 6, 7, 8, 9, 10], some (11, true)), ([], none)] (by kernel_rfl) (by kernel_rfl) ?_
    refine seg_write _ (by dsimp only [pick, at_]) _ (by dsimp only [pick, at_]) ?_
    repeat (go_big_quiet_step (fail))
    refine wpQuiet_nil ?_
    intro K2 g1
    clear q0 hk
    go_wp2_with (at_mapUpdate; refine wpList_mapUpdate_own _ rfl _ _ _ 76 rfl 9 101 law Try.underlying76 pe mb es.length D rfl hown1 (by unfold maxLen; omega) _ _ _ rfl rfl hkeyt (dg x.g) [] rfl ?_; intro w2 hown2 hgrow2)
    refine seg_end _ (by dsimp only [pick, at_]) ?_
    repeat (go_big_quiet_step (fail))
    refine wpQuiet_nil (NoPanic.normal ?_)
    have hfm : f ≠ mb := H1.out.ne
    have hb2 : w2.heap[f]? = some (.cells #[.map (some mb), .int .i64 (T : Nat)] 78 (0, 0)) := (hgrow2.block f hfl (fun e => hfm (by injection e))).trans B1.out
    have d0 : w2.cell? ⟨f, 0, none⟩ = some (.map (some mb)) := by rw [cell_of_row _ _ _ _ _ _ hb2]; rfl
    have hfl2 : f < w2.heap.size := blk_lt hb2
    have GR2 := Lib.hid hgrow2
    have B2 := Lib.hid hb2
    clear hgrow2 hb2 hown1 c0
    go_wp2_with (at_delete; refine wpList_delete_own _ rfl _ _ 76 9 rfl 101 law Try.underlying76 pe mb _ _ rfl hown2 _ _ rfl hkeys ?_; intro w3 hown3 hturn3)
    go_end0
    have hc12 : Chg (fun k => k = f ∨ k = mb) w1 w2 := ((Chg.refl _ _).drew).grown GR2.out (fun k e _ => by cases e; exact .inr rfl)
    have hc3 : Chg (fun k => k = f ∨ k = mb) w1 w3 := hc12.grown hturn3.grown (fun k e _ => by cases e; exact .inr rfl)
    have hb3 : w3.heap[f]? = some (.cells #[.map (some mb), .int .i64 (T : Nat)] 78 (0, 0)) := (hturn3.grown.block f hfl2 (fun e => hfm (by injection e))).trans B2.out
    have hput : get (al.put es t.data.toList x) s.data.toList = some x := by rw [get_put_other _ HNE.out]; exact HX.out
    have hsum : sum txlen (al.del (al.put es t.data.toList x) s.data.toList) = T := by
      have h5 := sum_del (f := txlen) (srt_put H1.out.srt t.data.toList x) hput
      rw [sum_put_new HN.out, HT.out] at h5
      omega
    have hmem : ∀ p ∈ al.del (al.put es t.data.toList x) s.data.toList, p = (t.data.toList, x) ∨ (p ∈ es ∧ p.1 ≠ s.data.toList) := fun p hp => by
      obtain ⟨h5, h6⟩ := mem_del.1 hp
      rcases mem_put h5 with h7 | h7
      · exact .inl h7
      · exact .inr ⟨h7, h6⟩
    have hfi := H1.out.less hc3 (by rw [hsum]; exact hb3) hown3 ((H1.out.rep.put t.data.toList x).del s.data.toList) (srt_del (srt_put H1.out.srt _ _) _) (fun p hp => by
        rcases hmem p hp with rfl | ⟨h5, _⟩
        · exact ⟨_, mem_get HX.out, rfl⟩
        · exact ⟨p, h5, rfl⟩) (fun p hp q hq hne k hk hk2 => by
        rcases hmem p hp with rfl | ⟨h5, h6⟩
        · rcases hmem q hq with rfl | ⟨h7, h8⟩
          · exact hne rfl
          · exact H1.out.apart _ (mem_get HX.out) q h7 (fun e => h8 e.symm) k hk hk2
        · rcases hmem q hq with rfl | ⟨h7, h8⟩
          · exact H1.out.apart p h5 _ (mem_get HX.out) h6 k hk hk2
          · exact H1.out.apart p h5 q h7 hne k hk hk2)
    refine ⟨rfl, ?_, ?_⟩
    · have h9 := Fil.ext hfi (w := w) (F := F) H4.out (Nat.le_trans hs1 hc3.size) fun k hk => by
        have h10 : Foot f mb es k := by
          rcases hk with e | e | ⟨p, hp, hk⟩
          · exact .inl e
          · exact .inr (.inl e)
          · rcases hmem p hp with rfl | ⟨h5, _⟩
            · exact .inr (.inr ⟨_, mem_get HX.out, hk⟩)
            · exact .inr (.inr ⟨p, h5, hk⟩)
        exact (H3.out k h10).imp id (fun e => e.1)
      rw [mapv_del, mapv_put, ← HFS.out] at h9
      rw [HMV.out]
      exact h9
    · refine C1.out.trans hc3 fun k hk e => ?_
      have h10 : Foot f mb es k := by
        rcases e with e | e
        · exact .inl e
        · exact .inr (.inl e)
      rcases H3.out k h10 with e | e
      · exact e
      · omega
end Go.Proofs.Ytmnliieiiaedeaa.dk
