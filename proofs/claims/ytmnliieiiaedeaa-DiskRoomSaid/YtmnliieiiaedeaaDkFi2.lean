/-
  What the program does with its files.
-/
import Derived.Test.YtmnliieiiaedeaaDkFi
namespace Go.Proofs.Ytmnliieiiaedeaa.dk
open Go.ChangeShapes Go.WideShapes Go.ChangeAt Go.RowKit Go.Maps Go.Sort plain words ord mem al
open Go.WideMaps (keyOf_string_mk)

theorem Fil.ext {F : Nat → Prop} {w w' : World} {f mb : Nat} {D : DU} {es : AL Tx} (h : Fi w' f mb D es) (hF : ∀ k, F k → k < w.heap.size) (hs : w.heap.size ≤ w'.heap.size) (hnew : ∀ k, Foot f mb es k → F k ∨ w.heap.size ≤ k) : Fil w' f (Ext F w w') (mapv Tx.s es) :=
  ⟨mb, D, es, h, rfl, fun k hk => (hnew k hk).imp id (fun e => ⟨e, h.lt hk⟩), fun k hk => by
    rcases hk with e | e
    · exact Nat.lt_of_lt_of_le (hF k e) hs
    · exact e.2⟩
/-- what a read answers -/
def ans (o : Option Nm) : Value := match o with
  | some t => .tuple #[.string ⟨t.toArray⟩, .bool true]
  | none => .tuple #[.string ⟨#[]⟩, .bool false]
set_option maxRecDepth 100000 in
theorem read_f (w : World) (f : Nat) (F : Nat → Prop) (fs : AL Nm) (s : ByteArray) (h : Fil w f F fs) (hl : s.size ≤ maxLen) :
    Calls Try.prog 51 #[.pointer (some ⟨f, 0, none⟩), .string s] w fun e w' => e = .returned (ans (get fs s.data.toList)) ∧ Fil w' f F fs ∧ Chg F w w' := by
  have HH := Lib.hid h
  obtain ⟨mb, D, es, h1, rfl, h3, h4⟩ := h
  have c0 : w.cell? ⟨f, 0, none⟩ = some (.map (some mb)) := by rw [cell_of_row _ _ _ _ _ _ h1.blk]; rfl
  rw [mapv_get]
  cases hq : get es s.data.toList with
  | none =>
    have hk := h1.look0 s hl hq
    clear h1 hq h3 h4
    go_enter Try.func51, Try.ntmps51
    go_wp2_with fail
    go_ret2
    exact ⟨rfl, HH.out, Chg.refl _ _⟩
  | some x =>
    have hk := h1.look s hl hq
    have HS := Lib.hid (string_t w x (h1.tx _ (mem_get hq)))
    have H1 := Lib.hid h1
    have H3 := Lib.hid h3
    have H4 := Lib.hid h4
    have HQ := Lib.hid hq
    clear h1 hq h3 h4
    go_enter Try.func51, Try.ntmps51
    go_wp2_with fail
    refine HS.out.mono ?_
    rintro e w1 ⟨rfl, ht, hc⟩
    have HT := Lib.hid ht
    have HC := Lib.hid hc
    clear ht hc HS hk
    go_wp2_with fail
    go_ret2
    refine ⟨rfl, ⟨mb, D, es, ?_, rfl, H3.out, fun k hk => Nat.lt_of_lt_of_le (H4.out k hk) HC.out.size⟩, HC.out.mono fun k _ e => H3.out k (.inr (.inr ⟨_, mem_get HQ.out, .inr e⟩))⟩
    have hm := mem_get HQ.out
    have hn := H1.out.neF hm
    refine ⟨HC.out.blk H1.out.blk (fun e => hn.1 (.inr e)), own_map_chg H1.out.map HC.out (fun e => hn.2 (.inr e)), H1.out.rep, H1.out.srt, fun p hp => ?_, H1.out.apart⟩
    by_cases e : p.1 = s.data.toList
    · have := get_mem H1.out.srt (q := p.1) (x := p.2) (by simpa using hp)
      rw [e, HQ.out] at this
      injection this with this
      rw [← this]; exact HT.out
    · exact (H1.out.tx p hp).chg HC.out fun k hk e' => H1.out.apart p hp _ hm e k hk (.inr e')
set_option maxRecDepth 100000 in
theorem new_f (w : World) :
    Calls Try.prog 41 #[] w fun e w' => ∃ f, e = .returned (.pointer (some ⟨f, 0, none⟩)) ∧ w.heap.size ≤ f ∧ Fil w' f (fun k => w.heap.size ≤ k ∧ k < w'.heap.size) [] ∧ Below w.heap.size w w' := by
  have hmm := @run_makeMap Try.prog
  go_enter Try.func41, Try.ntmps41
  go_wp2_with fail
  go_ret
  have hown := World.ownsMap_made w Try.prog 9 pe
  have hb : Below w.heap.size w ((w.alloc (.map #[] 0)).alloc (.cells #[.map (some w.heap.size), .int .i64 0] 78)) := ((Below.refl _ _).alloc (Nat.le_refl _) _).alloc (by simp) _
  have hf : Fi ((w.alloc (.map #[] 0)).alloc (.cells #[.map (some w.heap.size), .int .i64 0] 78)) (w.heap.size + 1) w.heap.size (.map []) [] :=
    ⟨by have := alloc_new (w.alloc (.map #[] 0)) (.cells #[.map (some w.heap.size), .int .i64 0] 78); rw [show (w.alloc (.map #[] 0)).heap.size = w.heap.size + 1 by simp] at this; exact this, hown.alloc _, Rep.nil, .nil, fun p hp => (by cases hp), fun p hp => (by cases hp)⟩
  refine ⟨w.heap.size + 1, rfl, by omega, ⟨w.heap.size, _, [], hf, rfl, fun k hk => ⟨?_, hf.lt hk⟩, fun k hk => hk.2⟩, hb⟩
  rcases hk with rfl | rfl | ⟨p, hp, _⟩
  · omega
  · exact Nat.le_refl _
  · cases hp
set_option maxRecDepth 100000 in
set_option maxHeartbeats 1000000 in
theorem add_f (w : World) (f : Nat) (F : Nat → Prop) (fs : AL Nm) (s t : ByteArray) (h : Fil w f F fs) (hl : s.size ≤ maxLen) (hbig : fsum fs + t.size ≤ 1099511627776) (hfew : fs.length < 1099511627776) :
    Calls Try.prog 45 #[.pointer (some ⟨f, 0, none⟩), .string s, .string t] w (RetFil w f F (al.put fs s.data.toList ((get fs s.data.toList).getD [] ++ t.data.toList))) := by
  have HH := Lib.hid (has_f w f F fs s h hl)
  obtain ⟨mb, D, es, h1, rfl, h3, h4⟩ := h
  rw [fsum_mapv] at hbig
  have hfew' : es.length < 1099511627776 := by simpa [mapv] using hfew
  have H1 := Lib.hid h1
  have H3 := Lib.hid h3
  have LT := Lib.hid h4
  have HKEY := Lib.hid (keyOf_string_mk (k := 9) Try.underlying9 hl)
  clear hfew
  cases hq : get es s.data.toList with
  | none =>
    have HQ := Lib.hid hq
    have hhas : (get (mapv Tx.s es) s.data.toList).isSome = false := by rw [mapv_get, hq]; rfl
    have HAS := Lib.hid hhas
    have c0 : w.cell? ⟨f, 0, none⟩ = some (.map (some mb)) := by rw [cell_of_row _ _ _ _ _ _ h1.blk]; rfl
    have hown1 := h1.map.alloc (.cells #[.pointer none, .slice none 0 0] 103)
    have hfl0 : f < w.heap.size := blk_lt h1.blk
    have hml0 : mb < w.heap.size := h1.map.lt
    have hkey := HKEY.out
    clear h1 h3 h4 hq hhas
    go_enter Try.func45, Try.ntmps45
    go_wp2_with fail
    refine HH.out.mono ?_
    rintro e w1 ⟨rfl, rfl⟩
    rw [HAS.out]
    clear HH
    go_wp2_with (at_mapUpdate; refine wpList_mapUpdate_own _ rfl _ _ _ 76 rfl 9 101 law Try.underlying76 pe mb es.length D rfl hown1 (by unfold maxLen; omega) _ _ _ rfl rfl hkey (dg w.heap.size) [] rfl ?_)
    intro w2 hown2 hgrow2
    obtain ⟨x2, hx2⟩ : ∃ x2 : Tx, x2 = ⟨w.heap.size, .pointer none, .slice none 0 0, []⟩ := ⟨_, rfl⟩
    obtain ⟨es2, hes2⟩ : ∃ es2, al.put es s.data.toList x2 = es2 := ⟨_, rfl⟩
    have hc02 : Chg (fun k => k = mb) w w2 := ((Chg.refl _ _).alloc _).grown hgrow2 (fun k hk _ => by cases hk; rfl)
    have hsz2 : w.heap.size < w2.heap.size := by have := hgrow2.size; simp at this; omega
    have hx0 : IsTx w2 x2 := by
      rw [hx2]
      refine ⟨?_, World.ownsRowF_nil _ _ _ _, .inl rfl, fun _ => rfl⟩
      rw [hgrow2.block w.heap.size (by simp) (fun e => by injection e with e; omega)]
      exact alloc_new _ _
    have h2 : Fi w2 f mb (D.put (.string s.data.toList) (dg w.heap.size)) es2 := by
      rw [← hes2]
      refine H1.out.put hc02 (fun e => absurd e H1.out.ne) (fun _ => ?_) hown2 ?_ hx0 fun p hp _ k hk => ⟨fun e => ?_, fun e => ?_⟩
      · rw [sum_put_new HQ.out, hx2]; rfl
      · have := H1.out.rep.put s.data.toList x2
        rw [hx2] at this ⊢
        exact this
      · subst e; exact (H1.out.neF hp).2 hk
      · have := (H1.out.tx p hp).lt hk
        rw [hx2] at e
        rcases e with e | e
        · simp at e; omega
        · cases e
    have hgx : get es2 s.data.toList = some x2 := by rw [← hes2, get_put_same]
    have hlen2 : x2.s.length + sum txlen es2 + t.size ≤ 1099511627776 := by
      rw [← hes2, sum_put_new HQ.out, hx2]; show 0 + (_ + 0) + _ ≤ _; omega
    have H2 := Lib.hid h2
    have HX2 := Lib.hid hgx
    have hs02 : w.heap.size ≤ w2.heap.size := by omega
    have NEW := Lib.hid (show ∀ k, Foot f mb es2 k → F k ∨ w.heap.size ≤ k from fun k hk => by
      rw [← hes2] at hk
      rcases hk with e | e | ⟨p, hp, hk⟩
      · exact .inl (H3.out k (.inl e))
      · exact .inl (H3.out k (.inr (.inl e)))
      · rcases mem_put hp with rfl | hp
        · rw [hx2] at hk
          rcases hk with e | e
          · exact .inr (Nat.le_of_eq e.symm)
          · cases e
        · exact .inl (H3.out k (.inr (.inr ⟨p, hp, hk⟩))))
    have SAME := Lib.hid (show al.put (mapv Tx.s es) s.data.toList (((get (mapv Tx.s es) s.data.toList).getD []) ++ t.data.toList) = al.put (mapv Tx.s es2) s.data.toList (x2.s ++ t.data.toList) from by
      rw [← hes2, mapv_put, put_put _ _ _ _ (mapv_srt.2 H1.out.srt), mapv_get, HQ.out, hx2]; rfl)
    have C02 := Lib.hid (hc02.mono (S' := F) fun k _ e => by subst e; exact H3.out k (.inr (.inl rfl)))
    clear hown2 hgrow2 hc02 hx0 h2 hgx hx2 hes2 hown1 hkey c0
    have look := H2.out.look s hl HX2.out
    have HW := Lib.hid (write_t w2 x2 t (H2.out.tx _ (mem_get HX2.out)) (by have := hlen2; omega))
    have hb2 := H2.out.blk
    have c0 : w2.cell? ⟨f, 0, none⟩ = some (.map (some mb)) := by rw [cell_of_row _ _ _ _ _ _ hb2]; rfl
    have hfl : f < w2.heap.size := blk_lt hb2
    clear hb2
    go_wp2_with fail
    refine HW.out.mono ?_
    rintro e w3 ⟨_, y, rfl, hyg, hys, hy, hcy, hyf⟩
    have hnf := (H2.out.neF (mem_get HX2.out)).1
    have hb3 := hcy.blk H2.out.blk hnf
    have d1 : w3.cell? ⟨f, 1, none⟩ = some (.int .i64 (sum txlen es2 : Nat)) := by rw [cell_of_row _ _ _ _ _ _ hb3]; rfl
    have f1 : w3.frozen? ⟨f, 1, none⟩ = false := by simp [World.frozen?, hb3]
    have hfl3 : f < w3.heap.size := blk_lt hb3
    have HY := Lib.hid hy
    have HCY := Lib.hid hcy
    have HYF := Lib.hid hyf
    have HYS := Lib.hid hys
    have HYG := Lib.hid hyg
    have HB3 := Lib.hid hb3
    have HNF := Lib.hid hnf
    have hz1 : IntKind.i64.wrap (((sum txlen es2 : Nat) : Int) + (t.size : Int)) = ((sum txlen es2 + t.size : Nat) : Int) := by rw [IntWalk.i64_in _ (by omega)]; omega
    have hcw : Chg (fun k => x2.foot k ∨ k = f) w2 (w3.setCell ⟨f, 1, none⟩ (.int .i64 ((sum txlen es2 + t.size : Nat) : Int))) := (hcy.mono (fun _ _ e => .inl e)).trans (chg_set _ _ _ _) (fun _ _ e => .inr e)
    have CW := Lib.hid hcw
    clear hb3 hy hcy hyf hys hyg hnf hcw HW look
    go_wp2_with fail
    go_end0
    have hst := sum_put_old (f := txlen) (x := y) H2.out.srt HX2.out
    have hty : txlen y = txlen x2 + t.size := by show y.s.length = x2.s.length + t.size; rw [HYS.out, List.length_append]; have : t.data.toList.length = t.size := (by show _ = t.data.size; simp); rw [this]
    have hsum : sum txlen (al.put es2 s.data.toList y) = sum txlen es2 + t.size := by omega
    have hfi := H2.out.put (q := s.data.toList) (y := y) CW.out (fun _ => by rw [hsum]; simp [World.setCell, Array.getElem?_modify, HB3.out]) (fun e => absurd (.inr rfl) e) (own_map_chg H2.out.map CW.out (fun e => by
        rcases e with e | e
        · exact (H2.out.neF (mem_get HX2.out)).2 e
        · exact H2.out.ne e.symm)) (H2.out.rep.same HX2.out HYG.out) (HY.out.chg (chg_set _ _ _ _) (fun k hk e => by
          subst e
          rcases HYF.out k hk with e | e
          · exact HNF.out e
          · omega)) (fun p hp hne k hk => ⟨fun e => by
            rcases e with e | e
            · exact H2.out.apart p hp _ (mem_get HX2.out) hne k hk e
            · subst e; exact (H2.out.neF hp).1 hk, fun e => by
            rcases HYF.out k e with e | e
            · exact H2.out.apart p hp _ (mem_get HX2.out) hne k hk e
            · have := (H2.out.tx p hp).lt hk; omega⟩)
    have hnew : ∀ k, Foot f mb (al.put es2 s.data.toList y) k → F k ∨ w.heap.size ≤ k := fun k hk => by
      rcases hk with e | e | ⟨p, hp, hk⟩
      · exact NEW.out k (.inl e)
      · exact NEW.out k (.inr (.inl e))
      · rcases mem_put hp with rfl | hp
        · rcases HYF.out k hk with e | e
          · exact NEW.out k (.inr (.inr ⟨_, mem_get HX2.out, e⟩))
          · exact .inr (Nat.le_trans hs02 e)
        · exact NEW.out k (.inr (.inr ⟨p, hp, hk⟩))
    refine ⟨rfl, ?_, ?_⟩
    · have := Fil.ext hfi LT.out (Nat.le_trans hs02 CW.out.size) hnew
      rw [mapv_put, HYS.out] at this
      rw [show al.put (mapv Tx.s es) s.data.toList (((get (mapv Tx.s es) s.data.toList).getD []) ++ t.data.toList) = al.put (mapv Tx.s es2) s.data.toList (x2.s ++ t.data.toList) from SAME.out]
      exact this
    · refine C02.out.trans CW.out fun k hk e => ?_
      rcases e with e | e
      · rcases NEW.out k (.inr (.inr ⟨_, mem_get HX2.out, e⟩)) with e | e
        · exact e
        · omega
      · subst e
        rcases NEW.out k (.inl rfl) with e | e
        · exact e
        · omega
  | some x2 =>
    have hhas : (get (mapv Tx.s es) s.data.toList).isSome = true := by rw [mapv_get, hq]; rfl
    have HAS := Lib.hid hhas
    have HX2 := Lib.hid hq
    have hle := sum_put_old (f := txlen) (x := (⟨0, .nilIface, .nilIface, []⟩ : Tx)) h1.srt hq
    have hle2 : x2.s.length + sum txlen es + t.size ≤ 2199023255552 := by
      simp only [txlen, List.length_nil] at hle; omega
    clear h1 h3 h4 hq hhas hle
    go_enter Try.func45, Try.ntmps45
    go_wp2_with fail
    refine HH.out.mono ?_
    rintro e w2 ⟨rfl, rfl⟩
    rw [HAS.out]
    clear HH
    obtain ⟨es2, hes2⟩ : ∃ es2, es = es2 := ⟨_, rfl⟩
    have hlen2 : x2.s.length + sum txlen es2 + t.size ≤ 2199023255552 := by rw [← hes2]; exact hle2
    have H2 := Lib.hid (show Fi w f mb D es2 from hes2 ▸ H1.out)
    have HX2 := Lib.hid (show get es2 s.data.toList = some x2 from hes2 ▸ HX2.out)
    have NEW := Lib.hid (show ∀ k, Foot f mb es2 k → F k ∨ w.heap.size ≤ k from fun k hk => .inl (H3.out k (hes2 ▸ hk)))
    have SAME := Lib.hid (show al.put (mapv Tx.s es) s.data.toList (((get (mapv Tx.s es) s.data.toList).getD []) ++ t.data.toList) = al.put (mapv Tx.s es2) s.data.toList (x2.s ++ t.data.toList) from by
      rw [hes2, mapv_get, HX2.out]; rfl)
    have C02 := Lib.hid (Chg.refl F w)
    have hs02 : w.heap.size ≤ w.heap.size := Nat.le_refl _
    clear hes2 hle2
    have look := H2.out.look s hl HX2.out
    have HW := Lib.hid (write_t w x2 t (H2.out.tx _ (mem_get HX2.out)) (by have := hlen2; omega))
    have hb2 := H2.out.blk
    have c0 : w.cell? ⟨f, 0, none⟩ = some (.map (some mb)) := by rw [cell_of_row _ _ _ _ _ _ hb2]; rfl
    have hfl : f < w.heap.size := blk_lt hb2
    clear hb2
    go_wp2_with fail
    refine HW.out.mono ?_
    rintro e w3 ⟨_, y, rfl, hyg, hys, hy, hcy, hyf⟩
    have hnf := (H2.out.neF (mem_get HX2.out)).1
    have hb3 := hcy.blk H2.out.blk hnf
    have d1 : w3.cell? ⟨f, 1, none⟩ = some (.int .i64 (sum txlen es2 : Nat)) := by rw [cell_of_row _ _ _ _ _ _ hb3]; rfl
    have f1 : w3.frozen? ⟨f, 1, none⟩ = false := by simp [World.frozen?, hb3]
    have hfl3 : f < w3.heap.size := blk_lt hb3
    have HY := Lib.hid hy
    have HCY := Lib.hid hcy
    have HYF := Lib.hid hyf
    have HYS := Lib.hid hys
    have HYG := Lib.hid hyg
    have HB3 := Lib.hid hb3
    have HNF := Lib.hid hnf
    have hz1 : IntKind.i64.wrap (((sum txlen es2 : Nat) : Int) + (t.size : Int)) = ((sum txlen es2 + t.size : Nat) : Int) := by rw [IntWalk.i64_in _ (by omega)]; omega
    have hcw : Chg (fun k => x2.foot k ∨ k = f) w (w3.setCell ⟨f, 1, none⟩ (.int .i64 ((sum txlen es2 + t.size : Nat) : Int))) := (hcy.mono (fun _ _ e => .inl e)).trans (chg_set _ _ _ _) (fun _ _ e => .inr e)
    have CW := Lib.hid hcw
    clear hb3 hy hcy hyf hys hyg hnf hcw HW look
    go_wp2_with fail
    go_end0
    have hst := sum_put_old (f := txlen) (x := y) H2.out.srt HX2.out
    have hty : txlen y = txlen x2 + t.size := by show y.s.length = x2.s.length + t.size; rw [HYS.out, List.length_append]; have : t.data.toList.length = t.size := (by show _ = t.data.size; simp); rw [this]
    have hsum : sum txlen (al.put es2 s.data.toList y) = sum txlen es2 + t.size := by omega
    have hfi := H2.out.put (q := s.data.toList) (y := y) CW.out (fun _ => by rw [hsum]; simp [World.setCell, Array.getElem?_modify, HB3.out]) (fun e => absurd (.inr rfl) e) (own_map_chg H2.out.map CW.out (fun e => by
        rcases e with e | e
        · exact (H2.out.neF (mem_get HX2.out)).2 e
        · exact H2.out.ne e.symm)) (H2.out.rep.same HX2.out HYG.out) (HY.out.chg (chg_set _ _ _ _) (fun k hk e => by
          subst e
          rcases HYF.out k hk with e | e
          · exact HNF.out e
          · omega)) (fun p hp hne k hk => ⟨fun e => by
            rcases e with e | e
            · exact H2.out.apart p hp _ (mem_get HX2.out) hne k hk e
            · subst e; exact (H2.out.neF hp).1 hk, fun e => by
            rcases HYF.out k e with e | e
            · exact H2.out.apart p hp _ (mem_get HX2.out) hne k hk e
            · have := (H2.out.tx p hp).lt hk; omega⟩)
    have hnew : ∀ k, Foot f mb (al.put es2 s.data.toList y) k → F k ∨ w.heap.size ≤ k := fun k hk => by
      rcases hk with e | e | ⟨p, hp, hk⟩
      · exact NEW.out k (.inl e)
      · exact NEW.out k (.inr (.inl e))
      · rcases mem_put hp with rfl | hp
        · rcases HYF.out k hk with e | e
          · exact NEW.out k (.inr (.inr ⟨_, mem_get HX2.out, e⟩))
          · exact .inr (Nat.le_trans hs02 e)
        · exact NEW.out k (.inr (.inr ⟨p, hp, hk⟩))
    refine ⟨rfl, ?_, ?_⟩
    · have := Fil.ext hfi LT.out (Nat.le_trans hs02 CW.out.size) hnew
      rw [mapv_put, HYS.out] at this
      rw [show al.put (mapv Tx.s es) s.data.toList (((get (mapv Tx.s es) s.data.toList).getD []) ++ t.data.toList) = al.put (mapv Tx.s es2) s.data.toList (x2.s ++ t.data.toList) from SAME.out]
      exact this
    · refine C02.out.trans CW.out fun k hk e => ?_
      rcases e with e | e
      · rcases NEW.out k (.inr (.inr ⟨_, mem_get HX2.out, e⟩)) with e | e
        · exact e
        · omega
      · subst e
        rcases NEW.out k (.inl rfl) with e | e
        · exact e
        · omega
end Go.Proofs.Ytmnliieiiaedeaa.dk
