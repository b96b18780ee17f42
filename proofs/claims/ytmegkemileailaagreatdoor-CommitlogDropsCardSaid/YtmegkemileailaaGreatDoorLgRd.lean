/-
  A read of the disk, sharper: it turns rows of bytes alone, and the disk lies where it lay.
-/
import Derived.Test.YtmegkemileailaaGreatDoorDkB
import Derived.RangeFuncNested
namespace Go.Proofs.YtmegkemileailaaGreatDoor.dk
open Go.ChangeShapes Go.WideShapes Go.ChangeAt Go.RowKit Go.Maps Go.Sort plain words ord mem al
open Go.WideMaps (keyOf_string_mk)

/-- rows of bytes of F alone turn -/
def Rows8 (F : Nat → Prop) (w w' : World) : Prop := ∃ S, Chg S w w' ∧ ∀ k, S k → F k ∧ ∃ c fr, w.heap[k]? = some (.cells c 5 fr)
theorem Rows8.refl (F : Nat → Prop) (w : World) : Rows8 F w w := ⟨fun _ => False, Chg.refl _ _, fun _ h => h.elim⟩
theorem Rows8.chg {F : Nat → Prop} {w w' : World} (h : Rows8 F w w') : Chg F w w' := by
  obtain ⟨S, h1, h2⟩ := h
  exact h1.mono fun k _ e => (h2 k e).1
theorem Rows8.mono {F G : Nat → Prop} {w w' : World} (h : Rows8 F w w') (hs : ∀ k, F k → G k) : Rows8 G w w' := by
  obtain ⟨S, h1, h2⟩ := h
  exact ⟨S, h1, fun k e => ⟨hs k (h2 k e).1, (h2 k e).2⟩⟩
/-- what is no row of bytes lies as it lay -/
theorem Rows8.keep {F : Nat → Prop} {w w' : World} (h : Rows8 F w w') {k : Nat} {o : Obj} (hk : w.heap[k]? = some o) (ho : ∀ c fr, o ≠ .cells c 5 fr) : w'.heap[k]? = some o := by
  obtain ⟨S, h1, h2⟩ := h
  refine h1.blk hk fun e => ?_
  obtain ⟨_, c, fr, hh⟩ := h2 k e
  rw [hk] at hh
  cases hh
  exact ho _ _ rfl
set_option maxRecDepth 100000 in
theorem read_k (w : World) (f : Nat) (F : Nat → Prop) (fs : AL Nm) (s : ByteArray) (h : Fil w f F fs) (hl : s.size ≤ maxLen) :
    Calls Tryz.prog 60 #[.pointer (some ⟨f, 0, none⟩), .string s] w fun e w' => e = .returned (ans (get fs s.data.toList)) ∧ Fil w' f F fs ∧ Rows8 F w w' := by
  have HH := Lib.hid h
  obtain ⟨mb, D, es, h1, rfl, h3, h4⟩ := h
  have c0 : w.cell? ⟨f, 0, none⟩ = some (.map (some mb)) := by rw [cell_of_row _ _ _ _ _ _ h1.blk]; rfl
  rw [mapv_get]
  cases hq : get es s.data.toList with
  | none =>
    have hk := h1.look0 s hl hq
    clear h1 hq h3 h4
    go_enter Tryz.func60, Tryz.ntmps60
    go_wp2_with fail
    go_ret2
    exact ⟨rfl, HH.out, Rows8.refl _ _⟩
  | some x =>
    have hk := h1.look s hl hq
    have HS := Lib.hid (string_t w x (h1.tx _ (mem_get hq)))
    have H1 := Lib.hid h1
    have H3 := Lib.hid h3
    have H4 := Lib.hid h4
    have HQ := Lib.hid hq
    clear h1 hq h3 h4
    go_enter Tryz.func60, Tryz.ntmps60
    go_wp2_with fail
    refine HS.out.mono ?_
    rintro e w1 ⟨rfl, ht, hc⟩
    have HT := Lib.hid ht
    have HC := Lib.hid hc
    clear ht hc HS hk
    go_wp2_with fail
    go_ret2
    refine ⟨rfl, ⟨mb, D, es, ?_, rfl, H3.out, fun k hk => Nat.lt_of_lt_of_le (H4.out k hk) HC.out.size⟩, ⟨_, HC.out, fun k e => ⟨H3.out k (.inr (.inr ⟨_, mem_get HQ.out, .inr e⟩)), (H1.out.tx _ (mem_get HQ.out)).row e⟩⟩⟩
    have hm := mem_get HQ.out
    have hn := H1.out.neF hm
    refine ⟨HC.out.blk H1.out.blk (fun e => hn.1 (.inr e)), own_map_chg H1.out.map HC.out (fun e => hn.2 (.inr e)), H1.out.rep, H1.out.srt, fun p hp => ?_, H1.out.apart⟩
    by_cases e : p.1 = s.data.toList
    · have := get_mem H1.out.srt (q := p.1) (x := p.2) (by simpa using hp)
      rw [e, HQ.out] at this
      injection this with this
      rw [← this]; exact HT.out
    · exact (H1.out.tx p hp).chg HC.out fun k hk e' => H1.out.apart p hp _ hm e k hk (.inr e')
set_option maxRecDepth 100000 in
theorem read_dk (w : World) (p : Nat) (F : Nat → Prop) (st : St) (a : Nm) (h : Dk w p F st) (hl : a.length ≤ maxLen) :
    Calls Tryz.prog 33 #[ptr p, .string (bs a)] w fun e w' => e = .returned (ans (al.get st.shown a)) ∧ Dk w' p F st ∧ Rows8 F w w' := by
  have hlt := h.lt
  obtain ⟨fs, fh, Fs, Fh, Fo, v, ps, dv, h1, h2, h3, h4, h5, h6⟩ := h
  obtain ⟨c0, c1, c2, c3, c4, c5, c6⟩ := disk_cell h1
  have hp := blk_lt h1
  have HR := Lib.hid (read_k w fh Fh st.shown (bs a) h2.hh (by rw [bs_size]; exact hl))
  rw [bs_list, ans_eq] at HR
  rw [ans_eq]
  obtain ⟨s, hs⟩ : ∃ s, bs ((al.get st.shown a).getD []) = s := ⟨_, rfl⟩
  obtain ⟨b, hb⟩ : ∃ b, (al.get st.shown a).isSome = b := ⟨_, rfl⟩
  rw [hs, hb] at HR ⊢
  have H1 := Lib.hid h1
  have H2 := Lib.hid h2
  have HX := Lib.hid (And.intro h3 (And.intro h4 (And.intro h5 h6)))
  have LT := Lib.hid hlt
  clear h1 h2 h3 h4 h5 h6 hlt c0 c1 c3 c4 c5 c6 hs hb
  go_enter Tryz.func33, Tryz.ntmps33
  go_wp2_with fail
  refine HR.out.mono ?_
  rintro e w1 ⟨rfl, hf, hc⟩
  have F1 := Lib.hid hf
  have C1 := Lib.hid hc.chg
  have R1 := Lib.hid hc
  clear hf hc HR
  go_wp2_with fail
  go_ret2
  exact ⟨rfl, ⟨fs, fh, Fs, Fh, Fo, v, ps, dv, C1.out.blk H1.out (fun e => H2.out.ap3 p e H2.out.po), H2.out.filh C1.out F1.out (fun k hk => .inl hk), HX.out.1, HX.out.2.1, HX.out.2.2.1, fun k hk => Nat.lt_of_lt_of_le (LT.out k hk) C1.out.size⟩, R1.out.mono fun k e => HX.out.2.2.1 k (.inr (.inl e))⟩
end Go.Proofs.YtmegkemileailaaGreatDoor.dk
