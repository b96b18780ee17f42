/-
  The program's files as memory: a map from names to texts, and how many bytes they are.
-/
import Derived.Test.YtmnliieiiaedeaaDkTx
import Derived.Maps.OwnSet
import Derived.Maps.OwnOps
import Derived.Sort.KeysCollected
import Derived.StringKeys
namespace Go.Proofs.Ytmnliieiiaedeaa.dk
open Go.ChangeShapes Go.WideShapes Go.ChangeAt Go.RowKit Go.Maps Go.Sort plain words ord mem al
open Go.WideMaps (keyOf_string_mk)

abbrev DU := DataW Unit
def dg (g : Nat) : DU := .lit (.int .i64 g)
/-- how a text's pointer reads -/
def pe : Value → Option (DU × List MemPlace)
  | .pointer none => some (.nil, [])
  | .pointer (some ⟨b, 0, none⟩) => some (dg b, [])
  | _ => none
theorem pe_mk (g : Nat) : pe (.pointer (some ⟨g, 0, none⟩)) = some (dg g, []) := rfl
theorem pe_inv {v : Value} {g : Nat} {ps : List MemPlace} (h : pe v = some (dg g, ps)) : v = .pointer (some ⟨g, 0, none⟩) := by
  unfold pe at h
  split at h
  · cases h
  · rename_i b
    injection h with h
    injection h with h
    injection h with h
    injection h with _ h
    have : b = g := by omega
    rw [this]
  · cases h
theorem pe_nil {v : Value} {ps : List MemPlace} (h : pe v = some (.nil, ps)) : v = .pointer none := by
  unfold pe at h
  split at h
  · rfl
  · injection h with h
    injection h with h
    cases h
  · cases h
/-- what the map's datum says of the texts -/
structure Rep (D : DU) (es : AL Tx) : Prop where
  isMap : IsMap D
  has : ∀ q : Nm, Maps.has D (.string q) = (get es q).isSome
  at_ : ∀ (q : Nm) (x : Tx), get es q = some x → ∀ z, D.atKey (.string q) z = dg x.g
theorem ne_str {q r : Nm} (h : r ≠ q) : (Lit.string r) ≠ .string q := fun e => h (by injection e)
theorem Rep.nil : Rep (.map []) [] := ⟨isMap_empty, fun _ => rfl, fun q x h => by cases h⟩
theorem Rep.put {D : DU} {es : AL Tx} (h : Rep D es) (q : Nm) (x : Tx) : Rep (D.put (.string q) (dg x.g)) (al.put es q x) := by
  refine ⟨h.isMap.put _ _, fun r => ?_, fun r y hy z => ?_⟩
  · by_cases e : r = q
    · subst e; rw [get_put_same, has_put_same h.isMap (by simp [WideAt.IsKeyLit])]; rfl
    · rw [get_put_other _ e, has_put_other (ne_str e), h.has]
  · by_cases e : r = q
    · subst e; rw [get_put_same] at hy; injection hy with hy; subst hy
      exact atKey_put_same h.isMap (by simp [WideAt.IsKeyLit]) _ _
    · rw [get_put_other _ e] at hy
      rw [atKey_put_other (ne_str e)]; exact h.at_ r y hy z
theorem Rep.same {D : DU} {es : AL Tx} (h : Rep D es) {q : Nm} {x y : Tx} (hx : get es q = some x) (hg : y.g = x.g) : Rep D (al.put es q y) := by
  refine ⟨h.isMap, fun r => ?_, fun r z hz => ?_⟩
  · by_cases e : r = q
    · subst e; rw [get_put_same, h.has, hx]; rfl
    · rw [get_put_other _ e, h.has]
  · by_cases e : r = q
    · subst e; rw [get_put_same] at hz; injection hz with hz; subst hz
      rw [hg]; exact h.at_ r x hx
    · rw [get_put_other _ e] at hz; exact h.at_ r z hz
theorem Rep.del {D : DU} {es : AL Tx} (h : Rep D es) (q : Nm) : Rep (D.del (.string q)) (al.del es q) := by
  refine ⟨h.isMap.del _, fun r => ?_, fun r y hy z => ?_⟩
  · by_cases e : r = q
    · subst e; rw [get_del_same, has_del_same]; rfl
    · rw [get_del_other e, has_del_other (ne_str e), h.has]
  · by_cases e : r = q
    · subst e; rw [get_del_same] at hy; cases hy
    · rw [get_del_other e] at hy
      rw [atKey_del_other (ne_str e)]; exact h.at_ r y hy z
theorem law : Keyed Try.prog 9 := string_keyed Try.underlying9
theorem zeroT (w : World) : (zeroValue 101).run Try.prog w = .ok (.pointer none) w := by kernel_rfl
/-- the names, in whatever order -/
theorem Rep.names {D : DU} {es : AL Tx} {w : World} {b n : Nat} (h : Rep D es) (hs : Srt es) (hown : w.ownsMap Try.prog 9 pe b n D) : (es.map (·.1)).Perm (strKeys D) := by
  refine Collected.perm (left := fun _ => false) ⟨?_, fun x => ?_⟩ hown law Try.underlying9 (fun _ => rfl)
  · exact (srt_names hs).imp fun h1 e => nm_ne h1 e
  · rw [h.has]
    constructor
    · intro hx
      obtain ⟨p, hp, rfl⟩ := List.mem_map.1 hx
      rw [get_mem hs (x := p.2) (by simpa using hp)]
      exact ⟨rfl, rfl⟩
    · rintro ⟨hx, _⟩
      obtain ⟨y, hy⟩ := Option.isSome_iff_exists.1 hx
      exact List.mem_map.2 ⟨(x, y), mem_get hy, rfl⟩
theorem Rep.tight {D : DU} {es : AL Tx} {w : World} {b n : Nat} (h : Rep D es) (hs : Srt es) (hown : w.ownsMap Try.prog 9 pe b n D) : w.ownsMap Try.prog 9 pe b es.length D := by
  have hp := (h.names hs hown).length_eq
  obtain ⟨es0, clock, hb, F, hle, hD⟩ := hown
  refine ⟨es0, clock, hb, F, ?_, hD⟩
  rw [hD] at hp
  simp only [strKeys, List.length_map, length_sorted] at hp
  have : es0.size = es0.toList.length := by simp
  omega
theorem own_map_chg {D : DU} {w w' : World} {b n : Nat} {S : Nat → Prop} (h : w.ownsMap Try.prog 9 pe b n D) (hc : Chg S w w') (hn : ¬ S b) : w'.ownsMap Try.prog 9 pe b n D := by
  obtain ⟨es, clock, hb, F, hs, hD⟩ := h
  exact ⟨es, clock, hc.blk hb hn, F, hs, hD⟩
def txlen (x : Tx) : Nat := x.s.length
/-- the files at block f -/
structure Fi (w : World) (f mb : Nat) (D : DU) (es : AL Tx) : Prop where
  blk : w.heap[f]? = some (.cells #[.map (some mb), .int .i64 (sum txlen es : Nat)] 78 (0, 0))
  map : w.ownsMap Try.prog 9 pe mb es.length D
  rep : Rep D es
  srt : Srt es
  tx : ∀ p ∈ es, IsTx w p.2
  apart : ∀ p ∈ es, ∀ q ∈ es, p.1 ≠ q.1 → ∀ k, p.2.foot k → ¬ q.2.foot k
def Foot (f mb : Nat) (es : AL Tx) (k : Nat) : Prop := k = f ∨ k = mb ∨ ∃ p ∈ es, p.2.foot k
theorem Fi.ne {w : World} {f mb : Nat} {D : DU} {es : AL Tx} (h : Fi w f mb D es) : f ≠ mb := fun e => by
  obtain ⟨es0, clock, hb, _⟩ := h.map
  have := h.blk
  rw [e, hb] at this
  cases this
theorem Fi.neF {w : World} {f mb : Nat} {D : DU} {es : AL Tx} (h : Fi w f mb D es) {p : Nm × Tx} (hp : p ∈ es) : ¬ p.2.foot f ∧ ¬ p.2.foot mb := by
  have h1 := h.tx p hp
  obtain ⟨es0, clock, hb, _⟩ := h.map
  constructor
  · rintro (e | e)
    · subst e; exact blk_type h.blk h1.blk (by decide) rfl
    · obtain ⟨c, fz, hc⟩ := h1.row e
      exact blk_type h.blk hc (by decide) rfl
  · rintro (e | e)
    · subst e; rw [h1.blk] at hb; cases hb
    · obtain ⟨c, fz, hc⟩ := h1.row e
      rw [hc] at hb; cases hb
theorem Fi.lt {w : World} {f mb : Nat} {D : DU} {es : AL Tx} (h : Fi w f mb D es) {k : Nat} (hk : Foot f mb es k) : k < w.heap.size := by
  rcases hk with rfl | rfl | ⟨p, hp, hk⟩
  · exact blk_lt h.blk
  · exact h.map.lt
  · exact (h.tx p hp).lt hk
theorem Fi.chg {S : Nat → Prop} {w w' : World} {f mb : Nat} {D : DU} {es : AL Tx} (h : Fi w f mb D es) (hc : Chg S w w') (hS : ∀ k, Foot f mb es k → ¬ S k) : Fi w' f mb D es :=
  ⟨hc.blk h.blk (hS _ (.inl rfl)), own_map_chg h.map hc (hS _ (.inr (.inl rfl))), h.rep, h.srt, fun p hp => (h.tx p hp).chg hc fun k hk => hS k (.inr (.inr ⟨p, hp, hk⟩)), h.apart⟩
theorem Fi.look {w : World} {f mb : Nat} {D : DU} {es : AL Tx} (h : Fi w f mb D es) (s : ByteArray) (hl : s.size ≤ maxLen) {x : Tx} (hx : get es s.data.toList = some x) :
    (Instr.lookup 76 (.map (some mb)) (.string s) false).run Try.prog w = .ok (.pointer (some ⟨x.g, 0, none⟩)) w := by
  obtain ⟨v, ps, hrun, hv⟩ := h.map.lookup law Try.underlying76 (zeroT w) (zd := .nil) (zp := []) rfl (keyOf_string_mk Try.underlying9 hl)
  rw [h.rep.at_ _ x hx] at hv
  rw [pe_inv hv] at hrun
  exact hrun
theorem Fi.look0 {w : World} {f mb : Nat} {D : DU} {es : AL Tx} (h : Fi w f mb D es) (s : ByteArray) (hl : s.size ≤ maxLen) (hx : get es s.data.toList = none) :
    (Instr.lookup 76 (.map (some mb)) (.string s) false).run Try.prog w = .ok (.pointer none) w := by
  obtain ⟨v, ps, hrun, hv⟩ := h.map.lookup law Try.underlying76 (zeroT w) (zd := .nil) (zp := []) rfl (keyOf_string_mk Try.underlying9 hl)
  rw [atKey_of_not_has (by rw [h.rep.has, hx]; rfl)] at hv
  rw [pe_nil hv] at hrun
  exact hrun
/-- a text put at a name -/
theorem Fi.put {w w' : World} {f mb n : Nat} {D D' : DU} {es : AL Tx} {q : Nm} {y : Tx} (h : Fi w f mb D es) {S : Nat → Prop} (hc : Chg S w w') (hSf : S f → w'.heap[f]? = some (.cells #[.map (some mb), .int .i64 (sum txlen (al.put es q y) : Nat)] 78 (0, 0)))
    (hf : ¬ S f → sum txlen (al.put es q y) = sum txlen es) (hm : w'.ownsMap Try.prog 9 pe mb n D') (hr : Rep D' (al.put es q y)) (hy : IsTx w' y)
    (hS : ∀ p ∈ es, p.1 ≠ q → ∀ k, p.2.foot k → ¬ S k ∧ ¬ y.foot k) : Fi w' f mb D' (al.put es q y) := by
  have hs := srt_put h.srt q y
  have hmem : ∀ p ∈ al.put es q y, p = (q, y) ∨ (p ∈ es ∧ p.1 ≠ q) := fun p hp => by
    by_cases e : p.1 = q
    · have h1 := get_mem hs (q := p.1) (x := p.2) (by simpa using hp)
      rw [e, get_put_same] at h1
      injection h1 with h1
      exact .inl (by rw [← e, h1])
    · rcases mem_put hp with h1 | h1
      · exact absurd (by rw [h1]) e
      · exact .inr ⟨h1, e⟩
  refine ⟨?_, hr.tight hs hm, hr, hs, fun p hp => ?_, fun p hp r hrr hne k hk hk2 => ?_⟩
  · by_cases e : S f
    · exact hSf e
    · rw [hf e]; exact hc.blk h.blk e
  · rcases hmem p hp with rfl | ⟨h1, h2⟩
    · exact hy
    · exact (h.tx p h1).chg hc fun k hk => (hS p h1 h2 k hk).1
  · rcases hmem p hp with rfl | ⟨h1, h2⟩
    · rcases hmem r hrr with rfl | ⟨h3, h4⟩
      · exact hne rfl
      · exact (hS r h3 h4 k hk2).2 hk
    · rcases hmem r hrr with rfl | ⟨h3, h4⟩
      · exact (hS p h1 h2 k hk).2 hk2
      · exact h.apart p h1 r h3 hne k hk hk2
/-- the files as the rest of the disk sees them: within F -/
def Fil (w : World) (f : Nat) (F : Nat → Prop) (fs : AL Nm) : Prop :=
  ∃ mb D es, Fi w f mb D es ∧ fs = mapv Tx.s es ∧ (∀ k, Foot f mb es k → F k) ∧ ∀ k, F k → k < w.heap.size
def Ext (F : Nat → Prop) (w w' : World) (k : Nat) : Prop := F k ∨ (w.heap.size ≤ k ∧ k < w'.heap.size)
theorem Fil.chg {S F : Nat → Prop} {w w' : World} {f : Nat} {fs : AL Nm} (h : Fil w f F fs) (hc : Chg S w w') (hS : ∀ k, F k → ¬ S k) : Fil w' f F fs := by
  obtain ⟨mb, D, es, h1, h2, h3, h4⟩ := h
  exact ⟨mb, D, es, h1.chg hc fun k hk => hS k (h3 k hk), h2, h3, fun k hk => Nat.lt_of_lt_of_le (h4 k hk) hc.size⟩
theorem Fil.mono {F G : Nat → Prop} {w : World} {f : Nat} {fs : AL Nm} (h : Fil w f F fs) (hs : ∀ k, F k → G k) (hG : ∀ k, G k → k < w.heap.size) : Fil w f G fs := by
  obtain ⟨mb, D, es, h1, h2, h3, h4⟩ := h
  exact ⟨mb, D, es, h1, h2, fun k hk => hs k (h3 k hk), hG⟩
theorem Fil.srt {F : Nat → Prop} {w : World} {f : Nat} {fs : AL Nm} (h : Fil w f F fs) : Srt fs := by
  obtain ⟨mb, D, es, h1, rfl, _⟩ := h
  exact mapv_srt.2 h1.srt
def fsum (fs : AL Nm) : Nat := sum List.length fs
theorem fsum_mapv (es : AL Tx) : fsum (mapv Tx.s es) = sum txlen es := sum_mapv _ _ _
def RetFil (w : World) (f : Nat) (F : Nat → Prop) (fs : AL Nm) (e : Ending) (w' : World) : Prop :=
  e = .returned (.tuple #[]) ∧ Fil w' f (Ext F w w') fs ∧ Chg F w w'
set_option maxRecDepth 100000 in
theorem has_f (w : World) (f : Nat) (F : Nat → Prop) (fs : AL Nm) (s : ByteArray) (h : Fil w f F fs) (hl : s.size ≤ maxLen) :
    Calls Try.prog 60 #[.pointer (some ⟨f, 0, none⟩), .string s] w fun e w' => e = .returned (.bool (get fs s.data.toList).isSome) ∧ w = w' := by
  obtain ⟨mb, D, es, h1, rfl, _, _⟩ := h
  have c0 : w.cell? ⟨f, 0, none⟩ = some (.map (some mb)) := by rw [cell_of_row _ _ _ _ _ _ h1.blk]; rfl
  rw [mapv_get]
  cases hq : get es s.data.toList with
  | none =>
    have hk := h1.look0 s hl hq
    clear h1 hq
    go_enter Try.func60, Try.ntmps60
    go_wp2_with fail
    go_ret
    exact ⟨rfl, rfl⟩
  | some x =>
    have hk := h1.look s hl hq
    clear h1 hq
    go_enter Try.func60, Try.ntmps60
    go_wp2_with fail
    go_ret
    exact ⟨rfl, rfl⟩
end Go.Proofs.Ytmnliieiiaedeaa.dk
