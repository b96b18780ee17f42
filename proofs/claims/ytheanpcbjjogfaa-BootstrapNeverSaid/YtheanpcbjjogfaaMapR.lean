/-
  Maps of the call's own with names as keys, whatever their elements: the map says of each element its header only (how it reads without the world); what lies behind the headers is said beside it.
-/
import Derived.Test.YtheanpcbjjogfaaAl
import Derived.Lib.FrozenHead
import Derived.Deep.RegionWith
import Derived.Shelf.RegionOpenPlain
import Derived.Maps.OwnSet
import Derived.Maps.OwnOps
import Derived.Sort.KeysCollected
import Derived.StringKeys
import Derived.Test.YtheanpcbjjogfaaProg
import Derived.Test.YtheanpcbjjogfaaChecked
import Derived.Maps.RangeWalk
import Derived.Maps.Ext
import Derived.Test.YtheanpcbjjogfaaMem
import Derived.Test.YtheanpcbjjogfaaWords
namespace Go.Proofs.Ytheanpcbjjogfaa.mp
open Go.ChangeShapes Go.WideShapes Go.ChangeAt Go.RowKit Go.Maps Go.Sort plain words ord mem al
open Go.WideMaps (keyOf_string_mk)

abbrev DU := DataW Unit
def num (g : Nat) : DU := .lit (.int .i64 g)
/-- a slice's header -/
structure Hd where
  b : Nat
  n : Nat
  c : Nat
def Hd.dat (h : Hd) : DU := .slice [num h.b, num h.n, num h.c] []
def Hd.val (h : Hd) : Value := .slice (some ⟨h.b, 0, none⟩) h.n h.c
/-- how a slice's header reads -/
def he : Value → Option (DU × List MemPlace)
  | .slice none 0 0 => some (.nil, [])
  | .slice (some ⟨b, 0, none⟩) n c => some (Hd.dat ⟨b, n, c⟩, [])
  | _ => none
theorem he_mk (h : Hd) : he h.val = some (h.dat, []) := rfl
theorem num_inj {a b : Nat} (h : num a = num b) : a = b := by
  unfold num at h
  injection h with h
  injection h with _ h
  omega
theorem he_inv {v : Value} {h : Hd} {ps : List MemPlace} (e : he v = some (h.dat, ps)) : v = h.val := by
  unfold he at e
  split at e
  · injection e with e; injection e with e; cases e
  · rename_i b n c
    obtain ⟨hb, hn, hc⟩ := h
    simp only [Hd.dat, num, Option.some.injEq, Prod.mk.injEq, DataW.slice.injEq, List.cons.injEq, DataW.lit.injEq, Lit.int.injEq, true_and, and_true, Int.natCast_inj] at e
    obtain ⟨⟨e1, e2, e3⟩, _⟩ := e
    subst e1 e2 e3
    rfl
  · cases e
theorem he_nil {v : Value} {ps : List MemPlace} (e : he v = some (.nil, ps)) : v = .slice none 0 0 := by
  unfold he at e
  split at e
  · rfl
  · injection e with e; injection e with e; unfold Hd.dat at e; cases e
  · cases e
section
variable {α : Type} {f : α → DU}
/-- what a map's datum says: each name's header -/
structure Rep (f : α → DU) (D : DU) (es : AL α) : Prop where
  isMap : IsMap D
  has : ∀ q : Nm, Maps.has D (.string q) = (get es q).isSome
  at_ : ∀ (q : Nm) (x : α), get es q = some x → ∀ z, D.atKey (.string q) z = f x
theorem ne_str {q r : Nm} (h : r ≠ q) : (Lit.string r) ≠ .string q := fun e => h (by injection e)
theorem Rep.nil : Rep f (.map []) [] := ⟨isMap_empty, fun _ => rfl, fun q x h => by cases h⟩
theorem Rep.put {D : DU} {es : AL α} (h : Rep f D es) (q : Nm) (x : α) : Rep f (D.put (.string q) (f x)) (al.put es q x) := by
  refine ⟨h.isMap.put _ _, fun r => ?_, fun r y hy z => ?_⟩
  · by_cases e : r = q
    · subst e; rw [get_put_same, has_put_same h.isMap (by simp [WideAt.IsKeyLit])]; rfl
    · rw [get_put_other _ e, has_put_other (ne_str e), h.has]
  · by_cases e : r = q
    · subst e; rw [get_put_same] at hy; injection hy with hy; subst hy
      exact atKey_put_same h.isMap (by simp [WideAt.IsKeyLit]) _ _
    · rw [get_put_other _ e] at hy
      rw [atKey_put_other (ne_str e)]; exact h.at_ r y hy z
theorem Rep.same {D : DU} {es : AL α} (h : Rep f D es) {q : Nm} {x y : α} (hx : get es q = some x) (hg : f y = f x) : Rep f D (al.put es q y) := by
  refine ⟨h.isMap, fun r => ?_, fun r z hz => ?_⟩
  · by_cases e : r = q
    · subst e; rw [get_put_same, h.has, hx]; rfl
    · rw [get_put_other _ e, h.has]
  · by_cases e : r = q
    · subst e; rw [get_put_same] at hz; injection hz with hz; subst hz
      rw [hg]; exact h.at_ r x hx
    · rw [get_put_other _ e] at hz; exact h.at_ r z hz
theorem Rep.del {D : DU} {es : AL α} (h : Rep f D es) (q : Nm) : Rep f (D.del (.string q)) (al.del es q) := by
  refine ⟨h.isMap.del _, fun r => ?_, fun r y hy z => ?_⟩
  · by_cases e : r = q
    · subst e; rw [get_del_same, has_del_same]; rfl
    · rw [get_del_other e, has_del_other (ne_str e), h.has]
  · by_cases e : r = q
    · subst e; rw [get_del_same] at hy; cases hy
    · rw [get_del_other e] at hy
      rw [atKey_del_other (ne_str e)]; exact h.at_ r y hy z
theorem law : Keyed Try.prog 9 := string_keyed Try.underlying9
/-- the names, in whatever order -/
theorem Rep.names {D : DU} {es : AL α} {w : World} {b n : Nat} {R : Value → Option (DU × List MemPlace)} (h : Rep f D es) (hs : Srt es) (hown : w.ownsMap Try.prog 9 R b n D) : (es.map (·.1)).Perm (strKeys D) := by
  refine Collected.perm (left := fun _ => false) ⟨?_, fun x => ?_⟩ hown law Try.underlying9 (fun _ => rfl)
  · exact (srt_names hs).imp fun h1 e => nm_ne h1 e
  · rw [h.has]
    constructor
    · intro hx
      obtain ⟨p, hp, rfl⟩ := List.mem_map.1 hx
      rw [get_mem hs (x := p.2) (by simpa using hp)]
      exact ⟨rfl, rfl⟩
    · rintro ⟨hx, _⟩
      obtain ⟨y, hy⟩ := Option.isSome_iff_exists.1 hx
      exact List.mem_map.2 ⟨(x, y), mem_get hy, rfl⟩
theorem Rep.tight {D : DU} {es : AL α} {w : World} {b n : Nat} {R : Value → Option (DU × List MemPlace)} (h : Rep f D es) (hs : Srt es) (hown : w.ownsMap Try.prog 9 R b n D) : w.ownsMap Try.prog 9 R b es.length D := by
  have hp := (h.names hs hown).length_eq
  obtain ⟨es0, clock, hb, F, hle, hD⟩ := hown
  refine ⟨es0, clock, hb, F, ?_, hD⟩
  rw [hD] at hp
  simp only [strKeys, List.length_map, length_sorted] at hp
  have : es0.size = es0.toList.length := by simp
  omega
theorem own_map_chg {D : DU} {w w' : World} {b n : Nat} {S : Nat → Prop} {R : Value → Option (DU × List MemPlace)} (h : w.ownsMap Try.prog 9 R b n D) (hc : Chg S w w') (hn : ¬ S b) : w'.ownsMap Try.prog 9 R b n D := by
  obtain ⟨es, clock, hb, F, hs, hD⟩ := h
  exact ⟨es, clock, hc.blk hb hn, F, hs, hD⟩
end
/-- a look-up in a map from names to slices -/
theorem look {t e : TypeId} {w : World} {b n : Nat} {D : DU} {es : AL Hd} (hm : w.ownsMap Try.prog 9 he b n D) (hr : Rep Hd.dat D es) (ht : Try.prog.underlying t = some (.map 9 e)) (hz : (zeroValue e).run Try.prog w = .ok (.slice none 0 0) w) (s : ByteArray) (hl : s.size ≤ maxLen) {x : Hd} (hx : get es s.data.toList = some x) :
    (Instr.lookup t (.map (some b)) (.string s) false).run Try.prog w = .ok x.val w := by
  obtain ⟨v, ps, hrun, hv⟩ := hm.lookup law ht hz (zd := .nil) (zp := []) rfl (keyOf_string_mk Try.underlying9 hl)
  rw [hr.at_ _ x hx] at hv
  rw [he_inv hv] at hrun
  exact hrun
theorem look0 {t e : TypeId} {w : World} {b n : Nat} {D : DU} {es : AL Hd} (hm : w.ownsMap Try.prog 9 he b n D) (hr : Rep Hd.dat D es) (ht : Try.prog.underlying t = some (.map 9 e)) (hz : (zeroValue e).run Try.prog w = .ok (.slice none 0 0) w) (s : ByteArray) (hl : s.size ≤ maxLen) (hx : get es s.data.toList = none) :
    (Instr.lookup t (.map (some b)) (.string s) false).run Try.prog w = .ok (.slice none 0 0) w := by
  obtain ⟨v, ps, hrun, hv⟩ := hm.lookup law ht hz (zd := .nil) (zp := []) rfl (keyOf_string_mk Try.underlying9 hl)
  rw [atKey_of_not_has (by rw [hr.has, hx]; rfl)] at hv
  rw [he_nil hv] at hrun
  exact hrun
end Go.Proofs.Ytheanpcbjjogfaa.mp
