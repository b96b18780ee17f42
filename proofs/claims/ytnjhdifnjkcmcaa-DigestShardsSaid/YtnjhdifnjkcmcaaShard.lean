/-
  Shard: the program's and the document's.
-/
import Derived.Test.YtnjhdifnjkcmcaaMurmurX
import Derived.Laws.IdiomStrings
namespace Go.Proofs.Ytnjhdifnjkcmcaa.shard
open Go.ChangeShapes Go.WideShapes Go.ChangeAt Go.RowKit plain words murmur

/-- the bytes of a string, in a new block -/
theorem bs_string (w : World) (s : ByteArray) (C : Nat) (t : TypeId) (fr : Nat × Nat) : Bs ((w.alloc (.cells (bytesRow s C) t fr)).drew) (w.heap.size + 1) (some ⟨w.heap.size, 0, none⟩) s.size s.data.toList :=
  ⟨by rw [u8s_length]; simp, fun j hj => by
    refine ⟨_, _, .int .u8 (s.data[j].toNat : Int), rfl, by omega, ?_, ?_⟩
    · unfold u8s
      rw [List.getElem?_map, Array.getElem?_toList, Array.getElem?_eq_getElem hj]
      rfl
    · show (w.alloc (.cells (bytesRow s C) t fr)).cell? ⟨w.heap.size, 0 + j, none⟩ = _
      rw [World.cell?_alloc_mark, Nat.zero_add, bytesRow_at s C j hj]⟩

theorem emod_bd (x n : Int) (hn : 1 ≤ n) : 0 ≤ x % n ∧ x % n < n := ⟨Int.emod_nonneg _ (by omega), Int.emod_lt_of_pos _ (by omega)⟩

theorem shard_x (w : World) (s : ByteArray) (n : Int) (hs : s.size ≤ 65536) (hn : 1 ≤ n) (hn' : n ≤ 9223372036854775807) :
    Calls Try.prog 38 #[.string s, .int .i64 n] w fun e w' => e = .returned (.int .i64 (mur 0 s.data.toList % n)) ∧ Below w.heap.size w w' := by
  have hconv := run_bytes_of_string (P := Try.prog) w 9 23 5 s Try.underlying9 Try.underlying23 Try.underlying5
  have hcap := grownCap_ge w s.size 0 5
  have hcap' := grownCap_le_maxLen w s.size 0 5 (by unfold maxLen; omega)
  have hb := mur_bd 0 s.data.toList
  go_enter Try.func38, Try.ntmps38
  go_wp2_with fail
  refine (murmur_x _ (w.heap.size + 1) _ _ _ s.data.toList 0 (by omega) (bs_string w s _ _ _) (by simp) (by omega) hcap (by unfold maxLen at hcap'; omega)).mono ?_
  rintro e w1 ⟨rfl, hb1⟩
  go_wp2_with fail
  go_ret
  refine ⟨rfl, ?_⟩
  refine Below.trans (b := (w.alloc (.cells (bytesRow s (grownCap w s.size 0 5)) 5 ((bytesRow s (grownCap w s.size 0 5)).size, (bytesRow s (grownCap w s.size 0 5)).size + 1))).drew) (((Below.refl _ _).alloc (Nat.le_refl _) _).drew) (hb1.mono (by simp))
theorem shard_y (w : World) (s : ByteArray) (n : Int) (hs : s.size ≤ 65536) (hn : 1 ≤ n) (hn' : n ≤ 9223372036854775807) :
    Calls Try.prog 39 #[.string s, .int .i64 n] w fun e w' => e = .returned (.int .i64 (mur 0 s.data.toList % n)) ∧ Below w.heap.size w w' := by
  have hconv := run_bytes_of_string (P := Try.prog) w 9 23 5 s Try.underlying9 Try.underlying23 Try.underlying5
  have hb := mur_bd 0 s.data.toList
  go_enter Try.func39, Try.ntmps39
  go_wp2_with fail
  refine (murmur_y _ (w.heap.size + 1) _ _ _ s.data.toList 0 (by omega) (bs_string w s _ _ _) (by simp) (by omega)).mono ?_
  rintro e w1 ⟨rfl, hb1⟩
  go_wp2_with fail
  go_ret
  refine ⟨rfl, ?_⟩
  refine Below.trans (b := (w.alloc (.cells (bytesRow s (grownCap w s.size 0 5)) 5 ((bytesRow s (grownCap w s.size 0 5)).size, (bytesRow s (grownCap w s.size 0 5)).size + 1))).drew) (((Below.refl _ _).alloc (Nat.le_refl _) _).drew) (hb1.mono (by simp))
theorem shard_x0 (w : World) (s : ByteArray) (n : Int) (hn : n < 1) :
    Calls Try.prog 38 #[.string s, .int .i64 n] w fun e w' => e = .returned (.int .i64 0) ∧ w = w' := by
  go_enter Try.func38, Try.ntmps38
  go_wp2_with fail
  go_ret
  exact ⟨rfl, rfl⟩
theorem shard_y0 (w : World) (s : ByteArray) (n : Int) (hn : n < 1) :
    Calls Try.prog 39 #[.string s, .int .i64 n] w fun e w' => e = .returned (.int .i64 0) ∧ w = w' := by
  go_enter Try.func39, Try.ntmps39
  go_wp2_with fail
  go_ret
  exact ⟨rfl, rfl⟩
end Go.Proofs.Ytnjhdifnjkcmcaa.shard
