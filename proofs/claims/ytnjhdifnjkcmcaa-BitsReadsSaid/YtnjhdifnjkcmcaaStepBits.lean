/-
  The bits of steps: mathematics.
-/
import Derived.Test.YtnjhdifnjkcmcaaSteps
import Derived.Test.YtnjhdifnjkcmcaaBitsGetX
namespace Go.Proofs.Ytnjhdifnjkcmcaa.bitc
open Go.ChangeShapes Go.WideShapes Go.ChangeAt Go.RowKit plain words bitm

/-- all bits of steps, one behind the other -/
def stb (st : List (Nat × Int)) : List Bool := st.flatMap fun s => bitsOf s.1 (cl s.2)
theorem stb_nil : stb [] = [] := rfl
theorem stb_app (a b : List (Nat × Int)) : stb (a ++ b) = stb a ++ stb b := by simp [stb]
theorem stb_one (v : Nat) (z : Int) : stb [(v, z)] = bitsOf v (cl z) := by simp [stb]
theorem stb_next {st : List (Nat × Int)} {k : Nat} {v : Nat} {z : Int} (h : st[k]? = some (v, z)) : stb (st.take (k + 1)) = stb (st.take k) ++ bitsOf v (cl z) := by
  rw [take_succ_of h, stb_app, stb_one]
theorem stb_len (st : List (Nat × Int)) : (stb st).length ≤ 64 * st.length := by
  induction st with
  | nil => simp [stb]
  | cons s st ih =>
    have := cl_le s.2
    show (bitsOf s.1 (cl s.2) ++ stb st).length ≤ _
    rw [List.length_append, bitsOf_len, List.length_cons]; omega
theorem stb_split {st : List (Nat × Int)} {k : Nat} {v : Nat} {z : Int} (h : st[k]? = some (v, z)) : ∃ rest, stb st = stb (st.take k) ++ (bitsOf v (cl z) ++ rest) := by
  refine ⟨stb (st.drop (k + 1)), ?_⟩
  conv => lhs; rw [← List.take_append_drop (k + 1) st]
  rw [stb_app, stb_next h, List.append_assoc]
theorem nxt_pack (l a b rest : List Bool) (h : l = a ++ (b ++ rest)) : nxt (pack l) a.length b.length = b := by
  unfold nxt
  rw [ofBytes_pack, h]
  simp [List.append_assoc]
theorem nxt_stb {st : List (Nat × Int)} {k : Nat} {v : Nat} {z : Int} (h : st[k]? = some (v, z)) : val (nxt (pack (stb st)) (stb (st.take k)).length (cl z)) = v % 2 ^ cl z := by
  obtain ⟨rest, hr⟩ := stb_split h
  have h1 := nxt_pack _ _ _ _ hr
  rw [bitsOf_len] at h1
  rw [h1, val_bitsOf]
theorem stb_room {st : List (Nat × Int)} {k : Nat} {v : Nat} {z : Int} (h : st[k]? = some (v, z)) : (stb (st.take k)).length + cl z ≤ (stb st).length := by
  obtain ⟨rest, hr⟩ := stb_split h
  rw [hr, List.length_append, List.length_append, bitsOf_len]
  omega
theorem mask_u64 (v N : Nat) (hv : lt64 v) (hN : N < 64) : bits .and .u64 (v : Int) (IntKind.u64.wrap (IntKind.u64.wrap (2 ^ N) - 1)) = ((v % 2 ^ N : Nat) : Int) := by
  have hp : 2 ^ N ≤ 9223372036854775808 := by have := Nat.pow_le_pow_right (n := 2) (by omega) (show N ≤ 63 from by omega); simpa using this
  have h0 := Nat.two_pow_pos N
  have e1 : (2 ^ N : Int) = ((2 ^ N : Nat) : Int) := by simp
  have e2 : IntKind.u64.wrap (IntKind.u64.wrap (2 ^ N) - 1) = ((2 ^ N - 1 : Nat) : Int) := by
    rw [e1]
    obtain ⟨q, hq⟩ : ∃ q, 2 ^ N = q := ⟨_, rfl⟩
    rw [hq] at hp h0 ⊢
    rw [IntKind.wrap_u64, IntKind.wrap_u64]
    omega
  unfold lt64 at hv
  rw [e2, u64_and_nat _ _ (by omega) (by omega), Nat.and_two_pow_sub_one_eq_mod]

end Go.Proofs.Ytnjhdifnjkcmcaa.bitc
