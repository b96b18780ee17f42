/-
  The walk of the law DigestShards: for every string and every int it returns true.
-/
import Derived.Test.YtnjhdifnjkcmcaaShard
namespace Go.Proofs.Ytnjhdifnjkcmcaa.lawDigestShards
open Go.ChangeShapes Go.WideShapes Go.ChangeAt Go.RowKit plain words murmur shard

theorem walk_ok (a0 : ByteArray) (a1 : Int) (w : World) (w0 : a0.size ≤ maxLen) (w1 : (Lit.int .i64 a1).wf = true) :
    Calls Try.prog 13 #[.string a0, .int .i64 a1] w fun e w' => e = .returned (.bool true) ∧ Below w.heap.size w w' := by
  have b1 := wf_i64 w1
  unfold maxLen at w0
  clear w1
  by_cases hs : a0.size ≤ 65536
  · by_cases hn : a1 < 1
    · go_enter Try.func13, Try.ntmps13
      go_wp2_with fail
      refine (shard_x0 _ a0 a1 hn).mono ?_
      rintro e w' ⟨rfl, rfl⟩
      go_wp2_with fail
      refine (shard_y0 _ a0 a1 hn).mono ?_
      rintro e w' ⟨rfl, rfl⟩
      go_wp2_with fail
      go_ret
      exact ⟨rfl, Below.refl _ _⟩
    · have hv := emod_bd (mur 0 a0.data.toList) a1 (by omega)
      go_enter Try.func13, Try.ntmps13
      go_wp2_with fail
      refine (shard_x _ a0 a1 hs (by omega) b1.2).mono ?_
      rintro e w2 ⟨rfl, hb2⟩
      go_wp2_with fail
      refine (shard_y _ a0 a1 hs (by omega) b1.2).mono ?_
      rintro e w3 ⟨rfl, hb3⟩
      generalize mur 0 a0.data.toList % a1 = v at *
      by_cases hz : v = 0
      · subst hz
        go_wp2_with fail
        go_ret
        exact ⟨rfl, hb2.trans (hb3.mono hb2.size)⟩
      · have hz' : (v == 0) = false := by simp; omega
        go_wp2_with fail
        go_ret
        exact ⟨rfl, hb2.trans (hb3.mono hb2.size)⟩
  · go_enter Try.func13, Try.ntmps13
    go_wp2_with fail
    go_ret
    exact ⟨rfl, Below.refl _ _⟩
end Go.Proofs.Ytnjhdifnjkcmcaa.lawDigestShards
