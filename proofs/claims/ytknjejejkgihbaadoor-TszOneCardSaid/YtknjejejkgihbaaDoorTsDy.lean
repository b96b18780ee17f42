/-
  Tsz: Decode, the document's.
-/
import Derived.Test.YtknjejejkgihbaaDoorTsDy1
import Derived.Test.YtknjejejkgihbaaDoorTsDy2
namespace Go.Proofs.YtknjejejkgihbaaDoor.ts
open Go.ChangeShapes Go.WideShapes Go.ChangeAt Go.RowKit plain words ord mem bitm uvs uvc

theorem decode_y (w : World) (B n c : Nat) (A : Option Addr) (bs : List UInt8) (h : Bs w B A n bs) (hA : A = none → c = 0) (hB : B ≤ w.heap.size) (hnc : n ≤ c) (hcm : c ≤ 9223372036854775807) (hn : n ≤ 1073741824) :
    Calls Tryd.prog 20 #[.slice A n c] w (RetDec w bs) := by
  obtain ⟨m, k, hmk⟩ : ∃ m k, ru bs 0 0 = (m, k) := ⟨_, _, rfl⟩
  by_cases hb : k = 0 ∨ 512 < m
  · exact decode_bad w B n c A bs h hA hB hnc hcm hn m k hmk hb
  · by_cases hc : c = k
    · subst hc
      exact decode_eq w B n c A bs h hA hB hnc hcm hn m hmk hb
    · exact decode_ne w B n c A bs h hA hB hnc hcm hn m k hmk hb hc
end Go.Proofs.YtknjejejkgihbaaDoor.ts
