/-
  Messages: what Decode hands back, as a value.
-/
import Derived.Test.YthkcnakodlbdpaaWrT
import Derived.Test.YthkcnakodlbdpaaWrSm
namespace Go.Proofs.Ythkcnakodlbdpaa.wr
open Go.ChangeShapes Go.WideShapes Go.ChangeAt Go.RowKit plain words ord mem uvs uvc cl

def ansM (bs : By) : Msg := (decM bs).getD zeroM
def ansE (bs : By) : Int := if (decM bs).isSome then 0 else 130
def RetMV (w : World) (bs : By) (e : Ending) (w' : World) : Prop :=
  ∃ a : MV, e = .returned (.tuple #[a.val, .int .i64 (ansE bs)]) ∧ MVok w' w'.heap.size a ∧ a.m = ansM bs ∧ Below w.heap.size w w'
theorem zero_few : Few zeroM := ⟨by decide, by decide, by decide, fun x hx => by cases hx⟩
theorem zero_mok : MsgF zeroM := zero_ok 0 0 0
theorem ans_few (bs : By) : Few (ansM bs) := by
  unfold ansM
  cases h : decM bs with
  | none => exact zero_few
  | some m => exact (dec_back h).2.2.2
theorem ans_mok (bs : By) : MsgF (ansM bs) := by
  unfold ansM
  cases h : decM bs with
  | none => exact zero_mok
  | some m => exact (dec_back h).2.1
theorem mvok_msg {w : World} {B n : Nat} {m : Msg} {P M : Value} (hf : MsgF m) (hw : Few m) (hP : Ow PE w B P m.pts.length m.pts) (hM : Ow ME w B M m.mts.length m.mts) : ∃ a : MV, a.m = m ∧ a.cells = mcells m P M ∧ MVok w w.heap.size a := by
  obtain ⟨pA, pc, rfl, hpn, hpl, hpm⟩ := mem.Ow.form hP
  obtain ⟨mA, mc, rfl, hmn, hml, hmm⟩ := mem.Ow.form hM
  obtain ⟨h1, h2, h3, _⟩ := hw
  exact ⟨⟨m, pA, pc, mA, mc⟩, rfl, rfl, mem.Ow.ls hP, hpn, ⟨hpl, hpm⟩, hf.2.2.1, mem.Ow.ls hM, hmn, ⟨hml, hmm⟩, fun x hx => (hf.2.2.2 x hx).2, hf.2.1, by show m.id.length ≤ _; have := hf.1; omega, by show m.pts.length ≤ _; omega, by show m.mts.length ≤ _; omega⟩
theorem RetDec.mv {w w' : World} {bs : By} {e : Ending} (h : RetDec w (decM bs) e w') : RetMV w bs e w' := by
  obtain ⟨hb, h⟩ := h
  have hf := ans_mok bs
  have hw := ans_few bs
  unfold ansM at hf hw
  cases hd : decM bs with
  | none =>
    rw [hd] at h hf hw
    replace h : e = .returned (.tuple #[.agg zcells, .int .i64 130]) := h
    obtain ⟨a, h1, h2, h3⟩ := mvok_msg (w := w') (B := 0) (n := 0) hf hw (wr.Ow.nil PE w' 0) (wr.Ow.nil ME w' 0)
    refine ⟨a, ?_, h3, by rw [h1]; unfold ansM; rw [hd], hb⟩
    rw [h]
    unfold MV.val ansE
    rw [h2, hd]
    rfl
  | some m =>
    rw [hd] at h hf hw
    obtain ⟨P, M, h, hP, hM⟩ := h
    obtain ⟨a, h1, h2, h3⟩ := mvok_msg (n := 0) hf hw hP hM
    refine ⟨a, ?_, h3, by rw [h1]; unfold ansM; rw [hd]; try rfl, hb⟩
    rw [h]
    unfold MV.val ansE
    rw [h2, hd]
    rfl
theorem dec_x (w : World) (B n c : Nat) (A : Option Addr) (bs : By) (h : Bs w B A n bs) (hB : B ≤ w.heap.size) (hnc : n ≤ c) (hcm : c ≤ 9223372036854775807) (hn : n ≤ 1000000000) :
    Calls Try.prog 13 #[.slice A n c] w (RetMV w bs) := (decode_x w B n c A bs h hB hnc hcm hn).mono fun _ _ h => h.mv
theorem dec_y (w : World) (B n c : Nat) (A : Option Addr) (bs : By) (h : Bs w B A n bs) (hB : B ≤ w.heap.size) (hnc : n ≤ c) (hcm : c ≤ 9223372036854775807) (hn : n ≤ 1000000000) :
    Calls Try.prog 14 #[.slice A n c] w (RetMV w bs) := (decode_y w B n c A bs h hB hnc hcm hn).mono fun _ _ h => by rw [ans_dec] at h; exact h.mv
theorem mvcells_all (a : MV) : a.cells.all (·.oneCell') = true := mcells_all a.m _ _ rfl rfl
theorem ansE_eq (bs : By) : ansE bs = 0 ∨ ansE bs = 130 := by unfold ansE; split <;> simp
end Go.Proofs.Ythkcnakodlbdpaa.wr
