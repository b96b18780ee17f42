/-
  Messages that came in by value.
-/
import Derived.Test.YthkcnakodlbdpaaWrL
import Derived.Test.YthkcnakodlbdpaaLsOf
import Derived.Lib.SmallJoins
import Derived.SizedLaws
namespace Go.Proofs.Ythkcnakodlbdpaa.wr
open Go.ChangeShapes Go.WideShapes Go.ChangeAt Go.RowKit Go.Deep plain words ord mem

/-- a message as a value -/
structure MV where
  m : Msg
  pA : Option Addr
  pc : Nat
  mA : Option Addr
  mc : Nat
def MV.cells (a : MV) : Array Value := #[.int .i64 a.m.kind, .int .i64 a.m.seq, .int .i64 a.m.epoch, .int .i64 a.m.space, .int .i64 a.m.shard, .string (cl.tx a.m.id), .int .i64 a.m.block, .int .i64 a.m.rf, .int .i64 a.m.rt, .int .i64 a.m.p.1, .int .u64 a.m.p.2.1, .int .u64 a.m.p.2.2, .int .i64 a.m.err, .bool a.m.more, .slice a.pA a.m.pts.length a.pc, .slice a.mA a.m.mts.length a.mc]
def MV.val (a : MV) : Value := .agg a.cells
def MtF (x : Mt) : Prop := 0 ≤ x.2.2.2 ∧ x.2.2.2 < 4294967296
structure MVok (w : World) (B : Nat) (a : MV) : Prop where
  p : Ls PE w B a.pA a.m.pts.length a.m.pts
  pn : a.pA = none → a.pc = 0
  pcap : a.m.pts.length ≤ a.pc ∧ a.pc ≤ 9223372036854775807
  pok : ∀ x ∈ a.m.pts, PtOk x
  t : Ls ME w B a.mA a.m.mts.length a.m.mts
  tn : a.mA = none → a.mc = 0
  tcap : a.m.mts.length ≤ a.mc ∧ a.mc ≤ 9223372036854775807
  tok : ∀ x ∈ a.m.mts, MtF x
  pt : PtOk a.m.p
  few : a.m.id.length ≤ 140737488351232 ∧ a.m.pts.length ≤ 140737488351232 ∧ a.m.mts.length ≤ 140737488351232
theorem MVok.below {w w' : World} {B C : Nat} {a : MV} (h : MVok w B a) (hb : Below C w w') (hC : B ≤ C) : MVok w' B a := ⟨h.p.below hb hC, h.pn, h.pcap, h.pok, h.t.below hb hC, h.tn, h.tcap, h.tok, h.pt, h.few⟩
theorem tx_back (s : ByteArray) : cl.tx s.data.toList = s := by simp [cl.tx]
section
variable {H : Type} {enc : TypeId × Value → H} {W : World} {a : Option Addr} {len cap : Nat} {d : DataW H} {p : List MemPlace}
theorem pts_in (h0 : DataW.Trod enc Try.prog W 0 (fun _ => true) true 28 (.slice a len cap) d p) : IsLs PE PtOk W a len cap :=
  ls_of PE PtOk Try.underlying28 Try.underlying26 (by kernel_rfl) (by kernel_rfl) (by kernel_rfl) (fun vs hv => by
    obtain ⟨n0, e0, _⟩ := reads_int Try.underlying3 (hv 0 _ rfl)
    obtain ⟨n1, e1, w1⟩ := reads_int Try.underlying24 (hv 1 _ rfl)
    obtain ⟨n2, e2, w2⟩ := reads_int Try.underlying24 (hv 2 _ rfl)
    have w1 := wf_u64 w1
    have w2 := wf_u64 w2
    refine ⟨(n0, n1, n2), fun j hj => ?_, ⟨⟨w1.1, by simp only; omega⟩, ⟨w2.1, by simp only; omega⟩⟩⟩
    have h4 : j = 0 ∨ j = 1 ∨ j = 2 := by have : j < 3 := hj; omega
    rcases h4 with rfl | rfl | rfl
    · rw [e0]; rfl
    · rw [e1]; rfl
    · rw [e2]; rfl) h0
theorem mts_in (h0 : DataW.Trod enc Try.prog W 0 (fun _ => true) true 29 (.slice a len cap) d p) : IsLs ME MtF W a len cap :=
  ls_of ME MtF Try.underlying29 Try.underlying49 (by kernel_rfl) (by kernel_rfl) (by kernel_rfl) (fun vs hv => by
    obtain ⟨n, y, h⟩ := hv 0 _ rfl
    obtain ⟨s, e0, _, _⟩ := DataW.trod_string Try.underlying9 h
    obtain ⟨n1, e1, _⟩ := reads_int Try.underlying3 (hv 1 _ rfl)
    obtain ⟨n2, e2, _⟩ := reads_int Try.underlying3 (hv 2 _ rfl)
    obtain ⟨n3, e3, w3⟩ := reads_int Try.underlying47 (hv 3 _ rfl)
    have w3 := wf_u32 w3
    injection e0 with e0
    refine ⟨(s.data.toList, n1, n2, n3), fun j hj => ?_, ⟨w3.1, by simp only; omega⟩⟩
    have h4 : j = 0 ∨ j = 1 ∨ j = 2 ∨ j = 3 := by have : j < 4 := hj; omega
    rcases h4 with rfl | rfl | rfl | rfl
    · rw [e0]; simp [ME, mtE, tx_back]
    · rw [e1]; rfl
    · rw [e2]; rfl
    · rw [e3]; rfl) h0
end
theorem sized_agg {H : Type} {P : Program} {ts : List TypeId} {ds : List (DataW H)} (h : (DataW.weightsEach P ts ds).all (· ≤ reachBytes) = true) {j : Nat} {t : TypeId} {parts : List (DataW H)} {fs : Array Field} (ht : ts[j]? = some t) (hd : ds[j]? = some (.agg parts)) (hu : P.underlying t = some (.struct fs)) :
    (DataW.weightsEach P (fs.toList.map (·.type)) parts).all (· ≤ reachBytes) = true :=
  List.all_eq_true.2 fun n hn => List.all_eq_true.1 h n (DataW.weights_mem_each ht hd n (by simp only [DataW.weights, hu]; exact hn))
theorem slice_reads {H : Type} {enc : TypeId × Value → H} {P : Program} {W : World} {t e : TypeId} {v : Value} {n : Nat} {y : DataW H × List MemPlace} (ht : P.underlying t = some (.slice e)) (h : DataW.trod enc P W 0 (fun _ => true) true n t [v] = some y) :
    ∃ A L C, v = .slice A L C ∧ DataW.Trod enc P W 0 (fun _ => true) true t (.slice A L C) y.1 y.2 ∧ (L = 0 ∨ ∃ el sp, y.1 = .slice el sp ∧ el.length = L) := by
  rcases open_slice ht h with ⟨hcs, _⟩ | ⟨a, l, c, m, n', D, Pl, hcs, _, hl, hm, hmm, hxd, _⟩
  · injection hcs with hcs
    subst hcs
    exact ⟨none, 0, 0, rfl, ⟨n, h⟩, .inl rfl⟩
  · injection hcs with hcs
    subst hcs
    rw [if_pos rfl] at hmm
    subst hmm
    refine ⟨some a, l, _, rfl, ⟨n, h⟩, .inr ⟨_, _, by rw [hxd], by simp⟩⟩
set_option maxRecDepth 100000 in
set_option maxHeartbeats 1000000 in
theorem msg_reads {H : Type} {enc : TypeId × Value → H} {W : World} {cs : List Value} {n : Nat} {y : DataW H × List MemPlace} {ts : List TypeId} {ds : List (DataW H)} (j : Nat) (hsz : (DataW.weightsEach Try.prog ts ds).all (· ≤ reachBytes) = true) (hts : ts[j]? = some 31) (hds : ds[j]? = some y.1)
    (h : DataW.trod enc Try.prog W 0 (fun _ => true) true n 31 cs = some y) : ∃ a : MV, a.cells.toList = cs ∧ MVok W W.heap.size a := by
  obtain ⟨xs, k, _, rfl, hl, hlen, hf⟩ := DataW.trod_struct Try.underlying31 h
  rw [show Try.prog.cellsOf 31 = 16 by kernel_rfl] at hl
  obtain ⟨c0, c1, c2, c3, c4, c5, c6, c7, c8, c9, c10, c11, c12, c13, c14, c15, rfl⟩ : ∃ c0 c1 c2 c3 c4 c5 c6 c7 c8 c9 c10 c11 c12 c13 c14 c15, cs = [c0, c1, c2, c3, c4, c5, c6, c7, c8, c9, c10, c11, c12, c13, c14, c15] := by
    match cs, hl with
    | [c0, c1, c2, c3, c4, c5, c6, c7, c8, c9, c10, c11, c12, c13, c14, c15], _ => exact ⟨_, _, _, _, _, _, _, _, _, _, _, _, _, _, _, _, rfl⟩
  obtain ⟨x0, x1, x2, x3, x4, x5, x6, x7, x8, x9, x10, x11, x12, rfl⟩ : ∃ x0 x1 x2 x3 x4 x5 x6 x7 x8 x9 x10 x11 x12, xs = [x0, x1, x2, x3, x4, x5, x6, x7, x8, x9, x10, x11, x12] := by
    match xs, hlen with
    | [x0, x1, x2, x3, x4, x5, x6, x7, x8, x9, x10, x11, x12], _ => exact ⟨_, _, _, _, _, _, _, _, _, _, _, _, _, rfl⟩
  have hw := sized_agg hsz hts hds Try.underlying31
  obtain ⟨v0, rfl, _⟩ := reads_int (k := .i64) (v := c0) Try.underlying3 ⟨_, _, hf 0 _ rfl⟩
  obtain ⟨v1, rfl, _⟩ := reads_int (k := .i64) (v := c1) Try.underlying3 ⟨_, _, hf 1 _ rfl⟩
  obtain ⟨v2, rfl, _⟩ := reads_int (k := .i64) (v := c2) Try.underlying3 ⟨_, _, hf 2 _ rfl⟩
  obtain ⟨v3, rfl, _⟩ := reads_int (k := .i64) (v := c3) Try.underlying3 ⟨_, _, hf 3 _ rfl⟩
  obtain ⟨v4, rfl, _⟩ := reads_int (k := .i64) (v := c4) Try.underlying3 ⟨_, _, hf 4 _ rfl⟩
  obtain ⟨s5, e5, f5, _⟩ := DataW.trod_string Try.underlying9 (hf 5 _ rfl)
  obtain rfl : c5 = .string s5 := by injection e5
  obtain ⟨v6, rfl, _⟩ := reads_int (k := .i64) (v := c6) Try.underlying3 ⟨_, _, hf 6 _ rfl⟩
  obtain ⟨r0, r1, k7, _, _, g0, g1⟩ := trod_struct2 Try.underlying23 (hf 7 _ rfl)
  obtain ⟨v7, rfl, _⟩ := reads_int (k := .i64) (v := c7) Try.underlying3 ⟨_, _, g0⟩
  obtain ⟨v8, rfl, _⟩ := reads_int (k := .i64) (v := c8) Try.underlying3 ⟨_, _, g1⟩
  obtain ⟨q0, q1, q2, k8, _, _, g2, g3, g4⟩ := trod_struct3 Try.underlying26 (hf 8 _ rfl)
  obtain ⟨v9, rfl, _⟩ := reads_int (k := .i64) (v := c9) Try.underlying3 ⟨_, _, g2⟩
  obtain ⟨v10, rfl, w10⟩ := reads_int (k := .u64) (v := c10) Try.underlying24 ⟨_, _, g3⟩
  obtain ⟨v11, rfl, w11⟩ := reads_int (k := .u64) (v := c11) Try.underlying24 ⟨_, _, g4⟩
  obtain ⟨v12, rfl, _⟩ := reads_int (k := .i64) (v := c12) Try.underlying27 ⟨_, _, hf 9 _ rfl⟩
  obtain ⟨b13, e13, _⟩ := DataW.trod_bool Try.underlying4 (hf 10 _ rfl)
  obtain rfl : c13 = .bool b13 := by injection e13
  obtain ⟨pA, L, pc, rfl, t1, d1⟩ := slice_reads (v := c14) Try.underlying28 (hf 11 _ rfl)
  obtain ⟨mA, L2, mc, rfl, t2, d2⟩ := slice_reads (v := c15) Try.underlying29 (hf 12 _ rfl)
  obtain ⟨ps, a1, a2, a3, a4, a5⟩ := pts_in t1
  obtain ⟨ms, b1, b2, b3, b4, b5⟩ := mts_in t2
  have hl1 : ps.length = L := a1.1
  have hl2 : ms.length = L2 := b1.1
  subst hl1 hl2
  have w10 := wf_u64 w10
  have w11 := wf_u64 w11
  unfold maxLen at a4 b4
  have hre : reachBytes = 140737488351232 := rfl
  have hs5 : s5.data.toList.length ≤ 140737488351232 := by
    have f5' : x5.1 = .lit (.string s5.data.toList) := congrArg Prod.fst f5
    have := sized_string hw (j := 5) (t := 9) (bytes := s5.data.toList) rfl (by show some x5.1 = _; rw [f5'])
    omega
  have hsp : ps.length ≤ 140737488351232 := by
    rcases d1 with d1 | ⟨el, sp, d1, d3⟩
    · omega
    · have := sized_slice hw (j := 11) (t := 28) (elems := el) (spare := sp) rfl (by rw [← d1]; rfl) Try.underlying28
      rw [show Try.prog.bytesOf 26 = 24 by kernel_rfl] at this
      omega
  have hsm : ms.length ≤ 140737488351232 := by
    rcases d2 with d2 | ⟨el, sp, d2, d3⟩
    · omega
    · have := sized_slice hw (j := 12) (t := 29) (elems := el) (spare := sp) rfl (by rw [← d2]; rfl) Try.underlying29
      rw [show Try.prog.bytesOf 49 = 40 by kernel_rfl] at this
      omega
  refine ⟨⟨⟨v0, v1, v2, v3, v4, s5.data.toList, v6, v7, v8, (v9, v10, v11), v12, b13, ps, ms⟩, pA, pc, mA, mc⟩, ?_, ⟨a1, a5, ⟨a3, a4⟩, a2, b1, b5, ⟨b3, b4⟩, b2, ⟨⟨w10.1, by simp only; omega⟩, ⟨w11.1, by simp only; omega⟩⟩, hs5, hsp, hsm⟩⟩
  simp only [MV.cells, tx_back]
theorem open_msg {H : Type} {enc : TypeId × Value → H} {W : World} {r : Reach} {b0 : Nat} {v : Value} {d : DataW H} {p : List MemPlace} {ts : List TypeId} {ds : List (DataW H)} (j : Nat) (hsz : (DataW.weightsEach Try.prog ts ds).all (· ≤ reachBytes) = true) (hts : ts[j]? = some 31) (hds : ds[j]? = some d)
    (hv : Value.okWide Try.prog W r b0 31 v) (h : DataW.Trod enc Try.prog W 0 (fun _ => true) true 31 v d p) : ∃ a : MV, v = a.val ∧ MVok W W.heap.size a := by
  obtain ⟨cs, rfl, _⟩ := okWide_struct Try.underlying31 hv
  obtain ⟨n, hn⟩ := h
  obtain ⟨a, ha, hf⟩ := msg_reads j hsz hts hds hn
  refine ⟨a, ?_, hf⟩
  have e : a.cells.toList = cs.toList := by rw [ha]; simp [Value.cells]
  have e2 : a.cells = cs := by rw [← Array.toArray_toList (xs := a.cells), e]
  rw [MV.val, e2]
end Go.Proofs.Ythkcnakodlbdpaa.wr
