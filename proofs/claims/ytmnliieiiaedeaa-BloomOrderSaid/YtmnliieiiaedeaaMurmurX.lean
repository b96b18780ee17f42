/-
  Murmur: the program's own text.
-/
import Derived.Test.YtmnliieiiaedeaaMurmur
import Derived.WalkLawsBesides
namespace Go.Proofs.Ytmnliieiiaedeaa.murmur
open Go.ChangeShapes Go.WideShapes Go.ChangeAt Go.RowKit plain words

theorem Bs.dropped {w : World} {B n b off k : Nat} {bs : List UInt8} (h : Bs w B (some ⟨b, off, none⟩) n bs) (hk : k ≤ n) : Bs w B (some ⟨b, off + k, none⟩) (n - k) (bs.drop k) :=
  ⟨by rw [u8s_length, List.length_drop, Bs.len_ h], fun j hj => by
    obtain ⟨b', off', v, e, hb, hv, hc⟩ := h.at_ (k + j) (by omega)
    cases e
    refine ⟨_, _, v, rfl, hb, ?_, ?_⟩
    · unfold u8s at hv ⊢
      rw [List.map_drop, List.getElem?_drop]; exact hv
    · rw [show off + k + j = off + (k + j) from by omega]; exact hc⟩

theorem info5 : (Try.prog.info? 5).map (·.size) = some 1 := by kernel_rfl
theorem cell_at {w : World} {g : Nat} {t : TypeId} {L L' : List Value} (h : w.heap[g]? = some (.cells L.toArray t (0, 0))) (e : L = L') (i : Nat) (x : UInt8) (hx : L'[i]? = some (U8 x)) :
    w.cell? ⟨g, i, none⟩ = some (.int .u8 (x.toNat : Int)) := by
  subst e
  rw [cell_of_row _ _ _ _ _ _ h]
  simpa [U8] using hx
theorem tail (l : List UInt8) (hh : Int) (hl : l.length < 4) : ∃ x0 x1 x2 x3 : UInt8, splice [Value.int .u8 0, .int .u8 0, .int .u8 0, .int .u8 0] 0 (u8s l) = [U8 x0, U8 x1, U8 x2, U8 x3] ∧
    l.foldl mstep (hh, 0, 0) = (hh, x0.toNat + x1.toNat * 256 + x2.toNat * 65536 + x3.toNat * 16777216, l.length) := by
  match l, hl with
  | [], _ => exact ⟨0, 0, 0, 0, rfl, by simp⟩
  | [a], _ => exact ⟨a, 0, 0, 0, rfl, by simp [mstep]⟩
  | [a, b], _ => exact ⟨a, b, 0, 0, rfl, by simp [mstep]⟩
  | [a, b, c], _ => exact ⟨a, b, c, 0, rfl, by simp [mstep]⟩

set_option maxHeartbeats 4000000 in
set_option maxRecDepth 100000 in
theorem murmur_x (w : World) (B n c : Nat) (a : Option Addr) (bs : List UInt8) (seed : Int) (hs : 0 ≤ seed ∧ seed ≤ 4294967295) (h : Bs w B a n bs) (hB : B ≤ w.heap.size) (hn : n < 4294967296) (hnc : n ≤ c) (hcm : c ≤ 9223372036854775807) :
    Calls Try.prog 81 #[.slice a n c, .int .u32 seed] w fun e w' => e = .returned (.int .u32 (mur seed bs)) ∧ Below w.heap.size w w' := by
  go_enter Try.func81, Try.ntmps81
  go_wp2
  go_loopw [5, 6] (fun x r wr => ∃ (m c' : Nat) (a' : Option Addr) (l : List UInt8) (hh : Int), r = .slice a' m c' ∧ m ≤ n ∧ m ≤ c' ∧ c' ≤ 9223372036854775807 ∧ x = .int .u32 hh ∧ 0 ≤ hh ∧ hh ≤ 4294967295 ∧ Bs w B a' m l ∧ bs.foldl mstep (seed, 0, 0) = l.foldl mstep (hh, 0, 0) ∧ Below w.heap.size w wr) (fun _ r _ => match r with | .slice _ m _ => m | _ => 0)
  case atStart => exact ⟨n, c, a, bs, seed, rfl, Nat.le_refl _, hnc, by omega, rfl, hs.1, hs.2, h, rfl, Below.refl _ _⟩
  case round =>
    obtain ⟨m, c', a', l, hh, rfl, hmn, hmc, hc1, rfl, hh0, hh1, hl, heq, hbel⟩ := hrel
    have HEQ := Lib.hid heq
    clear heq
    by_cases h4 : 4 ≤ m
    · have hl' := hl.below hbel hB
      obtain ⟨b, off, c0, rfl, hbB, hg0, hc0⟩ := Bs.get hl' (show 0 < m from by omega)
      obtain ⟨_, _, c1, e1, _, hg1, hc1'⟩ := Bs.get hl' (show 1 < m from by omega)
      cases e1
      obtain ⟨_, _, c2, e1, _, hg2, hc2⟩ := Bs.get hl' (show 2 < m from by omega)
      cases e1
      obtain ⟨_, _, c3, e1, _, hg3, hc3⟩ := Bs.get hl' (show 3 < m from by omega)
      cases e1
      have hdr := Bs.dropped hl (k := 4) h4
      have hc0 : wr.cell? ⟨b, off, none⟩ = some (Value.int IntKind.u8 c0.toNat) := hc0
      have harr := run_arrayAt (P := Try.prog) (w := wr) 126 5 4 (some ⟨b, off, none⟩) m c' Try.underlying126 h4
      obtain ⟨l', rfl⟩ : ∃ l', l = c0 :: c1 :: c2 :: c3 :: l' := by
        match l, hg0, hg1, hg2, hg3 with
        | x0 :: x1 :: x2 :: x3 :: l', h0, h1, h2, h3 =>
          simp only [List.getElem?_cons_zero, List.getElem?_cons_succ, Option.some.injEq] at h0 h1 h2 h3
          subst h0 h1 h2 h3
          exact ⟨l', rfl⟩
      have heq2 : bs.foldl mstep (seed, 0, 0) = l'.foldl mstep (rnd hh (c0.toNat + c1.toNat * 256 + c2.toNat * 65536 + c3.toNat * 16777216), 0, 0) := by rw [HEQ.out, four]
      have HEQ2 := Lib.hid heq2
      clear heq2 HEQ hg0 hg1 hg2 hg3 hl hl' h
      have hdr' : Bs w B (some ⟨b, off + 4, none⟩) (m - 4) l' := hdr
      clear hdr
      have b0 := c0.toNat_lt
      have b1 := c1.toNat_lt
      have b2 := c2.toNat_lt
      have b3 := c3.toNat_lt
      have hwd : (0 : Int) ≤ c0.toNat + c1.toNat * 256 + c2.toNat * 65536 + c3.toNat * 16777216 ∧ (c0.toNat + c1.toNat * 256 + c2.toNat * 65536 + c3.toNat * 16777216 : Int) ≤ 4294967295 := by omega
      have hrb := rnd_bd hh (c0.toNat + c1.toNat * 256 + c2.toNat * 65536 + c3.toNat * 16777216)
      have hrnd : (rot (bits BinOp.xor IntKind.u32 hh (mixd ((c0.toNat : Int) + (c1.toNat : Int) * 256 + (c2.toNat : Int) * 65536 + (c3.toNat : Int) * 16777216))) 13 * 5 % 4294967296 + 3864292196) % 4294967296 = rnd hh (c0.toNat + c1.toNat * 256 + c2.toNat * 65536 + c3.toNat * 16777216) := by
        unfold rnd
        rw [IntKind.wrap_u32', show ((c0.toNat + c1.toNat * 256 + c2.toNat * 65536 + c3.toNat * 16777216 : Nat) : Int) = (c0.toNat : Int) + (c1.toNat : Int) * 256 + (c2.toNat : Int) * 65536 + (c3.toNat : Int) * 16777216 from by simp]
        omega
      have HRND := Lib.hid hrnd
      clear hrnd
      have hcut : ∃ a2, (if c' = 4 then some (⟨b, off, none⟩ : Addr) else some ⟨b, off + 4, none⟩) = a2 ∧ Bs w B a2 (m - 4) l' := by
        by_cases h : c' = 4
        · refine ⟨_, rfl, ?_⟩
          have hm4 : m = 4 := by omega
          subst hm4
          have : l' = [] := List.eq_nil_of_length_eq_zero (by have := Bs.len_ hdr'; omega)
          subst this
          exact Rd.nil _ _ _
        · exact ⟨_, rfl, by rw [if_neg h]; exact hdr'⟩
      by_cases hc4 : c' = 4
      · subst hc4
        go_wp2_with fail
        refine (word_x c0 c1 c2 c3 _).mono ?_
        rintro e w1 ⟨rfl, hb1⟩
        go_wp2_with fail
        refine (mix_x _ _ hwd.1 hwd.2).mono ?_
        rintro e w2 ⟨rfl, rfl⟩
        go_wp2_with fail
        refine (rot_x _ 13 _ (bits_u32_bd _ _ _).1 (bits_u32_bd _ _ _).2 (by omega) (by omega)).mono ?_
        rintro e w2 ⟨rfl, rfl⟩
        go_wp2_with fail
        go_roundw
        case rel => exact ⟨0, 0, _, l', _, rfl, Nat.zero_le _, Nat.zero_le _, by omega, congrArg _ HRND.out, hrb.1, hrb.2, by
          have hl0 : l' = [] := List.eq_nil_of_length_eq_zero (by have := Bs.len_ hdr'; omega)
          rw [hl0]; exact Rd.nil _ _ _, HEQ2.out, hbel.trans (hb1.mono hbel.size)⟩
        case measure => simp; omega
      · have HCUT := Lib.hid hcut
        clear hcut
        go_wp2_with fail
        refine (word_x c0 c1 c2 c3 _).mono ?_
        rintro e w1 ⟨rfl, hb1⟩
        go_wp2_with fail
        refine (mix_x _ _ hwd.1 hwd.2).mono ?_
        rintro e w2 ⟨rfl, rfl⟩
        go_wp2_with fail
        refine (rot_x _ 13 _ (bits_u32_bd _ _ _).1 (bits_u32_bd _ _ _).2 (by omega) (by omega)).mono ?_
        rintro e w2 ⟨rfl, rfl⟩
        go_wp2_with fail
        go_roundw
        case rel => exact ⟨m - 4, c' - 4, _, l', _, rfl, by omega, by omega, by omega, congrArg _ HRND.out, hrb.1, hrb.2, hdr', HEQ2.out, hbel.trans (hb1.mono hbel.size)⟩
        case measure => simp; omega
    · have hl' := hl.below hbel hB
      have hlm := Bs.len_ hl
      obtain ⟨x0, x1, x2, x3, hx, hf⟩ := tail l hh (by omega)
      have hn1 : (u8s l).length = Nat.min m 4 := by rw [u8s_length, hlm]; show m = min m 4; omega
      have hpos : 0 < (u8s l).length → (some ⟨wr.heap.size, 0, none⟩ : Option Addr) = some ⟨wr.heap.size, 0, none⟩ ∧ ∃ ad, a' = some ad ∧ ∀ j v, (u8s l)[j]? = some v → (wr.alloc (.cells #[.int .u8 0, .int .u8 0, .int .u8 0, .int .u8 0] 126)).cell? (ad.add j) = some v := by
        intro hp
        rw [u8s_length] at hp
        obtain ⟨b, off, _, rfl, _, _, _⟩ := Bs.get hl' (show 0 < m from by omega)
        refine ⟨rfl, _, rfl, fun j v hv => ?_⟩
        have hj : j < m := by
          have : j < (u8s l).length := by
            rcases Nat.lt_or_ge j (u8s l).length with h | h
            · exact h
            · rw [List.getElem?_eq_none h] at hv; cases hv
          rw [u8s_length] at this; omega
        obtain ⟨_, _, u, e, hbB, hu, hcell⟩ := hl'.at_ j hj
        cases e
        rw [hv] at hu
        cases hu
        have e : (⟨b, off, none⟩ : Addr).add j = ⟨b, off + j, none⟩ := by
          unfold Addr.add
          by_cases hj0 : j = 0
          · simp [hj0]
          · simp [hj0]
        rw [e]
        rw [World.cell?_alloc_lt wr _ ⟨b, off + j, none⟩ (by have := hbel.size; simp only; omega)]
        exact hcell
      have hfit : 0 + (u8s l).length ≤ [Value.int .u8 0, .int .u8 0, .int .u8 0, .int .u8 0].length := by rw [u8s_length]; simp only [List.length_cons, List.length_nil]; omega
      have h1 : ∀ v ∈ u8s l, v.oneCell' = true := by
        intro v hv
        simp only [u8s, List.mem_map] at hv
        obtain ⟨_, _, rfl⟩ := hv
        rfl
      have hbb := hbel.alloc hbel.size (.cells #[.int .u8 0, .int .u8 0, .int .u8 0, .int .u8 0] 126)
      have hnl := h.len_
      have HNL := Lib.hid hnl
      have HX := Lib.hid hx
      have HF := Lib.hid hf
      have HPOS := Lib.hid hpos
      have HN1 := Lib.hid hn1
      have hsz := hbel.size
      have y0 := x0.toNat_lt
      have y1 := x1.toNat_lt
      have y2 := x2.toNat_lt
      have y3 := x3.toNat_lt
      have hwd : (0 : Int) ≤ x0.toNat + x1.toNat * 256 + x2.toNat * 65536 + x3.toNat * 16777216 ∧ (x0.toNat + x1.toNat * 256 + x2.toNat * 65536 + x3.toNat * 16777216 : Int) ≤ 4294967295 := by omega
      clear hl hl' hlm hx hf hpos hn1 h hnl
      go_wp2_with ((with_reducible refine wpList_copy_splice rfl (.tmp 25) (.tmp 26) 57 57 rfl 5 Try.underlying57 info5 (some ⟨wr.heap.size, 0, none⟩) a' 4 4 m c' rfl rfl wr.heap.size 0 [Value.int .u8 0, .int .u8 0, .int .u8 0, .int .u8 0] 126 (heap_alloc_new _ _) (u8s l) HN1.out HPOS.out hfit h1 w.heap.size w hbb hsz ?_); intro w2 HG2 hB2; have q0 := cell_at HG2.out HX.out 0 x0 rfl; have q1 := cell_at HG2.out HX.out 1 x1 rfl; have q2 := cell_at HG2.out HX.out 2 x2 rfl; have q3 := cell_at HG2.out HX.out 3 x3 rfl; clear HG2)
      refine (word_x x0 x1 x2 x3 _).mono ?_
      rintro e w3 ⟨rfl, hb3⟩
      go_wp2_with fail
      refine (mix_x _ _ hwd.1 hwd.2).mono ?_
      rintro e w4 ⟨rfl, rfl⟩
      go_wp2_with fail
      refine (last_x _ _ (bits_u32_bd _ _ _).1 (bits_u32_bd _ _ _).2).mono ?_
      rintro e w4 ⟨rfl, rfl⟩
      go_wp2_with fail
      go_ret
      exact ⟨ret_int (by unfold mur; rw [HEQ.out, HF.out, HNL.out]; simp only []; rw [show ((x0.toNat + x1.toNat * 256 + x2.toNat * 65536 + x3.toNat * 16777216 : Nat) : Int) = (x0.toNat : Int) + (x1.toNat : Int) * 256 + (x2.toNat : Int) * 65536 + (x3.toNat : Int) * 16777216 from by simp]), hB2.trans (hb3.mono hB2.size)⟩
end Go.Proofs.Ytmnliieiiaedeaa.murmur
