/-
  The walk of the law NetDoubles.
-/
import Derived.Test.YtcebmlcdhapnkaaNetPend
import Derived.Test.YtcebmlcdhapnkaaNetSame
namespace Go.Proofs.Ytcebmlcdhapnkaa.lawNetDoubles
open Go.ChangeShapes Go.WideShapes Go.ChangeAt Go.RowKit plain words ord mem net

theorem net_old {w w' : World} {H0 p : Nat} {r r' : Option Nat} (hch : Chg (fun b => b = p ∨ some b = r) w w') (hp : H0 ≤ p) (hr : ∀ g, r = some g → H0 ≤ g) (hr' : r' = r ∨ ∃ g, r' = some g ∧ w.heap.size ≤ g) (hH : H0 ≤ w.heap.size) : Below H0 w w' ∧ ∀ g, r' = some g → H0 ≤ g :=
  ⟨hch.below hH (fun q hq => by
    rcases hq with e | e
    · omega
    · exact hr q e.symm), fun g hg => by
    rcases hr' with e | ⟨q, e, e2⟩
    · exact hr g (e ▸ hg)
    · rw [hg] at e; cases e; omega⟩

/-- bytes of their own in a block from lo to hi *-/
def Own (w : World) (lo hi : Nat) (A : Option Addr) (n c : Nat) (bs : List UInt8) : Prop := w.ownsRow 0 5 1 (.slice A n c) n (u8s bs) ∧ ∀ g, (Value.slice A n c).ownBlock = some g → lo ≤ g ∧ g < hi
theorem Own.of {w : World} {lo : Nat} {A : Option Addr} {n c : Nat} {bs : List UInt8} (h : w.ownsRow lo 5 1 (.slice A n c) n (u8s bs)) : Own w lo w.heap.size A n c bs := ⟨own_base h (Nat.zero_le _), fun g hg => h.lt g hg⟩
theorem Own.below {w w' : World} {lo hi : Nat} {A : Option Addr} {n c : Nat} {bs : List UInt8} (h : Own w lo hi A n c bs) (hb : Below w.heap.size w w') : Own w' lo hi A n c bs := ⟨own_keep h.1 hb (Nat.le_refl _), h.2⟩
theorem Own.net {w w' : World} {lo hi p : Nat} {r : Option Nat} {A : Option Addr} {n c : Nat} {bs : List UInt8} (h : Own w lo hi A n c bs) (hch : Chg (fun b => b = p ∨ some b = r) w w') (hp : p < lo) (hr : ∀ g, r = some g → g < lo ∨ hi ≤ g) : Own w' lo hi A n c bs :=
  ⟨own_chg h.1 hch fun g hg e => by
    obtain ⟨h1, h2⟩ := h.2 g hg
    rcases e with e | e
    · omega
    · have := hr g e.symm; omega, h.2⟩
theorem Own.bs {w : World} {lo hi : Nat} {A : Option Addr} {n c : Nat} {bs : List UInt8} (h : Own w lo hi A n c bs) : Bs w w.heap.size A n bs := own_bs h.1

set_option maxHeartbeats 8000000 in
set_option maxRecDepth 100000 in
theorem walk_core (a0 : Option Addr) (n c : Nat) (ls : List (List UInt8)) (i : Int) (w : World) (h : BRows w w.heap.size a0 n ls) (hn : n ≤ 256) (hi : -9223372036854775808 ≤ i ∧ i ≤ 9223372036854775807) :
    Calls Try.prog 4 #[.slice a0 n c, .int .i64 i] w fun e w' => e = .returned (.bool true) ∧ Below w.heap.size w w' := by
  have HLEN := Lib.hid h.len
  obtain ⟨H0, hH0⟩ : ∃ H0, w.heap.size = H0 := ⟨_, rfl⟩
  rw [hH0] at h ⊢
  have HH0 := Lib.hid hH0
  have hn0 : ¬ (256 : Int) < (n : Int) := by omega
  clear hH0
  go_enter Try.func4, Try.ntmps4
  go_wp2_with (fail)
  refine (new_x _).mono ?_
  rintro e w1 ⟨rfl, hN, hb⟩
  rw [HH0.out] at hN hb ⊢
  have HN := Lib.hid hN
  have HB := Lib.hid hb
  have HS := Lib.hid hN.lt
  clear hN hb
  go_wp2_with (fail)
  go_loopw [6] (fun i wr => ∃ (k : Nat) (r : Option Nat), k ≤ n ∧ i = .int .i64 k ∧ IsNet wr H0 r (pendz 0 (ls.take k)) ∧ (∀ g, r = some g → H0 ≤ g) ∧ Below H0 w wr) (fun i _ => n - (intOf i).toNat)
  case atStart => exact ⟨0, none, Nat.zero_le _, rfl, HN.out, (fun _ e => by cases e), HB.out⟩
  case round =>
    clear HN HB HS
    obtain ⟨k, r, hk, rfl, hN, hr, hbel⟩ := hrel
    have hsz := hbel.size
    by_cases hlt : k < n
    · obtain ⟨b, off, A, L, C, bs, rfl, hbB, hls, hcw, hbs, hA, hLC, hC⟩ := h.at_ k hlt
      unfold maxLen at hC
      have hc0 : wr.cell? ⟨b, off + k, none⟩ = some (.slice A L C) := (hbel.cell (p := ⟨b, off + k, none⟩) hbB).trans hcw
      have i1 : (0 : Int) ≤ (k : Int) := by omega
      have i2 : (k : Int) < (n : Int) := by omega
      have hsend := send_x wr H0 r _ hN (k : Int) 0 H0 L C A bs (hbs.below hbel (Nat.le_refl _)) hA (by have := HH0.out; omega) (by omega)
      rw [pendz_send hn hlt hls] at hsend
      have HSEND := Lib.hid hsend
      clear hsend hN hls hbs
      go_wp2_with (fail)
      refine HSEND.out.mono ?_
      rintro e w2 ⟨r', rfl, hN', hch, hr'⟩
      obtain ⟨hb2, hr2⟩ := net_old hch (Nat.le_refl _) hr hr' (by have := HH0.out; omega)
      have HN' := Lib.hid hN'
      clear HSEND hN' hch hr' hc0 hcw
      go_wp2_with (fail)
      go_roundw
      case rel => exact ⟨k + 1, r', by omega, by go_num, HN'.out, hr2, hbel.trans hb2⟩
      case measure => simp [intOf]; omega
    · have hkn : k = n := by omega
      subst hkn
      rw [take_all (by rw [HLEN.out]; exact Nat.le_refl _)] at hN
      have hPl := pendz_len 0 ls
      have hPs := pendz_size 0 ls
      rw [HLEN.out] at hPl
      clear h HLEN
      obtain ⟨P, hP⟩ : ∃ P, pendz 0 ls = P := ⟨_, rfl⟩
      rw [hP] at hN hPl hPs
      have HPS := Lib.hid hPs
      have hlen := len_x wr H0 r P hN
      have HL := Lib.hid hlen
      have HN := Lib.hid hN
      clear hN hlen hP hPs
      obtain ⟨wo, rfl⟩ : ∃ wo : World, wo = wr := ⟨_, rfl⟩
      by_cases hin : 0 ≤ i ∧ i < (P.length : Int)
      · obtain ⟨j, rfl⟩ : ∃ j : Nat, i = j := ⟨i.toNat, by omega⟩
        have hj : j < P.length := by omega
        obtain ⟨x, y, bs, hm⟩ : ∃ x y bs, P[j]? = some (x, y, bs) := ⟨P[j].1, P[j].2.1, P[j].2.2, List.getElem?_eq_getElem hj⟩
        have hbl : bs.length ≤ 32768 := HPS.out (x, y, bs) (List.mem_of_getElem? hm)
        have hat := at_x wo H0 r P HN.out j x y bs hm (by omega) _ rfl
        have HAT := Lib.hid hat
        have HM := Lib.hid hm
        clear hat hm
        go_wp2_with (fail)
        refine HL.out.mono ?_
        rintro e w2 ⟨rfl, rfl⟩
        go_wp2_with (fail)
        refine HAT.out.mono ?_
        rintro e w2 ⟨A1, c1, rfl, hown1, hb2⟩
        have hsz := hbel.size
        have hs2 := hb2.size
        have hh := HH0.out
        have hrl : ∀ g, r = some g → g < wo.heap.size := fun g hg => by have := HN.out; subst hg; exact this.row_lt
        have hpl := HN.out.lt
        have hO1 : Own w2 wo.heap.size w2.heap.size A1 bs.length c1 bs := Own.of hown1
        clear hown1 HAT HL
        obtain ⟨nb, hnb⟩ : ∃ nb, bs.length = nb := ⟨_, rfl⟩
        rw [hnb] at hO1 hbl ⊢
        have HNB := Lib.hid hnb
        clear hnb
        go_wp2_with (fail)
        obtain ⟨w3, hw3⟩ : ∃ w3, w2.alloc (.cells #[.int .i64 x, .int .i64 y, .slice A1 nb c1] 32) = w3 := ⟨_, rfl⟩
        have hb3 : Below w2.heap.size w2 w3 := by rw [← hw3]; exact (Below.refl _ _).alloc (Nat.le_refl _) _
        have g3 : w3.heap[w2.heap.size]? = some (.cells #[.int .i64 x, .int .i64 y, .slice A1 nb c1] 32 (0, 0)) := by rw [← hw3]; exact alloc_new _ _
        have hs3 : w3.heap.size = w2.heap.size + 1 := by rw [← hw3]; simp
        rw [hw3]
        clear hw3
        have hb03 : Below wo.heap.size wo w3 := hb2.trans (hb3.mono hs2)
        have hN3 := HN.out.below hb03
        have hO3 := hO1.below hb3
        by_cases hfull : P.length = 256
        · have hq : ((P.length : Int) == 256) = true := by simp; omega
          have hdb := double_full w3 H0 r P hN3 (by omega) j hj
          have hle := fun w' (hb : Below w3.heap.size w3 w') => len_x w' H0 r P (hN3.below hb)
          have HD := Lib.hid hdb
          have HL := Lib.hid hle
          clear hdb hle hN3 hO3 hO1 g3
          refine HD.out.mono ?_
          rintro e w4 ⟨rfl, hb4⟩
          go_wp2_with (fail)
          refine (HL.out w4 hb4).mono ?_
          rintro e w5 ⟨rfl, rfl⟩
          go_wp2_with (fail)
          go_ret
          exact ⟨by simp, hbel.trans ((hb03.mono (by omega)).trans (hb4.mono (by omega)))⟩
        · have hq : ((P.length : Int) == 256) = false := by simp; omega
          have hbl' := HNB.out
          have hdb := double_x w3 H0 r P hN3 (by omega) j x y bs HM.out (by omega)
          have HD := Lib.hid hdb
          have HO3 := Lib.hid hO3
          have G3 := Lib.hid g3
          clear hdb hN3 hO3 hO1 g3
          refine HD.out.mono ?_
          rintro e w4 ⟨r4, rfl, hN4, hch4, hr4⟩
          have hs4 := hch4.size
          have hr4' : ∀ g, r4 = some g → g < wo.heap.size ∨ w3.heap.size ≤ g := fun g hg => by
            rcases hr4 with e | ⟨q, e, e2⟩
            · exact .inl (hrl g (e ▸ hg))
            · rw [hg] at e; cases e; exact .inr e2
          have hr4l : ∀ g, r4 = some g → g < w4.heap.size := fun g hg => by subst hg; exact hN4.row_lt
          have hO4 := HO3.out.net hch4 hpl (fun g hg => .inl (hrl g hg))
          have g4 := hch4.blk G3.out (by
            rintro (e | e)
            · omega
            · have := hrl _ e.symm; omega)
          have hat := at_x w4 H0 r4 (P ++ [(x, y, bs)]) hN4 P.length x y bs (by simp) (by omega) nb hbl'
          have HAT := Lib.hid hat
          have HN4 := Lib.hid hN4
          have HO4 := Lib.hid hO4
          have G4 := Lib.hid g4
          have HC4 := Lib.hid hch4
          clear hat hN4 hO4 g4 hch4 HD HO3 G3
          go_wp2_with (fail)
          refine HAT.out.mono ?_
          rintro e w5 ⟨A2, c2, rfl, hown5, hb5⟩
          have hs5 := hb5.size
          have hO2 : Own w5 w4.heap.size w5.heap.size A2 nb c2 bs := Own.of hown5
          clear hown5 HAT
          have g5 := blk_below hb5 G4.out (by omega)
          have lt5 : w2.heap.size < w5.heap.size := by omega
          have c0 : w5.cell? ⟨w2.heap.size, 0, none⟩ = some (.int .i64 x) := by rw [cell_of_row _ _ _ _ _ _ g5]; rfl
          have c1' : w5.cell? ⟨w2.heap.size, 1, none⟩ = some (.int .i64 y) := by rw [cell_of_row _ _ _ _ _ _ g5]; rfl
          have c2' : w5.cell? ⟨w2.heap.size, 2, none⟩ = some (.slice A1 nb c1) := by rw [cell_of_row _ _ _ _ _ _ g5]; rfl
          have G5 := Lib.hid g5
          clear g5
          go_wp2_with (fail)
          obtain ⟨w6, hw6⟩ : ∃ w6, w5.alloc (.cells #[.int .i64 x, .int .i64 y, .slice A2 nb c2] 32) = w6 := ⟨_, rfl⟩
          have hb6 : Below w5.heap.size w5 w6 := by rw [← hw6]; exact (Below.refl _ _).alloc (Nat.le_refl _) _
          have g6q : w6.heap[w5.heap.size]? = some (.cells #[.int .i64 x, .int .i64 y, .slice A2 nb c2] 32 (0, 0)) := by rw [← hw6]; exact alloc_new _ _
          have hs6 : w6.heap.size = w5.heap.size + 1 := by rw [← hw6]; simp
          rw [hw6]
          clear hw6 c0 c1' c2'
          have hb46 : Below w4.heap.size w4 w6 := hb5.trans (hb6.mono hs5)
          have hO1_6 := HO4.out.below hb46
          have hO2_6 := hO2.below hb6
          have g6p := blk_below hb6 G5.out (by omega)
          have hsame := same_x w6 x y x y nb c1 nb c2 A1 A2 bs bs hO1_6.bs hO2_6.bs
          rw [(sameM_eq _ _).2 rfl] at hsame
          refine hsame.mono ?_
          rintro e w7 ⟨rfl, hb7⟩
          have hs7 := hb7.size
          have hb47 : Below w4.heap.size w4 w7 := hb46.trans (hb7.mono (by omega))
          have hN7 := HN4.out.below hb47
          have hdr := drop_x w7 H0 r4 _ hN7 (by simp; omega) j (by simp; omega)
          have HDR := Lib.hid hdr
          have HO1 := Lib.hid (hO1_6.below hb7)
          have HO2 := Lib.hid (hO2_6.below hb7)
          have G7P := Lib.hid (blk_below hb7 g6p (by omega))
          have G7Q := Lib.hid (blk_below hb7 g6q (by omega))
          clear hsame hN7 hdr hO1_6 hO2_6 hO2 g6p g6q G5 HO4 G4 HNB
          go_wp2_with (fail)
          refine HDR.out.mono ?_
          rintro e w8 ⟨r8, rfl, hN8, hch8, hr8⟩
          have hs8 := hch8.size
          have e8 : ((P ++ [(x, y, bs)]).eraseIdx j).length = P.length := by
            rw [List.length_eraseIdx]; simp; omega
          have hlast : ((P ++ [(x, y, bs)]).eraseIdx j)[P.length - 1]? = some (x, y, bs) := by
            rw [List.getElem?_eraseIdx_of_ge (by omega), show P.length - 1 + 1 = P.length from by omega]; simp
          have hle8 := len_x w8 H0 r8 _ hN8
          rw [e8] at hle8
          have hat8 := at_x w8 H0 r8 _ hN8 (P.length - 1) x y bs hlast (by omega) nb hbl'
          rw [show ((P.length - 1 : Nat) : Int) = (P.length : Int) - 1 from by omega] at hat8
          have hO1_8 := HO1.out.net hch8 hpl (fun g hg => by rcases hr4' g hg with e | e <;> omega)
          have hO2_8 := HO2.out.net hch8 (by omega) (fun g hg => .inl (hr4l g hg))
          have n0 : ¬ (w2.heap.size = H0 ∨ some w2.heap.size = r4) := by
            rintro (e | e)
            · omega
            · rcases hr4' _ e.symm with e | e <;> omega
          have n1 : ¬ (w5.heap.size = H0 ∨ some w5.heap.size = r4) := by
            rintro (e | e)
            · omega
            · have := hr4l _ e.symm; omega
          have g8p := hch8.blk G7P.out n0
          have g8q := hch8.blk G7Q.out n1
          have HLE := Lib.hid hle8
          have HAT8 := Lib.hid hat8
          have HO1 := Lib.hid hO1_8
          have HO2 := Lib.hid hO2_8
          have G8P := Lib.hid g8p
          have G8Q := Lib.hid g8q
          have HC8 := Lib.hid hch8
          clear hN8 e8 hlast hle8 hat8 hO1_8 hO2_8 g8p g8q HDR hch8 G7P G7Q
          have i3 : (0 : Int) ≤ (P.length : Int) - 1 := by omega
          go_wp2_with (fail)
          refine HLE.out.mono ?_
          rintro e w9 ⟨rfl, rfl⟩
          go_wp2_with (fail)
          refine HAT8.out.mono ?_
          rintro e w9 ⟨A3, c3, rfl, hown9, hb9⟩
          have hs9 := hb9.size
          have hO3 : Own w9 w8.heap.size w9.heap.size A3 nb c3 bs := Own.of hown9
          have g9p := blk_below hb9 G8P.out (by omega)
          have g9q := blk_below hb9 G8Q.out (by omega)
          have c0 : w9.cell? ⟨w2.heap.size, 0, none⟩ = some (.int .i64 x) := by rw [cell_of_row _ _ _ _ _ _ g9p]; rfl
          have c1' : w9.cell? ⟨w2.heap.size, 1, none⟩ = some (.int .i64 y) := by rw [cell_of_row _ _ _ _ _ _ g9p]; rfl
          have c2' : w9.cell? ⟨w2.heap.size, 2, none⟩ = some (.slice A1 nb c1) := by rw [cell_of_row _ _ _ _ _ _ g9p]; rfl
          have d0 : w9.cell? ⟨w5.heap.size, 0, none⟩ = some (.int .i64 x) := by rw [cell_of_row _ _ _ _ _ _ g9q]; rfl
          have d1 : w9.cell? ⟨w5.heap.size, 1, none⟩ = some (.int .i64 y) := by rw [cell_of_row _ _ _ _ _ _ g9q]; rfl
          have d2 : w9.cell? ⟨w5.heap.size, 2, none⟩ = some (.slice A2 nb c2) := by rw [cell_of_row _ _ _ _ _ _ g9q]; rfl
          have f0 : w9.frozen? ⟨w5.heap.size, 0, none⟩ = false := frozen_of_row _ _ _ _ _ g9q
          have f1 : w9.frozen? ⟨w5.heap.size, 1, none⟩ = false := frozen_of_row _ _ _ _ _ g9q
          have f2 : w9.frozen? ⟨w5.heap.size, 2, none⟩ = false := frozen_of_row _ _ _ _ _ g9q
          have hne : w2.heap.size ≠ w5.heap.size := by omega
          have hne' : w5.heap.size ≠ w2.heap.size := by omega
          have HO3 := Lib.hid hO3
          have HO1' := Lib.hid (HO1.out.below hb9)
          have G9Q := Lib.hid g9q
          clear hown9 hO3 g9p g9q HO1 HO2 G8P G8Q HAT8 HLE
          go_wp2_with (fail)
          obtain ⟨ws, hws⟩ : ∃ ws, ((w9.setCell ⟨w5.heap.size, 0, none⟩ (.int .i64 x)).setCell ⟨w5.heap.size, 1, none⟩ (.int .i64 y)).setCell ⟨w5.heap.size, 2, none⟩ (.slice A3 nb c3) = ws := ⟨_, rfl⟩
          have hS : Chg (fun b => b = w5.heap.size) w9 ws := by
            rw [← hws]
            exact (((Chg.refl (fun b => b = w5.heap.size) w9).setCell (p := ⟨w5.heap.size, 0, none⟩) (fun _ => rfl) _).setCell (p := ⟨w5.heap.size, 1, none⟩) (fun _ => rfl) _).setCell (p := ⟨w5.heap.size, 2, none⟩) (fun _ => rfl) _
          rw [hws]
          have b1 : Bs ws ws.heap.size A1 nb bs := own_bs (own_chg HO1'.out.1 hS (fun g hg e => by have := HO1'.out.2 g hg; omega))
          have b3 : Bs ws ws.heap.size A3 nb bs := own_bs (own_chg HO3.out.1 hS (fun g hg e => by have := HO3.out.2 g hg; omega))
          have hsame := same_x ws x y x y nb c1 nb c3 A1 A3 bs bs b1 b3
          rw [(sameM_eq _ _).2 rfl] at hsame
          clear hws b1 b3 c0 c1' c2' d0 d1 d2 f0 f1 f2
          refine hsame.mono ?_
          rintro e w10 ⟨rfl, hb10⟩
          go_wp2_with (fail)
          go_ret
          have e4 := (net_old HC4.out (Nat.le_refl _) hr hr4 (by omega)).1
          have hr4H : ∀ g, r4 = some g → H0 ≤ g := (net_old HC4.out (Nat.le_refl _) hr hr4 (by omega)).2
          have e8 := (net_old HC8.out (Nat.le_refl _) hr4H hr8 (by omega)).1
          have eS : Below H0 w9 ws := hS.below (by omega) (fun b e => by omega)
          refine ⟨rfl, ((((hbel.trans (hb03.mono (by omega))).trans e4).trans (hb47.mono (by omega))).trans e8).trans ((hb9.mono (by omega)).trans (eS.trans (hb10.mono ?_)))⟩
          have := hS.size
          omega
      · have hin' : inP P i = false := by
          simp only [inP]
          simp
          omega
        have hsz := hbel.size
        have hh := HH0.out
        have hno := at_no wo H0 r P HN.out i hin'
        have hall : ∀ w', Below wo.heap.size wo w' → (Calls Try.prog 18 #[.pointer (some ⟨H0, 0, none⟩), .int .i64 i] w' fun e w'' => e = .returned (.int .i64 11) ∧ w' = w'') ∧ (Calls Try.prog 19 #[.pointer (some ⟨H0, 0, none⟩), .int .i64 i] w' fun e w'' => e = .returned (.int .i64 11) ∧ w' = w'') ∧ (Calls Try.prog 15 #[.pointer (some ⟨H0, 0, none⟩)] w' fun e w'' => e = .returned (.int .i64 (P.length : Int)) ∧ w' = w'') :=
          fun w' hb => ⟨double_no w' H0 r P (HN.out.below hb) i hin', drop_no w' H0 r P (HN.out.below hb) i hin', len_x w' H0 r P (HN.out.below hb)⟩
        have HNO := Lib.hid hno
        have HALL := Lib.hid hall
        clear hno hall hin' hin
        go_wp2_with (fail)
        refine HL.out.mono ?_
        rintro e w2 ⟨rfl, rfl⟩
        go_wp2_with (fail)
        refine HNO.out.mono ?_
        rintro e w2 ⟨rfl, hb2⟩
        have hs2 := hb2.size
        go_wp2_with (fail)
        refine ((HALL.out _ (hb2.alloc hs2 _)).1).mono ?_
        rintro e w3 ⟨rfl, rfl⟩
        go_wp2_with (fail)
        refine ((HALL.out _ (hb2.alloc hs2 _)).2.1).mono ?_
        rintro e w3 ⟨rfl, rfl⟩
        go_wp2_with (fail)
        refine ((HALL.out _ (hb2.alloc hs2 _)).2.2).mono ?_
        rintro e w3 ⟨rfl, rfl⟩
        go_wp2_with (fail)
        go_ret
        exact ⟨by simp, hbel.trans ((hb2.mono (by omega)).alloc (by omega) _)⟩

set_option maxRecDepth 100000 in
theorem walk_ok (a0 : Option Addr) (len0 cap0 : Nat) (a1 : Int) (w : World) (w0 : IsBRows w a0 len0 cap0) (w1 : (Lit.int .i64 a1).wf = true) :
    Calls Try.prog 4 #[.slice a0 len0 cap0, .int .i64 a1] w fun e w' => e = .returned (.bool true) ∧ Below w.heap.size w w' := by
  obtain ⟨ls, hls, hc, hm, _⟩ := w0
  unfold maxLen at hm
  have hi := wf_i64 w1
  by_cases h1 : len0 ≤ 256
  · exact walk_core a0 len0 cap0 ls a1 w hls h1 hi
  · have h1' : (256 : Int) < (len0 : Int) := by omega
    go_enter Try.func4, Try.ntmps4
    go_wp2_with (fail)
    go_ret
    exact ⟨rfl, Below.refl _ _⟩
end Go.Proofs.Ytcebmlcdhapnkaa.lawNetDoubles
