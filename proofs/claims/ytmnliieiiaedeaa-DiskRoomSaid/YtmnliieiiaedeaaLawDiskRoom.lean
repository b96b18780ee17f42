/-
  The walk of the law DiskRoom.
-/
import Derived.Test.YtmnliieiiaedeaaDkSp
import Derived.Test.YtmnliieiiaedeaaDkFoot
namespace Go.Proofs.Ytmnliieiiaedeaa.lawDiskRoom
open Go.ChangeShapes Go.WideShapes Go.ChangeAt Go.RowKit Go.Maps Go.Sort Go.Shelf plain words ord mem al dk

structure RI (r : Int) (m : Nat) (st : St) : Prop where
  room : st.room = r
  live : Live st
  last : st.last = []
  sum : sumc st.pend ≤ 65536 * m
  len : st.pend.length ≤ m
  o0 : 0 ≤ st.ops
  o1 : st.ops ≤ m
  fit : (fsum st.shown : Int) ≤ r
section
variable {r : Int} {m : Nat} {st : St} (h : RI r m st)
include h
theorem RI.small (hm : m ≤ 600) : Small st :=
  ⟨by rw [h.last]; show 0 + _ ≤ _; have := h.sum; omega, by rw [h.last]; show 0 + _ ≤ _; have := h.len; omega, h.o0, by have := h.o1; omega, fun x hx => by rw [h.live.due] at hx; cases hx⟩
theorem RI.srt : Srt st.shown := by
  unfold St.shown
  rw [h.last]
  exact fold_srt .nil _
theorem RI.next {c : Chn} (hc : chlen c ≤ 65536) (hf : (fsum (done st.shown c) : Int) ≤ r) : RI r (m + 1) (more st c) :=
  ⟨h.room, h.live.more c, h.last, by show sumc (st.pend ++ [c]) ≤ _; rw [sumc_snoc]; have := h.sum; omega, by show (st.pend ++ [c]).length ≤ _; rw [List.length_append, List.length_singleton]; have := h.len; omega,
    by show 0 ≤ st.ops + 1; have := h.o0; omega, by show st.ops + 1 ≤ _; have := h.o1; omega, by rw [more_shown]; exact hf⟩
theorem RI.grow : RI r (m + 1) st := ⟨h.room, h.live, h.last, by have := h.sum; omega, by have := h.len; omega, h.o0, by have := h.o1; omega, h.fit⟩
theorem RI.rem (a : Nm) : RI r (m + 1) (remSt st a).1 := by
  cases ha : okn a with
  | false => rw [rem_name ha]; exact h.grow
  | true =>
    cases hg : al.get st.shown a with
    | none => rw [rem_none ha hg]; exact h.grow
    | some y => rw [rem_do h.live ha (by rw [hg]; simp)]; exact h.next (by simp [chlen]) (by have := rem_sum h.srt a; have := h.fit; omega)
end
set_option maxHeartbeats 8000000 in
set_option maxRecDepth 100000 in
theorem walk_ok (r : Int) (A : Option Addr) (N c : Nat) (w : World) (hr : (Lit.int .u8 r).wf = true) (h0 : IsSps w A N c) :
    Calls Try.prog 6 #[.int .u8 r, .slice A N c] w fun e w' => e = .returned (.bool true) ∧ Below w.heap.size w w' := by
  obtain ⟨l, hl, hfit, hNc, hcm, _⟩ := h0
  have hr1 := wf_u8 hr
  have HL := Lib.hid hl
  unfold maxLen at hcm
  have HH := Lib.hid (heavy_s w w.heap.size N c A l hl (Nat.le_refl _) (by omega) hfit)
  clear hl hfit hr hNc hcm
  go_enter Try.func6, Try.ntmps6
  go_wp2_with fail
  refine HH.out.mono ?_
  rintro e w0 ⟨b, rfl, hlight, hb0⟩
  have B0 := Lib.hid hb0
  cases b with
  | true =>
    clear hb0 hlight
    go_wp2_with fail
    go_ret
    exact ⟨rfl, B0.out⟩
  | false =>
    have LI := Lib.hid (hlight rfl)
    have HN := Lib.hid (new_d w0 r)
    clear hlight hb0 HH
    go_wp2_with fail
    refine HN.out.mono ?_
    rintro e w1 ⟨p, rfl, hp, hd, hb⟩
    have D1 := Lib.hid (show One (fun _ => False) w w1 p (newSt r) from by
      have h1 := One.new hd hb
      obtain ⟨F, a1, a2, a3, a4⟩ := h1
      have hs := B0.out.size
      exact ⟨F, a1, fun k hk => ⟨by have := (a2 k hk).1; omega, fun e => e⟩, B0.out.trans (a3.mono hs), fun k e => e.elim⟩)
    have R1 := Lib.hid (show RI r 0 (newSt r) from ⟨by show max r 0 = r; omega, ⟨rfl, rfl⟩, rfl, Nat.zero_le _, Nat.le_refl 0, Int.le_refl 0, Int.le_refl 0, by show ((0 : Nat) : Int) ≤ r; omega⟩)
    clear hd hb HN
    have hn256 : N ≤ 256 := by have := LI.out.1; have := HL.out.1; omega
    go_wp2_with fail
    go_loopg [6, 7, 8, 9, 10] N (fun gg s6 s7 s8 s9 s10 wr => ∃ (i m : Nat) (st : St), s6 = .int .i64 i ∧ i ≤ N ∧ N - i ≤ gg ∧ m ≤ 2 * i ∧ Aside (RI r m st) ∧ Aside (One (fun _ => False) w wr p st))
    case atStart => exact ⟨0, 0, _, rfl, Nat.zero_le _, by omega, by omega, R1.out, D1.out⟩
    case round =>
      clear R1 D1
      obtain ⟨i, m, st, rfl, hi, hgg, hm, RR, DD⟩ := hrel
      obtain ⟨wv, rfl⟩ : ∃ wv, wv = wr := ⟨wr, rfl⟩
      by_cases hlt : i < N
      · obtain ⟨x, hx⟩ := HL.out.get hlt
        obtain ⟨b, off, rfl, hbl, c0, c1, c2, c3, c4, c5⟩ := sp_at (HL.out.below DD.out.below (Nat.le_refl _)) hx
        obtain ⟨hxa, hxb⟩ := LI.out.2 x (List.mem_of_getElem? hx)
        obtain ⟨xk, xn, xkeep, xpart, a, s⟩ := x
        simp only at c0 c1 c2 c3 c4 c5 hxa hxb
        have i1 : (i : Int) < (N : Int) := by omega
        have i0 : (0 : Int) ≤ (i : Int) := by omega
        have hbv : b < wv.heap.size := World.block_lt_of_cell? wv _ c0
        have HXA := Lib.hid hxa
        have HXB := Lib.hid hxb
        clear hx hxa hxb
        go_wp2_with fail
        obtain ⟨w4, hw4⟩ : ∃ w4, wv.alloc (.cells #[.int .i64 xk, .int .i64 xn, .int .i64 xkeep, .int .i64 xpart, .string (bs a), .string (bs s)] 40) = w4 := ⟨_, rfl⟩
        have hb4 : Below wv.heap.size wv w4 := by rw [← hw4]; exact (Below.refl _ _).alloc (Nat.le_refl _) _
        have hal : w4.heap[wv.heap.size]? = some (.cells #[.int .i64 xk, .int .i64 xn, .int .i64 xkeep, .int .i64 xpart, .string (bs a), .string (bs s)] 40) := by rw [← hw4]; exact alloc_new _ _
        have l4 : wv.heap.size < w4.heap.size := blk_lt hal
        rw [hw4]
        have D4 := Lib.hid (DD.out.mark hb4 (Y := fun k => k = wv.heap.size) (fun k hk => .inr (by rw [hk]; exact Nat.le_refl _)) (fun k hk => by rw [hk]; exact l4))
        obtain ⟨F4, d4⟩ := D4.out.ex
        have y4 : w4.cell? ⟨wv.heap.size, 4, none⟩ = some (.string (bs a)) := by rw [cell_of_row _ _ _ _ _ _ hal]; rfl
        have y5 : w4.cell? ⟨wv.heap.size, 5, none⟩ = some (.string (bs s)) := by rw [cell_of_row _ _ _ _ _ _ hal]; rfl
        obtain ⟨U, hU⟩ : ∃ U, fsum st.shown = U := ⟨_, rfl⟩
        have HU := Lib.hid (used_d w4 p F4 st d4)
        rw [hU] at HU
        have hUr : (U : Int) ≤ r := by rw [← hU]; exact RR.out.fit
        have hap := D4.out.on (st' := (appSt st a s).1) (r := .int .i64 (appSt st a s).2) (f := 14) (args := #[ptr p, .string (bs a), .string (bs s)]) (fun F h => append_d w4 p F st a s h (RR.out.small (by omega)) (by rw [RR.out.room]; omega) (by rw [RR.out.room]; omega) (by have := HXB.out; omega))
        have HA := Lib.hid hap
        have HAL := Lib.hid hal
        have HU0 := Lib.hid hU
        have hsa := bs_size a
        have hss := bs_size s
        obtain ⟨La, hLa⟩ : ∃ L, a.length = L := ⟨_, rfl⟩
        obtain ⟨Ls', hLs⟩ : ∃ L, s.length = L := ⟨_, rfl⟩
        rw [hLa] at hsa
        rw [hLs] at hss
        have KA := Lib.hid hLa
        have KS := Lib.hid hLs
        have hLs6 : Ls' ≤ 65536 := by rw [← hLs]; exact HXB.out
        clear hap hal hw4 hb4 d4 hU hLa hLs c0 c1 c2 c3 c4 c5 hbv
        go_wp2_with fail
        refine HU.out.mono ?_
        rintro e w5 ⟨rfl, rfl⟩
        clear HU
        go_wp2_with fail
        refine HA.out.mono ?_
        rintro e w5 ⟨rfl, hd5, hch5⟩
        clear HA y4 y5
        have hal5 : w5.heap[wv.heap.size]? = some (.cells #[.int .i64 xk, .int .i64 xn, .int .i64 xkeep, .int .i64 xpart, .string (bs a), .string (bs s)] 40) := hch5.blk HAL.out (fun e => e rfl)
        have l5 : wv.heap.size < w5.heap.size := blk_lt hal5
        have y0 : w5.cell? ⟨wv.heap.size, 0, none⟩ = some (.int .i64 xk) := by rw [cell_of_row _ _ _ _ _ _ hal5]; rfl
        have y4 : w5.cell? ⟨wv.heap.size, 4, none⟩ = some (.string (bs a)) := by rw [cell_of_row _ _ _ _ _ _ hal5]; rfl
        have y5 : w5.cell? ⟨wv.heap.size, 5, none⟩ = some (.string (bs s)) := by rw [cell_of_row _ _ _ _ _ _ hal5]; rfl
        have D5 := Lib.hid hd5
        clear hd5 hch5 hal5
        cases hok : okn a with
        | false =>
          have h9 := KA.out
          unfold okn at hok
          rw [h9] at hok
          have hok' : okn a = false := by unfold okn; rw [h9]; exact hok
          have hmay : La < 1 ∨ (1 ≤ La ∧ 40 < La) := by simp at hok; omega
          rw [app_name hok'] at D5 ⊢
          have RX := Lib.hid RR.out.grow
          have HREM := Lib.hid (show ∀ er, (remSt st a).2 = er → er = 10 from fun er h => by rw [rem_name hok'] at h; exact h.symm)
          clear hok h9 hok'
          rcases hmay with k1 | ⟨k1, k2⟩
          · have m1 : ¬ (1 : Int) ≤ (La : Int) := by omega
            have m1' : decide ((1 : Int) ≤ (La : Int)) = false := by simp; omega
            obtain ⟨F5, d5⟩ := D5.out.ex
            have HU5 := Lib.hid (used_d w5.drew p F5 st (d5.chg (Chg.refl (fun _ => False) _).drew (fun _ _ e => e)))
            rw [HU0.out] at HU5
            clear d5
            have t1 : decide (r < (U : Int)) = false := by simp; omega
            have wr1 : IntKind.i64.wrap ((U : Int) + (Ls' : Int)) = (U : Int) + (Ls' : Int) := by rw [IntWalk.i64_in _ (by omega)]
            have z0 := Wb.at_ y0
            have z4 := Wb.at_ y4
            have z5 := Wb.at_ y5
            go_wp2_with fail
            refine wp_region_plan [([0, 2, 3], some (1, false)), ([4, 5, 6, 7, 8, 9, 10, 11, 12, 13, 14, 15, 16, 17, 18, 19, 20, 21, 22, 23, 24, 25, 27, 28, 29, 30, 31], some (26, false)), ([32, 33, 34, 35, 36, 37, 38, 39, 41], some (40, false)), ([42, 43, 44], none)] (by kernel_rfl) (by kernel_rfl) ?_
            refine seg_act _ (by dsimp only [pick, at_]) _ (by dsimp only [pick, at_]) ?_
            repeat (go_big_quiet_step (fail))
            refine wpQuiet_nil ?_
            intro K1 h1 h2
            clear h2
            go_wp2_with (fail)
            refine HU5.out.mono ?_
            rintro e w6 ⟨rfl, rfl⟩
            go_wp2_with (fail)
            refine h1 _ _ (Below.refl _ _).drew ?_
            refine seg_act _ (by dsimp only [pick, at_]) _ (by dsimp only [pick, at_]) ?_
            repeat (go_big_quiet_step (fail))
            refine wpQuiet_nil ?_
            intro K26 h1 h2
            clear h2
            go_wp2_with (fail)
            refine h1 _ _ (Below.refl _ _).drew ?_
            refine seg_act _ (by dsimp only [pick, at_]) _ (by dsimp only [pick, at_]) ?_
            repeat (go_big_quiet_step (fail))
            refine wpQuiet_nil ?_
            intro K40 h1 h2
            clear h2
            go_wp2_with (fail)
            refine HU5.out.mono ?_
            rintro e w6 ⟨rfl, rfl⟩
            go_wp2_with (fail)
            refine h1 _ _ (Below.refl _ _).drew ?_
            refine seg_end _ (by dsimp only [pick, at_]) ?_
            repeat (go_big_quiet_step (fail))
            refine wpQuiet_nil (NoPanic.normal ?_)
            clear z0 z4 z5 HU5
            have hd6 := D5.out.quiet (w' := w5.drew) (Below.refl _ _).drew
            have HR := Lib.hid (hd6.on (st' := (remSt (st) a).1) (r := .int .i64 (remSt (st) a).2) (f := 31) (args := #[ptr p, .string (bs a)]) (fun F h => remove_d w5.drew p F (st) a h (RX.out.small (by omega))))
            have D6 := Lib.hid (hd6.mark (Y := fun _ => False) (Below.refl _ _) (fun k hk => hk.elim) (fun k hk => hk.elim))
            have RY := Lib.hid (RX.out.rem a)
            obtain ⟨er, her⟩ : ∃ er, (remSt (st) a).2 = er := ⟨_, rfl⟩
            have HER := Lib.hid (HREM.out er her)
            rw [her] at HR
            clear her hd6
            have y0 : w5.drew.cell? ⟨wv.heap.size, 0, none⟩ = some (.int .i64 xk) := y0
            have y4 : w5.drew.cell? ⟨wv.heap.size, 4, none⟩ = some (.string (bs a)) := y4
            have l6 : wv.heap.size < w5.drew.heap.size := l5
            by_cases hk2 : xk = 2
            · subst hk2
              by_cases he0 : er = 0
              · subst he0
                go_wp2_with fail
                refine HR.out.mono ?_
                rintro e w7 ⟨rfl, hd7, hch7⟩
                have D7 := Lib.hid (hd7.mark (Y := fun _ => False) (Below.refl _ _) (fun k hk => hk.elim) (fun k hk => hk.elim))
                clear hd7 hch7 HR y0 y4 y5
                go_wp2_with fail
                go_roundg (N - (i + 1))
                case measure => omega
                case rel => exact ⟨i + 1, _, _, by go_num, by omega, by omega, by omega, RY.out, D7.out⟩
              · have he1 := he0
                go_wp2_with fail
                refine HR.out.mono ?_
                rintro e w7 ⟨rfl, hd7, hch7⟩
                have D7 := Lib.hid (hd7.mark (Y := fun _ => False) (Below.refl _ _) (fun k hk => hk.elim) (fun k hk => hk.elim))
                clear hd7 hch7 HR y0 y4 y5
                go_wp2_with fail
                go_roundg (N - (i + 1))
                case measure => omega
                case rel => exact ⟨i + 1, _, _, by go_num, by omega, by omega, by omega, RY.out, D7.out⟩
            · clear HR RY HER
              go_wp2_with fail
              go_roundg (N - (i + 1))
              case measure => omega
              case rel => exact ⟨i + 1, _, _, by go_num, by omega, by omega, by omega, RX.out, D6.out⟩
          · have m1 : (1 : Int) ≤ (La : Int) := by omega
            have m2 : ¬ (La : Int) ≤ 40 := by omega
            have m1' : decide ((1 : Int) ≤ (La : Int)) = true := by simp; omega
            have m2' : decide ((La : Int) ≤ 40) = false := by simp; omega
            obtain ⟨F5, d5⟩ := D5.out.ex
            have HU5 := Lib.hid (used_d w5.drew p F5 st (d5.chg (Chg.refl (fun _ => False) _).drew (fun _ _ e => e)))
            rw [HU0.out] at HU5
            clear d5
            have t1 : decide (r < (U : Int)) = false := by simp; omega
            have wr1 : IntKind.i64.wrap ((U : Int) + (Ls' : Int)) = (U : Int) + (Ls' : Int) := by rw [IntWalk.i64_in _ (by omega)]
            have z0 := Wb.at_ y0
            have z4 := Wb.at_ y4
            have z5 := Wb.at_ y5
            go_wp2_with fail
            refine wp_region_plan [([0, 2, 3], some (1, false)), ([4, 5, 6, 7, 8, 9, 10, 11, 12, 13, 14, 15, 16, 17, 18, 19, 20, 21, 22, 23, 24, 25, 27, 28, 29, 30, 31], some (26, false)), ([32, 33, 34, 35, 36, 37, 38, 39, 41], some (40, false)), ([42, 43, 44], none)] (by kernel_rfl) (by kernel_rfl) ?_
            refine seg_act _ (by dsimp only [pick, at_]) _ (by dsimp only [pick, at_]) ?_
            repeat (go_big_quiet_step (fail))
            refine wpQuiet_nil ?_
            intro K1 h1 h2
            clear h2
            go_wp2_with (fail)
            refine HU5.out.mono ?_
            rintro e w6 ⟨rfl, rfl⟩
            go_wp2_with (fail)
            refine h1 _ _ (Below.refl _ _).drew ?_
            refine seg_act _ (by dsimp only [pick, at_]) _ (by dsimp only [pick, at_]) ?_
            repeat (go_big_quiet_step (fail))
            refine wpQuiet_nil ?_
            intro K26 h1 h2
            clear h2
            go_wp2_with (fail)
            refine h1 _ _ (Below.refl _ _).drew ?_
            refine seg_act _ (by dsimp only [pick, at_]) _ (by dsimp only [pick, at_]) ?_
            repeat (go_big_quiet_step (fail))
            refine wpQuiet_nil ?_
            intro K40 h1 h2
            clear h2
            go_wp2_with (fail)
            refine HU5.out.mono ?_
            rintro e w6 ⟨rfl, rfl⟩
            go_wp2_with (fail)
            refine h1 _ _ (Below.refl _ _).drew ?_
            refine seg_end _ (by dsimp only [pick, at_]) ?_
            repeat (go_big_quiet_step (fail))
            refine wpQuiet_nil (NoPanic.normal ?_)
            clear z0 z4 z5 HU5
            have hd6 := D5.out.quiet (w' := w5.drew) (Below.refl _ _).drew
            have HR := Lib.hid (hd6.on (st' := (remSt (st) a).1) (r := .int .i64 (remSt (st) a).2) (f := 31) (args := #[ptr p, .string (bs a)]) (fun F h => remove_d w5.drew p F (st) a h (RX.out.small (by omega))))
            have D6 := Lib.hid (hd6.mark (Y := fun _ => False) (Below.refl _ _) (fun k hk => hk.elim) (fun k hk => hk.elim))
            have RY := Lib.hid (RX.out.rem a)
            obtain ⟨er, her⟩ : ∃ er, (remSt (st) a).2 = er := ⟨_, rfl⟩
            have HER := Lib.hid (HREM.out er her)
            rw [her] at HR
            clear her hd6
            have y0 : w5.drew.cell? ⟨wv.heap.size, 0, none⟩ = some (.int .i64 xk) := y0
            have y4 : w5.drew.cell? ⟨wv.heap.size, 4, none⟩ = some (.string (bs a)) := y4
            have l6 : wv.heap.size < w5.drew.heap.size := l5
            by_cases hk2 : xk = 2
            · subst hk2
              by_cases he0 : er = 0
              · subst he0
                go_wp2_with fail
                refine HR.out.mono ?_
                rintro e w7 ⟨rfl, hd7, hch7⟩
                have D7 := Lib.hid (hd7.mark (Y := fun _ => False) (Below.refl _ _) (fun k hk => hk.elim) (fun k hk => hk.elim))
                clear hd7 hch7 HR y0 y4 y5
                go_wp2_with fail
                go_roundg (N - (i + 1))
                case measure => omega
                case rel => exact ⟨i + 1, _, _, by go_num, by omega, by omega, by omega, RY.out, D7.out⟩
              · have he1 := he0
                go_wp2_with fail
                refine HR.out.mono ?_
                rintro e w7 ⟨rfl, hd7, hch7⟩
                have D7 := Lib.hid (hd7.mark (Y := fun _ => False) (Below.refl _ _) (fun k hk => hk.elim) (fun k hk => hk.elim))
                clear hd7 hch7 HR y0 y4 y5
                go_wp2_with fail
                go_roundg (N - (i + 1))
                case measure => omega
                case rel => exact ⟨i + 1, _, _, by go_num, by omega, by omega, by omega, RY.out, D7.out⟩
            · clear HR RY HER
              go_wp2_with fail
              go_roundg (N - (i + 1))
              case measure => omega
              case rel => exact ⟨i + 1, _, _, by go_num, by omega, by omega, by omega, RX.out, D6.out⟩
        | true =>
          have HOK := Lib.hid hok
          have h9 := KA.out
          unfold okn at hok
          rw [h9] at hok
          have m1 : (1 : Int) ≤ (La : Int) := by simp at hok; omega
          have m2 : (La : Int) ≤ 40 := by simp at hok; omega
          have m1' : decide ((1 : Int) ≤ (La : Int)) = true := by simp; omega
          have m2' : decide ((La : Int) ≤ 40) = true := by simp; omega
          clear hok h9
          by_cases hfit : (U : Int) + (Ls' : Int) ≤ r
          · have happ := app_do RR.out.live HOK.out (b := s) (by rw [RR.out.room, HU0.out, KS.out]; omega)
            rw [happ] at D5 ⊢
            have RX := Lib.hid (RR.out.next (c := .app a s) (by show s.length ≤ _; rw [KS.out]; omega) (by rw [app_sum RR.out.srt, HU0.out, KS.out]; omega))
            have HSUM := Lib.hid (show fsum (more st (.app a s)).shown = U + Ls' from by rw [more_shown, app_sum RR.out.srt, HU0.out, KS.out])
            have HREM := Lib.hid (show ∀ er, (remSt (more st (.app a s)) a).2 = er → er = 0 from fun er h => by
              rw [rem_do RX.out.live HOK.out (by rw [more_shown, app_get]; simp)] at h; exact h.symm)
            clear happ
            obtain ⟨F5, d5⟩ := D5.out.ex
            have HU5 := Lib.hid (used_d w5.drew p F5 (more st (.app a s)) (d5.chg (Chg.refl (fun _ => False) _).drew (fun _ _ e => e)))
            rw [HSUM.out] at HU5
            clear d5
            have hcst : ((U + Ls' : Nat) : Int) = (U : Int) + (Ls' : Int) := by omega
            rw [hcst] at HU5
            clear hcst
            have t1 : decide (r < (U : Int) + (Ls' : Int)) = false := by simp; omega
            have t2 : decide ((U : Int) + (Ls' : Int) ≤ r) = true := by simp; omega
            have wr1 : IntKind.i64.wrap ((U : Int) + (Ls' : Int)) = (U : Int) + (Ls' : Int) := by rw [IntWalk.i64_in _ (by omega)]
            have z0 := Wb.at_ y0
            have z4 := Wb.at_ y4
            have z5 := Wb.at_ y5
            go_wp2_with fail
            refine wp_region_plan [([0, 2, 3], some (1, false)), ([4, 5, 6, 7, 8, 9, 10, 11, 12, 13, 14, 15, 16, 17, 18, 19, 20, 21, 22, 23, 24, 25, 27, 28, 29, 30, 31], some (26, false)), ([32, 33, 34, 35, 36, 37, 38, 39, 41], some (40, false)), ([42, 43, 44], none)] (by kernel_rfl) (by kernel_rfl) ?_
            refine seg_act _ (by dsimp only [pick, at_]) _ (by dsimp only [pick, at_]) ?_
            repeat (go_big_quiet_step (fail))
            refine wpQuiet_nil ?_
            intro K1 h1 h2
            clear h2
            go_wp2_with (fail)
            refine HU5.out.mono ?_
            rintro e w6 ⟨rfl, rfl⟩
            go_wp2_with (fail)
            refine h1 _ _ (Below.refl _ _).drew ?_
            refine seg_act _ (by dsimp only [pick, at_]) _ (by dsimp only [pick, at_]) ?_
            repeat (go_big_quiet_step (fail))
            refine wpQuiet_nil ?_
            intro K26 h1 h2
            clear h2
            go_wp2_with (fail)
            refine HU5.out.mono ?_
            rintro e w6 ⟨rfl, rfl⟩
            go_wp2_with (fail)
            refine h1 _ _ (Below.refl _ _).drew ?_
            refine seg_act _ (by dsimp only [pick, at_]) _ (by dsimp only [pick, at_]) ?_
            repeat (go_big_quiet_step (fail))
            refine wpQuiet_nil ?_
            intro K40 h1 h2
            clear h2
            go_wp2_with (fail)
            refine h1 _ _ (Below.refl _ _).drew ?_
            refine seg_end _ (by dsimp only [pick, at_]) ?_
            repeat (go_big_quiet_step (fail))
            refine wpQuiet_nil (NoPanic.normal ?_)
            clear z0 z4 z5 HU5
            have hd6 := D5.out.quiet (w' := w5.drew) (Below.refl _ _).drew
            have HR := Lib.hid (hd6.on (st' := (remSt (more st (.app a s)) a).1) (r := .int .i64 (remSt (more st (.app a s)) a).2) (f := 31) (args := #[ptr p, .string (bs a)]) (fun F h => remove_d w5.drew p F (more st (.app a s)) a h (RX.out.small (by omega))))
            have D6 := Lib.hid (hd6.mark (Y := fun _ => False) (Below.refl _ _) (fun k hk => hk.elim) (fun k hk => hk.elim))
            have RY := Lib.hid (RX.out.rem a)
            obtain ⟨er, her⟩ : ∃ er, (remSt (more st (.app a s)) a).2 = er := ⟨_, rfl⟩
            have HER := Lib.hid (HREM.out er her)
            rw [her] at HR
            clear her hd6
            have y0 : w5.drew.cell? ⟨wv.heap.size, 0, none⟩ = some (.int .i64 xk) := y0
            have y4 : w5.drew.cell? ⟨wv.heap.size, 4, none⟩ = some (.string (bs a)) := y4
            have l6 : wv.heap.size < w5.drew.heap.size := l5
            by_cases hk2 : xk = 2
            · subst hk2
              have he0 := HER.out
              subst he0
              go_wp2_with fail
              refine HR.out.mono ?_
              rintro e w7 ⟨rfl, hd7, hch7⟩
              have D7 := Lib.hid (hd7.mark (Y := fun _ => False) (Below.refl _ _) (fun k hk => hk.elim) (fun k hk => hk.elim))
              clear hd7 hch7 HR y0 y4 y5
              go_wp2_with fail
              go_roundg (N - (i + 1))
              case measure => omega
              case rel => exact ⟨i + 1, _, _, by go_num, by omega, by omega, by omega, RY.out, D7.out⟩
            · clear HR RY HER
              go_wp2_with fail
              go_roundg (N - (i + 1))
              case measure => omega
              case rel => exact ⟨i + 1, _, _, by go_num, by omega, by omega, by omega, RX.out, D6.out⟩
          · have happ := app_full (a := a) (b := s) HOK.out (st := st) (by rw [RR.out.room, HU0.out, KS.out]; omega)
            rw [happ] at D5 ⊢
            have RX := Lib.hid RR.out.grow
            have HREM := Lib.hid (show ∀ er, (remSt st a).2 = er → True from fun er h => trivial)
            clear happ
            have t2 : decide ((U : Int) + (Ls' : Int) ≤ r) = false := by simp; omega
            obtain ⟨F5, d5⟩ := D5.out.ex
            have HU5 := Lib.hid (used_d w5.drew p F5 st (d5.chg (Chg.refl (fun _ => False) _).drew (fun _ _ e => e)))
            rw [HU0.out] at HU5
            clear d5
            have t1 : decide (r < (U : Int)) = false := by simp; omega
            have wr1 : IntKind.i64.wrap ((U : Int) + (Ls' : Int)) = (U : Int) + (Ls' : Int) := by rw [IntWalk.i64_in _ (by omega)]
            have z0 := Wb.at_ y0
            have z4 := Wb.at_ y4
            have z5 := Wb.at_ y5
            go_wp2_with fail
            refine wp_region_plan [([0, 2, 3], some (1, false)), ([4, 5, 6, 7, 8, 9, 10, 11, 12, 13, 14, 15, 16, 17, 18, 19, 20, 21, 22, 23, 24, 25, 27, 28, 29, 30, 31], some (26, false)), ([32, 33, 34, 35, 36, 37, 38, 39, 41], some (40, false)), ([42, 43, 44], none)] (by kernel_rfl) (by kernel_rfl) ?_
            refine seg_act _ (by dsimp only [pick, at_]) _ (by dsimp only [pick, at_]) ?_
            repeat (go_big_quiet_step (fail))
            refine wpQuiet_nil ?_
            intro K1 h1 h2
            clear h2
            go_wp2_with (fail)
            refine HU5.out.mono ?_
            rintro e w6 ⟨rfl, rfl⟩
            go_wp2_with (fail)
            refine h1 _ _ (Below.refl _ _).drew ?_
            refine seg_act _ (by dsimp only [pick, at_]) _ (by dsimp only [pick, at_]) ?_
            repeat (go_big_quiet_step (fail))
            refine wpQuiet_nil ?_
            intro K26 h1 h2
            clear h2
            go_wp2_with (fail)
            refine h1 _ _ (Below.refl _ _).drew ?_
            refine seg_act _ (by dsimp only [pick, at_]) _ (by dsimp only [pick, at_]) ?_
            repeat (go_big_quiet_step (fail))
            refine wpQuiet_nil ?_
            intro K40 h1 h2
            clear h2
            go_wp2_with (fail)
            refine HU5.out.mono ?_
            rintro e w6 ⟨rfl, rfl⟩
            go_wp2_with (fail)
            refine h1 _ _ (Below.refl _ _).drew ?_
            refine seg_end _ (by dsimp only [pick, at_]) ?_
            repeat (go_big_quiet_step (fail))
            refine wpQuiet_nil (NoPanic.normal ?_)
            clear z0 z4 z5 HU5
            have hd6 := D5.out.quiet (w' := w5.drew) (Below.refl _ _).drew
            have HR := Lib.hid (hd6.on (st' := (remSt (st) a).1) (r := .int .i64 (remSt (st) a).2) (f := 31) (args := #[ptr p, .string (bs a)]) (fun F h => remove_d w5.drew p F (st) a h (RX.out.small (by omega))))
            have D6 := Lib.hid (hd6.mark (Y := fun _ => False) (Below.refl _ _) (fun k hk => hk.elim) (fun k hk => hk.elim))
            have RY := Lib.hid (RX.out.rem a)
            obtain ⟨er, her⟩ : ∃ er, (remSt (st) a).2 = er := ⟨_, rfl⟩
            have HER := Lib.hid (HREM.out er her)
            rw [her] at HR
            clear her hd6
            have y0 : w5.drew.cell? ⟨wv.heap.size, 0, none⟩ = some (.int .i64 xk) := y0
            have y4 : w5.drew.cell? ⟨wv.heap.size, 4, none⟩ = some (.string (bs a)) := y4
            have l6 : wv.heap.size < w5.drew.heap.size := l5
            by_cases hk2 : xk = 2
            · subst hk2
              by_cases he0 : er = 0
              · subst he0
                go_wp2_with fail
                refine HR.out.mono ?_
                rintro e w7 ⟨rfl, hd7, hch7⟩
                have D7 := Lib.hid (hd7.mark (Y := fun _ => False) (Below.refl _ _) (fun k hk => hk.elim) (fun k hk => hk.elim))
                clear hd7 hch7 HR y0 y4 y5
                go_wp2_with fail
                go_roundg (N - (i + 1))
                case measure => omega
                case rel => exact ⟨i + 1, _, _, by go_num, by omega, by omega, by omega, RY.out, D7.out⟩
              · have he1 := he0
                go_wp2_with fail
                refine HR.out.mono ?_
                rintro e w7 ⟨rfl, hd7, hch7⟩
                have D7 := Lib.hid (hd7.mark (Y := fun _ => False) (Below.refl _ _) (fun k hk => hk.elim) (fun k hk => hk.elim))
                clear hd7 hch7 HR y0 y4 y5
                go_wp2_with fail
                go_roundg (N - (i + 1))
                case measure => omega
                case rel => exact ⟨i + 1, _, _, by go_num, by omega, by omega, by omega, RY.out, D7.out⟩
            · clear HR RY HER
              go_wp2_with fail
              go_roundg (N - (i + 1))
              case measure => omega
              case rel => exact ⟨i + 1, _, _, by go_num, by omega, by omega, by omega, RX.out, D6.out⟩
      · have i1 : ¬ (i : Int) < (N : Int) := by omega
        have BEL := Lib.hid DD.out.below
        go_wp2_with fail
        go_ret
        exact ⟨rfl, BEL.out⟩
end Go.Proofs.Ytmnliieiiaedeaa.lawDiskRoom
