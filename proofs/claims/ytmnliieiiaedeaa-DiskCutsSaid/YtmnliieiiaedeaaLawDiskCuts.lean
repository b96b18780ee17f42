/-
  The walk of the law DiskCuts.
-/
import Derived.Test.YtmnliieiiaedeaaDkNew
import Derived.Test.YtmnliieiiaedeaaStrs
namespace Go.Proofs.Ytmnliieiiaedeaa.lawDiskCuts
open Go.ChangeShapes Go.WideShapes Go.ChangeAt Go.RowKit Go.Maps Go.Sort Go.Shelf plain words ord mem al dk

theorem part_sum {ls : AL Nm} (h : Srt ls) {l : List Chn} {i : Nat} {part : Int} : fsum (partOf (fold ls (l.take i)) l[i]? part) ≤ fsum ls + sumc l ∧ (partOf (fold ls (l.take i)) l[i]? part).length ≤ ls.length + l.length := by
  have h1 := fold_sum h (l.take i)
  have h2 := fold_len ls (l.take i)
  have h3 : sumc (l.take i) ≤ sumc l := sumc_take l i
  have h4 : (l.take i).length ≤ l.length := by rw [List.length_take]; omega
  cases hi : l[i]? with
  | none => exact ⟨by show fsum (fold ls (l.take i)) ≤ _; omega, by show (fold ls (l.take i)).length ≤ _; omega⟩
  | some c =>
    have h5 := sumc_at hi
    have h6 : i < l.length := by
      rcases Nat.lt_or_ge i l.length with h | h
      · exact h
      · rw [List.getElem?_eq_none h] at hi; cases hi
    have h7 : (l.take i).length = i := by rw [List.length_take]; omega
    cases c with
    | app a b =>
      simp only [partOf]
      split
      · have h8 := done_sum (fold_srt h (l.take i)) (.app a (b.take (min part (b.length : Int)).toNat))
        have h9 := done_len (fold ls (l.take i)) (.app a (b.take (min part (b.length : Int)).toNat))
        simp only [chlen, List.length_take] at h5 h8
        exact ⟨by omega, by omega⟩
      · exact ⟨by omega, by omega⟩
    | ren a b => exact ⟨by show fsum (fold ls (l.take i)) ≤ _; omega, by show (fold ls (l.take i)).length ≤ _; omega⟩
    | rem a => exact ⟨by show fsum (fold ls (l.take i)) ≤ _; omega, by show (fold ls (l.take i)).length ≤ _; omega⟩
theorem crash_small {st : St} (h : Srt st.last) (k q : Int) : fsum (crashSt st k q).last + sumc (crashSt st k q).pend ≤ fsum st.last + sumc st.pend ∧ (crashSt st k q).last.length + (crashSt st k q).pend.length ≤ st.last.length + st.pend.length := by
  unfold crashSt
  split
  · exact ⟨Nat.le_refl _, Nat.le_refl _⟩
  · have h1 := part_sum h (l := st.pend) (i := keptN k st.pend.length) (part := q)
    exact ⟨by simp only [sumc, List.map_nil, List.sum_nil, Nat.add_zero]; exact h1.1, by simp only [List.length_nil, Nat.add_zero]; exact h1.2⟩
structure CI (n k q : Int) (i made : Nat) (st : St) : Prop where
  room : st.room = 65536
  ops : st.ops = made
  mi : made ≤ i
  sum : fsum st.last + sumc st.pend ≤ 2 * i
  len : st.last.length + st.pend.length ≤ i
  ph : (st.dead = false ∧ st.due = some (max n 0 - made, k, q) ∧ st.pend.length = made ∧ (made : Int) ≤ max n 0) ∨ (st.dead = true ∧ st.due = none ∧ n ≤ made)
theorem CI.small {n k q : Int} {i made : Nat} {st : St} (h : CI n k q i made st) (hi : i ≤ 128) (hn : n ≤ 9223372036854775807) : Small st := by
  refine ⟨by have := h.sum; omega, by have := h.len; omega, by have := h.ops; omega, by have := h.ops; have := h.mi; omega, fun x hx => ?_⟩
  rcases h.ph with ⟨_, h2, _, h4⟩ | ⟨_, h2, _⟩
  · rw [h2] at hx; injection hx with hx; subst hx; simp only; omega
  · rw [h2] at hx; cases hx
theorem CI.more {n k q : Int} {i made : Nat} {st : St} (h : CI n k q i made st) : CI n k q (i + 1) made st :=
  ⟨h.room, h.ops, by have := h.mi; omega, by have := h.sum; omega, by have := h.len; omega, h.ph⟩
theorem fits {st : St} {i : Nat} (hs : Srt st.last) (hsum : fsum st.last + sumc st.pend ≤ 2 * i) (hi : i ≤ 200) {b : Nm} (hb : b.length ≤ 2) (hr : st.room = 65536) : ¬ st.room < (fsum st.shown : Int) + (b.length : Int) := by
  have h1 := fold_sum hs st.pend
  unfold St.shown
  omega
theorem CI.step {n k q : Int} {i made : Nat} {st : St} (h : CI n k q i made st) (hi : i < 128) (hs : Srt st.last) {a b : Nm} (hb : b.length = 2) (ha : okn a = true) :
    ((made : Int) < n → (appSt st a b).2 = 0 ∧ CI n k q (i + 1) (made + 1) (appSt st a b).1 ∧ (appSt st a b).1.pend.length = made + 1) ∧ (¬ (made : Int) < n → (appSt st a b).2 = 13 ∧ CI n k q (i + 1) made (appSt st a b).1 ∧ (appSt st a b).1.dead = true) := by
  have hap : appSt st a b = (doSt st (.app a b), doE st) := by
    unfold appSt
    rw [if_neg (by rw [ha]; simp), if_neg (fits hs h.sum (by omega) (by omega) h.room)]
  rw [hap]
  obtain ⟨room, ls, pd, due, dead, ops⟩ := st
  obtain ⟨h1, h2, h3, h4, h5, h6⟩ := h
  simp only at h1 h2 h4 h5 h6 hs
  constructor
  · intro hm
    rcases h6 with ⟨e1, e2, e3, e4⟩ | ⟨e1, e2, e3⟩
    · subst e1 e2
      have hne : ¬ max n 0 - (made : Int) = 0 := by omega
      have hpw : pw ⟨room, ls, pd, some (max n 0 - (made : Int), k, q), false, ops⟩ = ⟨room, ls, pd, some (max n 0 - (made : Int), k, q), false, ops⟩ := by simp [pw, hne]
      have hdo : doSt ⟨room, ls, pd, some (max n 0 - (made : Int), k, q), false, ops⟩ (.app a b) = ⟨room, ls, pd ++ [.app a b], some (max n 0 - (made : Int) - 1, k, q), false, ops + 1⟩ := by
        unfold doSt; rw [hpw]; rfl
      have hde : doE ⟨room, ls, pd, some (max n 0 - (made : Int), k, q), false, ops⟩ = 0 := by unfold doE; rw [hpw]; rfl
      rw [hdo, hde]
      refine ⟨rfl, ⟨h1, by simp only; omega, by omega, ?_, by simp only [List.length_append, List.length_singleton]; omega, .inl ⟨rfl, ?_, by simp only [List.length_append, List.length_singleton]; omega, by omega⟩⟩, by simp only [List.length_append, List.length_singleton]; omega⟩
      · simp only [sumc, List.map_append, List.map_cons, List.map_nil, List.sum_append, List.sum_cons, List.sum_nil, chlen] at h4 ⊢
        omega
      · show some (max n 0 - (made : Int) - 1, k, q) = some (max n 0 - ((made + 1 : Nat) : Int), k, q)
        congr 2
        omega
    · omega
  · intro hm
    rcases h6 with ⟨e1, e2, e3, e4⟩ | ⟨e1, e2, e3⟩
    · subst e1 e2
      have he : max n 0 - (made : Int) = 0 := by omega
      have hpw : pw ⟨room, ls, pd, some (max n 0 - (made : Int), k, q), false, ops⟩ = crashSt ⟨room, ls, pd, some (max n 0 - (made : Int), k, q), false, ops⟩ k q := by
        simp only [pw]; rw [if_pos ⟨trivial, he⟩]
      have hcd := crash_dead ⟨room, ls, pd, some (max n 0 - (made : Int), k, q), false, ops⟩ k q
      have hdo : doSt ⟨room, ls, pd, some (max n 0 - (made : Int), k, q), false, ops⟩ (.app a b) = crashSt ⟨room, ls, pd, some (max n 0 - (made : Int), k, q), false, ops⟩ k q := by
        unfold doSt; rw [hpw, if_pos hcd]
      have hde : doE ⟨room, ls, pd, some (max n 0 - (made : Int), k, q), false, ops⟩ = 13 := by unfold doE; rw [hpw, if_pos hcd]
      have hsm := crash_small (st := ⟨room, ls, pd, some (max n 0 - (made : Int), k, q), false, ops⟩) hs k q
      rw [hdo, hde]
      refine ⟨rfl, ⟨h1, h2, by omega, ?_, ?_, .inr ⟨hcd, rfl, by omega⟩⟩, hcd⟩
      · have := hsm.1; simp only at this ⊢; omega
      · have := hsm.2; simp only at this ⊢; omega
    · subst e1 e2
      have hpw : pw ⟨room, ls, pd, none, true, ops⟩ = ⟨room, ls, pd, none, true, ops⟩ := rfl
      have hdo : doSt ⟨room, ls, pd, none, true, ops⟩ (.app a b) = ⟨room, ls, pd, none, true, ops⟩ := rfl
      have hde : doE ⟨room, ls, pd, none, true, ops⟩ = 13 := rfl
      rw [hdo, hde]
      exact ⟨rfl, (CI.mk h1 h2 h3 h4 h5 (.inr ⟨rfl, rfl, e3⟩) : CI n k q i made ⟨room, ls, pd, none, true, ops⟩).more, rfl⟩
theorem CI.no {st : St} {a b : Nm} (ha : okn a = false) : appSt st a b = (st, 10) := by unfold appSt; rw [if_pos ha]
/-- the disk within what is new -/
def Dn (w0 w : World) (p : Nat) (st : St) : Prop := Dk w p (fun k => w0.heap.size ≤ k ∧ k < w.heap.size) st ∧ Below w0.heap.size w0 w
theorem Dn.next {w0 w w' : World} {p : Nat} {st st' : St} {r : Value} {e : Ending} (h : Dn w0 w p st) (hr : RetDk w p (fun k => w0.heap.size ≤ k ∧ k < w.heap.size) st' r e w') : e = .returned r ∧ Dn w0 w' p st' := by
  obtain ⟨h1, h2, h3⟩ := hr
  have hs := h.2.size
  have hs2 := h3.size
  refine ⟨h1, h2.mono (fun k hk => ?_) (fun k hk => hk.2), h.2.trans (h3.below hs (fun k hk => hk.1))⟩
  rcases hk with e | e
  · exact ⟨e.1, by omega⟩
  · exact ⟨by omega, e.2⟩
set_option maxHeartbeats 4000000 in
set_option maxRecDepth 100000 in
theorem walk_ok (A : Option Addr) (N c : Nat) (n k q : Int) (w : World) (h0 : IsStrs w A N c) (hn : (Lit.int .i64 n).wf = true) (hk : (Lit.int .i64 k).wf = true) (hq : (Lit.int .i64 q).wf = true) :
    Calls Try.prog 5 #[.slice A N c, .int .i64 n, .int .i64 k, .int .i64 q] w fun e w' => e = .returned (.bool true) ∧ Below w.heap.size w w' := by
  obtain ⟨ss, hss, hsl, hNc, hcm, _⟩ := h0
  have hnn := wf_i64 hn
  by_cases hbig : 128 < N
  · have hb1 : (128 : Int) < (N : Int) := by omega
    clear hss hsl hn hk hq
    go_enter Try.func5, Try.ntmps5
    go_wp2_with fail
    go_ret
    exact ⟨rfl, Below.refl _ _⟩
  · have hb1 : ¬ (128 : Int) < (N : Int) := by omega
    have HS := Lib.hid hss
    have HSL := Lib.hid hsl
    have HN := Lib.hid (new_d w 65536)
    clear hss hsl hn hk hq hcm hNc
    go_enter Try.func5, Try.ntmps5
    go_wp2_with fail
    refine HN.out.mono ?_
    rintro e w1 ⟨p, rfl, hp, hd, hb⟩
    have D1 := Lib.hid (show Dn w w1 p (newSt 65536) from ⟨hd, hb⟩)
    have HC := Lib.hid (cut_d w1 p _ (newSt 65536) n k q hd)
    clear hd hb HN
    go_wp2_with fail
    refine HC.out.mono ?_
    rintro e w2 hr
    obtain ⟨rfl, hd2⟩ := D1.out.next hr
    have D2 := Lib.hid hd2
    have C2 := Lib.hid (show CI n k q 0 0 (cutSt (newSt 65536) n k q) from ⟨rfl, rfl, Nat.le_refl _, Nat.le_refl _, Nat.le_refl _, .inl ⟨rfl, by simp [cutSt], rfl, by omega⟩⟩)
    clear hr hd2 HC D1
    go_wp2_with fail
    go_loopg [10, 11, 12, 13] N (fun gg s10 s11 s12 s13 wr => ∃ (i made : Nat) (st : St), s10 = .int .i64 made ∧ s11 = .int .i64 i ∧ i ≤ N ∧ N - i ≤ gg ∧ made ≤ 128 ∧ Aside (CI n k q i made st) ∧ Aside (Dn w wr p st))
    case atStart => exact ⟨0, 0, _, rfl, rfl, Nat.zero_le _, by omega, by omega, C2.out, D2.out⟩
    case round =>
      clear C2 D2
      obtain ⟨i, made, st, rfl, rfl, hi, hgg, hm128, CC, DD⟩ := hrel
      obtain ⟨wv, rfl⟩ : ∃ wv, wv = wr := ⟨wr, rfl⟩
      by_cases hlt : i < N
      · have hrd : Strs wv w.heap.size A N ss := HS.out.below DD.out.2 (Nat.le_refl _)
        obtain ⟨b, off, s, eA, hbl, hsi, hc⟩ := hrd.get hlt
        obtain ⟨a, rfl⟩ := ba_bs s
        have hal : a.length ≤ maxLen := by rw [← bs_size]; exact HSL.out _ (List.mem_of_getElem? hsi)
        have hsz := bs_size a
        subst eA
        have i1 : (i : Int) < (N : Int) := by omega
        have i0 : (0 : Int) ≤ (i : Int) := by omega
        have hbv : b < wv.heap.size := World.block_lt_of_cell? wv _ hc
        have HA := Lib.hid (append_d wv p _ st a [97, 98] DD.out.1 (CC.out.small (by omega) (by omega)) (by rw [CC.out.room]; omega) (by rw [CC.out.room]; omega) (by decide))
        have HA2 := Lib.hid (show Calls Try.prog 14 #[ptr p, .string (bs a), .string { data := #[97, 98] }] wv (RetDk wv p (fun k => w.heap.size ≤ k ∧ k < wv.heap.size) (appSt st a [97, 98]).1 (.int .i64 (appSt st a [97, 98]).2)) from HA.out)
        have SRT := Lib.hid DD.out.1.srt
        clear hsi hrd HA
        obtain ⟨L, hL⟩ : ∃ L, a.length = L := ⟨_, rfl⟩
        rw [hL] at hsz hal
        have HL := Lib.hid hL
        clear hL
        cases hok : okn a with
        | false =>
          have hap := CI.no (st := st) (b := [97, 98]) hok
          rw [hap] at HA2
          have hmay : L < 1 ∨ (1 ≤ L ∧ 40 < L) := by have h9 := HL.out; unfold okn at hok; simp at hok; omega
          have HM := Lib.hid hok
          clear hap hok
          rcases hmay with h1 | ⟨h1, h2⟩
          · have m1 : ¬ (1 : Int) ≤ (L : Int) := by omega
            go_wp2_with fail
            refine HA2.out.mono ?_
            rintro e w3 hr
            obtain ⟨rfl, hd3⟩ := DD.out.next hr
            have D3 := Lib.hid hd3
            clear hr hd3 HA2
            go_wp2_with fail
            go_roundg (N - (i + 1))
            case measure => omega
            case rel => exact ⟨i + 1, made, st, rfl, by go_num, by omega, by omega, by omega, CC.out.more, D3.out⟩
          · have m1 : (1 : Int) ≤ (L : Int) := by omega
            have m2 : ¬ (L : Int) ≤ 40 := by omega
            go_wp2_with fail
            refine HA2.out.mono ?_
            rintro e w3 hr
            obtain ⟨rfl, hd3⟩ := DD.out.next hr
            have D3 := Lib.hid hd3
            clear hr hd3 HA2
            go_wp2_with fail
            go_roundg (N - (i + 1))
            case measure => omega
            case rel => exact ⟨i + 1, made, st, rfl, by go_num, by omega, by omega, by omega, CC.out.more, D3.out⟩
        | true =>
          obtain ⟨hst1, hst2⟩ := CC.out.step (by omega) SRT.out (b := [97, 98]) rfl hok
          have m1 : (1 : Int) ≤ (L : Int) := by have h9 := HL.out; unfold okn at hok; simp at hok; omega
          have m2 : (L : Int) ≤ 40 := by have h9 := HL.out; unfold okn at hok; simp at hok; omega
          obtain ⟨st', hs'⟩ : ∃ st', (appSt st a [97, 98]).1 = st' := ⟨_, rfl⟩
          obtain ⟨er, her⟩ : ∃ er, (appSt st a [97, 98]).2 = er := ⟨_, rfl⟩
          rw [hs', her] at HA2 hst1 hst2
          by_cases hmn : (made : Int) < n
          · obtain ⟨he, hci, hpl⟩ := hst1 hmn
            have CI2 := Lib.hid hci
            have PL := Lib.hid hpl
            have HE := Lib.hid he
            clear hok hst1 hst2 hs' her hci hpl he
            go_wp2_with fail
            refine HA2.out.mono ?_
            rintro e w3 hr
            obtain ⟨rfl, hd3⟩ := DD.out.next hr
            have D3 := Lib.hid hd3
            have HP := Lib.hid (pending_d w3 p _ st' hd3.1)
            rw [PL.out] at HP
            rw [HE.out]
            have hcast : ((made + 1 : Nat) : Int) = (made : Int) + 1 := by omega
            rw [hcast] at HP
            clear hr hd3 HA2 hcast
            go_wp2_with fail
            refine HP.out.mono ?_
            rintro e w4 ⟨rfl, rfl⟩
            clear HP
            go_wp2_with fail
            go_roundg (N - (i + 1))
            case measure => omega
            case rel => exact ⟨i + 1, made + 1, st', by go_num, by go_num, by omega, by omega, by have := CI2.out.mi; omega, CI2.out, D3.out⟩
          · obtain ⟨he, hci, hdd⟩ := hst2 hmn
            have CI2 := Lib.hid hci
            have PL := Lib.hid hdd
            have HE := Lib.hid he
            clear hok hst1 hst2 hs' her hci hdd he
            go_wp2_with fail
            refine HA2.out.mono ?_
            rintro e w3 hr
            obtain ⟨rfl, hd3⟩ := DD.out.next hr
            have D3 := Lib.hid hd3
            have HP := Lib.hid (dead_d w3 p _ st' hd3.1)
            rw [PL.out] at HP
            rw [HE.out]
            clear hr hd3 HA2
            go_wp2_with fail
            refine HP.out.mono ?_
            rintro e w4 ⟨rfl, rfl⟩
            clear HP
            go_wp2_with fail
            go_roundg (N - (i + 1))
            case measure => omega
            case rel => exact ⟨i + 1, made, st', rfl, by go_num, by omega, by omega, by omega, CI2.out, D3.out⟩
      · have i1 : ¬ (i : Int) < (N : Int) := by omega
        have HO := Lib.hid (ops_d wv p _ st DD.out.1)
        rw [CC.out.ops] at HO
        have HPW := Lib.hid (power_d wv p _ st DD.out.1)
        have hsum := CC.out.sum
        have hlen := CC.out.len
        have CI9 := Lib.hid CC.out
        go_wp2_with fail
        refine HO.out.mono ?_
        rintro e w3 ⟨rfl, rfl⟩
        clear HO
        go_wp2_with fail
        refine HPW.out.mono ?_
        rintro e w4 hr
        obtain ⟨rfl, hd4⟩ := DD.out.next hr
        have HDE := Lib.hid (dead_d w4 p _ (powSt st) hd4.1)
        have hsm : Small (powSt st) := ⟨by show fsum st.last + sumc st.pend ≤ _; omega, by show st.last.length + st.pend.length ≤ _; omega, by show 0 ≤ st.ops; rw [CI9.out.ops]; omega, by show st.ops < _; rw [CI9.out.ops]; omega, fun x hx => by cases hx⟩
        have hap : appSt (powSt st) [97, 103, 97, 105, 110] [] = (doSt (powSt st) (.app [97, 103, 97, 105, 110] []), 0) := by
          unfold appSt
          rw [if_neg (by decide), if_neg (fits (i := i) hd4.1.srt hsum (by omega) (by decide) CI9.out.room)]
          rfl
        have HA := Lib.hid (append_d w4 p _ (powSt st) [97, 103, 97, 105, 110] [] hd4.1 hsm (by show 0 ≤ st.room; rw [CI9.out.room]; omega) (by show st.room ≤ _; rw [CI9.out.room]; omega) (by decide))
        rw [hap] at HA
        have HA2 := Lib.hid (show Calls Try.prog 14 #[ptr p, .string { data := #[97, 103, 97, 105, 110] }, .string { data := #[] }] w4 (RetDk w4 p (fun k => w.heap.size ≤ k ∧ k < w4.heap.size) (doSt (powSt st) (.app [97, 103, 97, 105, 110] [])) (.int .i64 0)) from HA.out)
        have D4 := Lib.hid hd4
        clear hr hd4 HPW HA hap hsm
        go_wp2_with fail
        refine HDE.out.mono ?_
        rintro e w5 ⟨rfl, rfl⟩
        have hpd : (powSt st).dead = false := rfl
        rw [hpd]
        clear HDE hpd
        go_wp2_with fail
        refine HA2.out.mono ?_
        rintro e w6 hr
        obtain ⟨rfl, hd6⟩ := D4.out.next hr
        have B6 := Lib.hid hd6.2
        clear hr hd6 HA2
        go_wp2_with fail
        go_ret
        exact ⟨rfl, B6.out⟩
end Go.Proofs.Ytmnliieiiaedeaa.lawDiskCuts
