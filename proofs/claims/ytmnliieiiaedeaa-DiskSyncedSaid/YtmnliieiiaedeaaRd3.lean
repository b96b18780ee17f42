/-
  The document's disk: with.
-/
import Derived.Test.YtmnliieiiaedeaaRd2
namespace Go.Proofs.Ytmnliieiiaedeaa.dk
open Go.ChangeShapes Go.WideShapes Go.ChangeAt Go.RowKit Go.Maps Go.Sort Go.Shelf plain words ord mem al

theorem put_new {ls : AL Nm} (hs : Srt ls) {q x : Nm} (hg : (al.get ls q).isSome = false) : (ls.take (pos ls q) ++ [(q, x)]) ++ ls.drop (pos ls q) = al.put ls q x := by
  rw [put_pos hs, hg]; simp
theorem put_old {ls : AL Nm} (hs : Srt ls) {q x : Nm} (hg : (al.get ls q).isSome = true) (l : AL Nm) (hl : ls.take (pos ls q) ++ ls.drop (pos ls q + 1) = l) : (l.take (pos ls q) ++ [(q, x)]) ++ l.drop (pos ls q) = al.put ls q x := by
  have hp := pos_le ls q
  have h1 : (ls.take (pos ls q)).length = pos ls q := by rw [List.length_take]; omega
  rw [put_pos hs, hg, ← hl, List.take_left' h1, List.drop_left' h1]; simp
theorem pos_some {ls : AL Nm} (hs : Srt ls) {q : Nm} (hg : (al.get ls q).isSome = true) : pos ls q < ls.length := by
  rcases Nat.lt_or_ge (pos ls q) ls.length with h | h
  · exact h
  · rw [get_pos hs, List.getElem?_eq_none h] at hg; cases hg
set_option maxHeartbeats 2000000 in
set_option maxRecDepth 100000 in
theorem with_y (w : World) (n c : Nat) (A : Option Addr) (ls : AL Nm) (q x : Nm) (h : Fr w A c ls) (hl : ls.length = n) (hs : Srt ls) (hn : n ≤ 1000000000) :
    Calls Try.prog 77 #[.slice A n c, .agg #[.string (bs q), .string (bs x)]] w (RetF w (al.put ls q x)) := by
  obtain ⟨wb, hwb⟩ : ∃ wb, w.alloc (.cells #[.string (bs q), .string (bs x)] 46) = wb := ⟨_, rfl⟩
  have hbb : Below w.heap.size w wb := by rw [← hwb]; exact (Below.refl _ _).alloc (Nat.le_refl _) _
  have gb : wb.heap[w.heap.size]? = some (.cells #[.string (bs q), .string (bs x)] 46 (0, 0)) := by rw [← hwb]; exact alloc_new _ _
  have hlb : w.heap.size < wb.heap.size := blk_lt gb
  have c0 : wb.cell? ⟨w.heap.size, 0, none⟩ = some (.string (bs q)) := by rw [cell_of_row _ _ _ _ _ _ gb]; rfl
  have hfr := h.below hbb
  have hfls := hfr.ls
  rw [hl] at hfls
  have HF := Lib.hid (find_y wb wb.heap.size n c A ls q hfls (Nat.le_refl _) hs (by omega))
  have HFR := Lib.hid hfr
  have HB := Lib.hid hbb
  have GB := Lib.hid gb
  have hps := fun hg => pos_some hs (q := q) hg
  have hpl := pos_le ls q
  rw [hl] at hpl
  have HPN := Lib.hid (fun hg => put_new hs (q := q) (x := x) hg)
  have HPO := Lib.hid (fun hg => @put_old ls hs q x hg)
  obtain ⟨P, hP⟩ : ∃ P, pos ls q = P := ⟨_, rfl⟩
  obtain ⟨G, hG⟩ : ∃ G, (al.get ls q).isSome = G := ⟨_, rfl⟩
  rw [hG, hP] at HF hps
  rw [hP] at hpl
  rw [hG, hP] at HPN HPO
  have HL := Lib.hid hl
  clear h hbb gb hfr hfls hs hl hP hG
  obtain ⟨T, hT⟩ : ∃ T, al.put ls q x = T := ⟨_, rfl⟩
  rw [hT] at HPN HPO ⊢
  clear hT
  cases G with
  | true =>
    have hPn := hps rfl
    rw [HL.out] at hPn
    have HPQ := Lib.hid (HPO.out rfl)
    clear hps HPN HPO
    go_enter Try.func77, Try.ntmps77
    go_wp2_with fail
    refine HF.out.mono ?_
    rintro e w1 ⟨rfl, hb1⟩
    have HB1 := Lib.hid (HB.out.trans (hb1.mono HB.out.size))
    have HW := Lib.hid (without_y w1 n c A ls P (HFR.out.below hb1) hPn HL.out hn)
    have GB1 := Lib.hid (blk_below hb1 GB.out hlb)
    clear hb1 HF c0
    go_wp2_with fail
    refine HW.out.mono ?_
    rintro e wk ⟨A', c', rfl, hfr, hbk, _⟩
    have HBK := Lib.hid (HB1.out.trans (hbk.mono HB1.out.size))
    have GBK := Lib.hid (blk_below hbk GB1.out (blk_lt GB1.out))
    obtain ⟨l', hl'⟩ : ∃ l', ls.take P ++ ls.drop (P + 1) = l' := ⟨_, rfl⟩
    have hln : l'.length = n - 1 := by rw [← hl', List.length_append, List.length_take, List.length_drop, HL.out]; omega
    have HE := Lib.hid (HPQ.out _ hl')
    rw [hl'] at hfr
    rw [hl', hln]
    obtain ⟨n', hn'⟩ : ∃ n', n - 1 = n' := ⟨_, rfl⟩
    rw [hn'] at hln ⊢
    have hPn' : P ≤ n' := by omega
    have hn9 : n' ≤ 1000000000 := by omega
    clear HW hbk hl' HPQ hn'
    obtain ⟨hfls, hnil, hlen, hcap⟩ := hfr
    rw [hln] at hfls hlen
    have LN := Lib.hid hln
    clear hln
    have hb0 : Below wk.heap.size wk (wk.alloc (.cells #[] 46)) := (Below.refl _ _).alloc (Nat.le_refl _) _
    have hown : Ow FE (wk.alloc (.cells #[] 46)) wk.heap.size (.slice (some ⟨wk.heap.size, 0, none⟩) 0 0) 0 [] := Ow.lit wk
    have hcut1 := (hfls.take (i := P) hPn').below hb0 (Nat.le_refl _)
    have p0 : (0 : Int) ≤ (P : Int) := by omega
    have p1 : (P : Int) ≤ (n' : Int) := by omega
    have p2 : (P : Int) ≤ (c' : Int) := by omega
    have p3 : (n' : Int) ≤ (c' : Int) := by omega
    rcases A' with _ | ⟨b, off, sp⟩
    · obtain rfl := hnil rfl
      have hn0 : n' = 0 := by omega
      have hP0 : P = 0 := by omega
      subst hn0 hP0
      have hcut2 : Ls FE wk wk.heap.size none 0 (l'.drop 0) := by rw [List.drop_zero]; exact hfls
      have HC2 := Lib.hid hcut2
      clear hcut2 hnil
      go_wp2_with (first | (at_builtin; refine append_f rfl (.tmp 20) (.tmp 23) rfl wk.heap.size _ 0 [] rfl hown wk.heap.size _ _ _ (fun _ => rfl) (l'.take 0) rfl hcut1 (by omega) (by simp) ?_; intro A2 c2 w2 hown2 hg2 hA2 hc21 hc22 hs2; simp only [Nat.zero_add, List.nil_append] at hown2; have hb2 := hown.below_grown hb0 hg2 (by simp); have g2 := blk_below hb2 GBK.out (blk_lt GBK.out); have d0 : w2.cell? ⟨w.heap.size, 0, none⟩ = some (.string (bs q)) := by { rw [cell_of_row _ _ _ _ _ _ g2]; rfl }; have d1 : w2.cell? ⟨w.heap.size, 1, none⟩ = some (.string (bs x)) := by { rw [cell_of_row _ _ _ _ _ _ g2]; rfl }; clear hg2 hcut1 g2) | (at_builtin; refine append_f rfl (.tmp 25) (.tmp 27) rfl wk.heap.size _ _ (l'.take 0) rfl (hown2.below ((Below.refl _ _).alloc (Nat.le_refl _) _) (Nat.le_refl _)) (w2.heap.size + 1) _ 1 _ (fun e => by cases e) [(q, x)] rfl (ls_new (E := FE) _ (q, x)) (by omega) (by have := hb2.size; simp; omega) ?_; intro A3 c3 w3 hown3 hg3 hA3 hc31 hc32 hs3; have hb3 := (hown2.below ((Below.refl _ _).alloc (Nat.le_refl _) _) (Nat.le_refl _)).below_grown (hb2.alloc hb2.size _) hg3 (by have := hb2.size; simp; omega); clear hg3) | (at_builtin; refine append_f rfl (.tmp 29) (.tmp 32) rfl wk.heap.size _ _ (l'.take 0 ++ [(q, x)]) rfl hown3 wk.heap.size _ _ _ (fun _ => rfl) (l'.drop 0) rfl (HC2.out.below hb3 (Nat.le_refl _)) (by omega) hb3.size ?_; intro A4 c4 w4 hown4 hg4 hA4 hc41 hc42 hs4; have hb4 := hown3.below_grown hb3 hg4 hb3.size; clear hg4))
      go_ret
      rw [← HE.out]
      exact ret_f hown4 (HBK.out.trans (hb4.mono HBK.out.size)) HBK.out.size
    · have hsp : n' = 0 ∨ sp = none := by
        rcases Nat.eq_zero_or_pos n' with h0 | h0
        · exact .inl h0
        · obtain ⟨_, _, e, _⟩ := Rd.some_of hfls.2 (show 0 < n' * FE.k by show 0 < n' * 2; omega)
          injection e with e; injection e with _ _ e; exact .inr e
      by_cases hck : c' = P
      · have hcut2 : Ls FE wk wk.heap.size (some ⟨b, off, sp⟩) 0 (l'.drop P) := by rw [List.drop_eq_nil_of_le (by rw [LN.out]; omega)]; exact Ls.nil _ _ _
        obtain rfl : P = c' := hck.symm
        have HC2 := Lib.hid hcut2
        clear hcut2 hnil
        go_wp2_with (first | (at_builtin; refine append_f rfl (.tmp 20) (.tmp 23) rfl wk.heap.size _ 0 [] rfl hown wk.heap.size _ _ _ (fun e => by cases e) (l'.take P) rfl hcut1 (by omega) (by simp) ?_; intro A2 c2 w2 hown2 hg2 hA2 hc21 hc22 hs2; simp only [Nat.zero_add, List.nil_append] at hown2; have hb2 := hown.below_grown hb0 hg2 (by simp); have g2 := blk_below hb2 GBK.out (blk_lt GBK.out); have d0 : w2.cell? ⟨w.heap.size, 0, none⟩ = some (.string (bs q)) := by { rw [cell_of_row _ _ _ _ _ _ g2]; rfl }; have d1 : w2.cell? ⟨w.heap.size, 1, none⟩ = some (.string (bs x)) := by { rw [cell_of_row _ _ _ _ _ _ g2]; rfl }; clear hg2 hcut1 g2) | (at_builtin; refine append_f rfl (.tmp 25) (.tmp 27) rfl wk.heap.size _ _ (l'.take P) rfl (hown2.below ((Below.refl _ _).alloc (Nat.le_refl _) _) (Nat.le_refl _)) (w2.heap.size + 1) _ 1 _ (fun e => by cases e) [(q, x)] rfl (ls_new (E := FE) _ (q, x)) (by omega) (by have := hb2.size; simp; omega) ?_; intro A3 c3 w3 hown3 hg3 hA3 hc31 hc32 hs3; have hb3 := (hown2.below ((Below.refl _ _).alloc (Nat.le_refl _) _) (Nat.le_refl _)).below_grown (hb2.alloc hb2.size _) hg3 (by have := hb2.size; simp; omega); clear hg3) | (at_builtin; refine append_f rfl (.tmp 29) (.tmp 32) rfl wk.heap.size _ _ (l'.take P ++ [(q, x)]) rfl hown3 wk.heap.size _ _ _ (fun e => by cases e) (l'.drop P) rfl (HC2.out.below hb3 (Nat.le_refl _)) (by omega) hb3.size ?_; intro A4 c4 w4 hown4 hg4 hA4 hc41 hc42 hs4; have hb4 := hown3.below_grown hb3 hg4 hb3.size; clear hg4))
        go_ret
        rw [← HE.out]
        exact ret_f hown4 (HBK.out.trans (hb4.mono HBK.out.size)) HBK.out.size
      · have hcut2 : Ls FE wk wk.heap.size (some (Addr.add ⟨b, off, sp⟩ (P * 2))) (n' - P) (l'.drop P) := by
          rcases hsp with h0 | h0
          · rw [show n' - P = 0 by omega, List.drop_eq_nil_of_le (by rw [LN.out]; omega)]; exact Ls.nil _ _ _
          · subst h0; rw [words.add_plain]; exact ls_cut (c := c') hfls hPn' (by omega) hck
        have HC2 := Lib.hid hcut2
        clear hcut2 hnil
        go_wp2_with (first | (at_builtin; refine append_f rfl (.tmp 20) (.tmp 23) rfl wk.heap.size _ 0 [] rfl hown wk.heap.size _ _ _ (fun e => by cases e) (l'.take P) rfl hcut1 (by omega) (by simp) ?_; intro A2 c2 w2 hown2 hg2 hA2 hc21 hc22 hs2; simp only [Nat.zero_add, List.nil_append] at hown2; have hb2 := hown.below_grown hb0 hg2 (by simp); have g2 := blk_below hb2 GBK.out (blk_lt GBK.out); have d0 : w2.cell? ⟨w.heap.size, 0, none⟩ = some (.string (bs q)) := by { rw [cell_of_row _ _ _ _ _ _ g2]; rfl }; have d1 : w2.cell? ⟨w.heap.size, 1, none⟩ = some (.string (bs x)) := by { rw [cell_of_row _ _ _ _ _ _ g2]; rfl }; clear hg2 hcut1 g2) | (at_builtin; refine append_f rfl (.tmp 25) (.tmp 27) rfl wk.heap.size _ _ (l'.take P) rfl (hown2.below ((Below.refl _ _).alloc (Nat.le_refl _) _) (Nat.le_refl _)) (w2.heap.size + 1) _ 1 _ (fun e => by cases e) [(q, x)] rfl (ls_new (E := FE) _ (q, x)) (by omega) (by have := hb2.size; simp; omega) ?_; intro A3 c3 w3 hown3 hg3 hA3 hc31 hc32 hs3; have hb3 := (hown2.below ((Below.refl _ _).alloc (Nat.le_refl _) _) (Nat.le_refl _)).below_grown (hb2.alloc hb2.size _) hg3 (by have := hb2.size; simp; omega); clear hg3) | (at_builtin; refine append_f rfl (.tmp 29) (.tmp 32) rfl wk.heap.size _ _ (l'.take P ++ [(q, x)]) rfl hown3 wk.heap.size _ _ _ (fun e => by cases e) (l'.drop P) rfl (HC2.out.below hb3 (Nat.le_refl _)) (by omega) hb3.size ?_; intro A4 c4 w4 hown4 hg4 hA4 hc41 hc42 hs4; have hb4 := hown3.below_grown hb3 hg4 hb3.size; clear hg4))
        go_ret
        rw [← HE.out]
        exact ret_f hown4 (HBK.out.trans (hb4.mono HBK.out.size)) HBK.out.size
  | false =>
    have HE := Lib.hid (HPN.out rfl)
    clear hps HPO HPN
    go_enter Try.func77, Try.ntmps77
    go_wp2_with fail
    refine HF.out.mono ?_
    rintro e wk ⟨rfl, hb1⟩
    have HBK := Lib.hid (HB.out.trans (hb1.mono HB.out.size))
    have GBK := Lib.hid (blk_below hb1 GB.out hlb)
    have hfr := HFR.out.below hb1
    have hln := HL.out
    obtain ⟨A', rfl⟩ : ∃ A', A' = A := ⟨_, rfl⟩
    obtain ⟨c', rfl⟩ : ∃ c', c' = c := ⟨_, rfl⟩
    obtain ⟨l', rfl⟩ : ∃ l', l' = ls := ⟨_, rfl⟩
    obtain ⟨n', rfl⟩ : ∃ n', n' = n := ⟨_, rfl⟩
    have hPn' : P ≤ n' := hpl
    have hn9 : n' ≤ 1000000000 := hn
    clear hb1 HF c0 HFR HB GB HL
    obtain ⟨hfls, hnil, hlen, hcap⟩ := hfr
    rw [hln] at hfls hlen
    have LN := Lib.hid hln
    clear hln
    have hb0 : Below wk.heap.size wk (wk.alloc (.cells #[] 46)) := (Below.refl _ _).alloc (Nat.le_refl _) _
    have hown : Ow FE (wk.alloc (.cells #[] 46)) wk.heap.size (.slice (some ⟨wk.heap.size, 0, none⟩) 0 0) 0 [] := Ow.lit wk
    have hcut1 := (hfls.take (i := P) hPn').below hb0 (Nat.le_refl _)
    have p0 : (0 : Int) ≤ (P : Int) := by omega
    have p1 : (P : Int) ≤ (n' : Int) := by omega
    have p2 : (P : Int) ≤ (c' : Int) := by omega
    have p3 : (n' : Int) ≤ (c' : Int) := by omega
    rcases A' with _ | ⟨b, off, sp⟩
    · obtain rfl := hnil rfl
      have hn0 : n' = 0 := by omega
      have hP0 : P = 0 := by omega
      subst hn0 hP0
      have hcut2 : Ls FE wk wk.heap.size none 0 (l'.drop 0) := by rw [List.drop_zero]; exact hfls
      have HC2 := Lib.hid hcut2
      clear hcut2 hnil
      go_wp2_with (first | (at_builtin; refine append_f rfl (.tmp 20) (.tmp 23) rfl wk.heap.size _ 0 [] rfl hown wk.heap.size _ _ _ (fun _ => rfl) (l'.take 0) rfl hcut1 (by omega) (by simp) ?_; intro A2 c2 w2 hown2 hg2 hA2 hc21 hc22 hs2; simp only [Nat.zero_add, List.nil_append] at hown2; have hb2 := hown.below_grown hb0 hg2 (by simp); have g2 := blk_below hb2 GBK.out (blk_lt GBK.out); have d0 : w2.cell? ⟨w.heap.size, 0, none⟩ = some (.string (bs q)) := by { rw [cell_of_row _ _ _ _ _ _ g2]; rfl }; have d1 : w2.cell? ⟨w.heap.size, 1, none⟩ = some (.string (bs x)) := by { rw [cell_of_row _ _ _ _ _ _ g2]; rfl }; clear hg2 hcut1 g2) | (at_builtin; refine append_f rfl (.tmp 25) (.tmp 27) rfl wk.heap.size _ _ (l'.take 0) rfl (hown2.below ((Below.refl _ _).alloc (Nat.le_refl _) _) (Nat.le_refl _)) (w2.heap.size + 1) _ 1 _ (fun e => by cases e) [(q, x)] rfl (ls_new (E := FE) _ (q, x)) (by omega) (by have := hb2.size; simp; omega) ?_; intro A3 c3 w3 hown3 hg3 hA3 hc31 hc32 hs3; have hb3 := (hown2.below ((Below.refl _ _).alloc (Nat.le_refl _) _) (Nat.le_refl _)).below_grown (hb2.alloc hb2.size _) hg3 (by have := hb2.size; simp; omega); clear hg3) | (at_builtin; refine append_f rfl (.tmp 29) (.tmp 32) rfl wk.heap.size _ _ (l'.take 0 ++ [(q, x)]) rfl hown3 wk.heap.size _ _ _ (fun _ => rfl) (l'.drop 0) rfl (HC2.out.below hb3 (Nat.le_refl _)) (by omega) hb3.size ?_; intro A4 c4 w4 hown4 hg4 hA4 hc41 hc42 hs4; have hb4 := hown3.below_grown hb3 hg4 hb3.size; clear hg4))
      go_ret
      rw [← HE.out]
      exact ret_f hown4 (HBK.out.trans (hb4.mono HBK.out.size)) HBK.out.size
    · have hsp : n' = 0 ∨ sp = none := by
        rcases Nat.eq_zero_or_pos n' with h0 | h0
        · exact .inl h0
        · obtain ⟨_, _, e, _⟩ := Rd.some_of hfls.2 (show 0 < n' * FE.k by show 0 < n' * 2; omega)
          injection e with e; injection e with _ _ e; exact .inr e
      by_cases hck : c' = P
      · have hcut2 : Ls FE wk wk.heap.size (some ⟨b, off, sp⟩) 0 (l'.drop P) := by rw [List.drop_eq_nil_of_le (by rw [LN.out]; omega)]; exact Ls.nil _ _ _
        obtain rfl : P = c' := hck.symm
        have HC2 := Lib.hid hcut2
        clear hcut2 hnil
        go_wp2_with (first | (at_builtin; refine append_f rfl (.tmp 20) (.tmp 23) rfl wk.heap.size _ 0 [] rfl hown wk.heap.size _ _ _ (fun e => by cases e) (l'.take P) rfl hcut1 (by omega) (by simp) ?_; intro A2 c2 w2 hown2 hg2 hA2 hc21 hc22 hs2; simp only [Nat.zero_add, List.nil_append] at hown2; have hb2 := hown.below_grown hb0 hg2 (by simp); have g2 := blk_below hb2 GBK.out (blk_lt GBK.out); have d0 : w2.cell? ⟨w.heap.size, 0, none⟩ = some (.string (bs q)) := by { rw [cell_of_row _ _ _ _ _ _ g2]; rfl }; have d1 : w2.cell? ⟨w.heap.size, 1, none⟩ = some (.string (bs x)) := by { rw [cell_of_row _ _ _ _ _ _ g2]; rfl }; clear hg2 hcut1 g2) | (at_builtin; refine append_f rfl (.tmp 25) (.tmp 27) rfl wk.heap.size _ _ (l'.take P) rfl (hown2.below ((Below.refl _ _).alloc (Nat.le_refl _) _) (Nat.le_refl _)) (w2.heap.size + 1) _ 1 _ (fun e => by cases e) [(q, x)] rfl (ls_new (E := FE) _ (q, x)) (by omega) (by have := hb2.size; simp; omega) ?_; intro A3 c3 w3 hown3 hg3 hA3 hc31 hc32 hs3; have hb3 := (hown2.below ((Below.refl _ _).alloc (Nat.le_refl _) _) (Nat.le_refl _)).below_grown (hb2.alloc hb2.size _) hg3 (by have := hb2.size; simp; omega); clear hg3) | (at_builtin; refine append_f rfl (.tmp 29) (.tmp 32) rfl wk.heap.size _ _ (l'.take P ++ [(q, x)]) rfl hown3 wk.heap.size _ _ _ (fun e => by cases e) (l'.drop P) rfl (HC2.out.below hb3 (Nat.le_refl _)) (by omega) hb3.size ?_; intro A4 c4 w4 hown4 hg4 hA4 hc41 hc42 hs4; have hb4 := hown3.below_grown hb3 hg4 hb3.size; clear hg4))
        go_ret
        rw [← HE.out]
        exact ret_f hown4 (HBK.out.trans (hb4.mono HBK.out.size)) HBK.out.size
      · have hcut2 : Ls FE wk wk.heap.size (some (Addr.add ⟨b, off, sp⟩ (P * 2))) (n' - P) (l'.drop P) := by
          rcases hsp with h0 | h0
          · rw [show n' - P = 0 by omega, List.drop_eq_nil_of_le (by rw [LN.out]; omega)]; exact Ls.nil _ _ _
          · subst h0; rw [words.add_plain]; exact ls_cut (c := c') hfls hPn' (by omega) hck
        have HC2 := Lib.hid hcut2
        clear hcut2 hnil
        go_wp2_with (first | (at_builtin; refine append_f rfl (.tmp 20) (.tmp 23) rfl wk.heap.size _ 0 [] rfl hown wk.heap.size _ _ _ (fun e => by cases e) (l'.take P) rfl hcut1 (by omega) (by simp) ?_; intro A2 c2 w2 hown2 hg2 hA2 hc21 hc22 hs2; simp only [Nat.zero_add, List.nil_append] at hown2; have hb2 := hown.below_grown hb0 hg2 (by simp); have g2 := blk_below hb2 GBK.out (blk_lt GBK.out); have d0 : w2.cell? ⟨w.heap.size, 0, none⟩ = some (.string (bs q)) := by { rw [cell_of_row _ _ _ _ _ _ g2]; rfl }; have d1 : w2.cell? ⟨w.heap.size, 1, none⟩ = some (.string (bs x)) := by { rw [cell_of_row _ _ _ _ _ _ g2]; rfl }; clear hg2 hcut1 g2) | (at_builtin; refine append_f rfl (.tmp 25) (.tmp 27) rfl wk.heap.size _ _ (l'.take P) rfl (hown2.below ((Below.refl _ _).alloc (Nat.le_refl _) _) (Nat.le_refl _)) (w2.heap.size + 1) _ 1 _ (fun e => by cases e) [(q, x)] rfl (ls_new (E := FE) _ (q, x)) (by omega) (by have := hb2.size; simp; omega) ?_; intro A3 c3 w3 hown3 hg3 hA3 hc31 hc32 hs3; have hb3 := (hown2.below ((Below.refl _ _).alloc (Nat.le_refl _) _) (Nat.le_refl _)).below_grown (hb2.alloc hb2.size _) hg3 (by have := hb2.size; simp; omega); clear hg3) | (at_builtin; refine append_f rfl (.tmp 29) (.tmp 32) rfl wk.heap.size _ _ (l'.take P ++ [(q, x)]) rfl hown3 wk.heap.size _ _ _ (fun e => by cases e) (l'.drop P) rfl (HC2.out.below hb3 (Nat.le_refl _)) (by omega) hb3.size ?_; intro A4 c4 w4 hown4 hg4 hA4 hc41 hc42 hs4; have hb4 := hown3.below_grown hb3 hg4 hb3.size; clear hg4))
        go_ret
        rw [← HE.out]
        exact ret_f hown4 (HBK.out.trans (hb4.mono HBK.out.size)) HBK.out.size
end Go.Proofs.Ytmnliieiiaedeaa.dk
