/-
  The document's nets: what is copied, sent, looked at.
-/
import Derived.Test.YtcebmlcdhapnkaaNetF
namespace Go.Proofs.Ytcebmlcdhapnkaa.net
open Go.ChangeShapes Go.WideShapes Go.ChangeAt Go.RowKit plain words ord mem

theorem own_sl {w : World} {base size n : Nat} {e : TypeId} {v : Value} {xs : List Value} (h : w.ownsRow base e size v n xs) : ∃ A c, v = .slice A n c := by
  rcases own_form h with ⟨e1, e0⟩ | ⟨g, cap, e1, _⟩
  · subst e0; exact ⟨none, 0, e1⟩
  · exact ⟨_, cap, e1⟩
theorem set3p {T : TypeId} {w : World} {g : Nat} {a b c a' b' c' : Value} (h : w.heap[g]? = some (.cells #[a, b, c] T (0, 0))) : (((w.setCell ⟨g, 0, none⟩ a').setCell ⟨g, 1, none⟩ b').setCell ⟨g, 2, none⟩ c').heap[g]? = some (.cells #[a', b', c'] T (0, 0)) := by
  have h0 := heap_setCell_same w g 0 _ _ a' h
  have h1 := heap_setCell_same _ g 1 _ _ b' h0
  have h2 := heap_setCell_same _ g 2 _ _ c' h1
  simpa using h2
theorem cells3p {w : World} {g : Nat} {t : TypeId} {x y z : Value} {fr : Nat × Nat} (hg : w.heap[g]? = some (.cells #[x, y, z] t fr)) : w.cell? ⟨g, 0, none⟩ = some x ∧ w.cell? ⟨g, 1, none⟩ = some y ∧ w.cell? ⟨g, 2, none⟩ = some z :=
  ⟨by rw [cell_of_row _ _ _ _ _ _ hg]; rfl, by rw [cell_of_row _ _ _ _ _ _ hg]; rfl, by rw [cell_of_row _ _ _ _ _ _ hg]; rfl⟩
theorem frozen3p {w : World} {g : Nat} {t : TypeId} {cs : Array Value} (hg : w.heap[g]? = some (.cells cs t (0, 0))) : w.frozen? ⟨g, 0, none⟩ = false ∧ w.frozen? ⟨g, 1, none⟩ = false ∧ w.frozen? ⟨g, 2, none⟩ = false :=
  ⟨frozen_of_row _ _ 0 _ _ hg, frozen_of_row _ _ 1 _ _ hg, frozen_of_row _ _ 2 _ _ hg⟩
theorem infoP3 : (Try.prog.info? 32).map (·.size) = some 3 := by kernel_rfl
set_option maxHeartbeats 1000000 in
set_option maxRecDepth 100000 in
theorem copied_y (w : World) (x y : Int) (B n c : Nat) (A : Option Addr) (bs : List UInt8) (h : Bs w B A n bs) (hA : A = none → c = 0) (hB : B ≤ w.heap.size) (hn : n ≤ 1099511627776) :
    Calls Try.prog 41 #[.agg #[.int .i64 x, .int .i64 y, .slice A n c]] w fun e w' =>
      ∃ A' c', e = .returned (.agg #[.int .i64 x, .int .i64 y, .slice A' n c']) ∧ w'.ownsRow w.heap.size 5 1 (.slice A' n c') n (u8s bs) ∧ Below w.heap.size w w' := by
  obtain ⟨i0, hi, hz0, hz1, hz2⟩ := info_parts infoB
  obtain ⟨w2, hw2⟩ : ∃ w2, (w.alloc (.cells #[.int .i64 x, .int .i64 y, .slice A n c] 32)).alloc (.cells #[.int .i64 0, .int .i64 0, .slice none 0 0] 32) = w2 := ⟨_, rfl⟩
  have hb2 : Below w.heap.size w w2 := by rw [← hw2]; exact ((Below.refl _ _).alloc (Nat.le_refl _) _).alloc (by simp) _
  have hsz2 : w2.heap.size = w.heap.size + 2 := by rw [← hw2]; simp
  have f0 : w2.heap[w.heap.size]? = some (.cells #[.int .i64 x, .int .i64 y, .slice A n c] 32 (0, 0)) := by rw [← hw2]; exact alloc_old _ (alloc_new _ _)
  have f1 : w2.heap[w.heap.size + 1]? = some (.cells #[.int .i64 0, .int .i64 0, .slice none 0 0] 32 (0, 0)) := by
    rw [← hw2]
    have := alloc_new (w.alloc (.cells #[.int .i64 x, .int .i64 y, .slice A n c] 32)) (.cells #[.int .i64 0, .int .i64 0, .slice none 0 0] 32)
    rwa [World.size_alloc] at this
  have hlit := World.ownsRow_lit (w := w2) (base := w.heap.size + 2) (e := 5) (size := 1) #[] 0 (by omega) (by simp) rfl
  obtain ⟨w3, hw3⟩ : ∃ w3, w2.alloc (.cells #[] 5) = w3 := ⟨_, rfl⟩
  rw [hw3] at hlit
  have hb3 : Below w2.heap.size w2 w3 := by rw [← hw3]; exact (Below.refl _ _).alloc (Nat.le_refl _) _
  have hB3 : Below w.heap.size w w3 := hb2.trans (hb3.mono (by omega))
  have hrd : Rd w3 B A (n * 1) (u8s bs) := by rw [Nat.mul_one]; exact h.below hB3 hB
  have g0 := blk_below hb3 f0 (by omega)
  have g1 := blk_below hb3 f1 (by omega)
  have d0 : w3.cell? ⟨w.heap.size, 2, none⟩ = some (.slice A n c) := by rw [cell_of_row _ _ _ _ _ _ g0]; rfl
  have hs3 : w.heap.size + 2 ≤ w3.heap.size := by have := hb3.size; omega
  have G0 := Lib.hid g0
  have G1 := Lib.hid g1
  have HB3 := Lib.hid hB3
  have HW := Lib.hid (And.intro hw2 hw3)
  rw [hsz2] at hlit
  clear h f0 f1 g0 g1 hb2 hb3 hB3 hw2 hw3
  go_enter Try.func41, Try.ntmps41
  go_wp2_with (first | (at_builtin; refine wpList_append_rd rfl (.tmp 5) (.tmp 7) 28 rfl (w.heap.size + 2) 5 i0 (.int .u8 0) 1 1 Try.underlying28 hi hz0 hz1 hz2 rfl (by decide) _ 0 [] rfl hlit B A n c hA (u8s bs) rfl hrd (u8s_one bs) (by unfold maxLen; omega) (by omega) (by omega) ?_; intro v4 w4 hown4 hg4 hnn4; have hg5 : w3.grownBy w4 (some (w.heap.size + 2)) := hg4; have e0 := (hg5.block w.heap.size (by omega) (fun e => by simp at e)).trans G0.out; have e1 := (hg5.block (w.heap.size + 1) (by omega) (fun e => by simp at e)).trans G1.out; simp only [Nat.zero_add, List.nil_append] at hown4; obtain ⟨A4, c4, rfl⟩ := own_sl hown4; obtain ⟨k0, k1, k2⟩ := cells3p e0; obtain ⟨z0, z1, z2⟩ := frozen3p e0; obtain ⟨j0, j1, j2⟩ := cells3p e1; obtain ⟨y0, y1, y2⟩ := frozen3p e1; have hs4 := hg5.size; have HO4 := Lib.hid hown4; have E0 := Lib.hid e0; have E1 := Lib.hid e1; have HB4 := Lib.hid (HB3.out.grown hg5 (by omega) (fun j e => by cases e; omega)); clear hown4 hg4 hg5 hnn4 e0 e1 hlit hrd d0) | (rw [HW.out.1]) | (rw [HW.out.2]))
  refine bodyPost_ret (results_cell_row rfl _ _ (w.heap.size + 1) 32 _ _ _ rfl (set3p (w := w4.setCell ⟨w.heap.size, 2, none⟩ (.slice A4 n c4)) ((Below.heap_setCell w4 ⟨w.heap.size, 2, none⟩ _ (w.heap.size + 1) (by simp)).trans E1.out)) Try.underlying32 rfl infoP3) rfl ?_
  have hch : Chg (fun k => k = w.heap.size ∨ k = w.heap.size + 1) w4 ((((w4.setCell ⟨w.heap.size, 2, none⟩ (.slice A4 n c4)).setCell ⟨w.heap.size + 1, 0, none⟩ (.int .i64 x)).setCell ⟨w.heap.size + 1, 1, none⟩ (.int .i64 y)).setCell ⟨w.heap.size + 1, 2, none⟩ (.slice A4 n c4)) :=
    (((((Chg.refl (fun k => k = w.heap.size ∨ k = w.heap.size + 1) w4).setCell (p := ⟨w.heap.size, 2, none⟩) (fun _ => .inl rfl) _).setCell (p := ⟨w.heap.size + 1, 0, none⟩) (fun _ => .inr rfl) _).setCell (p := ⟨w.heap.size + 1, 1, none⟩) (fun _ => .inr rfl) _).setCell (p := ⟨w.heap.size + 1, 2, none⟩) (fun _ => .inr rfl) _)
  refine ⟨A4, c4, rfl, own_base (own_chg HO4.out hch fun g hg => ?_) (by omega), ?_⟩
  · have := (HO4.out.lt g hg).1
    omega
  · exact ((((HB4.out.setCell (by simp) _).setCell (by simp) _).setCell (by simp) _).setCell (by simp) _)
theorem has_y (F : Nat → Prop) (w : World) (p : Nat) (r : Option Nat) (P : List Msg) (h : IsNetF 46 F w p r P) (i : Int) :
    Calls Try.prog 42 #[.pointer (some ⟨p, 0, none⟩), .int .i64 i] w fun e w' => e = .returned (.bool (inP P i)) ∧ w = w' := by
  obtain ⟨A, c, hc, h1, h2⟩ := h.slot
  unfold inP
  by_cases h3 : 0 ≤ i
  · by_cases h4 : i < (P.length : Int)
    · go_enter Try.func42, Try.ntmps42
      go_wp2_with (fail)
      go_ret
      exact ⟨ret_bool (by simp [h3, h4]), rfl⟩
    · go_enter Try.func42, Try.ntmps42
      go_wp2_with (fail)
      go_ret
      exact ⟨ret_bool (by simp [h3, h4]), rfl⟩
  · go_enter Try.func42, Try.ntmps42
    go_wp2_with (fail)
    go_ret
    exact ⟨ret_bool (by simp; omega), rfl⟩
set_option maxHeartbeats 1000000 in
set_option maxRecDepth 100000 in
theorem send_y (F : Nat → Prop) (w : World) (hF : ∀ g, F g → g < w.heap.size) (p : Nat) (r : Option Nat) (P : List Msg) (hN : IsNetF 46 F w p r P) (x y : Int) (B n c : Nat) (A : Option Addr) (bs : List UInt8) (h : Bs w B A n bs) (hA : A = none → c = 0) (hB : B ≤ w.heap.size) (hn : n ≤ 9223372036854775807) (hP : P.length ≤ 256) :
    Calls Try.prog 22 #[.pointer (some ⟨p, 0, none⟩), .int .i64 x, .int .i64 y, .slice A n c] w (NetPostF 46 F w p r (.int .i64 (sent P (x, y, bs)).1) (sent P (x, y, bs)).2) := by
  have hl := h.len_
  by_cases h1 : 32768 < n
  · have h1' : (32768 : Int) < (n : Int) := by omega
    go_enter Try.func22, Try.ntmps22
    go_wp2_with (fail)
    go_ret
    rw [show sent P (x, y, bs) = (1, P) from if_pos (by simp only [hl]; exact h1)]
    exact ⟨r, rfl, hN, Chg.refl _ _, .inl rfl⟩
  · have h1' : ¬ (32768 : Int) < (n : Int) := by omega
    obtain ⟨A0, c0, hc0, hcl, hcm⟩ := hN.slot
    by_cases h2 : 256 ≤ P.length
    · have hz : ((P.length : Int) == 256) = true := by simp; omega
      go_enter Try.func22, Try.ntmps22
      go_wp2_with (fail)
      go_ret
      rw [show sent P (x, y, bs) = (12, P) from (if_neg (by simp only [hl]; exact h1)).trans (if_pos h2)]
      exact ⟨r, rfl, hN, Chg.refl _ _, .inl rfl⟩
    · rw [show sent P (x, y, bs) = (0, P ++ [(x, y, bs)]) from (if_neg (by simp only [hl]; exact h1)).trans (if_neg h2)]
      clear A0 c0 hc0 hcl hcm
      have hpl := hN.lt
      obtain ⟨v, K, hp, hown, hKF, rfl, hr⟩ := hN
      have hK : ∀ k ∈ K, PkOk w k := fun k hk => (hKF k hk).1
      have HKF := Lib.hid (show ∀ k ∈ K, ∀ g, (Value.slice k.a k.n k.c).ownBlock = some g → ¬ F g from fun k hk => (hKF k hk).2)
      clear hKF
      obtain ⟨vA, vc, rfl, hv1, hv2, _⟩ := hown.form
      have c0 : w.cell? ⟨p, 0, none⟩ = some (.slice vA K.length vc) := by rw [cell_of_row _ _ _ _ _ _ hp]; rfl
      have hK256 : K.length < 256 := by simpa using h2
      have hk1 : ((K.length : Int) == 256) = false := by simp; omega
      have hcl := copied_y w.drew x y B n c A bs h.drew hA hB (by omega)
      have HCL := Lib.hid hcl
      have HOWN := Lib.hid hown
      have HPK := Lib.hid hK
      have HP := Lib.hid hp
      clear hcl h hown hp hK h2 hP
      go_enter Try.func22, Try.ntmps22
      go_wp2_with (fail)
      have q0 := Wb.at_ c0
      refine wp_region_plan [([0, 1, 2, 3, 4, 5, 6, 7, 8], some (9, false)), ([], some (10, false)), ([], some (11, true)), ([12, 13], some (14, true)), ([], none)] (by kernel_rfl) (by kernel_rfl) ?_
      refine seg_act _ (by dsimp only [pick, at_]) _ (by dsimp only [pick, at_]) ?_
      repeat (go_big_quiet_step (fail))
      refine wpQuiet_nil ?_
      intro K1 h1 h2
      clear h1
      go_wp2_with (fail)
      refine HCL.out.mono ?_
      rintro e w1 ⟨A', c', rfl, hown1, hb1⟩
      have hb2 : Below w.heap.size w w1 := (Below.refl _ _).drew.trans hb1
      go_wp2_with (fail)
      refine h2 _ _ hb2 ?_
      clear h2 q0
      refine seg_act _ (by dsimp only [pick, at_]) _ (by dsimp only [pick, at_]) ?_
      repeat (go_big_quiet_step (fail))
      refine wpQuiet_nil ?_
      intro K2 h1 h2
      clear h1
      go_wp2_with (fail)
      obtain ⟨w2, hw2⟩ : ∃ w2, w1.alloc (.cells #[.int .i64 x, .int .i64 y, .slice A' n c'] 32) = w2 := ⟨_, rfl⟩
      have hb3 : Below w1.heap.size w1 w2 := by rw [← hw2]; exact (Below.refl _ _).alloc (Nat.le_refl _) _
      have g0 : w2.heap[w1.heap.size]? = some (.cells #[.int .i64 x, .int .i64 y, .slice A' n c'] 32 (0, 0)) := by rw [← hw2]; exact alloc_new _ _
      have hs2 : w2.heap.size = w1.heap.size + 1 := by rw [← hw2]; simp
      rw [hw2]
      refine h2 _ _ hb3 ?_
      clear h2 hw2
      have hs1 := hb2.size
      have hall : Below w.heap.size w w2 := hb2.trans (hb3.mono (by omega))
      have hown2 := HOWN.out.below hall (Nat.le_refl _)
      have hp2 : w2.heap[p]? = some (.cells #[.slice vA K.length vc] 46 (0, 0)) := blk_below hall HP.out hpl
      have hpk2 : ∀ k ∈ K, PkOk w2 k := fun k hk => own_keep (HPK.out k hk) hall (Nat.le_refl _)
      have hnew2 : w2.ownsRow w.heap.size 5 1 (.slice A' n c') n (u8s bs) := own_base (own_keep hown1 hb3 (Nat.le_refl _)) (Nat.le_refl _)
      have hnews : Rd w2 w2.heap.size (some ⟨w1.heap.size, 0, none⟩) 3 [.int .i64 x, .int .i64 y, .slice A' n c'] := ⟨rfl, fun j hj => ⟨w1.heap.size, 0, _, rfl, blk_lt g0, List.getElem?_eq_getElem (by simpa using hj), by
        rw [Nat.zero_add, cell_of_row _ _ _ _ _ _ g0, ← List.getElem?_eq_getElem (by simpa using hj)]; simp⟩⟩
      have hsl : w.heap.size ≤ w2.heap.size := by omega
      have HNEW := Lib.hid hnew2
      have HNEWF := Lib.hid (show ∀ g, (Value.slice A' n c').ownBlock = some g → ¬ F g from fun g hg e => by
        have h1 := (hnew2.lt g hg).1
        have h2 := hF g e
        omega)
      have HPK2 := Lib.hid hpk2
      have HALL := Lib.hid hall
      have HP2 := Lib.hid hp2
      obtain ⟨i0, hi, hz0, hz1, hz2⟩ := info_parts infoP
      clear hown1 hb1 hb2 hb3 hnew2 hpk2 hall hp2 HCL
      refine seg_write _ (by dsimp only [pick, at_]) _ (by dsimp only [pick, at_]) ?_
      refine wpQuiet_nil ?_
      intro K3 h3
      refine wpList_append_row _ rfl (.tmp 22) (.tmp 28) 44 rfl 32 i0 _ 3 40 Try.underlying44 hi hz0 hz1 hz2 rfl (by decide) _ K.length (pcells K) (by rfl) hown2 _ _ 1 1 (fun e => by cases e) _ (by rfl) hnews (by intro u hu; simp at hu; rcases hu with rfl | rfl | rfl <;> rfl) (by unfold maxLen; omega) (by omega) ?_
      intro v3 w3 hown3 hgrow hat hnn
      obtain ⟨g, cap, rfl, hlt, hcap1, hcap2⟩ := hown3.pos (by omega)
      have hown3' : Row w3 32 3 (.slice (some ⟨g, 0, none⟩) (K.length + 1) cap) (K.length + 1) (pcells (K ++ [⟨x, y, A', n, c', bs⟩])) := by
        rw [pcells_append]; exact hown3
      have hat : (Value.slice vA K.length vc).ownBlock = some g ∨ g = w2.heap.size := hat.imp (fun e => e.symm) (fun e => by injection e)
      have hpv : ∀ g', (Value.slice vA K.length vc).ownBlock = some g' → p ≠ g' := fun g' hg' => by
        obtain ⟨cur, hc⟩ := HOWN.out.type hg'
        exact blk_type HP.out hc (by decide)
      have hp3 : w3.heap[p]? = some (.cells #[.slice vA K.length vc] 46 (0, 0)) :=
        (hgrow.block p (by omega) (fun e => hpv p e.symm rfl)).trans HP2.out
      have hc3 : w3.cell? ⟨p, 0, none⟩ = some (.slice vA K.length vc) := by rw [cell_of_row _ _ _ _ _ _ hp3]; rfl
      have hf3 : w3.frozen? ⟨p, 0, none⟩ = false := frozen_of_row _ _ _ _ _ hp3
      have hch3 : Chg (fun b => b = p ∨ some b = r) w w3 := ((Chg.of_below HALL.out).mono (fun _ _ e => e.elim)).grown hgrow (fun k hk _ => .inr (by rw [← hr, hk]))
      have hpg : p ≠ g := by
        rcases hat with e | e
        · exact hpv g e
        · omega
      have hk3 : ∀ k ∈ K ++ [⟨x, y, A', n, c', bs⟩], PkOk w3 k := fun k hk => by
        have h0 : w2.ownsRow 0 5 1 (.slice k.a k.n k.c) k.n (u8s k.bs) := by
          rcases List.mem_append.1 hk with hk | hk
          · exact HPK2.out k hk
          · simp at hk; subst hk; exact own_base HNEW.out (Nat.zero_le _)
        refine h0.kept hgrow ?_
        cases hx : (Value.slice k.a k.n k.c).ownBlock with
        | none => exact .inl rfl
        | some gx =>
          refine .inr fun e => ?_
          obtain ⟨cx, hcx⟩ := own_type h0 hx
          obtain ⟨cy, hcy⟩ := hown2.type e.symm
          exact blk_type hcx hcy (by decide) rfl
      have HOWN3 := Lib.hid hown3'
      have HK3 := Lib.hid hk3
      have HCH3 := Lib.hid hch3
      have HP3 := Lib.hid hp3
      clear hown3 hown3' hk3 hch3 hp3 hown2 HNEW HPK2 HALL HP2 hgrow hnews g0
      go_wp2_with (fail)
      refine seg_write _ (by dsimp only [pick, at_]) _ (by dsimp only [pick, at_]) ?_
      repeat (go_big_quiet_step (fail))
      refine wpQuiet_nil ?_
      intro K4 h4
      go_wp2_with (fail)
      refine seg_end _ (by dsimp only [pick, at_]) ?_
      refine wpQuiet_nil (NoPanic.normal ?_)
      go_wp2_with (fail)
      go_ret
      have hpost : w3.heap.size ≤ (w3.setCell ⟨p, 0, none⟩ (.slice (some ⟨g, 0, none⟩) (K.length + 1) cap)).heap.size := by simp [World.setCell]
      refine ⟨some g, rfl, ⟨_, K ++ [⟨x, y, A', n, c', bs⟩], heap_setCell_same _ _ _ _ _ _ HP3.out, ?_, fun k hk => ⟨?_, ?_⟩, by simp [Pk.msg], rfl⟩, HCH3.out.setCell (fun _ => .inl rfl) _, ?_⟩
      · have := HOWN3.out.chg ((Chg.refl (fun b => b = p) w3).setCell (p := ⟨p, 0, none⟩) (fun _ => rfl) (.slice (some ⟨g, 0, none⟩) (K.length + 1) cap)) (fun g' hg' e => hpg (by cases hg'; exact e.symm))
        simpa using this
      · refine own_chg (HK3.out k hk) ((Chg.refl (fun b => b = p) w3).setCell (p := ⟨p, 0, none⟩) (fun _ => rfl) _) (fun g' hg' e => ?_)
        obtain ⟨cx, hcx⟩ := own_type (HK3.out k hk) hg'
        exact blk_type hcx HP3.out (by decide) e
      · rcases List.mem_append.1 hk with hk | hk
        · exact HKF.out k hk
        · simp at hk; subst hk; exact HNEWF.out
      · rcases hat with e | e
        · exact .inl (e.symm.trans hr)
        · exact .inr ⟨g, rfl, by omega⟩
end Go.Proofs.Ytcebmlcdhapnkaa.net
