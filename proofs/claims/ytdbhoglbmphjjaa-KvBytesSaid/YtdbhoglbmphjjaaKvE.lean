/-
  A placement as bytes: the program's Encode.
-/
import Derived.Test.YtdbhoglbmphjjaaKvM
import Derived.Test.YtdbhoglbmphjjaaUvC
import Derived.Test.YtdbhoglbmphjjaaRow
import Derived.Test.YtdbhoglbmphjjaaPmC
namespace Go.Proofs.Ytdbhoglbmphjjaa.kv
open Go.ChangeShapes Go.WideShapes Go.ChangeAt Go.RowKit plain words ord mem uvs uvc pm

/-- a variable at block g that holds bytes in a row of its own, from block B on -/
def OutV (w : World) (g B : Nat) (l : List UInt8) : Prop :=
  ∃ A c, w.heap[g]? = some (.cells #[.slice A l.length c] 26 (0, 0)) ∧ w.ownsRow B 5 1 (.slice A l.length c) l.length (u8s l)
/-- what may change: the variable, and rows of bytes from B on -/
def TB (w : World) (g B k : Nat) : Prop := k = g ∨ (B ≤ k ∧ ∃ cur, w.heap[k]? = some (.cells cur 5 (0, 0)))
/-- bytes are added to the variable -/
def RetOut (w : World) (g B : Nat) (l : List UInt8) (e : Ending) (w' : World) : Prop := e = .returned (.tuple #[]) ∧ OutV w' g B l ∧ Chg (TB w g B) w w'
theorem own_fit {w : World} {B n : Nat} {v : Value} {l : List UInt8} (hl : l.length = n) (h : w.ownsRow B 5 1 v n (u8s l)) : ∃ A c, v = .slice A n c ∧ (A = none → c = 0) ∧ n ≤ c ∧ c ≤ 9223372036854775807 := by
  rcases own_form h with ⟨rfl, e0⟩ | ⟨g, cap, rfl, _, _, h1, h2⟩
  · exact ⟨none, 0, by rw [e0], fun _ => rfl, by omega, by omega⟩
  · unfold maxLen at h2
    exact ⟨_, cap, rfl, (fun e => by cases e), h1, h2⟩
theorem chg_set (w : World) (g o : Nat) (u : Value) : Chg (fun k => k = g) w (w.setCell ⟨g, o, none⟩ u) := Chg.setCell (S := fun k => k = g) (Chg.refl _ _) (p := ⟨g, o, none⟩) (fun _ => rfl) u
theorem out_put {w w2 : World} {g B n : Nat} {v0 v2 : Value} {l : List UInt8} (hg : w2.heap[g]? = some (.cells #[v0] 26 (0, 0))) (ho : w2.ownsRow B 5 1 v2 n (u8s l)) (hl : l.length = n) (hb : Chg (TB w g B) w w2) (hgB : g < B) :
    RetOut w g B l (.returned (.tuple #[])) (w2.setCell ⟨g, 0, none⟩ v2) := by
  subst hl
  obtain ⟨A, c, rfl, _⟩ := own_fit rfl ho
  refine ⟨rfl, ⟨A, c, ?_, own_chg ho (chg_set w2 g 0 _) (fun k hk e => by have := (ho.lt k hk).1; omega)⟩, hb.setCell (p := ⟨g, 0, none⟩) (fun _ => .inl rfl) _⟩
  have := heap_setCell_same w2 g 0 _ _ (.slice A l.length c) hg
  simpa using this
set_option maxHeartbeats 1000000 in
set_option maxRecDepth 100000 in
theorem num_c (w : World) (g B : Nat) (l : List UInt8) (z : Nat) (h : OutV w g B l) (hgB : g < B) (hB : B ≤ w.heap.size) (hn : l.length ≤ 1000000000) (hz : z ≤ 9223372036854775807) :
    Calls Try.prog 11 #[.int .i64 z, .pointer (some ⟨g, 0, none⟩)] w (RetOut w g B (l ++ uv z)) := by
  obtain ⟨i0, hi, hz0, hz1, hz2⟩ := info_parts mem.infoB
  obtain ⟨A, c, hg, ho⟩ := h
  have hgl := blk_lt hg
  have c0 : w.cell? ⟨g, 0, none⟩ = some (.slice A l.length c) := by rw [cell_of_row _ _ _ _ _ _ hg]; rfl
  have huv := uvarint_x w.drew 0 0 0 none [] z (Rd.nil _ _ _) (Nat.zero_le _) (by omega) (by omega)
  rw [List.nil_append] at huv
  have hul := uv_len z
  have hz' : (z : Int) % 18446744073709551616 = (z : Int) := by omega
  have HUV := Lib.hid huv
  have HUL := Lib.hid hul
  have HG := Lib.hid hg
  have HO := Lib.hid ho
  obtain ⟨L, hL⟩ : ∃ L, l.length = L := ⟨_, rfl⟩
  rw [hL] at HG HO c0 hn
  have HL := Lib.hid hL
  have z0 := Wb.at_ c0
  clear huv hul hg ho hL
  go_enter Try.func11, Try.ntmps11
  go_wp2_with (fail)
  refine wp_region_plan [([0, 1, 2], some (3, false)), ([], some (4, true)), ([], some (5, true)), ([], none)] (by kernel_rfl) (by kernel_rfl) ?_
  refine seg_act _ (by dsimp only [pick, ord.at_]) _ (by dsimp only [pick, ord.at_]) ?_
  repeat (go_big_quiet_step (fail))
  refine wpQuiet_nil ?_
  intro K1 h1 h2
  clear h1
  go_wp2_with (fail)
  refine HUV.out.mono ?_
  rintro e w1 ⟨A', c', rfl, hown, hb⟩
  have hrd := own_rd hown
  have hL2 := HUL.out
  have hs1 : w.heap.size ≤ w1.heap.size := hb.size
  have ho1 : w1.ownsRow B 5 1 (.slice A L c) L (u8s l) := own_keep HO.out (show Below w.heap.size w w1 from (Below.refl _ _).drew.trans hb) (Nat.le_refl _)
  have g1 : w1.heap[g]? = some (.cells #[.slice A L c] 26 (0, 0)) := blk_below hb HG.out hgl
  have HB1 := Lib.hid hb
  clear hb z0 c0
  go_wp2_with (fail)
  refine h2 _ _ (by exact (Below.refl _ _).drew.trans HB1.out) ?_
  refine seg_write _ (by dsimp only [pick, ord.at_]) _ (by dsimp only [pick, ord.at_]) ?_
  repeat (go_big_quiet_step (fail))
  refine wpQuiet_nil ?_
  intro K2 g2
  go_wp2_with (at_builtin; (refine wpList_append_rd rfl (.tmp 3) (.tmp 6) 26 rfl B 5 i0 (.int .u8 0) 1 1 Try.underlying26 hi hz0 hz1 hz2 rfl (by decide) (.slice A L c) L (u8s l) rfl ho1 w1.heap.size A' (uv z).length c' (fun e => by
      rcases own_form hown with ⟨e', _⟩ | ⟨g, cap, e', _⟩
      · injection e'
      · rw [e] at e'; injection e' with e'; cases e') (u8s (uv z)) rfl hrd (u8s_one _) (by unfold maxLen; omega) (by omega) (by omega) ?_; intro v2 w2 hown2 hg2 hnn2; have gb2 : w2.heap[g]? = some (.cells #[.slice A L c] 26 (0, 0)) := (hg2.block g (blk_lt g1) (fun e => by have := (ho1.lt g e.symm).1; omega)).trans g1; have hbg2 : Chg (TB w g B) w w2 := ((Chg.of_below (show Below w.heap.size w w1 from (Below.refl _ _).drew.trans HB1.out)).mono (fun _ _ e => e.elim)).grown hg2 (fun k hk _ => .inr ⟨(ho1.lt k hk).1, own_type HO.out hk⟩); have c2 : w2.cell? ⟨g, 0, none⟩ = some (.slice A L c) := (by rw [cell_of_row _ _ _ _ _ _ gb2]; rfl); have f2 := frozen_of_row w2 g 0 _ _ gb2))
  have hlen : (l ++ uv z).length = L + (uv z).length := by rw [List.length_append, HL.out]
  have HF := Lib.hid (out_put (w := w) (l := l ++ uv z) gb2 (by rw [u8s_append]; exact hown2) hlen hbg2 hgB)
  obtain ⟨A2, cc2, rfl, _⟩ := own_fit hlen (by rw [u8s_append]; exact hown2)
  clear hown2 hg2 hnn2 gb2 hbg2 hown hrd hlen ho1 g1
  refine seg_write _ (by dsimp only [pick, ord.at_]) _ (by dsimp only [pick, ord.at_]) ?_
  repeat (go_big_quiet_step (fail))
  refine wpQuiet_nil ?_
  intro K3 g3
  go_wp2_with (fail)
  refine seg_end _ (by dsimp only [pick, ord.at_]) ?_
  repeat (go_big_quiet_step (fail))
  refine wpQuiet_nil (NoPanic.normal ?_)
  go_wp2_with (fail)
  go_end0
  exact HF.out

theorem put_x (w : World) (g : Nat) (l : List UInt8) (z : Int) (h : OutV w g (g + 1) l) (hn : l.length ≤ 1000000000) (h0 : 0 ≤ z) (h1 : z ≤ 1099511627776) :
    Calls Try.prog 11 #[.int .i64 z, .pointer (some ⟨g, 0, none⟩)] w (RetOut w g (g + 1) (l ++ num z)) := by
  obtain ⟨A, c, hg, ho⟩ := h
  have := num_c w g (g + 1) l z.toNat ⟨A, c, hg, ho⟩ (by omega) (blk_lt hg) hn (by omega)
  rwa [Int.toNat_of_nonneg h0] at this
noncomputable def encE (p : Pl) : Int := if chk p = 0 then 0 else 50
noncomputable def encB (p : Pl) : List UInt8 := if chk p = 0 then encP p else []
def RetEnc (w : World) (p : Pl) (e : Ending) (w' : World) : Prop :=
  ∃ A c, e = .returned (.tuple #[.slice A (encB p).length c, .int .i64 (encE p)]) ∧ w'.ownsRow w.heap.size 5 1 (.slice A (encB p).length c) (encB p).length (u8s (encB p)) ∧ Below w.heap.size w w' ∧ (A = none → c = 0)
theorem ret_bad {w w' : World} {p : Pl} (h : chk p ≠ 0) (hb : Below w.heap.size w w') : RetEnc w p (.returned (.tuple #[.slice none 0 0, .int .i64 50])) w' := by
  have e1 : encB p = [] := by unfold encB; rw [if_neg h]
  have e2 : encE p = 50 := by unfold encE; rw [if_neg h]
  refine ⟨none, 0, by rw [e1, e2]; rfl, ?_, hb, fun _ => rfl⟩
  rw [e1]
  exact ⟨by simp [u8s], .inl ⟨rfl, rfl⟩⟩
theorem encN_len (l : List Int) : (encN l).length ≤ 10 * l.length := by
  induction l with
  | nil => simp [encN]
  | cons z l ih =>
    have e : encN (z :: l) = num z ++ encN l := by simp [encN]
    have := num_len z
    rw [e, List.length_append, List.length_cons]; omega
theorem encO_len (o : O) : (encO o).length ≤ 30 := by
  have h1 := num_len o.1; have h2 := num_len o.2.1; have h3 := num_len (o.2.2 + 1)
  unfold encO; simp only [List.length_append]; omega
theorem encOs_len (l : List O) : (encOs l).length ≤ 30 * l.length := by
  induction l with
  | nil => simp [encOs]
  | cons z l ih =>
    have e : encOs (z :: l) = encO z ++ encOs l := by simp [encOs]
    have := encO_len z
    rw [e, List.length_append, List.length_cons]; omega
theorem encSs_len (l : List (List O)) (h : ∀ q ∈ l, q.length ≤ 8) : (encSs l).length ≤ 250 * l.length := by
  induction l with
  | nil => simp [encSs]
  | cons z l ih =>
    have e : encSs (z :: l) = num z.length ++ encOs z ++ encSs l := by simp [encSs, encS]
    have h1 := num_len z.length
    have h2 := encOs_len z
    have h3 := h z (by simp)
    have := ih fun q hq => h q (by simp [hq])
    rw [e, List.length_append, List.length_append, List.length_cons]; omega
theorem encN_succ {l : List Int} {i : Nat} {z : Int} (h : l[i]? = some z) : encN (l.take (i + 1)) = encN (l.take i) ++ num z := by
  rw [List.take_add_one, h]; simp [encN]
theorem encOs_succ {l : List O} {i : Nat} {z : O} (h : l[i]? = some z) : encOs (l.take (i + 1)) = encOs (l.take i) ++ num z.1 ++ num z.2.1 ++ num (z.2.2 + 1) := by
  rw [List.take_add_one, h]; simp [encOs, encO]
theorem encSs_succ {l : List (List O)} {i : Nat} {z : List O} (h : l[i]? = some z) : encSs (l.take (i + 1)) = encSs (l.take i) ++ num z.length ++ encOs z := by
  rw [List.take_add_one, h]; simp [encSs, encS]
/-- the placement's copy, and the bytes so far -/
structure KE (w0 w : World) (v : PV) (g : Nat) (l : List UInt8) : Prop where
  row : pm.Boxed w w0.heap.size v
  out : OutV w g (g + 1) l
  bel : Below w0.heap.size w0 w
  lo : w0.heap.size < g
  sz : l.length ≤ 1000000
theorem KE.step {w0 w w' : World} {v : PV} {g : Nat} {l l' : List UInt8} (h : KE w0 w v g l) {e : Ending} (hr : RetOut w g (g + 1) l' e w') (hl : l'.length ≤ 1000000) : e = .returned (.tuple #[]) ∧ KE w0 w' v g l' ∧ (∀ b x y z, IsV3 41 w b x y z → IsV3 41 w' b x y z) := by
  obtain ⟨h1, h2, h3⟩ := hr
  have hs := h.bel.size
  have hlo := h.lo
  refine ⟨h1, ⟨h3.blk h.row (fun e => by rcases e with e | ⟨e, _⟩ <;> omega), h2, h.bel.trans (h3.below hs (fun k hk => ?_)), h.lo, hl⟩, fun b x y z hb => h3.blk hb (fun e => ?_)⟩
  · rcases hk with e | ⟨e, _⟩ <;> omega
  · obtain ⟨A, c, hg, _⟩ := h.out
    rcases e with rfl | ⟨_, cur, hc⟩
    · exact blk_type hb hg (by decide) rfl
    · exact blk_type hb hc (by decide) rfl
theorem KE.put {w0 w : World} {v : PV} {g : Nat} {l : List UInt8} (h : KE w0 w v g l) (z : Int) (h0 : 0 ≤ z) (h1 : z ≤ 1099511627776) (hl : l.length ≤ 999990) :
    Calls Try.prog 11 #[.int .i64 z, .pointer (some ⟨g, 0, none⟩)] w fun e w' => e = .returned (.tuple #[]) ∧ KE w0 w' v g (l ++ num z) ∧ (∀ b x y z, IsV3 41 w b x y z → IsV3 41 w' b x y z) :=
  (put_x w g l z h.out (by omega) h0 h1).mono fun e w' hr => h.step hr (by have := num_len z; rw [List.length_append]; omega)
theorem KE.alloc {w0 w : World} {v : PV} {g : Nat} {l : List UInt8} (h : KE w0 w v g l) (o : Obj) : KE w0 (w.alloc o) v g l := by
  obtain ⟨A, c, hg, ho⟩ := h.out
  exact ⟨alloc_old _ h.row, ⟨A, c, alloc_old _ hg, own_keep ho (below_al _ _) (Nat.le_refl _)⟩, h.bel.alloc h.bel.size _, h.lo, h.sz⟩
set_option maxHeartbeats 4000000 in
set_option maxRecDepth 100000 in
theorem encode_x (w : World) (B : Nat) (v : PV) (h : PVok w B v) (hB : B ≤ w.heap.size) :
    Calls Try.prog 5 #[v.val] w (RetEnc w v.pl) := by
  obtain ⟨wa, hwa⟩ : ∃ wa, w.alloc (boxO v) = wa := ⟨_, rfl⟩
  have hba : Below w.heap.size w wa := by rw [← hwa]; exact below_al _ _
  have gp : pm.Boxed wa w.heap.size v := by rw [← hwa]; exact alloc_new _ _
  have hsa := hba.size
  have hla : w.heap.size < wa.heap.size := blk_lt gp
  have HCK := Lib.hid (pcheck_x wa B v (h.below hba hB) (by omega))
  have HOK := Lib.hid (fun (u : World) (hu : Below w.heap.size w u) => h.below hu hB)
  obtain ⟨ck, hck⟩ : ∃ ck, chk v.pl = ck := ⟨_, rfl⟩
  rw [hck] at HCK
  have HCKE := Lib.hid hck
  have HBA := Lib.hid hba
  have GP := Lib.hid gp
  have HWA := Lib.hid hwa
  obtain ⟨⟨c0, c1, c2⟩, _⟩ := isv3_cells gp
  clear hck hba gp hwa h
  obtain ⟨p, hp⟩ : ∃ p, v.pl = p := ⟨_, rfl⟩
  rw [hp] at HCKE ⊢
  have HP := Lib.hid hp
  have hvl : v.rs.length = p.ss.length := by rw [← hp]; simp [PV.pl]
  have hvn : v.nodes = p.nodes := by rw [← hp]; rfl
  have HVL := Lib.hid hvl
  have HVN := Lib.hid hvn
  clear hp hvl hvn
  obtain ⟨v', hv'⟩ : ∃ v', v = v' := ⟨_, rfl⟩
  have HV := Lib.hid hv'
  obtain ⟨ver, nA, nc, nodes, sA, sc, rs⟩ := v
  simp only [PV.val, boxO] at HCK HWA c0 c1 c2 ⊢
  clear hv'
  have HBA2 := Lib.hid (fun (u : World) (hu : Below wa.heap.size wa u) => HBA.out.trans (hu.mono hsa))
  go_enter Try.func5, Try.ntmps5
  go_wp2_with (fail)
  rw [HWA.out]
  refine HCK.out.mono ?_
  rintro e wb ⟨rfl, hb⟩
  have HBB := Lib.hid (HBA2.out wb hb)
  have hsb := hb.size
  by_cases hk0 : ck = 0
  · subst hk0
    have hpok := chk_iff.1 HCKE.out
    have HPOK := Lib.hid hpok
    have HS := Lib.hid (small_ok hpok)
    obtain ⟨wc, hwc⟩ : ∃ wc, wb.alloc (.cells #[.slice none 0 0] 26) = wc := ⟨_, rfl⟩
    obtain ⟨g, hg⟩ : ∃ g, wb.heap.size = g := ⟨_, rfl⟩
    have KWC := Lib.hid (show KE w wc v' g [] by
      rw [← hwc, ← hg, ← HV.out]
      exact ⟨alloc_old _ (blk_below hb GP.out hla), ⟨none, 0, alloc_new _ _, by simp [u8s], .inl ⟨rfl, rfl⟩⟩, HBB.out.alloc HBB.out.size _, by omega, by simp⟩)
    obtain ⟨N, hN⟩ : ∃ N, nodes.length = N := ⟨_, rfl⟩
    have hnN : nodes = p.nodes := HVN.out
    have HN := Lib.hid hN
    obtain ⟨M, hM⟩ : ∃ M, rs.length = M := ⟨_, rfl⟩
    have HM := Lib.hid hM
    rw [hN] at c1
    rw [hM] at c2
    have hN8 : N ≤ 8 := by rw [← hN, hnN]; exact ok_nl hpok
    have hM8 : M ≤ 8 := by rw [← hM]; exact Nat.le_trans (Nat.le_of_eq HVL.out) hpok.few
    have HVC := Lib.hid (fun (l : List UInt8) (u : World) (hu : KE w u v' g l) => by
      have := hu.row
      rw [← HV.out] at this
      simpa only [hN, hM] using (isv3_cells this).1)
    have HNN := Lib.hid hnN
    have hvb := HS.out.ver
    rw [← HP.out] at hvb
    simp only [PV.pl] at hvb
    clear hpok hb hN hM c0 c1 c2 hnN
    have hgl : w.heap.size < g := KWC.out.lo
    have q1 := HVC.out _ _ KWC.out
    obtain ⟨c0, c1, c2⟩ := q1
    have hlc : w.heap.size < wc.heap.size := blk_lt KWC.out.row
    have HP1 := Lib.hid (KWC.out.put ver hvb.1 hvb.2 (by simp))
    go_wp2_with (fail)
    clear hwc hg
    refine HP1.out.mono ?_
    rintro e w1 ⟨rfl, hk, _⟩
    have K1 := Lib.hid hk
    have hl1 : w.heap.size < w1.heap.size := blk_lt hk.row
    clear hk c0 c1 c2
    obtain ⟨c0, c1, c2⟩ := HVC.out _ _ K1.out
    have HP2 := Lib.hid (K1.out.put (N : Int) (by omega) (by omega) (by have := num_len ver; simp; omega))
    go_wp2_with (fail)
    refine HP2.out.mono ?_
    rintro e w2 ⟨rfl, hk, _⟩
    have hl2 : w.heap.size < w2.heap.size := blk_lt hk.row
    obtain ⟨P, hP⟩ : ∃ P, [] ++ num ver ++ num (N : Int) = P := ⟨_, rfl⟩
    rw [hP] at hk
    have hPl : P.length ≤ 20 := by rw [← hP]; have := num_len ver; have := num_len (N : Int); simp; omega
    have HPP := Lib.hid hP
    have K2 := Lib.hid hk
    clear hk c0 c1 c2 hP
    obtain ⟨c0, c1, c2⟩ := HVC.out _ _ K2.out
    have K2' := Lib.hid (show KE w w2 v' g (P ++ encN (nodes.take 0)) by simpa [encN] using K2.out)
    go_wp2_with (fail)
    clear c0 c1 c2
    go_loopg [7, 28] N (fun gg s7 s28 wr => ∃ i : Nat, s28 = .int .i64 i ∧ i ≤ N ∧ N - i ≤ gg ∧ Aside (KE w wr v' g (P ++ encN (nodes.take i))))
    case atStart => exact ⟨0, rfl, by omega, by omega, K2'.out⟩
    case round =>
      obtain ⟨i, rfl, hi, hgg, HK⟩ := hrel
      have hlr : w.heap.size < wr.heap.size := blk_lt HK.out.row
      by_cases hlt : i < N
      · have hltz : (i : Int) < (N : Int) := by omega
        have i0 : (0 : Int) ≤ (i : Int) := by omega
        obtain ⟨x, hx⟩ : ∃ x, nodes[i]? = some x := ⟨_, List.getElem?_eq_getElem (by rw [HN.out]; exact hlt)⟩
        have hxs := HS.out.nodes x (by rw [← HNN.out]; exact List.mem_of_getElem? hx)
        have hok := HOK.out wr HK.out.bel
        obtain ⟨b, off, hA, hb, y0⟩ := num_at hok.n hx
        simp only at hA y0
        subst hA
        have hbw : b < wr.heap.size := by omega
        have hnl := encN_len (nodes.take i)
        have htl := List.length_take_le i nodes
        have HP3 := Lib.hid (HK.out.put x hxs.1 hxs.2 (by rw [List.length_append]; omega))
        have HES := Lib.hid (encN_succ hx)
        clear hok hx hxs hnl htl
        go_wp2_with (fail)
        refine HP3.out.mono ?_
        rintro e w3 ⟨rfl, hk, _⟩
        rw [List.append_assoc, ← HES.out] at hk
        have K3 := Lib.hid hk
        clear hk y0
        go_wp2_with (fail)
        go_roundg (N - (i + 1))
        case measure => omega
        case rel => exact ⟨i + 1, by go_num, by omega, by omega, K3.out⟩
      · obtain rfl : i = N := by omega
        have hltz : ¬ (i : Int) < (i : Int) := by omega
        obtain ⟨P2, hP2⟩ : ∃ P2, P ++ encN nodes = P2 := ⟨_, rfl⟩
        have HK4 := Lib.hid (show KE w wr v' g P2 by
          have := HK.out
          rw [show nodes.take i = nodes from List.take_of_length_le (by rw [HN.out]; exact Nat.le_refl _), hP2] at this
          exact this)
        have hP2l : P2.length ≤ 100 := by rw [← hP2, List.length_append]; have := encN_len nodes; rw [HN.out] at this; omega
        have HPP2 := Lib.hid hP2
        obtain ⟨c0, c1, c2⟩ := HVC.out _ _ HK4.out
        have HP3 := Lib.hid (HK4.out.put (M : Int) (by omega) (by omega) (by omega))
        clear HK hP2
        go_wp2_with (fail)
        refine HP3.out.mono ?_
        rintro e w4 ⟨rfl, hk, _⟩
        have hl4 : w.heap.size < w4.heap.size := blk_lt hk.row
        obtain ⟨P3, hP3⟩ : ∃ P3, P2 ++ num (M : Int) = P3 := ⟨_, rfl⟩
        rw [hP3] at hk
        have hP3l : P3.length ≤ 110 := by rw [← hP3, List.length_append]; have := num_len (M : Int); omega
        have HPP3 := Lib.hid hP3
        have K4 := Lib.hid hk
        clear hk c0 c1 c2 hP3
        obtain ⟨c0, c1, c2⟩ := HVC.out _ _ K4.out
        have K4' := Lib.hid (show KE w w4 v' g (P3 ++ encSs (p.ss.take 0)) by simpa [encSs] using K4.out)
        go_wp2_with (fail)
        clear c0 c1 c2
        go_loopg [9, 11, 44, 54] M (fun gg s9 s11 s44 s54 wr => ∃ i : Nat, s44 = .int .i64 i ∧ i ≤ M ∧ M - i ≤ gg ∧ Aside (KE w wr v' g (P3 ++ encSs (p.ss.take i))))
        case atStart => exact ⟨0, rfl, by omega, by omega, K4'.out⟩
        case round =>
          obtain ⟨i, rfl, hi, hgg, HK⟩ := hrel
          obtain ⟨wx, hwx⟩ : ∃ wx, wx = wr := ⟨wr, rfl⟩
          obtain rfl := hwx
          have hlr : w.heap.size < wx.heap.size := blk_lt HK.out.row
          by_cases hlt : i < M
          · have hltz : (i : Int) < (M : Int) := by omega
            have i0 : (0 : Int) ≤ (i : Int) := by omega
            obtain ⟨r, hr⟩ : ∃ r, rs[i]? = some r := ⟨_, List.getElem?_eq_getElem (by rw [HM.out]; exact hlt)⟩
            have hli : p.ss[i]? = some r.l := by rw [← HP.out]; simp [PV.pl, hr]
            have hll := ok_ll (HPOK.out.each r.l (List.mem_of_getElem? hli))
            have hsm := (HS.out.each r.l (List.mem_of_getElem? hli)).2
            have hok := HOK.out wx HK.out.bel
            obtain ⟨b, off, hA, hb, l0, ho⟩ := hok.s.at_ hr
            simp only at hA
            subst hA
            have HO := Lib.hid (fun (u : World) (hu : Below w.heap.size w u) => show Ls OE u B r.A r.l.length r.l by obtain ⟨_, _, _, _, _, ho⟩ := (HOK.out u hu).s.at_ hr; exact ho.ls)
            have hol := ho.len
            have hsl := encSs_len (p.ss.take i) (fun q hq => ok_ll (HPOK.out.each q (List.mem_of_mem_take hq)))
            have htl := List.length_take_le i p.ss
            obtain ⟨rA, rc, L⟩ := r
            obtain ⟨m, hm⟩ : ∃ m, L.length = m := ⟨_, rfl⟩
            simp only [Rw3.val, hm] at l0 HO hol hli hll hsm
            have HSS := Lib.hid (encSs_succ hli)
            rw [hm] at HSS
            have HMm := Lib.hid hm
            have HSM := Lib.hid hsm
            have hbw : b < wx.heap.size := by omega
            obtain ⟨Q, hQ⟩ : ∃ Q, P3 ++ encSs (p.ss.take i) = Q := ⟨_, rfl⟩
            have hQl : Q.length ≤ 2200 := by rw [← hQ, List.length_append]; omega
            have HQ := Lib.hid hQ
            have HP4 := Lib.hid ((show KE w wx v' g Q by rw [← hQ]; exact HK.out).put (m : Int) (by omega) (by omega) (by omega))
            clear HK hr hli hm hok ho hsm hQ hsl htl
            go_wp2_with (fail)
            refine HP4.out.mono ?_
            rintro e w5 ⟨rfl, hk, _⟩
            obtain ⟨Q2, hQ2⟩ : ∃ Q2, Q ++ num (m : Int) = Q2 := ⟨_, rfl⟩
            rw [hQ2] at hk
            have hQ2l : Q2.length ≤ 2210 := by rw [← hQ2, List.length_append]; have := num_len (m : Int); omega
            have HQ2 := Lib.hid hQ2
            have K5 := Lib.hid (show KE w w5 v' g (Q2 ++ encOs (L.take 0)) by simpa [encOs] using hk)
            clear hk l0 hQ2
            go_wp2_with (fail)
            go_loopg [11, 54] m (fun gg3 s11 s54 wr => ∃ k : Nat, s54 = .int .i64 k ∧ k ≤ m ∧ m - k ≤ gg3 ∧ Aside (KE w wr v' g (Q2 ++ encOs (L.take k))))
            case atStart => exact ⟨0, rfl, by omega, by omega, K5.out⟩
            case round =>
              obtain ⟨k, rfl, hk, hgg3, HK⟩ := hrel
              by_cases hlt3 : k < m
              · have hltz3 : (k : Int) < (m : Int) := by omega
                have k0 : (0 : Int) ≤ (k : Int) := by omega
                obtain ⟨x, hx⟩ : ∃ x, L[k]? = some x := ⟨_, List.getElem?_eq_getElem (by rw [HMm.out]; exact hlt3)⟩
                obtain ⟨b3, off3, hA3, hb3, y0, y1, y2⟩ := own_at (HO.out wr HK.out.bel) hx
                subst hA3
                have hxs := HSM.out x (List.mem_of_getElem? hx)
                have hol2 := encOs_len (L.take k)
                have htl := List.length_take_le k L
                have HES := Lib.hid (encOs_succ hx)
                obtain ⟨x1, x2, x3⟩ := x
                simp only at y0 y1 y2 HES
                obtain ⟨wy, hwy⟩ : ∃ wy, wr.alloc (.cells #[.int .i64 x1, .int .i64 x2, .int .i64 x3] 41) = wy := ⟨_, rfl⟩
                have KY := Lib.hid (show KE w wy v' g (Q2 ++ encOs (L.take k)) by rw [← hwy]; exact HK.out.alloc _)
                have GY := Lib.hid (show IsV3 41 wy wr.heap.size (.int .i64 x1) (.int .i64 x2) (.int .i64 x3) by rw [← hwy]; exact alloc_new _ _)
                have hyl : wr.heap.size < wy.heap.size := blk_lt GY.out
                have hgr : g < wr.heap.size := by obtain ⟨_, _, q, _⟩ := HK.out.out; exact blk_lt q
                obtain ⟨⟨z0, z1, z2⟩, _⟩ := isv3_cells GY.out
                have hb3w : b3 < wr.heap.size := by have := HK.out.bel.size; omega
                have w1b : (-1 : Int) ≤ x3 ∧ x3 < 1099511627776 := hxs.2.2
                have hwrp : IntKind.i64.wrap (x3 + 1) = x3 + 1 := by rw [IntWalk.i64_in _ (by omega)]
                have hwrp2 : wrap64 (x3 + 1) = x3 + 1 := by rw [IntWalk.wrap64_in _ (by omega)]
                have HP5 := Lib.hid (KY.out.put x1 hxs.1.1 hxs.1.2 (by rw [List.length_append]; omega))
                have hxs2 := hxs.2.1
                have hTl : (Q2 ++ encOs (L.take k)).length ≤ 2500 := by rw [List.length_append]; omega
                clear hx hxs hol2 htl
                go_wp2_with (fail)
                refine HP5.out.mono ?_
                rintro e w6 ⟨rfl, hk6, ho6⟩
                have G6 := Lib.hid (ho6 _ _ _ _ GY.out)
                have hyl6 : wr.heap.size < w6.heap.size := blk_lt G6.out
                clear ho6
                have n1 := num_len x1
                have HP6 := Lib.hid (hk6.put x2 hxs2.1 hxs2.2 (by rw [List.length_append]; omega))
                clear hk6 y0 y1 y2 z0 z1 z2
                obtain ⟨⟨z0, z1, z2⟩, _⟩ := isv3_cells G6.out
                go_wp2_with (fail)
                refine HP6.out.mono ?_
                rintro e w7 ⟨rfl, hk7, ho7⟩
                have G7 := Lib.hid (ho7 _ _ _ _ G6.out)
                have hyl7 : wr.heap.size < w7.heap.size := blk_lt G7.out
                clear ho7
                have n2 := num_len x2
                have HP7 := Lib.hid (hk7.put (x3 + 1) (by omega) (by omega) (by simp only [List.length_append] at hTl ⊢; omega))
                clear hk7 z0 z1 z2
                obtain ⟨⟨z0, z1, z2⟩, _⟩ := isv3_cells G7.out
                go_wp2_with (fail)
                refine HP7.out.mono ?_
                rintro e w8 ⟨rfl, hk8, _⟩
                have K8 := Lib.hid (show KE w w8 v' g (Q2 ++ encOs (L.take (k + 1))) by rw [HES.out]; simpa only [List.append_assoc] using hk8)
                clear hk8 z0 z1 z2
                go_wp2_with (fail)
                go_roundg (m - (k + 1))
                case measure => omega
                case rel => exact ⟨k + 1, by go_num, by omega, by omega, K8.out⟩
              · obtain rfl : k = m := by omega
                have hltz3 : ¬ (k : Int) < (k : Int) := by omega
                have K9 := Lib.hid (show KE w wr v' g (P3 ++ encSs (p.ss.take (i + 1))) by
                  have := HK.out
                  rw [show L.take k = L from List.take_of_length_le (by rw [HMm.out]; exact Nat.le_refl _), ← HQ2.out, ← HQ.out] at this
                  rw [HSS.out]
                  simpa only [List.append_assoc] using this)
                go_wp2_with (fail)
                go_roundg (M - (i + 1))
                case measure => omega
                case rel => exact ⟨i + 1, by go_num, by omega, by omega, K9.out⟩
          · obtain rfl : i = M := by omega
            have hltz : ¬ (i : Int) < (i : Int) := by omega
            have hfin : P3 ++ encSs (p.ss.take i) = encP p := by
              rw [show p.ss.take i = p.ss from List.take_of_length_le (by rw [← HVL.out, HM.out]; exact Nat.le_refl _), ← HPP3.out, ← HPP2.out, ← HPP.out, ← HM.out, ← HN.out, HVL.out, HNN.out]
              have hver : ver = p.ver := by rw [← HP.out]; rfl
              rw [hver]
              unfold encP
              simp only [List.append_assoc, List.nil_append]
            have HKF := HK.out
            rw [hfin] at HKF
            have HBF := Lib.hid HKF.bel
            obtain ⟨A, c, hgv, how⟩ := HKF.out
            have gc : wx.cell? ⟨g, 0, none⟩ = some (.slice A (encP p).length c) := by rw [cell_of_row _ _ _ _ _ _ hgv]; rfl
            have hgx := blk_lt hgv
            have HOW := Lib.hid how
            have e1 := Lib.hid (show encB p = encP p by unfold encB; rw [if_pos HCKE.out])
            have e2 := Lib.hid (show encE p = 0 by unfold encE; rw [if_pos HCKE.out])
            obtain ⟨T, hT⟩ : ∃ T, (encP p).length = T := ⟨_, rfl⟩
            rw [hT] at gc
            have HT := Lib.hid hT
            clear hfin HKF hgv how hT HK
            go_wp2_with (fail)
            go_ret2
            refine ⟨A, c, by rw [e1.out, e2.out, HT.out]; rfl, ?_, HBF.out, fun e => ?_⟩
            · rw [e1.out]; exact own_base HOW.out (by omega)
            · obtain ⟨A2, c2, h1, h2, _⟩ := own_fit rfl HOW.out
              injection h1 with h1 _ h3
              rw [h3]; exact h2 (by rw [← h1]; exact e)
  · have hez : (ck == 0) = false := by simp [hk0]
    have hr2 : (ck != 0) = true := by simp [hk0]
    have HNZ := Lib.hid hk0
    clear hk0
    go_wp2_with (fail)
    go_ret2
    exact ret_bad (by rw [HCKE.out]; exact HNZ.out) HBB.out
end Go.Proofs.Ytdbhoglbmphjjaa.kv
