/-
  Messages: the document's lists of points.
-/
import Derived.Test.YthkcnakodlbdpaaWrYP
namespace Go.Proofs.Ythkcnakodlbdpaa.wr
open Go.ChangeShapes Go.WideShapes Go.ChangeAt Go.RowKit plain words ord mem uvs uvc cl

/-- what is still to be passed: the rest of a list -/
def At {α β : Type} (F : R β) (item : By → α → R α) (l : List α) (s : By) (e : Int) : Prop := (e = 0 → F.1 = (passL item s l).1 ∧ (F.1 = 0 → F.2.1 = (passL item s l).2.1)) ∧ (e ≠ 0 → F.1 = e)
theorem passL_cons {α : Type} (item : By → α → R α) (s : By) (x : α) (l : List α) : (passL item s (x :: l)).1 = (if (item s x).1 = 0 then (passL item (item s x).2.1 l).1 else (item s x).1) ∧ ((item s x).1 = 0 → (passL item s (x :: l)).1 = 0 → (passL item s (x :: l)).2.1 = (passL item (item s x).2.1 l).2.1) := by
  show (bnd (item s x) [] fun s y => bnd (passL item s l) [] fun s l' => (0, s, y :: l')).1 = _ ∧ (_ → (bnd (item s x) [] fun s y => bnd (passL item s l) [] fun s l' => (0, s, y :: l')).1 = 0 → (bnd (item s x) [] fun s y => bnd (passL item s l) [] fun s l' => (0, s, y :: l')).2.1 = _)
  by_cases h : (item s x).1 = 0
  · rw [bnd_ok h, if_pos h]
    by_cases h2 : (passL item (item s x).2.1 l).1 = 0
    · rw [bnd_ok h2]; exact ⟨h2.symm, fun _ _ => rfl⟩
    · rw [bnd_no h2]; exact ⟨rfl, fun _ _ => rfl⟩
  · rw [bnd_no h, if_neg h]; exact ⟨rfl, fun e => absurd e h⟩
theorem At.step {α β : Type} {F : R β} {item : By → α → R α} {l : List α} {x : α} {s s' : By} {e : Int} (h : At F item (x :: l) s e) (hs : st e (item s x).1 = 0 → s' = (item s x).2.1) : At F item l s' (st e (item s x).1) := by
  obtain ⟨h1, h2⟩ := h
  by_cases he : e = 0
  · subst he
    rw [st_0] at hs ⊢
    obtain ⟨p1, p2⟩ := passL_cons item s x l
    obtain ⟨q1, q2⟩ := h1 rfl
    refine ⟨fun e => ?_, fun e => ?_⟩
    · rw [hs e]
      rw [p1, if_pos e] at q1
      refine ⟨q1, fun f => ?_⟩
      rw [q2 f]
      exact p2 e (by rw [p1, if_pos e, ← q1]; exact f)
    · rw [q1, p1, if_neg e]
  · rw [st_no he]
    exact ⟨fun e => absurd e he, h2⟩
theorem At.stop {α β : Type} {F : R β} {item : By → α → R α} {s : By} {e : Int} (h : At F item [] s e) : F.1 = e ∧ (e = 0 → s = F.2.1) := by
  by_cases he : e = 0
  · obtain ⟨q1, q2⟩ := h.1 he
    subst he
    exact ⟨q1, fun _ => (q2 q1).symm⟩
  · exact ⟨h.2 he, fun e => absurd e he⟩
theorem fit_all {α : Type} (z : α) (l : List α) : fit z l (l.length : Int) = l := by unfold fit; simp
theorem pl_big {α : Type} (z : α) (item : By → α → R α) (most : Int) (s : By) (l : List α) (h : most < l.length) : (passList encC z item most s l).1 = 52 := by
  unfold passList
  show (bnd (cntE s l.length most) l _).1 = 52
  have : cntE s l.length most = (52, s, (l.length : Int)) := by unfold cntE; rw [if_pos h]
  rw [this, bnd_no (show (52 : Int) ≠ 0 by decide)]
theorem pl_ok {α : Type} (z : α) (item : By → α → R α) (most : Int) (s : By) (l : List α) (h : (l.length : Int) ≤ most) : (passList encC z item most s l).1 = (passL item (s ++ uv l.length) l).1 ∧ (passList encC z item most s l).2.1 = (passL item (s ++ uv l.length) l).2.1 := by
  unfold passList
  show (bnd (cntE s l.length most) l fun s n => bnd (passL item s (fit z l n)) l fun s l' => (0, s, l')).1 = _ ∧ (bnd (cntE s l.length most) l fun s n => bnd (passL item s (fit z l n)) l fun s l' => (0, s, l')).2.1 = _
  have : cntE s l.length most = (0, s ++ uv l.length, (l.length : Int)) := by unfold cntE numE; rw [if_neg (by omega), if_neg (by omega)]; rfl
  rw [this, bnd_ok rfl, fit_all]
  by_cases h2 : (passL item (s ++ uv l.length) l).1 = 0
  · rw [bnd_ok h2]; exact ⟨h2.symm, rfl⟩
  · rw [bnd_no h2]; exact ⟨rfl, rfl⟩
theorem ty_below {w w' : World} {g B B0 : Nat} (h : Chg (TY w g B) w w') (h0 : B0 ≤ w.heap.size) (hg : B0 ≤ g) (hB : B0 ≤ B) : Below B0 w w' := h.below h0 (fun k e => by rcases e with e | ⟨e, _⟩ <;> omega)
theorem pt_cells {w : World} {B n i : Nat} {A : Option Addr} {l : List Pt} (h : Ls PE w B A n l) {x : Pt} (hx : l[i]? = some x) : ∃ b off, A = some ⟨b, off, none⟩ ∧ b < B ∧ w.cell? ⟨b, off + i * 3, none⟩ = some (.int .i64 x.1) ∧ w.cell? ⟨b, off + i * 3 + 1, none⟩ = some (.int .u64 x.2.1) ∧ w.cell? ⟨b, off + i * 3 + 2, none⟩ = some (.int .u64 x.2.2) := by
  obtain ⟨b, off, e, hb, hc⟩ := h.at_ hx
  exact ⟨b, off, e, hb, hc 0 (by decide), hc 1 (by decide), hc 2 (by decide)⟩
set_option maxHeartbeats 2000000 in
set_option maxRecDepth 100000 in
theorem points_y (w : World) (g B B0 n c : Nat) (s : By) (e : Int) (A : Option Addr) (l : List Pt) (h : OutY w g B s e) (hl : Ls PE w B0 A n l) (hok : ∀ x ∈ l, PtOk x) (hB : B ≤ w.heap.size) (h0g : B0 ≤ g) (h0B : B0 ≤ B) (hn : s.length ≤ 1000000) :
    Calls Try.prog 31 #[.pointer (some ⟨g, 0, none⟩), .slice A n c] w (RetY w g B 20000 s e ((passList encC (0, 0, 0) (passPt encC) 512 s l).1, (passList encC (0, 0, 0) (passPt encC) 512 s l).2.1)) := by
  have hln := hl.1
  obtain ⟨an, han⟩ : ∃ an : Int × By, ((passList encC (0, 0, 0) (passPt encC) 512 s l).1, (passList encC (0, 0, 0) (passPt encC) 512 s l).2.1) = an := ⟨_, rfl⟩
  rw [han]
  by_cases hbig : 512 < n
  · have HF := Lib.hid (fail_y w g B s e true 52 h)
    have hz : st e 52 ≠ 0 := st_ne (.inr (by decide))
    have ha1 : an.1 = 52 := by rw [← han]; exact pl_big _ _ _ _ _ (by omega)
    have HNO := Lib.hid (fun (w' : World) (ho : OutY w' g B s (st e 52)) (hc : Chg (TY w g B) w w') => RetY.no (K := 20000) (r := an) (by rw [ha1]; exact hz) (by rw [ha1]; exact ho) hc)
    simp only [if_true] at HF
    obtain ⟨z, hzz⟩ : ∃ z, st e 52 = z := ⟨_, rfl⟩
    rw [hzz] at HF hz HNO
    have z1 : (z != 0) = true := by simpa using hz
    have hbi : (512 : Int) < (n : Int) := by omega
    clear h hz hzz ha1 han hl hln hok hbig
    go_enter Try.func31, Try.ntmps31
    go_wp2_with (fail)
    refine HF.out.mono ?_
    rintro en w1 ⟨rfl, ho, hc⟩
    obtain ⟨A, c, _, c1, _⟩ := ho.cells
    have hgl := ho.lt
    have HR := Lib.hid (HNO.out w1 ho (chg_g hc))
    clear ho hc
    go_wp2_with (fail)
    go_end0
    exact HR.out
  · have HF := Lib.hid (fail_y w g B s e false 52 h)
    simp only [Bool.false_eq_true, if_false, st_ok] at HF
    obtain ⟨k1, k2⟩ := pl_ok (0, 0, 0) (passPt encC) 512 s l (by omega)
    have ha1 : an.1 = (passL (passPt encC) (s ++ uv n) l).1 := by rw [← han, ← hln]; exact k1
    have ha2 : an.2 = (passL (passPt encC) (s ++ uv n) l).2.1 := by rw [← han, ← hln]; exact k2
    have HA := Lib.hid (And.intro ha1 ha2)
    have HL := Lib.hid hl
    have HOK := Lib.hid hok
    have hul := uv_len n
    have hbi : ¬ (512 : Int) < (n : Int) := by omega
    have hn512 : n ≤ 512 := by omega
    have HLN := Lib.hid hln
    clear h k1 k2 ha1 ha2 han hl hok hbig hln
    go_enter Try.func31, Try.ntmps31
    go_wp2_with (fail)
    refine HF.out.mono ?_
    rintro en w1 ⟨rfl, ho, hc⟩
    have hgl := ho.lt
    have hs1 := hc.size
    have HO := Lib.hid ho
    obtain ⟨A1, cc1, _, c1, _⟩ := ho.cells
    have HC := Lib.hid (chg_g (B := B) hc)
    by_cases he : e = 0
    · subst he
      have HU := Lib.hid (number_y w1 g B s 0 n 512 ho (by omega) (by omega) (by omega))
      rw [show numE s (n : Int) 512 = (0, s ++ uv n, (n : Int)) by unfold numE; rw [if_neg (by omega)]; rfl] at HU
      obtain ⟨s1, hs1'⟩ : ∃ s1, s ++ uv n = s1 := ⟨_, rfl⟩
      have hl1 : s1.length ≤ s.length + 10 := by rw [← hs1', List.length_append]; omega
      rw [hs1'] at HU HA
      simp only at HU
      obtain ⟨F, hF⟩ : ∃ F, passL (passPt encC) s1 l = F := ⟨_, rfl⟩
      have HFF := Lib.hid hF
      rw [hF] at HA
      clear ho hc hs1' hF hul
      go_wp2_with (fail)
      refine HU.out.mono ?_
      rintro en w2 ⟨rfl, s2, ho2, hs2, _, hc2⟩
      have hs2 := hs2 rfl
      subst hs2
      have HC2 := Lib.hid (ty_trans HC.out hc2)
      have HO2 := Lib.hid ho2
      clear ho2 hc2 hs2
      go_wp2_with (fail)
      go_loopg [4] n (fun gg s4 wr => ∃ (i : Nat) (s' : By) (e' : Int), s4 = .int .i64 i ∧ i ≤ n ∧ n - i ≤ gg ∧ s'.length ≤ s2.length + 30 * i ∧ Aside (At F (passPt encC) (l.drop i) s' e') ∧ Aside (OutY wr g B s' e') ∧ Aside (Chg (TY w g B) w wr))
      case atStart => exact ⟨0, s2, 0, rfl, Nat.zero_le _, by omega, by omega, ⟨fun _ => by rw [List.drop_zero, HFF.out]; exact ⟨rfl, fun _ => rfl⟩, fun e => absurd rfl e⟩, HO2.out, HC2.out⟩
      case round =>
        obtain ⟨i, s', e', rfl, hi, hg, hsl, AT, OW, CW⟩ := hrel
        obtain ⟨wv, rfl⟩ : ∃ wv, wv = wr := ⟨wr, rfl⟩
        have hszv := CW.out.size
        by_cases hlt : i < n
        · obtain ⟨x, hx⟩ := HL.out.get hlt
          have hxm := HOK.out x (List.mem_of_getElem? hx)
          obtain ⟨ba, oa, eA, _, xa0, xa1, xa2⟩ := pt_cells (HL.out.below (ty_below CW.out (by omega) h0g h0B) (Nat.le_refl _)) hx
          subst eA
          have i1 : (i : Int) < (n : Int) := by omega
          have i0 : (0 : Int) ≤ (i : Int) := by omega
          have hbal : ba < wv.heap.size := World.block_lt_of_cell? wv _ xa0
          have HP := Lib.hid (point_y wv g B s' e' x OW.out (by omega) (by omega) hxm)
          have HDR := Lib.hid (show l.drop i = x :: l.drop (i + 1) from (List.drop_eq_getElem?_toList_append (l := l) (i := i)).trans (by rw [hx]; rfl))
          obtain ⟨x1, x2, x3⟩ := x
          clear hx hxm
          go_wp2_with (fail)
          refine HP.out.mono ?_
          rintro en w3 ⟨rfl, s3, ho3, hs3, hl3, hc3⟩
          have HO3 := Lib.hid ho3
          have HC3 := Lib.hid (ty_trans CW.out hc3)
          have HAT := Lib.hid (At.step (by rw [← HDR.out]; exact AT.out) hs3)
          clear ho3 hs3 hc3 xa0 xa1 xa2
          go_wp2_with (fail)
          go_roundg (n - (i + 1))
          case measure => omega
          case rel => exact ⟨i + 1, s3, _, by go_num, by omega, by omega, by omega, HAT.out, HO3.out, HC3.out⟩
        · have i1 : ¬ (i : Int) < (n : Int) := by omega
          have hin : i = n := by omega
          have hst := AT.out
          rw [hin, ← HLN.out, List.drop_length] at hst
          obtain ⟨f1, f2⟩ := hst.stop
          have HFIN := Lib.hid (show RetY w g B 20000 s 0 an (.returned (.tuple #[])) wv from ⟨rfl, s', by rw [st_0, HA.out.1, f1]; exact OW.out, by rw [st_0, HA.out.1, HA.out.2, f1]; exact f2, by omega, CW.out⟩)
          clear hin hst f1 f2
          go_wp2_with (fail)
          go_end0
          exact HFIN.out
    · have z1 : (e != 0) = true := by simpa using he
      have HFIN := Lib.hid (show RetY w g B 20000 s e an (.returned (.tuple #[])) w1 from RetY.no (st_ne (.inl he)) (by rw [st_no he]; exact HO.out) HC.out)
      clear ho hc he
      go_wp2_with (fail)
      go_end0
      exact HFIN.out
end Go.Proofs.Ythkcnakodlbdpaa.wr
