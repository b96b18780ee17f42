/-
  Messages: the document's lists of metas.
-/
import Derived.Test.YthkcnakodlbdpaaWrYL
namespace Go.Proofs.Ythkcnakodlbdpaa.wr
open Go.ChangeShapes Go.WideShapes Go.ChangeAt Go.RowKit plain words ord mem uvs uvc cl

theorem st_bnd {α β : Type} {r : R α} {d : β} {k : By → α → R β} {e : Int} {s' : By} {v : α} (h : st e r.1 = 0 → s' = r.2.1) (hv : r.2.2 = v) : st e (bnd r d k).1 = st (st e r.1) (k s' v).1 ∧ (st e (bnd r d k).1 = 0 → (bnd r d k).2.1 = (k s' v).2.1) := by
  subst hv
  by_cases he : e = 0
  · subst he
    simp only [st_0] at h ⊢
    by_cases h1 : r.1 = 0
    · rw [bnd_ok h1, h h1, h1, st_0]; exact ⟨rfl, fun _ => rfl⟩
    · rw [bnd_no h1, st_no h1]; exact ⟨rfl, fun e => absurd e h1⟩
  · rw [st_no he, st_no he, st_no he]; exact ⟨rfl, fun e => absurd e he⟩
theorem be4_eq (v : Nat) : be 4 v = [UInt8.ofNat (v / 16777216 % 256), UInt8.ofNat (v / 65536 % 256), UInt8.ofNat (v / 256 % 256), UInt8.ofNat (v % 256)] := by
  have d3 : v / 256 / 256 / 256 = v / 16777216 := by omega
  have d2 : v / 256 / 256 = v / 65536 := by omega
  have d4 : v / 65536 / 256 = v / 16777216 := by omega
  simp [be, d2, d3, d4]
theorem mt_cells {w : World} {B n i : Nat} {A : Option Addr} {l : List Mt} (h : Ls ME w B A n l) {x : Mt} (hx : l[i]? = some x) : ∃ b off, A = some ⟨b, off, none⟩ ∧ b < B ∧ w.cell? ⟨b, off + i * 4, none⟩ = some (.string (cl.tx x.1)) ∧ w.cell? ⟨b, off + i * 4 + 1, none⟩ = some (.int .i64 x.2.1) ∧ w.cell? ⟨b, off + i * 4 + 2, none⟩ = some (.int .i64 x.2.2.1) ∧ w.cell? ⟨b, off + i * 4 + 3, none⟩ = some (.int .u32 x.2.2.2) := by
  obtain ⟨b, off, e, hb, hc⟩ := h.at_ hx
  exact ⟨b, off, e, hb, hc 0 (by decide), hc 1 (by decide), hc 2 (by decide), hc 3 (by decide)⟩
set_option maxHeartbeats 2000000 in
set_option maxRecDepth 100000 in
theorem metas_y (w : World) (g B B0 n c : Nat) (s : By) (e : Int) (A : Option Addr) (l : List Mt) (h : OutY w g B s e) (hl : Ls ME w B0 A n l) (hok : ∀ x ∈ l, MtOk x) (hB : B ≤ w.heap.size) (h0g : B0 ≤ g) (h0B : B0 ≤ B) (hn : s.length ≤ 1000000) :
    Calls Try.prog 32 #[.pointer (some ⟨g, 0, none⟩), .slice A n c] w (RetY w g B 20000 s e ((passList encC ([], 0, 0, 0) (passMt encC) 8 s l).1, (passList encC ([], 0, 0, 0) (passMt encC) 8 s l).2.1)) := by
  obtain ⟨i0, hi, hz0, hz1, hz2⟩ := info_parts mem.infoB
  have hln := hl.1
  obtain ⟨an, han⟩ : ∃ an : Int × By, ((passList encC ([], 0, 0, 0) (passMt encC) 8 s l).1, (passList encC ([], 0, 0, 0) (passMt encC) 8 s l).2.1) = an := ⟨_, rfl⟩
  rw [han]
  by_cases hbig : 8 < n
  · have HF := Lib.hid (fail_y w g B s e true 52 h)
    have hz : st e 52 ≠ 0 := st_ne (.inr (by decide))
    have ha1 : an.1 = 52 := by rw [← han]; exact pl_big _ _ _ _ _ (by omega)
    have HNO := Lib.hid (fun (w' : World) (ho : OutY w' g B s (st e 52)) (hc : Chg (TY w g B) w w') => RetY.no (K := 20000) (r := an) (by rw [ha1]; exact hz) (by rw [ha1]; exact ho) hc)
    simp only [if_true] at HF
    obtain ⟨z, hzz⟩ : ∃ z, st e 52 = z := ⟨_, rfl⟩
    rw [hzz] at HF hz HNO
    have z1 : (z != 0) = true := by simpa using hz
    have hbi : (8 : Int) < (n : Int) := by omega
    clear h hz hzz ha1 han hl hln hok hbig
    go_enter Try.func32, Try.ntmps32
    go_wp2_with (fail)
    refine HF.out.mono ?_
    rintro en w1 ⟨rfl, ho, hc⟩
    obtain ⟨A, c, _, c1, _⟩ := ho.cells
    have hgl := ho.lt
    have HR := Lib.hid (HNO.out w1 ho (chg_g hc))
    clear ho hc
    go_wp2_with (fail)
    go_end0
    exact HR.out
  · have HF := Lib.hid (fail_y w g B s e false 52 h)
    simp only [Bool.false_eq_true, if_false, st_ok] at HF
    obtain ⟨k1, k2⟩ := pl_ok ([], 0, 0, 0) (passMt encC) 8 s l (by omega)
    have ha1 : an.1 = (passL (passMt encC) (s ++ uv n) l).1 := by rw [← han, ← hln]; exact k1
    have ha2 : an.2 = (passL (passMt encC) (s ++ uv n) l).2.1 := by rw [← han, ← hln]; exact k2
    have HA := Lib.hid (And.intro ha1 ha2)
    have HL := Lib.hid hl
    have HOK := Lib.hid hok
    have hul := uv_len n
    have hbi : ¬ (8 : Int) < (n : Int) := by omega
    have hn512 : n ≤ 8 := by omega
    have HLN := Lib.hid hln
    clear h k1 k2 ha1 ha2 han hl hok hbig hln
    go_enter Try.func32, Try.ntmps32
    go_wp2_with (fail)
    refine HF.out.mono ?_
    rintro en w1 ⟨rfl, ho, hc⟩
    have hgl := ho.lt
    have hs1 := hc.size
    have HO := Lib.hid ho
    obtain ⟨A1, cc1, _, c1, _⟩ := ho.cells
    have HC := Lib.hid (chg_g (B := B) hc)
    by_cases he : e = 0
    · subst he
      have HU := Lib.hid (number_y w1 g B s 0 n 8 ho (by omega) (by omega) (by omega))
      rw [show numE s (n : Int) 8 = (0, s ++ uv n, (n : Int)) by unfold numE; rw [if_neg (by omega)]; rfl] at HU
      obtain ⟨s1, hs1'⟩ : ∃ s1, s ++ uv n = s1 := ⟨_, rfl⟩
      have hl1 : s1.length ≤ s.length + 10 := by rw [← hs1', List.length_append]; omega
      rw [hs1'] at HU HA
      simp only at HU
      obtain ⟨F, hF⟩ : ∃ F, passL (passMt encC) s1 l = F := ⟨_, rfl⟩
      have HFF := Lib.hid hF
      rw [hF] at HA
      clear ho hc hs1' hF hul
      go_wp2_with (fail)
      refine HU.out.mono ?_
      rintro en w2 ⟨rfl, s2, ho2, hs2, _, hc2⟩
      have hs2 := hs2 rfl
      subst hs2
      have HC2 := Lib.hid (ty_trans HC.out hc2)
      have HO2 := Lib.hid ho2
      clear ho2 hc2 hs2
      go_wp2_with (fail)
      go_loopg [4, 5] n (fun gg s4 s5 wr => ∃ (i : Nat) (s' : By) (e' : Int), s4 = .int .i64 i ∧ i ≤ n ∧ n - i ≤ gg ∧ s'.length ≤ s2.length + 60 * i ∧ Aside (At F (passMt encC) (l.drop i) s' e') ∧ Aside (OutY wr g B s' e') ∧ Aside (Chg (TY w g B) w wr))
      case atStart => exact ⟨0, s2, 0, rfl, Nat.zero_le _, by omega, by omega, ⟨fun _ => by rw [List.drop_zero, HFF.out]; exact ⟨rfl, fun _ => rfl⟩, fun e => absurd rfl e⟩, HO2.out, HC2.out⟩
      case round =>
        obtain ⟨i, s', e', rfl, hii, hg, hsl, AT, OW, CW⟩ := hrel
        obtain ⟨wv, rfl⟩ : ∃ wv, wv = wr := ⟨wr, rfl⟩
        have hszv := CW.out.size
        by_cases hlt : i < n
        · obtain ⟨x, hx⟩ := HL.out.get hlt
          have hxm := HOK.out x (List.mem_of_getElem? hx)
          obtain ⟨ba, oa, eA, _, xa0, xa1, xa2, xa3⟩ := mt_cells (HL.out.below (ty_below CW.out (by omega) h0g h0B) (Nat.le_refl _)) hx
          subst eA
          have i1 : (i : Int) < (n : Int) := by omega
          have ii0 : (0 : Int) ≤ (i : Int) := by omega
          have hbal : ba < wv.heap.size := World.block_lt_of_cell? wv _ xa0
          have HDR := Lib.hid (show l.drop i = x :: l.drop (i + 1) from (List.drop_eq_getElem?_toList_append (l := l) (i := i)).trans (by rw [hx]; rfl))
          have HMC := Lib.hid (fun (u : World) (hu : Chg (TY wv g B) wv u) => mt_cells (HL.out.below (ty_below (ty_trans CW.out hu) (by omega) h0g h0B) (Nat.le_refl _)) hx)
          obtain ⟨x1, x2, x3, x4⟩ := x
          obtain ⟨v4, rfl⟩ : ∃ v : Nat, x4 = (v : Int) := ⟨x4.toNat, by have := hxm.2.1; simp only at this; omega⟩
          have hv4 : v4 < 4294967296 := by have := hxm.2.2; simp only at this; omega
          have hx1 := hxm.1
          have HP := Lib.hid (name_y wv g B s' e' x1 OW.out (by omega) (by omega) hx1)
          obtain ⟨R0, hR0⟩ : ∃ R, passMt encC s' (x1, x2, x3, (v4 : Int)) = R := ⟨_, rfl⟩
          have HR0 := Lib.hid hR0
          obtain ⟨r1, hr1⟩ : ∃ r, txtE s' x1 = r := ⟨_, rfl⟩
          rw [hr1] at HP
          have HR1 := Lib.hid hr1
          clear hx hxm hr1 hx1 hR0
          go_wp2_with (fail)
          refine HP.out.mono ?_
          rintro en w3 ⟨rfl, s3, ho3, hs3, hl3, hc3⟩
          obtain ⟨e3, he3⟩ : ∃ e, st e' r1.1 = e := ⟨_, rfl⟩
          simp only [he3] at ho3 hs3
          have HE3 := Lib.hid (And.intro he3 hs3)
          have HC3 := Lib.hid hc3
          have hsz3 := hc3.size
          have HP3 := Lib.hid (number_y w3 g B s3 e3 x2 1099511627776 ho3 (by omega) (by omega) (by omega))
          obtain ⟨r2, hr2⟩ : ∃ r, numE s3 x2 1099511627776 = r := ⟨_, rfl⟩
          rw [hr2] at HP3
          have HR2 := Lib.hid hr2
          obtain ⟨ba', oa', eA', _, _, xb1, _⟩ := HMC.out w3 HC3.out
          injection eA' with eA'
          injection eA' with eb eo
          subst eb eo
          have hbal3 : ba < w3.heap.size := World.block_lt_of_cell? w3 _ xb1
          clear ho3 hs3 hc3 xa0 xa1 xa2 xa3 he3 hr2 HP
          go_wp2_with (fail)
          refine HP3.out.mono ?_
          rintro en w4 ⟨rfl, s4, ho4, hs4, hl4, hc4⟩
          obtain ⟨e4, he4⟩ : ∃ e, st e3 r2.1 = e := ⟨_, rfl⟩
          simp only [he4] at ho4 hs4
          have HE4 := Lib.hid (And.intro he4 hs4)
          have HC4 := Lib.hid (ty_trans HC3.out hc4)
          have hsz4 := hc4.size
          have HP4 := Lib.hid (number_y w4 g B s4 e4 x3 512 ho4 (by omega) (by omega) (by omega))
          obtain ⟨r3, hr3⟩ : ∃ r, numE s4 x3 512 = r := ⟨_, rfl⟩
          rw [hr3] at HP4
          have HR3 := Lib.hid hr3
          obtain ⟨ba', oa', eA', _, _, _, xb2, _⟩ := HMC.out w4 HC4.out
          injection eA' with eA'
          injection eA' with eb eo
          subst eb eo
          have hbal4 : ba < w4.heap.size := World.block_lt_of_cell? w4 _ xb2
          clear ho4 hs4 hc4 xb1 he4 hr3 HP3
          go_wp2_with (fail)
          refine HP4.out.mono ?_
          rintro en w5 ⟨rfl, s5, ho5, hs5, hl5, hc5⟩
          obtain ⟨e5, he5⟩ : ∃ e, st e4 r3.1 = e := ⟨_, rfl⟩
          simp only [he5] at ho5 hs5
          have HE5 := Lib.hid (And.intro he5 hs5)
          have HC5 := Lib.hid (ty_trans HC4.out hc5)
          have hsz5 := hc5.size
          obtain ⟨ba', oa', eA', _, _, _, _, xb3⟩ := HMC.out w5 HC5.out
          injection eA' with eA'
          injection eA' with eb eo
          subst eb eo
          have hbal5 : ba < w5.heap.size := World.block_lt_of_cell? w5 _ xb3
          obtain ⟨A5, cc5, q0, _, _, _, _, _, hg5, hown5⟩ := ho5.cells
          have hgl5 := ho5.lt
          obtain ⟨L5, hL5⟩ : ∃ L, s5.length = L := ⟨_, rfl⟩
          rw [hL5] at q0 hg5 hown5
          obtain ⟨t0, ht0⟩ : ∃ t, UInt8.ofNat (v4 / 16777216 % 256) = t := ⟨_, rfl⟩
          obtain ⟨t1, ht1⟩ : ∃ t, UInt8.ofNat (v4 / 65536 % 256) = t := ⟨_, rfl⟩
          obtain ⟨t2, ht2⟩ : ∃ t, UInt8.ofNat (v4 / 256 % 256) = t := ⟨_, rfl⟩
          obtain ⟨t3, ht3⟩ : ∃ t, UInt8.ofNat (v4 % 256) = t := ⟨_, rfl⟩
          have y0 : (v4 : Int) / 16777216 = (t0.toNat : Int) := by rw [← ht0, ofNat_lt _ (by omega)]; omega
          have y1 : (v4 : Int) / 65536 % 256 = (t1.toNat : Int) := by rw [← ht1, ofNat_lt _ (by omega)]; omega
          have y2 : (v4 : Int) / 256 % 256 = (t2.toNat : Int) := by rw [← ht2, ofNat_lt _ (by omega)]; omega
          have y3 : (v4 : Int) % 256 = (t3.toNat : Int) := by rw [← ht3, ofNat_lt _ (by omega)]; omega
          have HBE := Lib.hid (show be 4 v4 = [t0, t1, t2, t3] by rw [← ht0, ← ht1, ← ht2, ← ht3]; exact be4_eq v4)
          have hnew : Rd (w5.alloc (.cells #[.int .u8 (t0.toNat : Int), .int .u8 (t1.toNat : Int), .int .u8 (t2.toNat : Int), .int .u8 (t3.toNat : Int)] 5)) (w5.heap.size + 1) (some ⟨w5.heap.size, 0, none⟩) 4 (u8s [t0, t1, t2, t3]) := rd_lit 5 (u8s [t0, t1, t2, t3]) rfl
          have hb6 : Below w5.heap.size w5 (w5.alloc (.cells #[.int .u8 (t0.toNat : Int), .int .u8 (t1.toNat : Int), .int .u8 (t2.toNat : Int), .int .u8 (t3.toNat : Int)] 5)) := below_al _ _
          have ho6 := own_keep hown5 hb6 (Nat.le_refl _)
          have hg6 := blk_below hb6 hg5 hgl5
          have HO6 := Lib.hid ho6
          have HG6 := Lib.hid hg6
          have HB6 := Lib.hid hb6
          have HLEN := Lib.hid (show (s5 ++ be 4 v4).length = L5 + 4 by rw [List.length_append, be_len, hL5])
          clear ht0 ht1 ht2 ht3 ho5 hs5 hc5 xb2 he5 HP4 hown5 hg5 ho6 hg6 hb6
          go_wp2_with (at_builtin; (refine wpList_append_rd rfl (.tmp 56) (.tmp 68) 33 rfl B 5 i0 (.int .u8 0) 1 1 Try.underlying33 hi hz0 hz1 hz2 rfl (by decide) (.slice A5 L5 cc5) L5 _ rfl HO6.out (w5.heap.size + 1) _ 4 4 (fun e => by cases e) (u8s [t0, t1, t2, t3]) rfl hnew (u8s_one _) (by unfold maxLen; omega) (by omega) (by simp; omega) ?_); intro v2 w7 hown7 hg7 hnn7; obtain ⟨A7, cc7, e7, _⟩ := cl.own_fit HLEN.out (by rw [HBE.out, u8s_append]; exact hown7); subst e7; have gb7 : w7.heap[g]? = some (.cells #[.slice A5 L5 cc5, .int .i64 e5] 57 (0, 0)) := (hg7.block g (blk_lt HG6.out) (fun e => own_var HO6.out HG6.out (by decide) e.symm)).trans HG6.out; have c7 : w7.cell? ⟨g, 0, none⟩ = some (.slice A5 L5 cc5) := (by rw [cell_of_row _ _ _ _ _ _ gb7]; rfl); have f7 := frozen_of_row w7 g 0 _ _ gb7; have hgl7 := blk_lt gb7)
          have hb7 := rb_grown ((Chg.of_below HB6.out).mono (fun _ _ e => e.elim)) HO6.out hg7
          rw [← u8s_append, ← HBE.out] at hown7
          have hlen := HLEN.out
          have HO7 := Lib.hid (out_row gb7 hown7 hlen)
          have HC7 := Lib.hid (ty_trans HC5.out (((hb7.mono (fun _ _ e => .inr e)).setCell (p := ⟨g, 0, none⟩) (fun _ => .inl rfl) (.slice A7 (L5 + 4) cc7))))
          clear hown7 hg7 hnn7 hb7 gb7 hnew
          have q1 := st_bnd (d := ((x1, x2, x3, (v4 : Int)) : Mt)) (k := fun s i => bnd (encC.num s x2 1099511627776) (x1, x2, x3, (v4 : Int)) fun s b => bnd (encC.num s x3 512) (x1, x2, x3, (v4 : Int)) fun s c => bnd (encC.fix s (v4 : Int) 4) (x1, x2, x3, (v4 : Int)) fun s x => (0, s, (i, b, c, x % 4294967296))) (by rw [HE3.out.1]; exact HE3.out.2) (show r1.2.2 = x1 by rw [← HR1.out]; exact txtE_v s' x1)
          have q2 := st_bnd (d := ((x1, x2, x3, (v4 : Int)) : Mt)) (k := fun s b => bnd (encC.num s x3 512) (x1, x2, x3, (v4 : Int)) fun s c => bnd (encC.fix s (v4 : Int) 4) (x1, x2, x3, (v4 : Int)) fun s x => (0, s, (x1, b, c, x % 4294967296))) (by rw [HE4.out.1]; exact HE4.out.2) (show r2.2.2 = x2 by rw [← HR2.out]; exact numE_v s3 x2 _)
          have q3 := st_bnd (d := ((x1, x2, x3, (v4 : Int)) : Mt)) (k := fun s c => bnd (encC.fix s (v4 : Int) 4) (x1, x2, x3, (v4 : Int)) fun s x => (0, s, (x1, x2, c, x % 4294967296))) (by rw [HE5.out.1]; exact HE5.out.2) (show r3.2.2 = x3 by rw [← HR3.out]; exact numE_v s4 x3 _)
          rw [HE3.out.1, ← HR1.out] at q1
          rw [HE4.out.1, ← HR2.out] at q2
          rw [HE5.out.1, ← HR3.out] at q3
          have hR : st e' (passMt encC s' (x1, x2, x3, (v4 : Int))).1 = e5 ∧ (e5 = 0 → s5 ++ be 4 v4 = (passMt encC s' (x1, x2, x3, (v4 : Int))).2.1) := by
            have z1 : st e' (passMt encC s' (x1, x2, x3, (v4 : Int))).1 = e5 := by
              refine q1.1.trans (q2.1.trans (q3.1.trans ?_))
              exact st_ok
            refine ⟨z1, fun h5 => ?_⟩
            have e4z : e4 = 0 := by
              have := HE5.out.1
              rw [h5] at this
              exact Classical.byContradiction fun hn => st_ne (.inl hn) this
            have e3z : e3 = 0 := by
              have := HE4.out.1
              rw [e4z] at this
              exact Classical.byContradiction fun hn => st_ne (.inl hn) this
            have m1 := q1.2 (show st e' (passMt encC s' (x1, x2, x3, (v4 : Int))).1 = 0 by rw [z1, h5])
            refine (m1.trans ((q2.2 ?_).trans ((q3.2 ?_).trans ?_))).symm
            · exact q2.1.trans (q3.1.trans (st_ok.trans h5))
            · exact q3.1.trans (st_ok.trans h5)
            · show s5 ++ be 4 ((v4 : Int)).toNat = _
              rw [Int.toNat_natCast]
          have HAT := Lib.hid (At.step (by rw [← HDR.out]; exact AT.out) (s' := s5 ++ be 4 v4) (fun e => hR.2 (by rw [← hR.1]; exact e)))
          rw [hR.1] at HAT
          clear q1 q2 q3 hR
          go_wp2_with (fail)
          go_roundg (n - (i + 1))
          case measure => omega
          case rel => exact ⟨i + 1, s5 ++ be 4 v4, e5, by go_num, by omega, by omega, by rw [hlen]; omega, HAT.out, HO7.out, ty_trans CW.out HC7.out⟩
        · have i1 : ¬ (i : Int) < (n : Int) := by omega
          have hin : i = n := by omega
          have hst := AT.out
          rw [hin, ← HLN.out, List.drop_length] at hst
          obtain ⟨f1, f2⟩ := hst.stop
          have HFIN := Lib.hid (show RetY w g B 20000 s 0 an (.returned (.tuple #[])) wv from ⟨rfl, s', by rw [st_0, HA.out.1, f1]; exact OW.out, by rw [st_0, HA.out.1, HA.out.2, f1]; exact f2, by omega, CW.out⟩)
          clear hin hst f1 f2
          go_wp2_with (fail)
          go_end0
          exact HFIN.out
    · have z1 : (e != 0) = true := by simpa using he
      have HFIN := Lib.hid (show RetY w g B 20000 s e an (.returned (.tuple #[])) w1 from RetY.no (st_ne (.inl he)) (by rw [st_no he]; exact HO.out) HC.out)
      clear ho hc he
      go_wp2_with (fail)
      go_end0
      exact HFIN.out
end Go.Proofs.Ythkcnakodlbdpaa.wr
