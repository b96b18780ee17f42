/-
  The walk of the law MergeParts.
-/
import Derived.Test.YtemmfcinpkfoiaaMgSame
import Derived.Test.YtemmfcinpkfoiaaMgSized
import Derived.Test.YtemmfcinpkfoiaaMgCopied
namespace Go.Proofs.Ytemmfcinpkfoiaa.lawMergeParts
open Go.ChangeShapes Go.WideShapes Go.ChangeAt Go.RowKit Go.Shelf plain words ord mem rg mg

theorem pts_split (ls : List It) (r : Nat) : pts (ls.take r) ++ pts (ls.drop r) = pts ls := by
  unfold pts
  rw [← List.flatMap_append, List.take_append_drop]
theorem ls_lit {α : Type} (E : El α) {w : World} (t : TypeId) (l : List α) : Ls E (w.alloc (.cells (cs E.enc l).toArray t)) (w.heap.size + 1) (some ⟨w.heap.size, 0, none⟩) l.length l :=
  ⟨rfl, rd_lit t _ (cs_len E.len l)⟩
theorem views_has {l o X : List Pt} (h : Views l o) (h1 : ∀ p ∈ X, p ∈ l ∨ p ∈ o) (h2 : ∀ p ∈ o, p ∈ X) : Views X o :=
  ⟨h.rise, h2, fun p hp => by
    rcases h1 p hp with h3 | h3
    · exact h.best p h3
    · exact ⟨p, h3, rfl, wins_irrefl p⟩⟩
theorem pts_map {l m : List It} (h : l.map It.l = m.map It.l) : pts l = pts m := by
  unfold pts
  rw [List.flatMap_def, List.flatMap_def, h]
/-- the lists turned round, each reversed -/
def turned (ls : List It) : List It := ls.reverse.map fun x => ⟨x.A, x.c, x.l.reverse⟩
theorem turned_at {ls : List It} {j : Nat} {x : It} (h : ls[j]? = some x) : (turned ls)[ls.length - (j + 1)]? = some ⟨x.A, x.c, x.l.reverse⟩ := by
  have hj := lt_of_at h
  unfold turned
  rw [List.getElem?_map, List.getElem?_reverse (by omega), show ls.length - 1 - (ls.length - (j + 1)) = j by omega, h]
  rfl
theorem turned_mem (ls : List It) (p : Pt) : p ∈ pts (turned ls) ↔ p ∈ pts ls := by
  unfold turned pts
  simp only [List.mem_flatMap, List.mem_map, List.mem_reverse]
  constructor
  · rintro ⟨x, ⟨y, hy, rfl⟩, hp⟩
    exact ⟨y, hy, by simpa using hp⟩
  · rintro ⟨y, hy, hp⟩
    exact ⟨_, ⟨y, hy, rfl⟩, by simpa using hp⟩
theorem turned_len (ls : List It) : (pts (turned ls)).length = (pts ls).length := by
  induction ls with
  | nil => rfl
  | cons x ls ih =>
    have e : turned (x :: ls) = turned ls ++ [⟨x.A, x.c, x.l.reverse⟩] := by simp [turned]
    rw [e, pts_snoc, List.length_append, ih]
    have : (pts (x :: ls)).length = x.l.length + (pts ls).length := by simp [pts]
    rw [this, List.length_reverse]
    omega
theorem drop_rev {l : List Pt} {k : Nat} {x : Pt} (h : l[k]? = some x) : (l.drop k).reverse = (l.drop (k + 1)).reverse ++ [x] := by
  rw [at_drop h, List.reverse_cons]
set_option maxHeartbeats 8000000 in
set_option maxRecDepth 100000 in
theorem walk_ok (A : Option Addr) (n c : Nat) (z : Int) (w : World) (h0 : IsListsS w A n c) (hz : (Lit.int .i64 z).wf = true) :
    Calls Try.prog 7 #[.slice A n c, .int .i64 z] w fun e w' => e = .returned (.bool true) ∧ Below w.heap.size w w' := by
  obtain ⟨ls, h, hn, hx⟩ := h0
  have hzz := wf_i64 hz
  have HV := Lib.hid (heavy_x w w.heap.size n c A ls h.row hn hx)
  have H := Lib.hid h
  have HLN := Lib.hid h.row.row.1
  clear h hn hx hz
  go_enter Try.func7, Try.ntmps7
  go_wp2_with fail
  refine HV.out.mono ?_
  rintro e w1 ⟨bb, rfl, hb, rfl⟩
  clear HV
  cases bb with
  | true =>
    go_wp2_with fail
    go_ret
    exact ⟨rfl, Below.refl _ _⟩
  | false =>
    have hb8 := hb rfl
    rw [HLN.out] at hb8
    clear hb
    rcases Nat.eq_zero_or_pos n with h0 | h0
    · subst h0
      go_wp2_with fail
      go_ret
      exact ⟨rfl, Below.refl _ _⟩
    · have x0 : ((n : Int) == 0) = false := by simp; omega
      have x1 : ¬ (n : Int) = 0 := by omega
      obtain ⟨r1, hr1⟩ : ∃ r1, Int.tmod z (n : Int) = r1 := ⟨_, rfl⟩
      have hr1b : -(n : Int) < r1 ∧ r1 < (n : Int) := by
        rw [← hr1]
        have h1 := Int.tmod_lt_of_pos z (show (0 : Int) < (n : Int) by omega)
        have h2 := Int.lt_tmod_of_pos z (show (0 : Int) < (n : Int) by omega)
        omega
      obtain ⟨r, hr⟩ : ∃ r : Nat, Int.tmod (r1 + (n : Int)) (n : Int) = (r : Int) := by
        refine ⟨(Int.tmod (r1 + (n : Int)) (n : Int)).toNat, ?_⟩
        have := Int.tmod_nonneg (n : Int) (show (0 : Int) ≤ r1 + (n : Int) by omega)
        omega
      have hrb : r < n := by
        have h1 := Int.tmod_lt_of_pos (r1 + (n : Int)) (show (0 : Int) < (n : Int) by omega)
        omega
      have y1 : IntKind.i64.wrap r1 = r1 := by go_arith
      have y2 : IntKind.i64.wrap (r : Int) = (r : Int) := by go_arith
      have y3 : IntKind.i64.wrap (r1 + (n : Int)) = r1 + (n : Int) := by go_arith
      have HM := Lib.hid (merge_x w w.heap.size n c A ls H.out.row (Nat.le_refl _) (by omega) (by omega))
      go_wp2_with fail
      refine HM.out.mono ?_
      rintro e w1 ⟨A1, c1, o, rfl, ho, hv, hl, hb1⟩
      have V := Lib.hid hv
      have O := Lib.hid ho
      have B1 := Lib.hid hb1
      have HL := Lib.hid hl
      clear HM ho hv hl hb1
      have h0' : 0 < ls.length := by rw [HLN.out]; exact h0
      obtain ⟨b, off, hA, _⟩ := H.out.row.row.at_ (List.getElem?_eq_getElem h0')
      subst hA
      have hrc : r ≤ c := by have := H.out.cap_; omega
      have m0 : (0 : Int) ≤ (r : Int) := by omega
      have m1 : (r : Int) ≤ (n : Int) := by omega
      have m2 : (r : Int) ≤ (c : Int) := by omega
      have m3 : ¬ c = r := by have := H.out.cap_; omega
      have m3' : (c == r) = false := by simpa using m3
      go_wp2_with fail
      refine wp_region_plan [([0, 1, 2, 4, 5, 6, 8], some (3, false)), ([], some (7, false)), ([], some (9, false)), ([10], none)] (by kernel_rfl) (by kernel_rfl) ?_
      refine seg_act _ (by dsimp only [pick, at_]) _ (by dsimp only [pick, at_]) ?_
      repeat (go_big_quiet_step (fail))
      refine wpQuiet_nil ?_
      intro K1 g1 g2
      clear g1
      go_wp2_with (fail)
      have hbd : Below w1.heap.size w1 w1.drew := (Below.refl _ _).drew
      have hbwd : Below w.heap.size w w1.drew := B1.out.drew
      have hsw : w.heap.size ≤ w1.drew.heap.size := B1.out.size
      have hrow := (H.out.row.below hbwd (Nat.le_refl _))
      have hdrop : Lists w1.drew w.heap.size (n - r) (some ⟨b, off + r, none⟩) (ls.drop r) := ⟨by
        have := hrow.row.drop (i := r) (by omega)
        simpa [HE] using this, fun x hx => hrow.ok x (List.mem_of_mem_drop hx)⟩
      have htake : Lists w1.drew w.heap.size r (some ⟨b, off, none⟩) (ls.take r) := ⟨hrow.row.take (by omega), fun x hx => hrow.ok x (List.mem_of_mem_take hx)⟩
      have hsp := pts_split ls r
      have hspl : (pts (ls.take r)).length + (pts (ls.drop r)).length = (pts ls).length := by rw [← List.length_append, hsp]
      have HTK := Lib.hid htake
      have HSP := Lib.hid hsp
      have HBD := Lib.hid hbd
      have HM2 := Lib.hid (merge_x w1.drew w.heap.size (n - r) (c - r) _ _ hdrop hsw (by omega) (by omega))
      clear hrow hdrop htake hsp hbd hbwd
      refine HM2.out.mono ?_
      rintro e w2 ⟨A2, c2, o2, rfl, ho2, hv2, hl2, hb2⟩
      have hb12 : Below w1.heap.size w1 w2 := HBD.out.trans hb2
      have O2 := Lib.hid ho2
      have V2 := Lib.hid hv2
      have B2 := Lib.hid hb2
      have B12 := Lib.hid hb12
      have HM3 := Lib.hid (merge_x w2 w.heap.size r c _ _ (HTK.out.below hb2 hsw) (Nat.le_trans hsw hb2.size) (by omega) (by omega))
      clear ho2 hv2 hb2 hb12 HM2
      go_wp2_with (fail)
      refine g2 _ _ B12.out ?_
      clear g2
      refine seg_act _ (by dsimp only [pick, at_]) _ (by dsimp only [pick, at_]) ?_
      refine wpQuiet_nil ?_
      intro K2 g1 g2
      clear g1
      go_wp2_with (fail)
      refine HM3.out.mono ?_
      rintro e w3 ⟨A3, c3, o3, rfl, ho3, hv3, hl3, hb3⟩
      have hs12 : w1.heap.size ≤ w2.heap.size := B12.out.size
      have O3 := Lib.hid ho3
      have V3 := Lib.hid hv3
      have B3 := Lib.hid hb3
      have B13 := Lib.hid (B12.out.trans (hb3.mono hs12))
      clear ho3 hv3 hb3 HM3
      go_wp2_with (fail)
      refine g2 _ _ (by first | exact B13.out | exact B3.out) ?_
      clear g2
      refine seg_act _ (by dsimp only [pick, at_]) _ (by dsimp only [pick, at_]) ?_
      refine wpQuiet_nil ?_
      intro K3 g1 g2
      clear g1
      go_wp2_with (fail)
      have hs23 : w2.heap.size ≤ w3.heap.size := B3.out.size
      obtain ⟨w4, hw4⟩ : ∃ w4, w3.alloc (.cells #[.slice A2 o2.length c2, .slice A3 o3.length c3, .slice A1 o.length c1] 27) = w4 := ⟨_, rfl⟩
      have hb34 : Below w3.heap.size w3 w4 := by rw [← hw4]; exact (Below.refl _ _).alloc (Nat.le_refl _) _
      have hb14 : Below w1.heap.size w1 w4 := B13.out.trans (hb34.mono (Nat.le_trans hs12 hs23))
      have B14 := Lib.hid hb14
      have B34 := Lib.hid hb34
      have W4 := Lib.hid hw4
      rw [hw4]
      clear hb34 hb14 hw4
      refine g2 _ _ (by first | exact B14.out | exact B34.out) ?_
      clear g2
      refine seg_end _ (by dsimp only [pick, at_]) ?_
      repeat (go_big_quiet_step (fail))
      refine wpQuiet_nil (NoPanic.normal ?_)
      go_wp2_with (fail)
      have hb5 : Below w4.heap.size w4 (w4.alloc (.cells #[] 27)) := (Below.refl _ _).alloc (Nat.le_refl _) _
      have HC0 := Lib.hid (show Cop w4 (turned ls) 0 (w4.alloc (.cells #[] 27)) (.slice (some ⟨w4.heap.size, 0, none⟩) 0 0) [] from ⟨Rw.of_ow (Ow.lit w4), fun g hg => (by cases hg; exact Nat.le_refl _), fun x hx => (by simp at hx), by simp, hb5⟩)
      have hs01 : w.heap.size ≤ w1.heap.size := B1.out.size
      have hs14 : w1.heap.size ≤ w4.heap.size := B14.out.size
      have L4 := Lib.hid (H.out.row.below (B1.out.trans (B14.out.mono hs01)) (Nat.le_refl _))
      clear hb5
      go_loopg [7, 8] n (fun gg s7 s8 wr => ∃ (j : Nat) (its : List It), s8 = .int .i64 ((j : Int) - 1) ∧ j ≤ n ∧ j ≤ gg ∧ Aside (Cop w4 (turned ls) (n - j) wr s7 its))
      case atStart => exact ⟨n, [], rfl, Nat.le_refl _, Nat.le_refl _, (by rw [Nat.sub_self]; exact HC0.out)⟩
      case round =>
        clear HC0
        obtain ⟨j, its, rfl, hj, hgj, S⟩ := hrel
        obtain ⟨wv, rfl⟩ : ∃ wv, wv = wr := ⟨wr, rfl⟩
        obtain ⟨vb, rfl⟩ : ∃ vb, vb = u7 := ⟨u7, rfl⟩
        rcases Nat.eq_zero_or_pos j with hz | hz
        · subst hz
          rw [Nat.sub_zero] at S
          obtain ⟨Ab, cb, e1, hcb1, hcb2, hAb⟩ := S.out.row.form
          subst e1
          obtain ⟨_, _, e1, d1, d2, d3⟩ := O.out.row.form
          cases e1
          obtain ⟨_, _, e1, d4, d5, d6⟩ := O2.out.row.form
          cases e1
          obtain ⟨_, _, e1, d7, d8, d9⟩ := O3.out.row.form
          cases e1
          have hs34 : w3.heap.size ≤ w4.heap.size := B34.out.size
          have hs4v : w4.heap.size ≤ wv.heap.size := S.out.bel.size
          have hLv := L4.out.below S.out.bel (by omega)
          have ho4 : Ls PE w4 w4.heap.size A1 o.length o := (O.out.row.ls.below B14.out (Nat.le_refl _)).more (by omega)
          have ho24 : Ls PE w4 w4.heap.size A2 o2.length o2 := (O2.out.row.ls.below (B3.out.trans (B34.out.mono hs23)) (Nat.le_refl _)).more (by omega)
          have ho34 : Ls PE w4 w4.heap.size A3 o3.length o3 := (O3.out.row.ls.below B34.out (Nat.le_refl _)).more (by omega)
          have hs4e : w4.heap.size = w3.heap.size + 1 := by rw [← W4.out]; simp
          have htwo : Lists w4 w4.heap.size 3 (some ⟨w3.heap.size, 0, none⟩) [⟨A2, c2, o2⟩, ⟨A3, c3, o3⟩, ⟨A1, c1, o⟩] := ⟨by
            have := ls_lit HE (w := w3) 27 [(⟨A2, c2, o2⟩ : It), ⟨A3, c3, o3⟩, ⟨A1, c1, o⟩]
            have e : (cs HE.enc [(⟨A2, c2, o2⟩ : It), ⟨A3, c3, o3⟩, ⟨A1, c1, o⟩]).toArray = #[.slice A2 o2.length c2, .slice A3 o3.length c3, .slice A1 o.length c1] := by
              simp only [cs, HE, itE, It.val, List.flatMap_cons, List.flatMap_nil, List.cons_append, List.nil_append]
            rw [e, W4.out] at this
            exact this.more (by omega), fun x hx => by
            simp only [List.mem_cons, List.not_mem_nil, or_false] at hx
            rcases hx with rfl | rfl | rfl
            · exact ⟨ho24, d4, d5, d6⟩
            · exact ⟨ho34, d7, d8, d9⟩
            · exact ⟨ho4, d1, d2, d3⟩⟩
          have hback : Lists wv wv.heap.size n Ab its := ⟨S.out.row.ls, fun x hx => by
            have h1 := S.out.ok x hx
            obtain ⟨A', c', e1, e2, e3, e4⟩ := h1.form
            cases e1
            exact ⟨h1.ls, e3, e4, e2⟩⟩
          have hpb : pts its = pts (turned ls) := pts_map (by rw [S.out.map, List.take_of_length_le (by simp [turned, HLN.out])])
          have hV2 : Views (pts [(⟨A2, c2, o2⟩ : It), ⟨A3, c3, o3⟩, ⟨A1, c1, o⟩]) o := views_has V.out (fun p hp => by
            simp [pts] at hp
            rcases hp with h | h | h
            · refine .inl ?_; rw [← HSP.out]; exact List.mem_append.2 (.inr (V2.out.from_ p h))
            · refine .inl ?_; rw [← HSP.out]; exact List.mem_append.2 (.inl (V3.out.from_ p h))
            · exact .inr h) (fun p hp => by simp [pts, hp])
          have hn2 : (pts [(⟨A2, c2, o2⟩ : It), ⟨A3, c3, o3⟩, ⟨A1, c1, o⟩]).length ≤ 90000 := by
            have := HL.out
            simp [pts]; omega
          have hlenT := turned_len ls
          have TW := Lib.hid htwo
          have BK := Lib.hid hback
          have HV2 := Lib.hid hV2
          have N2 := Lib.hid hn2
          have HPB := Lib.hid hpb
          have NB := Lib.hid (show (pts its).length ≤ 90000 by rw [hpb, hlenT]; omega)
          have SB := Lib.hid S.out.bel
          have O4 := Lib.hid ho4
          have HMY := Lib.hid (merge_y wv w.heap.size n c _ ls hLv (by omega) (by omega) (by omega))
          clear hLv ho4 ho24 ho34 htwo hback hpb hV2 hn2 hlenT hs4e S
          go_wp2_with fail
          refine HMY.out.mono ?_
          rintro e w6 ⟨A6, c6, o6, rfl, ho6, hv6, hl6, hb6⟩
          obtain rfl : o6 = o := hv6.unique V.out (fun _ => Iff.rfl)
          have hs6 : wv.heap.size ≤ w6.heap.size := hb6.size
          have B46 := Lib.hid (SB.out.trans (hb6.mono hs4v))
          have hs46 : w4.heap.size ≤ w6.heap.size := Nat.le_trans hs4v hs6
          have HS6 := Lib.hid (same_y w6 w6.heap.size o6.length c1 c6 A1 A6 o6 ((O4.out.below B46.out (Nat.le_refl _)).more hs46) ho6.row.ls (Nat.le_refl _) (by have := HL.out; omega))
          have BV6 := Lib.hid hb6
          clear ho6 hv6 hl6 hb6 HMY
          go_wp2_with fail
          refine HS6.out.mono ?_
          rintro e w7 ⟨rfl, hb7⟩
          have B47 := Lib.hid (B46.out.trans (hb7.mono hs46))
          have BV7 := Lib.hid (BV6.out.trans (hb7.mono hs6))
          have hs47 : w4.heap.size ≤ w7.heap.size := B47.out.size
          have hsv7 : wv.heap.size ≤ w7.heap.size := BV7.out.size
          have HM7 := Lib.hid (merge_x w7 w4.heap.size 3 3 _ _ (TW.out.below B47.out (Nat.le_refl _)) hs47 (by omega) N2.out)
          clear hb7 HS6 B46 BV6
          go_wp2_with fail
          refine HM7.out.mono ?_
          rintro e w8 ⟨A8, c8, o8, rfl, ho8, hv8, hl8, hb8'⟩
          obtain rfl : o8 = o6 := hv8.unique HV2.out (fun _ => Iff.rfl)
          have hs78 : w7.heap.size ≤ w8.heap.size := hb8'.size
          have B48 := Lib.hid (B47.out.trans (hb8'.mono hs47))
          have BV8 := Lib.hid (BV7.out.trans (hb8'.mono hsv7))
          have HS8 := Lib.hid (same_y w8 w8.heap.size o8.length c1 c8 A1 A8 o8 ((O4.out.below B48.out (Nat.le_refl _)).more (by omega)) ho8.row.ls (Nat.le_refl _) (by have := HL.out; omega))
          clear ho8 hv8 hl8 hb8' HM7 B47 BV7
          go_wp2_with fail
          refine HS8.out.mono ?_
          rintro e w9 ⟨rfl, hb9⟩
          have B49 := Lib.hid (B48.out.trans (hb9.mono (by omega)))
          have BV9 := Lib.hid (BV8.out.trans (hb9.mono (by omega)))
          have hs49 : w4.heap.size ≤ w9.heap.size := B49.out.size
          have hsv9 : wv.heap.size ≤ w9.heap.size := BV9.out.size
          have HM9 := Lib.hid (merge_x w9 wv.heap.size n cb Ab its (BK.out.below BV9.out (Nat.le_refl _)) hsv9 (by omega) NB.out)
          clear hb9 HS8 B48 BV8
          go_wp2_with fail
          refine HM9.out.mono ?_
          rintro e wa ⟨Aa, ca, oa, rfl, hoa, hva, hla, hba⟩
          obtain rfl : oa = o8 := hva.unique V.out (fun p => by rw [HPB.out]; exact turned_mem ls p)
          have hs9a : w9.heap.size ≤ wa.heap.size := hba.size
          have B4a := Lib.hid (B49.out.trans (hba.mono hs49))
          have HSa := Lib.hid (same_y wa wa.heap.size oa.length c1 ca A1 Aa oa ((O4.out.below B4a.out (Nat.le_refl _)).more (by omega)) hoa.row.ls (Nat.le_refl _) (by have := HL.out; omega))
          clear hoa hva hla hba HM9 B49 BV9
          go_wp2_with fail
          refine HSa.out.mono ?_
          rintro e wb ⟨rfl, hbb⟩
          have B4b := Lib.hid (B4a.out.trans (hbb.mono (by omega)))
          clear hbb HSa
          go_wp2_with fail
          go_ret
          exact ⟨rfl, B1.out.trans ((B14.out.trans (B4b.out.mono hs14)).mono hs01)⟩
        · obtain ⟨i, rfl⟩ : ∃ i, j = i + 1 := ⟨j - 1, by omega⟩
          have e0 : ((i + 1 : Nat) : Int) - 1 = (i : Int) := by omega
          have e1 : (0 : Int) ≤ (i : Int) := by omega
          rw [e0]
          have hin : i < n := by omega
          have hin' : (i : Int) < (n : Int) := by omega
          obtain ⟨x, hx⟩ := L4.out.row.get hin
          have hs4v : w4.heap.size ≤ wv.heap.size := S.out.bel.size
          have hLv := L4.out.below S.out.bel (by omega)
          obtain ⟨b', off', hA', hbB, hc⟩ := hLv.row.at_ hx
          cases hA'
          have hx0 := hc 0 (by decide)
          simp only [HE, Nat.mul_one, Nat.add_zero, itE, It.val, List.getElem?_cons_zero] at hx0
          have hxi := hLv.ok x (List.mem_of_getElem? hx)
          have hxn := pts_at hx
          have hbl : b < wv.heap.size := World.block_lt_of_cell? wv _ hx0
          have hsz : w.heap.size ≤ wv.heap.size := by omega
          obtain ⟨K, hK⟩ : ∃ K, x.l.length = K := ⟨_, rfl⟩
          have hK8 : K ≤ 8192 := by omega
          have hKi : (0 : Int) ≤ (K : Int) := by omega
          rw [hK] at hx0 hxn
          have hbe : Below wv.heap.size wv (wv.alloc (.cells #[] 24)) := (Below.refl _ _).alloc (Nat.le_refl _) _
          have hlit : Ow PE (wv.alloc (.cells #[] 24)) wv.heap.size (.slice (some ⟨wv.heap.size, 0, none⟩) 0 0) 0 [] := Ow.lit wv
          have HX := Lib.hid hx
          have HK := Lib.hid hK
          have HXI := Lib.hid hxi.ls
          have LV := Lib.hid hLv
          have SO := Lib.hid S.out
          have HBE := Lib.hid hbe
          have HLIT := Lib.hid hlit
          have X0 := Lib.hid hx0
          clear hx hLv hc hxi hbe hlit S hxn hK
          go_wp2_with fail
          go_loopg [9, 10] K (fun gg s9 s10 wr => ∃ (k : Nat), s10 = .int .i64 ((k : Int) - 1) ∧ k ≤ K ∧ k ≤ gg ∧ Aside (Ow PE wr wv.heap.size s9 (K - k) (x.l.drop k).reverse) ∧ Aside (Below wv.heap.size wv wr))
          case atStart => exact ⟨K, by go_num, Nat.le_refl _, Nat.le_refl _, (by rw [Nat.sub_self, List.drop_of_length_le (by rw [HK.out]; exact Nat.le_refl _)]; exact HLIT.out), HBE.out⟩
          case round =>
            clear HLIT HBE hx0
            obtain ⟨k, rfl, hk, hgk, OW, BW⟩ := hrel
            obtain ⟨wz, rfl⟩ : ∃ wz, wz = wr := ⟨wr, rfl⟩
            rcases Nat.eq_zero_or_pos k with hz2 | hz2
            · subst hz2
              have how := OW.out
              rw [Nat.sub_zero, List.drop_zero] at how
              obtain ⟨A2, c2, e2, _⟩ := how.form
              subst e2
              have he : (HE.enc ⟨A2, c2, x.l.reverse⟩).toArray = #[.slice A2 K c2] := by simp [HE, itE, It.val, HK.out]
              have hb3 : Below wv.heap.size wv (wz.alloc (.cells #[.slice A2 K c2] 27)) := BW.out.alloc BW.out.size _
              have hb23 : Below wz.heap.size wz (wz.alloc (.cells #[.slice A2 K c2] 27)) := (Below.refl _ _).alloc (Nat.le_refl _) _
              have hnews : Ls HE (wz.alloc (.cells (HE.enc ⟨A2, c2, x.l.reverse⟩).toArray 27)) (wz.heap.size + 1) (some ⟨wz.heap.size, 0, none⟩) 1 [⟨A2, c2, x.l.reverse⟩] := ls_new _ _
              rw [he] at hnews
              have hrow3 := SO.out.row.chg (Chg.of_below hb3) (fun _ _ e => e)
              have hown3 := how.below hb23 (Nat.le_refl _)
              have OWN := Lib.hid hown3
              have B3 := Lib.hid hb3
              clear how hb3 hb23 he hown3 OW BW
              go_wp2_with (at_builtin; refine append_l rfl (.tmp 69) (.tmp 71) rfl _ (n - (i + 1)) its (by rfl) hrow3 _ _ 1 1 (fun e => by cases e) [⟨A2, c2, x.l.reverse⟩] (by rfl) hnews (by omega) ?_
                           intro v9 w9 hown9 hgrow9 hat9
                           have hxt := turned_at HX.out
                           rw [HLN.out] at hxt
                           have S9 := Lib.hid (SO.out.step (y := ⟨A2, c2, x.l.reverse⟩) hxt B3.out (by show Ow PE _ _ (.slice A2 x.l.reverse.length c2) x.l.reverse.length x.l.reverse; rw [List.length_reverse, HK.out]; exact OWN.out) rfl hown9 hgrow9 hat9)
                           clear hown9 hgrow9 hat9 hnews hrow3 hxt)
              go_roundg i
              case measure => omega
              case rel => exact ⟨i, _, by go_num, by omega, by omega, (by rw [show n - i = n - (i + 1) + 1 by omega]; exact S9.out)⟩
            · obtain ⟨m, rfl⟩ : ∃ m, k = m + 1 := ⟨k - 1, by omega⟩
              have f0 : ((m + 1 : Nat) : Int) - 1 = (m : Int) := by omega
              rw [f0]
              have f1 : (0 : Int) ≤ (m : Int) := by omega
              have f2 : (m : Int) < (K : Int) := by omega
              have hLz := LV.out.below BW.out hsz
              have hxz := HXI.out.below BW.out hsz
              rw [HK.out] at hxz
              obtain ⟨p, hp⟩ := hxz.get (show m < K by omega)
              obtain ⟨bp, op, eP, _, p0, p1, p2⟩ := Ls.pt hxz hp
              have hx0 : wz.cell? ⟨b, off + i, none⟩ = some (.slice x.A K x.c) := (BW.out.cell (p := ⟨b, off + i, none⟩) hbl).trans X0.out
              have hbz : b < wz.heap.size := World.block_lt_of_cell? wz _ hx0
              have hbp : bp < wz.heap.size := World.block_lt_of_cell? wz _ p0
              rw [eP] at hx0
              have hdr := drop_rev hp
              have hb2 : Below wz.heap.size wz (wz.alloc (.cells #[.int .i64 p.1, .int .u64 p.2.1, .int .u64 p.2.2] 24)) := (Below.refl _ _).alloc (Nat.le_refl _) _
              have hnews : Ls PE (wz.alloc (.cells #[.int .i64 p.1, .int .u64 p.2.1, .int .u64 p.2.2] 24)) (wz.heap.size + 1) (some ⟨wz.heap.size, 0, none⟩) 1 [p] := ls_new _ _
              have hown := OW.out.below hb2 (Nat.le_refl _)
              have hvz : wv.heap.size ≤ wz.heap.size := BW.out.size
              have HB2 := Lib.hid (BW.out.trans (hb2.mono hvz))
              have HDR := Lib.hid hdr
              clear hLz hxz hp eP hdr hb2 OW BW
              go_wp2_with (at_builtin; refine append_p rfl (.tmp 59) (.tmp 67) rfl wv.heap.size _ (K - (m + 1)) _ (by rfl) hown _ _ 1 1 (fun e => by cases e) [p] (by rfl) hnews (by omega) (by simp; omega) ?_
                           intro A2 c2 w2 hown2 hg2 hA2 hc21 hc22 hs2
                           have OW2 := Lib.hid hown2
                           have BW2 := Lib.hid (hown.below_grown HB2.out hg2 (by simp; omega))
                           clear hown2 hg2 hA2 hc21 hc22 hs2 hown hnews)
              go_roundg m
              case measure => omega
              case rel =>
                refine ⟨m, by go_num, by omega, by omega, ?_, BW2.out⟩
                show Ow PE _ _ _ _ _
                rw [HDR.out]
                have := OW2.out
                rw [show K - (m + 1) + 1 = K - m by omega] at this ⊢
                exact this
end Go.Proofs.Ytemmfcinpkfoiaa.lawMergeParts
