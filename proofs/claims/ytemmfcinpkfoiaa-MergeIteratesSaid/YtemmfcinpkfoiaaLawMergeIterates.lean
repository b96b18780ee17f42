/-
  The walk of the law MergeIterates.
-/
import Derived.Test.YtemmfcinpkfoiaaMgSame
import Derived.Test.YtemmfcinpkfoiaaMgSized
import Derived.Test.YtemmfcinpkfoiaaMgNew
namespace Go.Proofs.Ytemmfcinpkfoiaa.lawMergeIterates
open Go.ChangeShapes Go.WideShapes Go.ChangeAt Go.RowKit Go.Shelf plain words ord mem rg mg

theorem pts_map {l m : List It} (h : l.map It.l = m.map It.l) : pts l = pts m := by
  unfold pts
  rw [List.flatMap_def, List.flatMap_def, h]
theorem map_mem {l m : List It} (h : l.map It.l = m.map It.l) {x : It} (hx : x ∈ l) : ∃ y ∈ m, y.l = x.l := by
  have : x.l ∈ m.map It.l := by rw [← h]; exact List.mem_map.2 ⟨x, hx, rfl⟩
  obtain ⟨y, hy, e⟩ := List.mem_map.1 this
  exact ⟨y, hy, e⟩
theorem views_mem {l l' o : List Pt} (h : Views l o) (e : ∀ p, p ∈ l' ↔ p ∈ l) : Views l' o :=
  ⟨h.rise, fun p hp => (e p).2 (h.from_ p hp), fun p hp => h.best p ((e p).1 hp)⟩
theorem next_head {all o o1 r : List Pt} {its its' : List It} {b : Pt} (h : Mg all o1 its) (hv : Views all o) (e : o1 ++ r = o) (k : Nx its its' b) : ∃ r', r = b :: r' := by
  have hb := h.left b k.mem
  have inleft : ∀ q ∈ all, q.1 ≤ b.1 → (∀ z ∈ o1, z.1 < q.1) → q ∈ pts its := fun q hq _ hlt => by
    rcases h.cov q hq with h1 | ⟨z, hz, h1, _⟩
    · exact h1
    · have := hlt z hz; omega
  obtain ⟨q, hq, h1, h2⟩ := hv.best b hb
  have hqall := hv.from_ q hq
  have hqlow : ∀ z ∈ o1, z.1 < q.1 := fun z hz => by rw [h1]; exact h.sep z hz b k.mem
  have hql := inleft q hqall (by omega) hqlow
  have heq : q = b := wins_total q b h1 (k.best q hql h1) h2
  subst heq
  have hr := hv.rise
  rw [← e] at hr hq
  rw [List.pairwise_append] at hr
  have hqr : q ∈ r := by
    rcases List.mem_append.1 hq with hq | hq
    · have := hqlow q hq; omega
    · exact hq
  cases r with
  | nil => simp at hqr
  | cons x r' =>
    rcases List.mem_cons.1 hqr with rfl | hq2
    · exact ⟨r', rfl⟩
    · have hlt : x.1 < q.1 := (List.pairwise_cons.1 hr.2.1).1 q hq2
      have hxall : x ∈ all := hv.from_ x (by rw [← e]; simp)
      have hxl := inleft x hxall (by omega) (fun z hz => hr.2.2 z hz x List.mem_cons_self)
      have := k.min x hxl
      omega
theorem rest_nil {all o o1 r : List Pt} (h : Mg all o1 []) (hv : Views all o) (e : o1 ++ r = o) : r = [] := by
  cases r with
  | nil => rfl
  | cons x r' =>
    have hr := hv.rise
    rw [← e, List.pairwise_append] at hr
    have hxall : x ∈ all := hv.from_ x (by rw [← e]; simp)
    rcases h.cov x hxall with h1 | ⟨z, hz, h1, _⟩
    · simp [pts] at h1
    · have := hr.2.2 z hz x List.mem_cons_self; omega
/-- the first i lists, each made its view, the document's way -/
structure Vd (w : World) (ls : List It) (i : Nat) (wr : World) (v1 : Value) (its : List It) : Prop where
  row : Rw HE wr v1 i its
  own : ∀ g, v1.ownBlock = some g → w.heap.size ≤ g
  ok : ∀ x ∈ its, OwnP wr w.heap.size x.val x.l
  vw : Vw (ls.take i) its
  bel : Below w.heap.size w wr
theorem Vd.step {w wr w3 w4 : World} {ls its : List It} {i : Nat} {v1 v4 : Value} {x y : It} (h : Vd w ls i wr v1 its) (hx : ls[i]? = some x) (hb : Below wr.heap.size wr w3)
    (hy : OwnP w3 wr.heap.size y.val y.l) (hv : Views x.l y.l) (hl : y.l.length ≤ x.l.length) (hr : Rw HE w4 v4 (i + 1) (its ++ [y])) (hg : w3.grownBy w4 v1.ownBlock)
    (hat : v4.ownBlock = v1.ownBlock ∨ v4.ownBlock = some w3.heap.size) : Vd w ls (i + 1) w4 v4 (its ++ [y]) := by
  have hs := h.bel.size
  have hs3 := hb.size
  have hc : Chg (fun b => v1.ownBlock = some b) wr w4 := ((Chg.of_below hb).mono (fun _ _ e => e.elim)).grown hg (fun k hk _ => hk)
  have hc3 : Chg (fun b => v1.ownBlock = some b) w3 w4 := (Chg.refl _ _).grown hg (fun k hk _ => hk)
  refine ⟨hr, fun g hg => ?_, fun z hz => ?_, ?_, h.bel.trans (hc.below hs h.own)⟩
  · rcases hat with e | e
    · exact h.own g (e.symm.trans hg)
    · rw [hg] at e; injection e with e; omega
  · rcases List.mem_append.1 hz with hz | hz
    · refine ⟨(h.ok z hz).row.chg hc fun g hg e => ?_, (h.ok z hz).own⟩
      obtain ⟨c1, h1⟩ := (h.ok z hz).row.type hg
      obtain ⟨c2, h2⟩ := h.row.type e
      exact blk_type h1 h2 (by decide) rfl
    · simp at hz; subst hz
      refine ⟨hy.row.chg hc3 fun g hg e => ?_, fun g hg => Nat.le_trans hs (hy.own g hg)⟩
      obtain ⟨c1, h1⟩ := hy.row.type hg
      obtain ⟨c2, h2⟩ := (h.row.chg (Chg.of_below hb) (fun _ _ e => e)).type e
      exact blk_type h1 h2 (by decide) rfl
  · rw [take_succ_at hx]
    exact .snoc h.vw hv hl
def Sp (w : World) (g n : Nat) : Prop := ∃ cur, w.heap[g]? = some (.cells cur 24 (0, 0)) ∧ n * 3 ≤ cur.size
theorem Sp.cell {w : World} {g n o : Nat} (h : Sp w g n) (ho : o < n * 3) : ∃ v, w.cell? ⟨g, o, none⟩ = some v := by
  obtain ⟨cur, hb, hs⟩ := h
  rw [cell_of_row _ _ _ _ _ _ hb]
  exact ⟨cur[o]'(by omega), by simp [show o < cur.size by omega]⟩
theorem Sp.froz {w : World} {g n : Nat} (h : Sp w g n) (o : Nat) : w.frozen? ⟨g, o, none⟩ = false := by
  obtain ⟨cur, hb, hs⟩ := h
  simp [World.frozen?, hb]
theorem Sp.set {w : World} {g g' n o : Nat} {u : Value} (h : Sp w g n) : Sp (w.setCell ⟨g', o, none⟩ u) g n := by
  obtain ⟨cur, hb, hs⟩ := h
  by_cases e : g' = g
  · subst e
    exact ⟨cur.setIfInBounds o u, by simp [World.setCell, Array.getElem?_modify, hb], by simpa using hs⟩
  · exact ⟨cur, by rw [← hb]; exact Below.heap_setCell w ⟨g', o, none⟩ u g (fun e' => e e'.symm), hs⟩
/-- the copies while they are made zeros -/
structure Zr (lo hi : Nat) (w5 wr : World) (v : Value) (n : Nat) (its : List It) : Prop where
  chg : Chg (fun k => lo ≤ k ∧ k < hi) w5 wr
  row : Rw HE wr v n its
  sp : ∀ x ∈ its, ∀ g, x.val.ownBlock = some g → Sp wr g x.l.length ∧ lo ≤ g ∧ g < hi
theorem Zr.set {lo hi : Nat} {w5 wr : World} {v : Value} {n : Nat} {its : List It} (h : Zr lo hi w5 wr v n its) {x : It} {g : Nat} (hx : x ∈ its) (hg : x.val.ownBlock = some g) (o : Nat) (u : Value) : Zr lo hi w5 (wr.setCell ⟨g, o, none⟩ u) v n its := by
  obtain ⟨h1, h2, h3⟩ := h.sp x hx g hg
  refine ⟨h.chg.setCell (p := ⟨g, o, none⟩) (fun _ => ⟨h2, h3⟩) u, h.row.chg (S := fun k => k = g) (Chg.setCell (S := fun k => k = g) (Chg.refl _ _) (p := ⟨g, o, none⟩) (fun _ => rfl) u) fun k hk e => ?_, fun y hy k hk => ⟨(h.sp y hy k hk).1.set, (h.sp y hy k hk).2⟩⟩
  subst e
  obtain ⟨c, hc⟩ := h.row.type hk
  obtain ⟨c', hc', _⟩ := h1
  exact blk_type hc hc' (by decide) rfl
theorem zr_of_cop {w4 w5 wv : World} {its its2 : List It} {n : Nat} {v : Value} (h : Cop wv its n w4 v its2) (hb : Below w4.heap.size w4 w5) : Zr wv.heap.size w4.heap.size w5 w5 v n its2 := by
  refine ⟨Chg.refl _ _, h.row.chg (Chg.of_below hb) (fun _ _ e => e), fun x hx g hg => ?_⟩
  have h1 := h.ok x hx
  have h2 := h1.lt g hg
  refine ⟨?_, h2.1, h2.2⟩
  rcases h1.2.2 with ⟨hv, _⟩ | ⟨g', cap, cur, hv, _, hb', h3, _, h5, _⟩
  · rw [hv] at hg; cases hg
  · rw [hv] at hg; cases hg
    refine ⟨cur, blk_below hb hb' (blk_lt hb'), ?_⟩
    have : PE.k = 3 := rfl
    rw [this] at h5
    have := Nat.mul_le_mul_right 3 h3
    omega
set_option maxHeartbeats 8000000 in
set_option maxRecDepth 100000 in
theorem walk_ok (A : Option Addr) (n c : Nat) (w : World) (h0 : IsListsS w A n c) :
    Calls Try.prog 6 #[.slice A n c] w fun e w' => e = .returned (.bool true) ∧ Below w.heap.size w w' := by
  obtain ⟨ls, h, hn, hx⟩ := h0
  have HV := Lib.hid (heavy_x w w.heap.size n c A ls h.row hn hx)
  have H0 := Lib.hid h
  have HLN := Lib.hid h.row.row.1
  clear h hn hx
  go_enter Try.func6, Try.ntmps6
  go_wp2_with fail
  refine HV.out.mono ?_
  rintro e w1 ⟨bb, rfl, hb, rfl⟩
  clear HV
  cases bb with
  | true =>
    go_wp2_with fail
    go_ret
    exact ⟨rfl, Below.refl _ _⟩
  | false =>
    have hb8 := hb rfl
    rw [HLN.out] at hb8
    clear hb
    have hb0 : Below w.heap.size w (w.alloc (.cells #[] 27)) := (Below.refl _ _).alloc (Nat.le_refl _) _
    have HS := Lib.hid (show Vd w ls 0 (w.alloc (.cells #[] 27)) (.slice (some ⟨w.heap.size, 0, none⟩) 0 0) [] from ⟨Rw.of_ow (Ow.lit w), fun g hg => (by cases hg; exact Nat.le_refl _), fun x hx => (by simp at hx), .nil, hb0⟩)
    clear hb0
    go_wp2_with fail
    go_loopg [3, 4] n (fun gg s3 s4 wr => ∃ (i : Nat) (its : List It), s4 = .int .i64 i ∧ i ≤ n ∧ n - i ≤ gg ∧ Aside (Vd w ls i wr s3 its))
    case atStart => exact ⟨0, [], rfl, Nat.zero_le _, by omega, HS.out⟩
    case round =>
      clear HS
      obtain ⟨i, its, rfl, hi, hg, S⟩ := hrel
      obtain ⟨wv, rfl⟩ : ∃ wv, wv = wr := ⟨wr, rfl⟩
      obtain ⟨A1, c1, e1, hc11, hc12, hA1⟩ := S.out.row.form
      subst e1
      by_cases hlt : i < n
      · obtain ⟨x, hx⟩ := H0.out.row.row.get hlt
        have hLv := H0.out.row.below S.out.bel (Nat.le_refl _)
        obtain ⟨b, off, hA, hbB, hc⟩ := hLv.row.at_ hx
        have hx0 := hc 0 (by decide)
        simp only [HE, Nat.mul_one, Nat.add_zero, itE, It.val, List.getElem?_cons_zero] at hx0
        have hxi := hLv.ok x (List.mem_of_getElem? hx)
        have hxn := pts_at hx
        have hi1 : (i : Int) < (n : Int) := by omega
        have hi0 : (0 : Int) ≤ (i : Int) := by omega
        have hsz := S.out.bel.size
        have HVW := Lib.hid (view_y wv w.heap.size _ x.c x.A x.l hxi.ls hxi.nil hsz hxi.cap hxi.most (by omega))
        have hbl : b < wv.heap.size := World.block_lt_of_cell? wv _ hx0
        have HX := Lib.hid hx
        subst hA
        clear hx hLv hc hxi
        go_wp2_with fail
        refine HVW.out.mono ?_
        rintro e w2 ⟨A2, c2, y, rfl, hown2, hvy, hly, hb2⟩
        have hb3 : Below wv.heap.size wv (w2.alloc (.cells #[.slice A2 y.length c2] 27)) := hb2.alloc hb2.size _
        have hb23 : Below w2.heap.size w2 (w2.alloc (.cells #[.slice A2 y.length c2] 27)) := (Below.refl _ _).alloc (Nat.le_refl _) _
        have hnews : Ls HE (w2.alloc (.cells (HE.enc ⟨A2, c2, y⟩).toArray 27)) (w2.heap.size + 1) (some ⟨w2.heap.size, 0, none⟩) 1 [⟨A2, c2, y⟩] := ls_new _ _
        have he : (HE.enc ⟨A2, c2, y⟩).toArray = #[.slice A2 y.length c2] := by simp [HE, itE, It.val]
        rw [he] at hnews
        have hrow3 := S.out.row.chg (Chg.of_below hb3) (fun _ _ e => e)
        have OW := Lib.hid (show OwnP (w2.alloc (.cells #[.slice A2 y.length c2] 27)) wv.heap.size (.slice A2 y.length c2) y from ⟨hown2.row.chg (Chg.of_below hb23) (fun _ _ e => e), hown2.own⟩)
        have VS := Lib.hid (And.intro hvy hly)
        have B3 := Lib.hid hb3
        clear hvy hly hown2 hb2 hb3 hb23 he HVW
        go_wp2_with (at_builtin; refine append_l rfl (.tmp 24) (.tmp 30) rfl _ i its (by rfl) hrow3 _ _ 1 1 (fun e => by cases e) [⟨A2, c2, y⟩] (by rfl) hnews (by omega) ?_; intro v3 w3 hown3 hgrow hat; have S3 := Lib.hid (S.out.step (y := ⟨A2, c2, y⟩) HX.out B3.out OW.out VS.out.1 VS.out.2 hown3 hgrow hat); clear hown3 hgrow hat hnews hrow3)
        go_roundg (n - (i + 1))
        case measure => omega
        case rel => exact ⟨i + 1, _, by go_num, by omega, by omega, S3.out⟩
      · have hi1 : ¬ (i : Int) < (n : Int) := by omega
        have hin : i = n := by omega
        subst hin
        have hvw := S.out.vw
        rw [List.take_of_length_le (Nat.le_of_eq HLN.out)] at hvw
        have hsz : w.heap.size ≤ wv.heap.size := S.out.bel.size
        have hlists : Lists wv wv.heap.size i A1 its := ⟨S.out.row.ls, fun y hy => by
          have h1 := S.out.ok y hy
          obtain ⟨A', c', e1, e2, e3, e4⟩ := h1.row.form
          cases e1
          exact ⟨h1.row.ls, e2, e3, e4⟩⟩
        have hall := hvw.len
        have HC := Lib.hid (copied_x wv wv.heap.size i c1 A1 its hlists (Nat.le_refl _) (by omega) (by omega))
        have VW := Lib.hid hvw
        have BW := Lib.hid S.out.bel
        have LV := Lib.hid hlists
        clear hvw hlists S
        go_wp2_with fail
        refine HC.out.mono ?_
        rintro e w4 ⟨A4, c4, its2, rfl, hcop⟩
        have hmap2 : its2.map It.l = its.map It.l := by rw [hcop.map, List.take_of_length_le (Nat.le_of_eq LV.out.row.1)]
        have hl4 : Lists w4 w4.heap.size i A4 its2 := ⟨hcop.row.ls, fun y hy => by
          have h1 := hcop.ok y hy
          obtain ⟨A', c', e1, e2, e3, e4⟩ := h1.form
          cases e1
          exact ⟨h1.ls, e3, e4, e2⟩⟩
        have hs4 : wv.heap.size ≤ w4.heap.size := hcop.bel.size
        have HN := Lib.hid (new_x w4 w4.heap.size i c4 A4 its2 hl4 (Nat.le_refl _) (by omega) (by rw [pts_map hmap2]; omega))
        have COP := Lib.hid hcop
        have MAP2 := Lib.hid hmap2
        clear hcop hmap2 hl4 HC
        go_wp2_with fail
        refine HN.out.mono ?_
        rintro e w5 ⟨HH, p, v5, itsH, its0, rfl, hd5, hH, hperm, hmap0, hf5, hblk, hb5⟩
        have hs5 : w4.heap.size ≤ w5.heap.size := hb5.size
        have Z5 := Lib.hid (zr_of_cop COP.out hb5)
        have D5 := Lib.hid hd5
        have PM := Lib.hid hperm
        have MAP0 := Lib.hid (hmap0.trans MAP2.out)
        have HF := Lib.hid hf5
        have BLK := Lib.hid hblk
        have B45 := Lib.hid hb5
        have hIL : its2.length = i := COP.out.row.1
        have IL := Lib.hid hIL
        have hdlt := hd5.lt
        have hdlo := hd5.lo
        clear hd5 hperm hmap0 hf5 hblk hb5 HN hIL
        go_wp2_with fail
        go_loopg [7] i (fun gg s7 wr => ∃ (j : Nat), s7 = .int .i64 j ∧ j ≤ i ∧ i - j ≤ gg ∧ Aside (Zr wv.heap.size w4.heap.size w5 wr (.slice A4 i c4) i its2))
        case atStart => exact ⟨0, rfl, Nat.zero_le _, by omega, Z5.out⟩
        case round =>
          clear Z5
          obtain ⟨j, rfl, hj, hgj, Z⟩ := hrel
          obtain ⟨wz, rfl⟩ : ∃ wz, wz = wr := ⟨wr, rfl⟩
          by_cases hlt2 : j < i
          · obtain ⟨x, hx⟩ := Z.out.row.ls.get hlt2
            have j1 : (j : Int) < (i : Int) := by omega
            have j0 : (0 : Int) ≤ (j : Int) := by omega
            have hxm := List.mem_of_getElem? hx
            have hxn : x.l.length ≤ 8192 := by
              have := pts_at hx
              rw [pts_map MAP2.out] at this
              omega
            obtain ⟨K, hK⟩ : ∃ K, x.l.length = K := ⟨_, rfl⟩
            rw [hK] at hxn
            have HX := Lib.hid hx
            have XM := Lib.hid hxm
            have HK := Lib.hid hK
            have Z1 := Lib.hid Z.out
            clear hx hxm hK Z
            go_wp2_with fail
            go_loopg [8] K (fun gg s8 wr => ∃ (k : Nat), s8 = .int .i64 k ∧ k ≤ K ∧ K - k ≤ gg ∧ Aside (Zr wv.heap.size w4.heap.size w5 wr (.slice A4 i c4) i its2))
            case atStart => exact ⟨0, rfl, Nat.zero_le _, by omega, Z1.out⟩
            case round =>
              clear Z1
              obtain ⟨k, rfl, hk, hgk, Z⟩ := hrel
              obtain ⟨wq, rfl⟩ : ∃ wq, wq = wr := ⟨wr, rfl⟩
              obtain ⟨bh, oh, eA, hbh, hc⟩ := Z.out.row.ls.at_ HX.out
              have hx0 := hc 0 (by decide)
              simp only [HE, Nat.mul_one, Nat.add_zero, itE, It.val, List.getElem?_cons_zero, HK.out] at hx0
              subst eA
              clear hc
              by_cases hk2 : k < K
              · have k1 : (k : Int) < (K : Int) := by omega
                have k0 : (0 : Int) ≤ (k : Int) := by omega
                obtain ⟨g, cx, hval, _, _⟩ := (COP.out.ok x XM.out).some_ (by rw [HK.out]; omega)
                have hxA : x.A = some ⟨g, 0, none⟩ := by simp only [It.val] at hval; injection hval
                have hob : x.val.ownBlock = some g := by rw [hval]; rfl
                obtain ⟨hsp, hg1, hg2⟩ := Z.out.sp x XM.out g hob
                rw [HK.out] at hsp
                obtain ⟨u0, q0⟩ := hsp.cell (o := k * 3) (by omega)
                obtain ⟨u1, q1⟩ := hsp.cell (o := k * 3 + 1) (by omega)
                obtain ⟨u2, q2⟩ := hsp.cell (o := k * 3 + 2) (by omega)
                have f0 := hsp.froz (k * 3)
                have f1 := hsp.froz (k * 3 + 1)
                have f2 := hsp.froz (k * 3 + 2)
                have Z3 := Lib.hid (((Z.out.set XM.out hob (k * 3) (.int .i64 0)).set XM.out hob (k * 3 + 1) (.int .u64 0)).set XM.out hob (k * 3 + 2) (.int .u64 0))
                rw [hxA] at hx0
                clear hval hsp hob
                go_wp2_with fail
                go_roundg (K - (k + 1))
                case measure => omega
                case rel => exact ⟨k + 1, by go_num, by omega, by omega, Z3.out⟩
              · have k1 : ¬ (k : Int) < (K : Int) := by omega
                have Z4 := Lib.hid Z.out
                clear Z
                go_wp2_with fail
                go_roundg (i - (j + 1))
                case measure => omega
                case rel => exact ⟨j + 1, by go_num, by omega, by omega, Z4.out⟩
          · have j1 : ¬ (j : Int) < (i : Int) := by omega
            have hs5z : w5.heap.size ≤ wz.heap.size := Z.out.chg.size
            have hdz : Hd wz HH p v5 itsH := ⟨Z.out.chg.blk D5.out.at_ (fun e => by omega), D5.out.lo, D5.out.row.chg Z.out.chg (fun g hg e => by have := D5.out.own g hg; omega), D5.out.own, fun x hx =>
              ⟨⟨(D5.out.ok x hx).ls.1, rd_chg (D5.out.ok x hx).ls.2 Z.out.chg (by omega) (fun b off e k => by have := BLK.out x hx b off e; omega)⟩, (D5.out.ok x hx).ne, (D5.out.ok x hx).cap, (D5.out.ok x hx).most⟩⟩
            have hbvz : Below wv.heap.size wv wz := COP.out.bel.trans ((B45.out.mono hs4).trans (Z.out.chg.below (by omega) (fun k e => e.1)))
            have hptH : ∀ q, q ∈ pts itsH ↔ q ∈ pts its := fun q => by rw [(pts_perm PM.out).mem_iff, pts_full, pts_map MAP0.out]
            have hts : Ts itsH := ⟨fun y hy => by
              obtain ⟨y', hy', e⟩ := map_mem MAP0.out (List.mem_filter.1 (PM.out.mem_iff.1 hy)).1
              rw [← e]
              exact VW.out.srt y' hy', HF.out⟩
            have hfew : itsH.length ≤ 90000 := by
              have h1 := PM.out.length_eq
              have h2 : (full its0).length ≤ its0.length := List.length_filter_le _ _
              have h3 : its0.length = its.length := by simpa using congrArg List.length MAP0.out
              have h4 := LV.out.row.1
              omega
            have DZ := Lib.hid hdz
            have BVZ := Lib.hid hbvz
            have PTH := Lib.hid hptH
            have TS := Lib.hid hts
            have hsvz : wv.heap.size ≤ wz.heap.size := hbvz.size
            have HMY := Lib.hid (merge_y wz wv.heap.size i c1 A1 its (LV.out.below hbvz (Nat.le_refl _)) hsvz (by omega) (by omega))
            clear hdz hbvz hptH hts Z D5
            go_wp2_with fail
            refine HMY.out.mono ?_
            rintro e w6 ⟨A6, c6, o, rfl, ho6, hv6, hl6, hb6⟩
            have hs6 : wz.heap.size ≤ w6.heap.size := hb6.size
            have hd6 := DZ.out.quiet (Chg.of_below hb6)
            have hplt := DZ.out.lt
            have M6 := Lib.hid (show MO HH p w6 w6 v5 (.slice A6 o.length c6) itsH o from ⟨hd6, TS.out, ho6.row, fun g hg => by have := ho6.own g hg; omega, Below.refl _ _, hfew⟩)
            have hV6 : Views (pts itsH) o := views_mem hv6 PTH.out
            obtain ⟨m, hm⟩ : ∃ m, o.length = m := ⟨_, rfl⟩
            have hm8 : m ≤ 8192 := by omega
            have V6 := Lib.hid hV6
            have HM := Lib.hid hm
            have BW6 := Lib.hid (BW.out.trans ((BVZ.out.trans (hb6.mono hsvz)).mono hsz))
            rw [hm]
            clear ho6 hv6 hl6 hb6 hd6 hV6 hm HMY DZ
            go_wp2_with fail
            go_loopg [10, 11, 12] m (fun gg s10 s11 s12 wr => ∃ (k : Nat) (its1 : List It) (v1 : Value) (o1 : List Pt), s10 = .int .i64 k ∧ k ≤ m ∧ m - k ≤ gg ∧ Aside (MO HH p w6 wr v1 (.slice A6 o.length c6) its1 o) ∧ Aside (Mg (pts itsH) o1 its1) ∧ Aside (∃ r, o1 ++ r = o ∧ o1.length = k))
            case atStart => exact ⟨0, itsH, v5, [], rfl, Nat.zero_le _, Nat.le_refl _, M6.out, Mg.start itsH, ⟨o, rfl, rfl⟩⟩
            case round =>
              clear M6
              obtain ⟨k, its1, v1, o1, rfl, hk, hgk, M, G, R⟩ := hrel
              obtain ⟨wq, rfl⟩ : ∃ wq, wq = wr := ⟨wr, rfl⟩
              have HC := Lib.hid (next_c wq HH p v1 its1 M.out.hd (by have := M.out.few; omega) M.out.ts)
              obtain ⟨r, hr, hok⟩ := R.out
              have HR := Lib.hid hr
              have HOK := Lib.hid hok
              have hrl : k + r.length = m := by rw [← hok, ← HM.out, ← hr, List.length_append]
              clear hr hok R
              by_cases hk2 : k < m
              · have k1 : (k : Int) < (m : Int) := by omega
                have k0 : (0 : Int) ≤ (k : Int) := by omega
                go_wp2_with fail
                refine HC.out.mono ?_
                rintro e w7 ⟨b, kk, v2, its3, rfl, hd3, ht3, hs3, hk0, hk1, hl3⟩
                cases kk with
                | false =>
                  exfalso
                  obtain ⟨e1, _, _⟩ := hk0 rfl
                  have hG := G.out
                  rw [e1] at hG
                  have := rest_nil hG V6.out HR.out
                  rw [this] at hrl
                  simp at hrl
                  omega
                | true =>
                  have hnx := hk1 rfl
                  obtain ⟨r', hr'⟩ := next_head G.out V6.out HR.out hnx
                  have hob : o[k]? = some b := by
                    rw [← HR.out, hr', List.getElem?_append_right (by rw [HOK.out]; exact Nat.le_refl _), HOK.out, Nat.sub_self]
                    rfl
                  have G2 := Lib.hid (G.out.step hnx)
                  have R2 := Lib.hid (show (o1 ++ [b]) ++ r' = o ∧ (o1 ++ [b]).length = k + 1 from ⟨by rw [← HR.out, hr', List.append_assoc]; rfl, by rw [List.length_append, HOK.out]; rfl⟩)
                  have hM3 := M.out.to hd3 ht3 hs3 hl3
                  have hb8 : Below w7.heap.size w7 (w7.alloc (.cells #[.int .i64 b.1, .int .u64 b.2.1, .int .u64 b.2.2] 24)) := (Below.refl _ _).alloc (Nat.le_refl _) _
                  have hM4 := hM3.quiet hb8
                  have hIP : IsP (w7.alloc (.cells #[.int .i64 b.1, .int .u64 b.2.1, .int .u64 b.2.2] 24)) w7.heap.size b := alloc_new _ _
                  have hLs := hM4.out.ls
                  obtain ⟨ba, oa, eA, _, xa0, xa1, xa2⟩ := Ls.pt hLs hob
                  have p0 : (w7.alloc (.cells #[.int .i64 b.1, .int .u64 b.2.1, .int .u64 b.2.2] 24)).cell? ⟨w7.heap.size, 0, none⟩ = some (.int .i64 b.1) := by rw [cell_of_row _ _ _ _ _ _ hIP]; rfl
                  have p1 : (w7.alloc (.cells #[.int .i64 b.1, .int .u64 b.2.1, .int .u64 b.2.2] 24)).cell? ⟨w7.heap.size, 1, none⟩ = some (.int .u64 b.2.1) := by rw [cell_of_row _ _ _ _ _ _ hIP]; rfl
                  have p2 : (w7.alloc (.cells #[.int .i64 b.1, .int .u64 b.2.1, .int .u64 b.2.2] 24)).cell? ⟨w7.heap.size, 2, none⟩ = some (.int .u64 b.2.2) := by rw [cell_of_row _ _ _ _ _ _ hIP]; rfl
                  subst eA
                  obtain ⟨w8, hw8⟩ : ∃ w8, w7.alloc (.cells #[.int .i64 b.1, .int .u64 b.2.1, .int .u64 b.2.2] 24) = w8 := ⟨_, rfl⟩
                  rw [hw8] at hM4 xa0 xa1 xa2 p0 p1 p2
                  have M4 := Lib.hid hM4
                  have W8 := Lib.hid hw8
                  have hbl : ba < w8.heap.size := World.block_lt_of_cell? w8 _ xa0
                  have hbl2 : w7.heap.size < w8.heap.size := World.block_lt_of_cell? w8 _ p0
                  have z0 := Wb.at_ xa0
                  have z1 := Wb.at_ xa1
                  have z2 := Wb.at_ xa2
                  have z3 := Wb.at_ p0
                  have z4 := Wb.at_ p1
                  have z5 := Wb.at_ p2
                  clear hd3 ht3 hs3 hk0 hk1 hl3 hnx hr' hob hM3 hb8 hM4 hIP hLs xa0 xa1 xa2 p0 p1 p2 hw8 HC
                  go_wp2_with fail
                  rw [W8.out]
                  refine wp_region_plan [([0, 1, 2, 3, 4, 5, 6, 7, 8, 9], none)] (by kernel_rfl) (by kernel_rfl) ?_
                  refine seg_end _ (by dsimp only [pick, at_]) ?_
                  repeat (go_big_quiet_step (fail))
                  refine wpQuiet_nil ?_
                  refine NoPanic.normal ?_
                  clear z0 z1 z2 z3 z4 z5
                  go_wp2_with (fail)
                  go_roundg (m - (k + 1))
                  case measure => omega
                  case rel => exact ⟨k + 1, its3, v2, o1 ++ [b], by go_num, by omega, by omega, M4.out.quiet ((Below.refl _ _).drew), G2.out, ⟨r', R2.out.1, R2.out.2⟩⟩
              · have k1 : ¬ (k : Int) < (m : Int) := by omega
                go_wp2_with fail
                refine HC.out.mono ?_
                rintro e w7 ⟨b, kk, v2, its3, rfl, hd3, ht3, hs3, hk0, hk1, hl3⟩
                cases kk with
                | true =>
                  exfalso
                  obtain ⟨r', hr'⟩ := next_head G.out V6.out HR.out (hk1 rfl)
                  rw [hr'] at hrl
                  simp at hrl
                  omega
                | false =>
                  obtain ⟨_, _, rfl⟩ := hk0 rfl
                  have hM3 := M.out.to hd3 ht3 hs3 hl3
                  have B7 := Lib.hid hM3.bel
                  have hwH : w.heap.size ≤ HH := by omega
                  have hlo7 := hM3.hd.lo
                  have hlt7 := hM3.hd.lt
                  clear hd3 ht3 hs3 hk0 hk1 hl3 hM3 HC M G
                  go_wp2_with fail
                  go_ret
                  exact ⟨rfl, BW6.out.trans ((B7.out.mono hwH).trans ((Below.refl _ _).alloc (by omega) _))⟩
end Go.Proofs.Ytemmfcinpkfoiaa.lawMergeIterates
