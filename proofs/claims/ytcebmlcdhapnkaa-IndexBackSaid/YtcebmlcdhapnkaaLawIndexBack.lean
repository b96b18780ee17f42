/-
  The walk of the law IndexBack.
-/
import Derived.Test.YtcebmlcdhapnkaaIdxFindX
namespace Go.Proofs.Ytcebmlcdhapnkaa.lawIndexBack
open Go.ChangeShapes Go.WideShapes Go.ChangeAt Go.RowKit plain words ord mem uvs uvc idx

theorem rf_at {l : List En} (h : Srt l) {i : Nat} {y : En} (hy : l[i]? = some y) : rf l y.1 = (some y, i % 4 + 1) := by
  have hi := (List.getElem?_eq_some_iff.1 hy).1
  unfold rf
  rw [st_at h hy _ (by omega)]
  simp only
  rw [fg_at h hy 4 _ 0 (by omega) (by omega)]
  congr 1
  omega
def anyEq (l : List En) (o : ByteArray) (i : Nat) : Bool := (l.take i).any fun x => x.1.toList == o.toList
theorem any_step {l : List En} {o : ByteArray} {i : Nat} {x : En} (hx : l[i]? = some x) : anyEq l o (i + 1) = (anyEq l o i || (x.1.toList == o.toList)) := by
  unfold anyEq
  rw [take_succ_of hx, List.any_append]
  simp
theorem bytes_inj {a b : ByteArray} (h : a.toList = b.toList) : a = b := by
  rw [Lib.toList_data, Lib.toList_data] at h
  exact ByteArray.ext (Array.toList_inj.1 h)
theorem rf_there {l : List En} (h : Srt l) (o : ByteArray) : (rf l o).1.isSome = anyEq l o l.length ∧ (rf l o).2 ≤ 4 := by
  cases ha : anyEq l o l.length with
  | true =>
    unfold anyEq at ha
    rw [List.take_length, List.any_eq_true] at ha
    obtain ⟨x, hx, he⟩ := ha
    obtain ⟨i, hi⟩ := List.getElem?_of_mem hx
    have e : x.1 = o := bytes_inj (by simpa using he)
    have hr := rf_at h hi
    rw [e] at hr
    rw [hr]
    exact ⟨rfl, by simp only; omega⟩
  | false =>
    have hno : ∀ x ∈ l, x.1.toList ≠ o.toList := fun x hx e => by
      have : anyEq l o l.length = true := by
        unfold anyEq
        rw [List.take_length, List.any_eq_true]
        exact ⟨x, hx, by simpa using e⟩
      rw [this] at ha
      cases ha
    unfold rf
    cases hs : st l o ((l.length + 3) / 4) with
    | none => exact ⟨rfl, Nat.zero_le _⟩
    | some k =>
      simp only
      rw [fg_no hno]
      exact ⟨rfl, by have := fg_le l o 4 k 0; omega⟩
theorem neq_ex (s : ByteArray) (a b c : Int) (w : World) : (binOp .neq 68 (.agg #[.string s, .int .i64 a, .int .i64 b, .int .u32 c]) (.agg #[.string s, .int .i64 a, .int .i64 b, .int .u32 c])).run Try.prog w = .ok (.bool false) w := by
  have hS : Try.prog.underlying 68 = some (.struct (Try.prog.fieldsOf 68)) := by kernel_rfl
  have hp : Try.prog.stoodInHeld 68 = false := by kernel_rfl
  have u3 := Try.underlying3
  have a3 := Try.isAgg3
  have z3 := Try.sizeOf3
  have u4 := Try.underlying66
  have a4 := Try.isAgg66
  have z4 := Try.sizeOf66
  have u5 := Try.underlying9
  have a5 := Try.isAgg9
  have z5 := Try.sizeOf9
  rw [run_neq_struct, show (10000 : Nat) = 9999 + 1 from rfl, run_equalIn_agg w 9999 68 _ _ hS hp]
  simp only [Program.fieldsOf, Try.underlying68]
  go_simp
theorem guard_ex : Try.prog.eqGuardType Try.prog.depth 68 = false := by kernel_rfl
theorem enc_ok {w w' : World} {l : List En} {e : Ending} (h : RetEnc w l e w') (hc : checkE l = 0) : ∃ Aa ca As cs', e = .returned (.tuple #[.slice Aa (idxB l).length ca, .slice As (sumB l).length cs', .int .i64 0]) ∧ Bs w' w'.heap.size Aa (idxB l).length (idxB l) ∧ Bs w' w'.heap.size As (sumB l).length (sumB l) ∧ Below w.heap.size w w' ∧ ((idxB l).length ≤ ca ∧ ca ≤ 9223372036854775807) ∧ (sumB l).length ≤ cs' ∧ cs' ≤ 9223372036854775807 := by
  obtain ⟨h1, h2, hb⟩ := h
  obtain ⟨va, vs, rfl, ra, rs⟩ := h1 hc
  obtain ⟨Aa, ca, rfl, ba, la1, la2, la3⟩ := brow_bs ra
  obtain ⟨As, cs', rfl, bs, lb1, lb2, lb3⟩ := brow_bs rs
  exact ⟨Aa, ca, As, cs', rfl, ba, bs, hb, ⟨la1, la2⟩, lb1, lb2⟩

set_option maxHeartbeats 4000000 in
set_option maxRecDepth 100000 in
theorem walk_ok (A : Option Addr) (n c : Nat) (o : ByteArray) (w : World) (h0 : IsEns w A n c) (w1 : o.size ≤ maxLen) :
    Calls Try.prog 11 #[.slice A n c, .string o] w fun e w' => e = .returned (.bool true) ∧ Below w.heap.size w w' := by
  obtain ⟨l, h, hF, hc1, hc2, hA⟩ := h0
  unfold maxLen at hc2 w1
  have HV := Lib.hid (heavy_x w w.heap.size n c A l h (by omega))
  have HH := Lib.hid h
  have HF := Lib.hid hF
  have HL := Lib.hid h.1
  clear h hF
  go_enter Try.func11, Try.ntmps11
  go_wp2_with (fail)
  refine HV.out.mono ?_
  rintro e wh ⟨b, rfl, hhb, rfl⟩
  clear HV
  cases b with
  | true =>
    go_wp2_with (fail)
    go_ret
    exact ⟨rfl, Below.refl _ _⟩
  | false =>
    have hn : n ≤ 16384 := hhb rfl
    clear hhb
    by_cases hos : 4096 < o.size
    · have hosz : (4096 : Int) < (o.size : Int) := by omega
      go_wp2_with (fail)
      go_ret
      exact ⟨rfl, Below.refl _ _⟩
    · have hosz : ¬ (4096 : Int) < (o.size : Int) := by omega
      have KE := Lib.hid (encode_x w w.heap.size n c A l HH.out HF.out (Nat.le_refl _) (by omega))
      have KT := Lib.hid (fun (u : World) (hu : Below w.heap.size w u) => theirs_x u w.heap.size n c A l (HH.out.below hu (Nat.le_refl _)) hu.size (by omega))
      by_cases hok : checkE l = 0
      · have hO := okE_of hok HF.out
        have HS := Lib.hid (srt_of hok)
        have hlb := ls_ok (lst_back l hO) hok
        have hlen1 := idxB_len l (fun x hx => (checkF_ok l none hok x hx).1.2)
        have hlen2 := sumT_len l (fun x hx => (checkF_ok l none hok x hx).1.2) l.length
        rw [HL.out] at hlen1 hlen2
        have hlen3 : (sumB l).length ≤ 1000000 := by unfold sumB; rw [HL.out]; omega
        have HO := Lib.hid hO
        have HOK := Lib.hid hok
        have HLB := Lib.hid hlb
        have hlen1' : (idxB l).length ≤ 1000000 := by omega
        clear hlen1 hlen2 hO hlb hok
        go_wp2_with (fail)
        refine KE.out.mono ?_
        rintro e w2 he2
        obtain ⟨Aa, ca, As, cs', rfl, ba, bs, hb2, ⟨la1, la2⟩, lb1, lb2⟩ := enc_ok he2 HOK.out
        have hs2 := hb2.size
        have HBA := Lib.hid ba
        have HBS := Lib.hid bs
        have HB2 := Lib.hid hb2
        have HLA := Lib.hid (And.intro la1 la2)
        have HLS := Lib.hid (And.intro lb1 lb2)
        have KL := Lib.hid (fun (u : World) (hu : Below w2.heap.size w2 u) => list_x u w2.heap.size (idxB l).length ca Aa (idxB l) (HBA.out.below hu (Nat.le_refl _)) hu.size HLA.out.1 HLA.out.2 (by omega))
        have KF := Lib.hid (fun (u : World) (hu : Below w2.heap.size w2 u) (nm : ByteArray) => find_x u w2.heap.size (idxB l).length ca (sumB l).length cs' Aa As l nm (HBA.out.below hu (Nat.le_refl _)) hu.size HLA.out.1 HLA.out.2 (by omega) (HBS.out.below hu (Nat.le_refl _)) HLS.out.1 HLS.out.2 (by omega) HO.out)
        clear ba bs hb2 he2 KE la1 la2 lb1 lb2
        obtain ⟨X, hX⟩ : ∃ X, (idxB l).length = X := ⟨_, rfl⟩
        obtain ⟨Y, hY⟩ : ∃ Y, (sumB l).length = Y := ⟨_, rfl⟩
        rw [hX] at KL KF ⊢
        rw [hY] at KF ⊢
        clear hX hY
        go_wp2_with (fail)
        refine (KT.out w2 HB2.out).mono ?_
        rintro e w3 ⟨A3, c3, rfl, ho3, hb3, _, _, _⟩
        have hs3 := hb3.size
        have HY := Lib.hid (check_y w3 w3.heap.size l.length c3 A3 l ⟨rfl, own_rd ho3⟩ (Nat.le_refl _) (by rw [HL.out]; omega))
        have HB3 := Lib.hid hb3
        clear ho3 hb3
        go_wp2_with (fail)
        refine HY.out.mono ?_
        rintro e w4 ⟨rfl, hb4⟩
        rw [HOK.out]
        have hs4 := hb4.size
        have HB4 := Lib.hid (HB3.out.trans (hb4.mono (by omega)))
        clear hb4 HY
        go_wp2_with (fail)
        refine (KL.out w4 HB4.out).mono ?_
        rintro e w5 ⟨A5, c5, rfl, he5, hb5⟩
        rw [HLB.out.1] at he5
        rw [HLB.out.1, HLB.out.2, HL.out]
        rw [HL.out] at he5
        have hs5 := hb5.size
        have HB5 := Lib.hid (HB4.out.trans (hb5.mono (by omega)))
        have HE5 := Lib.hid he5
        clear hb5 he5 KL
        go_wp2_with (fail)
        refine (KT.out w5 (HB2.out.trans (HB5.out.mono hs2))).mono ?_
        rintro e w6 ⟨A6, c6, rfl, ho6, hb6, _, _, _⟩
        have hs6 := hb6.size
        have h6 : Ens w6 w6.heap.size A6 n l := ⟨HL.out, by have := own_rd ho6; rwa [HL.out] at this⟩
        have HS6 := Lib.hid (same_x w6 w5.heap.size n c5 w6.heap.size c6 A5 A6 l (HE5.out.below hb6 (Nat.le_refl _)) hs6 h6 (Nat.le_refl _) (by omega))
        rw [HL.out]
        have HB6 := Lib.hid (HB5.out.trans (hb6.mono (by omega)))
        clear ho6 hb6 h6 HE5 KT
        go_wp2_with (fail)
        refine HS6.out.mono ?_
        rintro e w7 ⟨rfl, hb7⟩
        have hs7 := hb7.size
        have HB7 := Lib.hid (HB6.out.trans (hb7.mono (by omega)))
        clear hb7 HS6
        go_wp2_with (fail)
        go_loopg [10, 11] n (fun gg s10 s11 wr => ∃ (i : Nat) (th : Bool), i ≤ n ∧ n - i ≤ gg ∧ s10 = .bool th ∧ s11 = .int .i64 i ∧ Aside (th = anyEq l o i) ∧ Aside (Below w2.heap.size w2 wr))
        case atStart => exact ⟨0, false, Nat.zero_le _, by omega, rfl, rfl, rfl, HB7.out⟩
        case round =>
          obtain ⟨i, th, hi, hg, rfl, rfl, TH, BW⟩ := hrel
          have hsw := BW.out.size
          have HBW := Lib.hid (HB2.out.trans (BW.out.mono hs2))
          by_cases hlt : i < n
          · obtain ⟨x, hx⟩ : ∃ x, l[i]? = some x := ⟨_, List.getElem?_eq_getElem (by rw [HL.out]; exact hlt)⟩
            obtain ⟨b, off, rfl, hb, c0, c1, c2, c3⟩ := (HH.out.below HBW.out (Nat.le_refl _)).at_ hlt hx
            have hrf := rf_at HS.out hx
            have HTS := Lib.hid (any_step (o := o) hx)
            obtain ⟨xs, xo, xz, xm⟩ := x
            simp only at c0 c1 c2 c3 hrf
            have hK := KF.out wr BW.out xs
            unfold RetFind at hK
            rw [hrf] at hK
            simp only [enOr, eV, Option.isSome] at hK
            obtain ⟨r, hr⟩ : ∃ r, i % 4 = r := ⟨_, rfl⟩
            obtain ⟨u, hu⟩ : ∃ u, r + 1 = u := ⟨_, rfl⟩
            rw [hr, hu] at hK
            have HK := Lib.hid hK
            have hr4 : (i : Int) % 4 = (r : Int) := by omega
            have hw4 : IntKind.i64.wrap ((r : Int) + 1) = (u : Int) := by rw [IntWalk.i64_in _ (by omega)]; omega
            have hwi : IntKind.i64.wrap ((i : Int) + 1) = ((i + 1 : Nat) : Int) := by rw [IntWalk.i64_in _ (by omega)]; omega
            have i1 : (0 : Int) ≤ (i : Int) := by omega
            have i2 : (i : Int) < (n : Int) := by omega
            have hbw : b < wr.heap.size := by omega
            clear hx hrf hK hr hu
            go_wp2_with (fail)
            refine HK.out.mono ?_
            rintro e w8 ⟨rfl, hb8⟩
            have hs8 := hb8.size
            obtain ⟨w9, hw9⟩ : ∃ w9, w8.alloc (.cells #[.string xs, .int .i64 xo, .int .i64 xz, .int .u32 xm] 68) = w9 := ⟨_, rfl⟩
            have hb9 : Below w8.heap.size w8 w9 := by rw [← hw9]; exact below_al _ _
            have g9 : IsV 68 w9 w8.heap.size (.string xs) (.int .i64 xo) (.int .i64 xz) (.int .u32 xm) := by rw [← hw9]; exact alloc_new _ _
            obtain ⟨⟨d0, d1, d2, d3⟩, _⟩ := isv_cells g9
            have hlt9 : w8.heap.size < w9.heap.size := blk_lt g9
            have hB9 := hb8.trans (hb9.mono hs8)
            have k0 := (hB9.cell (p := ⟨b, off + i * 4, none⟩) (by simp only; omega)).trans c0
            have k1 := (hB9.cell (p := ⟨b, off + i * 4 + 1, none⟩) (by simp only; omega)).trans c1
            have k2 := (hB9.cell (p := ⟨b, off + i * 4 + 2, none⟩) (by simp only; omega)).trans c2
            have k3 := (hB9.cell (p := ⟨b, off + i * 4 + 3, none⟩) (by simp only; omega)).trans c3
            have HB9 := Lib.hid (BW.out.trans (hB9.mono hsw))
            have hbw9 : b < w9.heap.size := by omega
            have hE : ∀ u : World, (binOp .neq 68 (.agg #[.string xs, .int .i64 xo, .int .i64 xz, .int .u32 xm]) (.agg #[.string xs, .int .i64 xo, .int .i64 xz, .int .u32 xm])).run Try.prog u = .ok (.bool false) u := fun u => neq_ex xs xo xz xm u
            have hG := guard_ex
            clear hb8 hb9 g9 hB9 HK c0 c1 c2 c3
            go_wp2_with (fail)
            have q0 := Wb.at_ k0
            have q1 := Wb.at_ k1
            have q2 := Wb.at_ k2
            have q3 := Wb.at_ k3
            have p0 := Wb.at_ d0
            have p1 := Wb.at_ d1
            have p2 := Wb.at_ d2
            have p3 := Wb.at_ d3
            refine wp_region_plan [([0, 1, 2, 3, 4, 5, 6, 7, 8, 9, 10, 11, 12, 13, 14, 15, 16], none)] (by kernel_rfl) (by kernel_rfl) ?_
            refine seg_end _ (by dsimp only [pick, at_]) ?_
            repeat (go_big_quiet_step (fail))
            refine wpQuiet_nil ?_
            refine NoPanic.normal ?_
            clear q0 q1 q2 q3 p0 p1 p2 p3 hE hG
            cases th with
            | true =>
              go_wp2_with (fail)
              go_roundg (n - (i + 1))
              case measure => omega
              case rel => exact ⟨i + 1, true, by omega, by omega, rfl, by go_num, (show true = anyEq l o (i + 1) by rw [HTS.out, ← TH.out]; rfl), HB9.out.drew⟩
            | false =>
              cases hq : (xs.toList == o.toList) with
              | true =>
                go_wp2_with (fail)
                go_roundg (n - (i + 1))
                case measure => omega
                case rel => exact ⟨i + 1, true, by omega, by omega, rfl, by go_num, (show true = anyEq l o (i + 1) by rw [HTS.out, ← TH.out]; simp only [hq]; rfl), HB9.out.drew⟩
              | false =>
                go_wp2_with (fail)
                go_roundg (n - (i + 1))
                case measure => omega
                case rel => exact ⟨i + 1, false, by omega, by omega, rfl, by go_num, (show false = anyEq l o (i + 1) by rw [HTS.out, ← TH.out]; simp only [hq]; rfl), HB9.out.drew⟩
          · have hltz : ¬ (i : Int) < (n : Int) := by omega
            obtain rfl : i = n := by omega
            have ht := rf_there HS.out o
            rw [HL.out] at ht
            have hK := KF.out wr BW.out o
            unfold RetFind at hK
            rw [ht.1, ← TH.out] at hK
            have HK := Lib.hid hK
            have h4 := ht.2
            obtain ⟨u, hu⟩ : ∃ u, (rf l o).2 = u := ⟨_, rfl⟩
            rw [hu] at HK h4
            have hu4 : (u : Int) ≤ 4 := by omega
            clear ht hK hu
            go_wp2_with (fail)
            refine HK.out.mono ?_
            rintro e w8 ⟨rfl, hb8⟩
            have HB8 := Lib.hid (HBW.out.trans (hb8.mono (by omega)))
            clear hb8 HK
            simp only [eV]
            go_wp2_with (fail)
            go_ret
            exact ⟨rfl, HB8.out.alloc HB8.out.size _⟩
      · have hnz : (checkE l == 0) = false := by simpa using hok
        go_wp2_with (fail)
        refine KE.out.mono ?_
        rintro e w2 ⟨_, he2, hb2⟩
        have he3 := he2 hok
        subst he3
        have HB2 := Lib.hid hb2
        have hs2 := hb2.size
        clear hb2 he2 KE
        go_wp2_with (fail)
        refine (KT.out w2 HB2.out).mono ?_
        rintro e w3 ⟨A3, c3, rfl, ho3, hb3, _, _, _⟩
        have hs3 := hb3.size
        have HY := Lib.hid (check_y w3 w3.heap.size l.length c3 A3 l ⟨rfl, own_rd ho3⟩ (Nat.le_refl _) (by rw [HL.out]; omega))
        have HB3 := Lib.hid (HB2.out.trans (hb3.mono hs2))
        clear ho3 hb3 KT
        go_wp2_with (fail)
        refine HY.out.mono ?_
        rintro e w4 ⟨rfl, hb4⟩
        have HB4 := Lib.hid (HB3.out.trans (hb4.mono (by omega)))
        clear hb4 HY
        go_wp2_with (fail)
        go_ret
        exact ⟨rfl, HB4.out⟩
end Go.Proofs.Ytcebmlcdhapnkaa.lawIndexBack
