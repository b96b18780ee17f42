/-
  Index: the entries of bytes; the document's List.
-/
import Derived.Test.YtcebmlcdhapnkaaIdxReadY2
namespace Go.Proofs.Ytcebmlcdhapnkaa.idx
open Go.ChangeShapes Go.WideShapes Go.ChangeAt Go.RowKit plain words ord mem uvs uvc Go.Lib

def lstF : Nat → List UInt8 → Option (List En)
  | 0, l => if l = [] then some [] else none
  | f + 1, l => if l = [] then some [] else if (re l).2 = 0 then none else (lstF f (l.drop (re l).2)).map ((re l).1 :: ·)
theorem lstF_eq (f g : Nat) (l : List UInt8) (h : l.length ≤ f) (k : l.length ≤ g) : lstF f l = lstF g l := by
  induction f generalizing g l with
  | zero =>
    have : l = [] := List.eq_nil_of_length_eq_zero (by omega)
    subst this
    cases g <;> rfl
  | succ f ih =>
    by_cases e : l = []
    · subst e
      cases g <;> rfl
    · have := List.length_pos_iff.2 e
      obtain ⟨g, rfl⟩ : ∃ j, g = j + 1 := ⟨g - 1, by omega⟩
      simp only [lstF, if_neg e]
      by_cases e2 : (re l).2 = 0
      · rw [if_pos e2, if_pos e2]
      · rw [if_neg e2, if_neg e2, ih g _ (by rw [List.length_drop]; omega) (by rw [List.length_drop]; omega)]
/-- the entries that bytes are -/
def lst (l : List UInt8) : Option (List En) := lstF l.length l
theorem lst_nil : lst [] = some [] := rfl
theorem lst_none {l : List UInt8} (h : l ≠ []) (h2 : (re l).2 = 0) : lst l = none := by
  unfold lst
  obtain ⟨k, hk⟩ : ∃ k, l.length = k + 1 := ⟨l.length - 1, by have := List.length_pos_iff.2 h; omega⟩
  rw [hk, lstF, if_neg h, if_pos h2]
theorem lst_cons {l : List UInt8} (h : l ≠ []) (h2 : (re l).2 ≠ 0) : lst l = (lst (l.drop (re l).2)).map ((re l).1 :: ·) := by
  have hl := List.length_pos_iff.2 h
  unfold lst
  obtain ⟨k, hk⟩ : ∃ k, l.length = k + 1 := ⟨l.length - 1, by omega⟩
  rw [hk, lstF, if_neg h, if_neg h2, lstF_eq k _ _ (by rw [List.length_drop]; omega) (Nat.le_refl _)]
/-- what List answers -/
def lsB (l : List UInt8) : List En := match lst l with
  | some x => if checkE x = 0 then x else []
  | none => []
def lsE (l : List UInt8) : Int := match lst l with
  | some x => if checkE x = 0 then 0 else 50
  | none => 50
theorem ls_none {l : List UInt8} (h : lst l = none) : lsB l = [] ∧ lsE l = 50 := by simp [lsB, lsE, h]
theorem ls_bad {l : List UInt8} {x : List En} (h : lst l = some x) (hc : checkE x ≠ 0) : lsB l = [] ∧ lsE l = 50 := by simp [lsB, lsE, h, hc]
theorem ls_ok {l : List UInt8} {x : List En} (h : lst l = some x) (hc : checkE x = 0) : lsB l = x ∧ lsE l = 0 := by simp [lsB, lsE, h, hc]
/-- how far a walk has come: acc is read, rest is left -/
def At (bs rest : List UInt8) (acc : List En) : Prop := lst bs = (lst rest).map (acc ++ ·)
theorem At.start (bs : List UInt8) : At bs bs [] := by
  unfold At
  cases lst bs <;> rfl
theorem At.fail {bs rest : List UInt8} {acc : List En} (h : At bs rest acc) (h1 : rest ≠ []) (h2 : (re rest).2 = 0) : lst bs = none := by
  rw [h, lst_none h1 h2]; rfl
theorem At.next {bs rest : List UInt8} {acc : List En} {x : En} {k : Nat} (h : At bs rest acc) (h1 : rest ≠ []) (hr : re rest = (x, k)) (h2 : k ≠ 0) : At bs (rest.drop k) (acc ++ [x]) := by
  unfold At at *
  have h3 := lst_cons h1 (by rw [hr]; exact h2)
  rw [hr] at h3
  rw [h, h3]
  cases lst (rest.drop k) <;> simp
theorem At.done {bs : List UInt8} {acc : List En} (h : At bs [] acc) : lst bs = some acc := by
  rw [h, lst_nil]; simp
def RetLst (w : World) (bs : List UInt8) (e : Ending) (w' : World) : Prop := ∃ A c, e = .returned (.tuple #[.slice A (lsB bs).length c, .int .i64 (lsE bs)]) ∧ Ens w' w'.heap.size A (lsB bs).length (lsB bs) ∧ Below w.heap.size w w'
theorem ret_nil {w w' : World} {bs : List UInt8} (h : lsB bs = [] ∧ lsE bs = 50) (hb : Below w.heap.size w w') : RetLst w bs (.returned (.tuple #[.slice none 0 0, .int .i64 50])) w' := by
  refine ⟨none, 0, ?_, ?_, hb⟩
  · rw [h.1, h.2]; rfl
  · rw [h.1]; exact Ens.none0 _ _ _

set_option maxHeartbeats 2000000 in
set_option maxRecDepth 100000 in
theorem list_y (w : World) (B n c : Nat) (A : Option Addr) (bs : List UInt8) (h : Bs w B A n bs) (hB : B ≤ w.heap.size) (hnc : n ≤ c) (hcm : c ≤ 9223372036854775807) (hn : n ≤ 1000000000) :
    Calls Try.prog 35 #[.slice A n c] w (RetLst w bs) := by
  obtain ⟨i0, hi, hz0, hz1, hz2⟩ := info_parts infoE
  have HH := Lib.hid h
  have hlit := World.ownsRow_lit (w := w) (base := w.heap.size) (e := 81) (size := 4) #[] 0 (Nat.le_refl _) (by simp) rfl
  have HLIT := Lib.hid hlit
  have HB0 := Lib.hid (below_al w (.cells #[] 81))
  clear h hlit
  go_enter Try.func35, Try.ntmps35
  go_wp2_with (fail)
  go_loopg [0, 4] n (fun gg s0 s4 wr => ∃ (rest : List UInt8) (acc : List En) (A0 : Option Addr) (m c0 a : Nat) (v4 : Value), m ≤ gg ∧ s0 = .slice A0 m c0 ∧ v4 = s4 ∧ m ≤ c0 ∧ c0 ≤ 9223372036854775807 ∧ a + m ≤ n ∧ Aside (Bs wr B A0 m rest) ∧ Aside (acc.length = a) ∧ Aside (wr.ownsRow w.heap.size 81 4 v4 a (cs eE acc)) ∧ Aside (At bs rest acc) ∧ Aside (Below w.heap.size w wr))
  case atStart => exact ⟨bs, [], A, n, c, 0, _, Nat.le_refl _, rfl, rfl, hnc, hcm, by omega, HH.out.below HB0.out hB, rfl, HLIT.out, At.start bs, HB0.out⟩
  case round =>
    clear HLIT HB0 HH hnc hcm
    obtain ⟨rest, acc, A0, m, c0, a, v4, hg, rfl, rfl, hmc, hcm, ham, HR, HA, OW, AT, BW⟩ := hrel
    have hsw := BW.out.size
    by_cases hlt : m = 0
    · subst hlt
      have hre : rest = [] := List.eq_nil_of_length_eq_zero HR.out.len_
      have hdone := AT.out
      rw [hre] at hdone
      have HD := Lib.hid hdone.done
      obtain ⟨A4, c4, rfl, h1, h2, h3⟩ := own_es (w := w) HA.out OW.out
      have HY := Lib.hid (check_y wr wr.heap.size a c4 A4 acc ⟨HA.out, own_rd OW.out⟩ (Nat.le_refl _) (by omega))
      clear hdone hre h1
      go_wp2_with (fail)
      refine HY.out.mono ?_
      rintro e w4 ⟨rfl, hb4⟩
      have HB4 := Lib.hid (BW.out.trans (hb4.mono hsw))
      have HE4 := Lib.hid ((own_rd OW.out).below hb4 (Nat.le_refl _))
      have hs4 := hb4.size
      clear hb4 HY
      by_cases hc : checkE acc = 0
      · have hcz : (checkE acc == 0) = true := by simpa using hc
        go_wp2_with (fail)
        go_ret2
        have hk := ls_ok HD.out hc
        refine ⟨A4, c4, by rw [hk.1, hk.2, HA.out]; rfl, by rw [hk.1]; exact ⟨rfl, by rw [HA.out]; exact HE4.out.more hs4⟩, HB4.out⟩
      · have hcz : (checkE acc == 0) = false := by simpa using hc
        go_wp2_with (fail)
        go_ret2
        exact ret_nil (ls_bad HD.out hc) HB4.out
    · have hm0 : (0 : Int) < (m : Int) := by omega
      have hne : rest ≠ [] := fun e => by have := HR.out.len_; rw [e] at this; exact hlt this.symm
      have HNE := Lib.hid hne
      have HRD := Lib.hid (read_y wr B m c0 A0 rest HR.out (by omega) hmc hcm (by omega))
      have hk := re_le rest
      rw [HR.out.len_] at hk
      obtain ⟨xs, xo, xz, xm, k, hre⟩ : ∃ xs xo xz xm k, re rest = ((xs, xo, xz, xm), k) := ⟨_, _, _, _, _, rfl⟩
      rw [hre] at HRD hk
      simp only at hk
      have HRE := Lib.hid hre
      clear hne hre
      go_wp2_with (fail)
      refine HRD.out.mono ?_
      rintro e w3 ⟨rfl, hb3⟩
      have hs3 := hb3.size
      simp only [eV]
      obtain ⟨w5, hw5⟩ : ∃ w5, w3.alloc (.cells #[.string xs, .int .i64 xo, .int .i64 xz, .int .u32 xm] 81) = w5 := ⟨_, rfl⟩
      have hb5 : Below w3.heap.size w3 w5 := by rw [← hw5]; exact below_al _ _
      have g5 : IsV 81 w5 w3.heap.size (.string xs) (.int .i64 xo) (.int .i64 xz) (.int .u32 xm) := by rw [← hw5]; exact alloc_new _ _
      obtain ⟨⟨e0, e1, e2, e3⟩, _⟩ := isv_cells g5
      have hs5 := hb5.size
      have HB5 := Lib.hid ((BW.out.trans (hb3.mono hsw)).trans (hb5.mono (by omega)))
      have HO5 := Lib.hid (own_keep (own_keep OW.out hb3 (Nat.le_refl _)) hb5 (by omega))
      have HR5 := Lib.hid ((HR.out.below hb3 (by omega)).below hb5 (by omega))
      have hlt5 : w3.heap.size < w5.heap.size := blk_lt g5
      clear hb3 hb5 g5 HRD OW HR BW
      by_cases hk0 : k = 0
      · have hkz : ((k : Int) == 0) = true := by simp; omega
        have HF := Lib.hid (AT.out.fail HNE.out (by rw [HRE.out]; exact hk0))
        go_wp2_with (fail)
        go_ret2
        exact ret_nil (ls_none HF.out) HB5.out
      · have hkz : ((k : Int) == 0) = false := by simp; omega
        have HN := Lib.hid (AT.out.next HNE.out HRE.out hk0)
        obtain ⟨b, off, rfl, hbB⟩ := Rd.some_of HR5.out (show 0 < m by omega)
        have hcut := Lib.hid (bs_cut HR5.out hk hmc)
        have i1 : (0 : Int) ≤ (k : Int) := by omega
        have i2 : (k : Int) ≤ (m : Int) := by omega
        have i3 : (m : Int) ≤ (c0 : Int) := by omega
        obtain ⟨w6, hw6⟩ : ∃ w6, w5.alloc (.cells #[.string xs, .int .i64 xo, .int .i64 xz, .int .u32 xm] 81) = w6 := ⟨_, rfl⟩
        have hb6 : Below w5.heap.size w5 w6 := by rw [← hw6]; exact below_al _ _
        have hrd : Rd w6 (w5.heap.size + 1) (some ⟨w5.heap.size, 0, none⟩) (1 * 4) [.string xs, .int .i64 xo, .int .i64 xz, .int .u32 xm] := by rw [← hw6]; exact rd_fresh (w := w5) _ [.string xs, .int .i64 xo, .int .i64 xz, .int .u32 xm] rfl
        have hs6 := hb6.size
        have ho6 := own_keep HO5.out hb6 (Nat.le_refl _)
        have hB6 := HB5.out.trans (hb6.mono (by omega))
        have hsz6 : w.heap.size ≤ w6.heap.size := hB6.size
        go_wp2_with (at_builtin; refine wpList_append_rd rfl (.tmp 18) (.tmp 20) 55 rfl w.heap.size 81 i0 _ 4 40 Try.underlying55 hi hz0 hz1 hz2 rfl (by decide) v4 a (cs eE acc) rfl ho6 (w5.heap.size + 1) _ 1 1 (fun e => by cases e) [.string xs, .int .i64 xo, .int .i64 xz, .int .u32 xm] rfl hrd (by intro u hu; simp at hu; rcases hu with rfl | rfl | rfl | rfl <;> rfl) (by unfold maxLen; omega) (by omega) hsz6 ?_; intro v7 w7 hown7 hg7 hnn7)
        all_goals
          have hown8 : w7.ownsRow w.heap.size 81 4 v7 (a + 1) (cs eE (acc ++ [(xs, xo, xz, xm)])) := by
            rw [cs_append, cs_eE_one]
            exact hown7
          have HB7 := Lib.hid (own_below hB6 ho6 hsz6 hg7)
          have h3 := hcut.out
          first | rw [if_pos rfl] at h3 | rw [if_pos (by assumption)] at h3 | rw [if_neg (by assumption)] at h3
          have HR7 := Lib.hid ((h3.below hb6 (by omega)).below (own_below (Below.refl _ _) ho6 hsz6 hg7) hB)
          go_roundg (m - k)
          case measure => omega
          case rel => exact ⟨rest.drop k, _, _, m - k, _, a + 1, v7, by omega, rfl, rfl, by omega, by omega, by omega, HR7.out, (show (acc ++ [(xs, xo, xz, xm)]).length = a + 1 by rw [List.length_append, HA.out]; rfl), hown8, HN.out, HB7.out⟩
end Go.Proofs.Ytcebmlcdhapnkaa.idx
