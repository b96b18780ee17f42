/-
  Lists of points that came in, their lengths bounded by the form's own reach; the law's heavy.
-/
import Derived.Test.YtemmfcinpkfoiaaMgOpen
import Derived.SizedLaws
namespace Go.Proofs.Ytemmfcinpkfoiaa.mg
open Go.ChangeShapes Go.WideShapes Go.ChangeAt Go.RowKit Go.Shelf Go.Deep plain words ord mem rg

theorem weightsAll_mem {H : Type} {P : Program} {e : TypeId} : ∀ {ds : List (DataW H)} {d : DataW H}, d ∈ ds → ∀ n ∈ d.weights P e, n ∈ DataW.weightsAll P e ds
  | x :: r, d, hd, n, hn => by
    simp only [DataW.weightsAll, List.mem_append]
    rcases List.mem_cons.1 hd with rfl | hd
    · exact .inl hn
    · exact .inr (weightsAll_mem hd n hn)
theorem sized_inner {H : Type} {P : Program} {ts : List TypeId} {ds : List (DataW H)} (h : (DataW.weightsEach P ts ds).all (· ≤ reachBytes) = true) {j : Nat} {t e q : TypeId} {elems spare e' sp' : List (DataW H)}
    (ht : ts[j]? = some t) (hd : ds[j]? = some (.slice elems spare)) (hu : P.underlying t = some (.slice e)) (hu2 : P.underlying e = some (.slice q)) (hx : DataW.slice e' sp' ∈ elems) : (e'.length + sp'.length) * P.bytesOf q ≤ reachBytes := by
  refine of_decide_eq_true (List.all_eq_true.1 h _ (DataW.weights_mem_each ht hd _ ?_))
  simp only [DataW.weights, hu, List.mem_cons, List.mem_append]
  exact Or.inr (Or.inl (weightsAll_mem hx _ (by simp [DataW.weights, hu2])))
def IsListsS (w : World) (a : Option Addr) (len cap : Nat) : Prop := ∃ ls, IsLists w a len cap ls ∧ len ≤ 9000000000000 ∧ ∀ x ∈ ls, x.l.length ≤ 9000000000000
theorem lists_sized {H : Type} {enc : TypeId × Value → H} {W : World} {a : Option Addr} {len cap : Nat} {d : DataW H} {p : List MemPlace} {ts : List TypeId} {ds : List (DataW H)} (j : Nat)
    (hsz : (DataW.weightsEach Try.prog ts ds).all (· ≤ reachBytes) = true) (hts : ts[j]? = some 28) (hds : ds[j]? = some d)
    (h0 : DataW.Trod enc Try.prog W 0 (fun _ => true) true 28 (.slice a len cap) d p) : IsListsS W a len cap := by
  have hb : Try.prog.bytesOf 24 = 24 := by kernel_rfl
  have hb2 : Try.prog.bytesOf 27 = 24 := by kernel_rfl
  have hre : reachBytes = 140737488351232 := rfl
  obtain ⟨fuel, hfu⟩ := h0
  rcases open_slice Try.underlying28 hfu with ⟨hcs, _⟩ | ⟨x, l, c, m, n, D, Pl, hcs, _, hl, hm, hmm, hxd, hx⟩
  · simp [Value.cells] at hcs
    obtain ⟨rfl, rfl, rfl⟩ := hcs
    exact ⟨[], ⟨⟨Ls.nil _ _ _, fun x hx => (by simp at hx)⟩, Nat.le_refl _, by simp, fun _ => rfl, fun x hx => (by simp at hx)⟩, Nat.zero_le _, fun x hx => (by simp at hx)⟩
  · simp [Value.cells] at hcs
    obtain ⟨rfl, rfl, rfl⟩ := hcs
    rw [if_pos rfl] at hmm
    subst hmm
    obtain ⟨hd, _⟩ := Prod.mk.inj hxd
    rw [hd] at hds
    have hlen := sized_slice hsz hts hds Try.underlying28
    rw [hb2, hre] at hlen
    simp only [List.length_map, List.length_range] at hlen
    have each : ∀ i, i < len → ∃ q : It, W.cell? (x.add i) = some q.val ∧ ItI W W.heap.size q ∧ (∀ p ∈ q.l, inI p.1) ∧ q.l.length ≤ 9000000000000 := fun i hi => by
      obtain ⟨cs', h1, h2⟩ := hx i (by omega)
      have ce : Try.prog.cellsOf 27 = 1 := by kernel_rfl
      rw [ce, Nat.mul_one] at h1
      obtain ⟨_, hlen, hcell⟩ := World.cells?_some h1
      obtain ⟨v, rfl⟩ : ∃ v, cs' = [v] := List.length_eq_one_iff.1 hlen
      obtain ⟨A, L, C, d', p', rfl, ht⟩ := reads_slice Try.underlying27 ⟨n, _, h2⟩
      obtain ⟨lp, hp⟩ := pts_of ht
      have e := hcell 0 (by simp)
      rw [add_add, Nat.add_zero] at e
      have hlp : lp.length = L := hp.ls.1
      have hmem : D i ∈ (List.range len).map D := List.mem_map.2 ⟨i, by simpa using hi, rfl⟩
      have hL : L ≤ 9000000000000 := by
        rcases open_slice Try.underlying27 h2 with ⟨hcs, _⟩ | ⟨x2, l2, c2, m2, n2, D2, Pl2, hcs, _, hl2, hm2, hmm2, hxd2, _⟩
        · injection hcs with hcs
          injection hcs with _ h3 _
          omega
        · injection hcs with hcs
          injection hcs with _ h3 _
          obtain ⟨hd2, _⟩ := Prod.mk.inj hxd2
          rw [hd2] at hmem
          have hin := sized_inner hsz hts hds Try.underlying28 Try.underlying27 hmem
          rw [hb, hre] at hin
          simp only [List.length_map, List.length_range] at hin
          omega
      refine ⟨⟨A, C, lp⟩, ?_, ⟨?_, ?_, hp.most, hp.nil⟩, hp.time, by show lp.length ≤ _; omega⟩
      · rw [e]; simp [It.val, hlp]
      · show Ls PE W _ A lp.length lp
        rw [hlp]; exact hp.ls
      · show lp.length ≤ C
        rw [hlp]; exact hp.cap_
    obtain ⟨q, hq⟩ := choose_lt each
    obtain ⟨b, off, spot⟩ := x
    refine ⟨(List.range len).map q, ⟨⟨?_, fun y hy => ?_⟩, hl, hm, fun e => (by cases e), fun y hy => ?_⟩, by omega, fun y hy => ?_⟩
    · rcases Nat.eq_zero_or_pos len with hz | hz
      · subst hz; exact Ls.nil _ _ _
      have hspot : spot = none := by
        have := World.cell?_spot (hq 0 hz).1
        simpa [Addr.add] using this
      subst hspot
      refine Ls.of (by simp) (fun _ => ?_) fun i hi => ⟨q i, by simp [hi], fun j hj => ?_⟩
      · have c0 := (hq 0 hz).1
        rw [words.add_plain] at c0
        exact World.block_lt_of_cell? W _ c0
      · have c0 := (hq i hi).1
        rw [words.add_plain] at c0
        have hj : j < 1 := hj
        obtain rfl : j = 0 := by omega
        show W.cell? ⟨b, off + (i * 1 + 0), none⟩ = some (q i).val
        rw [Nat.mul_one, Nat.add_zero]
        exact c0
    · obtain ⟨i, hi, rfl⟩ := List.mem_map.1 hy
      exact (hq i (by simpa using hi)).2.1
    · obtain ⟨i, hi, rfl⟩ := List.mem_map.1 hy
      exact (hq i (by simpa using hi)).2.2.1
    · obtain ⟨i, hi, rfl⟩ := List.mem_map.1 hy
      exact (hq i (by simpa using hi)).2.2.2
def RetHeavy (ls : List It) (w : World) (e : Ending) (w' : World) : Prop := ∃ b : Bool, e = .returned (.bool b) ∧ (b = false → ls.length + (pts ls).length ≤ 8192) ∧ w = w'
set_option maxHeartbeats 1000000 in
set_option maxRecDepth 100000 in
theorem heavy_x (w : World) (B n c : Nat) (A : Option Addr) (ls : List It) (h : Lists w B n A ls) (hn : n ≤ 9000000000000) (hx : ∀ x ∈ ls, x.l.length ≤ 9000000000000) :
    Calls Try.prog 19 #[.slice A n c] w (RetHeavy ls w) := by
  have HL := Lib.hid h
  have HX := Lib.hid hx
  have HN := Lib.hid h.row.1
  clear h hx
  go_enter Try.func19, Try.ntmps19
  go_wp2_with fail
  go_loopg [3, 4] n (fun gg s3 s4 wr => ∃ (i : Nat), s4 = .int .i64 i ∧ s3 = .int .i64 ((n + (pts (ls.take i)).length : Nat) : Int) ∧ i ≤ n ∧ n - i ≤ gg ∧ n + (pts (ls.take i)).length ≤ 20000000000000 ∧ wr = w)
  case atStart => exact ⟨0, rfl, by simp [pts], Nat.zero_le _, by omega, by simp [pts]; omega, rfl⟩
  case round =>
    obtain ⟨i, rfl, rfl, hi, hg, hsum, rfl⟩ := hrel
    obtain ⟨S, hS⟩ : ∃ S, n + (pts (ls.take i)).length = S := ⟨_, rfl⟩
    rw [hS] at hsum ⊢
    have HS := Lib.hid hS
    clear hS
    by_cases hlt : i < n
    · have i1 : (i : Int) < (n : Int) := by omega
      have i0 : (0 : Int) ≤ (i : Int) := by omega
      by_cases hs : S ≤ 8192
      · have s1 : (S : Int) ≤ 8192 := by omega
        obtain ⟨x, hx⟩ := HL.out.row.get hlt
        obtain ⟨b, off, hA, hbB, hc⟩ := HL.out.row.at_ hx
        have hx0 := hc 0 (by decide)
        simp only [HE, Nat.mul_one, Nat.add_zero, itE, It.val, List.getElem?_cons_zero] at hx0
        have hxl := HX.out x (List.mem_of_getElem? hx)
        have hpt : n + (pts (ls.take (i + 1))).length = S + x.l.length := by rw [take_succ_at hx, pts_snoc, List.length_append]; have := HS.out; omega
        have HPT := Lib.hid hpt
        obtain ⟨k, hk⟩ : ∃ k, x.l.length = k := ⟨_, rfl⟩
        rw [hk] at hx0 hxl
        have HK := Lib.hid hk
        have w1 : IntKind.i64.wrap ((S : Int) + (k : Int)) = ((S + k : Nat) : Int) := by rw [IntWalk.i64_in _ (by omega)]; omega
        subst hA
        clear hx hc hpt hk
        go_wp2_with fail
        go_roundg (n - (i + 1))
        case measure => omega
        case rel =>
          refine ⟨i + 1, by go_num, ?_, by omega, by omega, ?_, rfl⟩
          · rw [HPT.out, HK.out]; go_num
          · rw [HPT.out, HK.out]; omega
      · have s1 : ¬ (S : Int) ≤ 8192 := by omega
        have s2 : (8192 : Int) < (S : Int) := by omega
        go_wp2_with fail
        go_ret
        exact ⟨true, ret_bool (by simp [s2]), fun e => (by cases e), rfl⟩
    · have i1 : ¬ (i : Int) < (n : Int) := by omega
      go_wp2_with fail
      go_ret
      refine ⟨decide ((8192 : Int) < (S : Int)), rfl, fun e => ?_, rfl⟩
      have h1 := HS.out
      rw [List.take_of_length_le (by rw [HN.out]; omega)] at h1
      simp at e
      rw [HN.out]
      omega
end Go.Proofs.Ytemmfcinpkfoiaa.mg
