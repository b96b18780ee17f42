/-
  The document's disk: raw, may, Used, Read.
-/
import Derived.Test.YtmnliieiiaedeaaRd6
namespace Go.Proofs.Ytmnliieiiaedeaa.dk
open Go.ChangeShapes Go.WideShapes Go.ChangeAt Go.RowKit Go.Maps Go.Sort Go.Shelf plain words ord mem al

section
variable {w w' : World} {r : Nat} {room : Int} {A : Option Addr} {c : Nat} {ls : AL Nm} {A2 : Option Addr} {c2 : Nat} {pd : List Chn} {N : Int}
theorem ls_chg {α : Type} {E : El α} {S : Nat → Prop} {B n : Nat} {l : List α} (h : Ls E w B A n l) (hB : B ≤ w.heap.size) (hc : Chg S w w') (hS : ∀ a, A = some a → ¬ S a.block) : Ls E w' B A n l := by
  refine ⟨h.1, ⟨h.2.len, fun j hj => ?_⟩⟩
  obtain ⟨b, off, v, e, hb, hv, hcell⟩ := h.2.at_ j hj
  refine ⟨b, off, v, e, hb, hv, ?_⟩
  have ho : w.heap[b]? = some w.heap[b] := Array.getElem?_eq_getElem (by omega)
  have ho' := hc.blk ho (hS _ e)
  rw [← hcell]
  simp only [World.cell?, ho, ho']
theorem Fr.chg {S : Nat → Prop} {l : AL Nm} (h : Fr w A c l) (hc : Chg S w w') (hS : ∀ a, A = some a → ¬ S a.block) : Fr w' A c l :=
  ⟨(ls_chg h.ls (Nat.le_refl _) hc hS).more hc.size, h.nil, h.len, h.cap⟩
theorem Rk.chg {S : Nat → Prop} (h : Rk w r room A c ls A2 c2 pd N) (hc : Chg S w w') (hr : ¬ S r) (h1 : ∀ a, A = some a → ¬ S a.block) (h2 : ∀ a, A2 = some a → ¬ S a.block) : Rk w' r room A c ls A2 c2 pd N :=
  ⟨hc.blk h.blk hr, h.fr.chg hc h1, (ls_chg h.ch (Nat.le_refl _) hc h2).more hc.size, h.nil, h.le, h.cap, h.srt⟩
end
set_option maxRecDepth 100000 in
theorem may_y (w : World) (a : Nm) : Calls Try.prog 72 #[.string (bs a)] w fun e w' => e = .returned (.bool (okn a)) ∧ Below w.heap.size w w' := by
  have hsz := bs_size a
  obtain ⟨s, hs⟩ : ∃ s, bs a = s := ⟨_, rfl⟩
  obtain ⟨n, hn⟩ : ∃ n, a.length = n := ⟨_, rfl⟩
  have hok : okn a = (decide (1 ≤ n) && decide (n ≤ 40)) := by unfold okn; rw [hn]
  rw [hs, hn] at hsz
  rw [hs, hok]
  have HO := Lib.hid hok
  clear hok hs hn
  by_cases h1 : 1 ≤ n
  · have i1 : (1 : Int) ≤ (n : Int) := by omega
    by_cases h2 : n ≤ 40
    · have i2 : (n : Int) ≤ 40 := by omega
      go_enter Try.func72, Try.ntmps72
      go_wp2_with fail
      go_ret
      exact ⟨by simp [h1, h2], Below.refl _ _⟩
    · have i2 : ¬ (n : Int) ≤ 40 := by omega
      go_enter Try.func72, Try.ntmps72
      go_wp2_with fail
      go_ret
      exact ⟨by simp [h2], Below.refl _ _⟩
  · have i1 : ¬ (1 : Int) ≤ (n : Int) := by omega
    go_enter Try.func72, Try.ntmps72
    go_wp2_with fail
    go_ret
    exact ⟨by simp [h1], Below.refl _ _⟩
set_option maxRecDepth 100000 in
theorem raw_y (w : World) (r : Nat) (room : Int) (A : Option Addr) (c : Nat) (ls : AL Nm) (A2 : Option Addr) (c2 : Nat) (pd : List Chn) (N : Int) (h : Rk w r room A c ls A2 c2 pd N) (h0 : 0 ≤ N) (h1 : N < 4611686018427387904) :
    Calls Try.prog 58 #[ptr r] w fun e w' => e = .returned (.int .i64 0) ∧ w' = w.setCell ⟨r, 3, none⟩ (.int .i64 (N + 1)) := by
  obtain ⟨_, _, _, q3, q4, q8⟩ := rk_cells h
  have lr := blk_lt h.blk
  have fz := frozen_of_row _ _ 3 _ _ h.blk
  have hw : IntKind.i64.wrap (N + 1) = N + 1 := IntWalk.i64_in _ (by omega)
  clear h
  go_enter Try.func58, Try.ntmps58
  go_wp2_with fail
  go_ret
  exact ⟨rfl, rfl⟩
theorem fsum_take {fs : AL Nm} {i : Nat} {x : Nm × Nm} (h : fs[i]? = some x) : fsum (fs.take (i + 1)) = fsum (fs.take i) + x.2.length := by
  induction fs generalizing i with
  | nil => simp at h
  | cons y fs ih =>
    obtain ⟨k, z⟩ := y
    cases i with
    | zero => simp at h; subst h; simp [fsum, sum]
    | succ i =>
      have := ih (i := i) (by simpa using h)
      simp only [List.take_succ_cons]
      unfold fsum at this ⊢
      simp only [sum]
      omega
theorem fsum_take_le (fs : AL Nm) : ∀ i, fsum (fs.take i) ≤ fsum fs := by
  induction fs with
  | nil => intro i; simp
  | cons y fs ih =>
    obtain ⟨k, z⟩ := y
    intro i
    cases i with
    | zero => exact Nat.zero_le _
    | succ i =>
      have := ih i
      simp only [List.take_succ_cons]
      unfold fsum at this ⊢
      simp only [sum]
      omega
set_option maxHeartbeats 2000000 in
set_option maxRecDepth 100000 in
theorem used_y (w : World) (r : Nat) (room : Int) (A : Option Addr) (c : Nat) (ls : AL Nm) (A2 : Option Addr) (c2 : Nat) (pd : List Chn) (N : Int) (h : Rk w r room A c ls A2 c2 pd N) (hz : fsum ls + sumc pd ≤ 1125899906842624) (hn : ls.length + pd.length ≤ 1000000000) :
    Calls Try.prog 73 #[ptr r] w fun e w' => e = .returned (.int .i64 (fsum (fold ls pd) : Nat)) ∧ Below w.heap.size w w' := by
  have HFI := Lib.hid (files_y w r room A c ls A2 c2 pd N h hz hn)
  have hsum := fold_sum h.srt pd
  have hlen := fold_len ls pd
  obtain ⟨fs, hfs⟩ : ∃ fs, fold ls pd = fs := ⟨_, rfl⟩
  rw [hfs] at HFI hsum hlen ⊢
  obtain ⟨n, hnn⟩ : ∃ n, fs.length = n := ⟨_, rfl⟩
  unfold RetD at HFI
  rw [hnn] at HFI hlen
  have HN := Lib.hid hnn
  clear h hfs hnn
  go_enter Try.func73, Try.ntmps73
  go_wp2_with fail
  refine HFI.out.mono ?_
  rintro e w1 ⟨A1, c1, rfl, hf1, hb1, _⟩
  have F1 := Lib.hid hf1
  have B1 := Lib.hid hb1
  clear hf1 hb1 HFI
  go_wp2_with fail
  go_loopg [3, 5] n (fun gg s3 s5 wr => ∃ (i t : Nat), s3 = .int .i64 t ∧ s5 = .int .i64 i ∧ i ≤ n ∧ n - i ≤ gg ∧ t ≤ fsum fs ∧ Aside (fsum (fs.take i) = t) ∧ Aside (Below w1.heap.size w1 wr))
  case atStart => exact ⟨0, 0, rfl, rfl, Nat.zero_le _, by omega, Nat.zero_le _, rfl, Below.refl _ _⟩
  case round =>
    obtain ⟨i, t, rfl, rfl, hi, hg, htf, TT, BW⟩ := hrel
    obtain ⟨wv, rfl⟩ : ∃ wv, wv = wr := ⟨wr, rfl⟩
    by_cases hlt : i < n
    · have i1 : (i : Int) < (n : Int) := by omega
      have i0 : (0 : Int) ≤ (i : Int) := by omega
      obtain ⟨x, hx⟩ : ∃ x, fs[i]? = some x := ⟨_, List.getElem?_eq_getElem (by rw [HN.out]; omega)⟩
      obtain ⟨b, off, eA, hb, e0, e1⟩ := (F1.out.below BW.out).at_ hx
      subst eA
      have lb : b < wv.heap.size := World.block_lt_of_cell? wv _ e0
      have hft := fsum_take hx
      have hfl := fsum_take_le fs (i + 1)
      have hbz := bs_size x.2
      obtain ⟨sx, hsx⟩ : ∃ sx, bs x.2 = sx := ⟨_, rfl⟩
      obtain ⟨lx, hlx⟩ : ∃ lx, x.2.length = lx := ⟨_, rfl⟩
      rw [hsx] at hbz e1
      rw [hlx] at hft hbz
      rw [TT.out] at hft
      rw [hft] at hfl
      obtain ⟨T2, hT2⟩ : ∃ T2, t + lx = T2 := ⟨_, rfl⟩
      rw [hT2] at hft hfl
      have hwt : IntKind.i64.wrap ((t : Int) + (lx : Int)) = (T2 : Int) := by rw [IntWalk.i64_in _ (by omega)]; omega
      have FT := Lib.hid hft
      clear hx hsx hlx hT2 hft e0
      go_wp2_with fail
      go_roundg (n - (i + 1))
      case measure => omega
      case rel => exact ⟨i + 1, T2, rfl, by go_num, by omega, by omega, hfl, FT.out, BW.out⟩
    · obtain rfl : i = n := by omega
      have i1 : ¬ (i : Int) < (i : Int) := by omega
      have ht : fs.take i = fs := List.take_of_length_le (by rw [HN.out]; exact Nat.le_refl _)
      have h1 := TT.out
      rw [ht] at h1
      have H1 := Lib.hid h1
      clear h1 ht
      go_wp2_with fail
      go_ret
      exact ⟨by rw [H1.out]; rfl, B1.out.trans (BW.out.mono B1.out.size)⟩
set_option maxHeartbeats 2000000 in
set_option maxRecDepth 100000 in
theorem readr_y (w : World) (r : Nat) (room : Int) (A : Option Addr) (c : Nat) (ls : AL Nm) (A2 : Option Addr) (c2 : Nat) (pd : List Chn) (N : Int) (a : Nm) (h : Rk w r room A c ls A2 c2 pd N) (hz : fsum ls + sumc pd ≤ 1125899906842624) (hn : ls.length + pd.length ≤ 1000000000) :
    Calls Try.prog 75 #[ptr r, .string (bs a)] w fun e w' => e = .returned (ans (al.get (fold ls pd) a)) ∧ Below w.heap.size w w' := by
  have HFI := Lib.hid (files_y w r room A c ls A2 c2 pd N h hz hn)
  have hlen := fold_len ls pd
  have hsrt := fold_srt h.srt pd
  obtain ⟨fs, hfs⟩ : ∃ fs, fold ls pd = fs := ⟨_, rfl⟩
  rw [hfs] at HFI hlen hsrt ⊢
  obtain ⟨n, hnn⟩ : ∃ n, fs.length = n := ⟨_, rfl⟩
  unfold RetD at HFI
  rw [hnn] at HFI hlen
  have HN := Lib.hid hnn
  have HS := Lib.hid hsrt
  clear h hfs hnn hsrt
  cases hg : al.get fs a with
  | none =>
    go_enter Try.func75, Try.ntmps75
    go_wp2_with fail
    refine HFI.out.mono ?_
    rintro e w1 ⟨A1, c1, rfl, hf1, hb1, _⟩
    have hls := hf1.ls
    rw [HN.out] at hls
    have HFN := Lib.hid (find_y w1 w1.heap.size n c1 A1 fs a hls (Nat.le_refl _) HS.out (by omega))
    have F1 := Lib.hid hf1
    have B1 := Lib.hid hb1
    clear hf1 hb1 hls HFI
    rw [hg] at HFN
    obtain ⟨P, hP⟩ : ∃ P, pos fs a = P := ⟨_, rfl⟩
    rw [hP] at HFN
    clear hg hP
    go_wp2_with fail
    refine HFN.out.mono ?_
    rintro e w2 ⟨rfl, hb2⟩
    have B2 := Lib.hid (B1.out.trans (hb2.mono B1.out.size))
    clear hb2 HFN
    go_wp2_with fail
    go_ret2
    exact ⟨rfl, B2.out⟩
  | some y =>
    go_enter Try.func75, Try.ntmps75
    go_wp2_with fail
    refine HFI.out.mono ?_
    rintro e w1 ⟨A1, c1, rfl, hf1, hb1, _⟩
    have hls := hf1.ls
    rw [HN.out] at hls
    have HFN := Lib.hid (find_y w1 w1.heap.size n c1 A1 fs a hls (Nat.le_refl _) HS.out (by omega))
    have F1 := Lib.hid hf1
    have B1 := Lib.hid hb1
    clear hf1 hb1 hls HFI
    have hx := get_at HS.out hg
    have hPn := pos_some HS.out (q := a) (by rw [hg]; rfl)
    rw [hg] at HFN
    rw [HN.out] at hPn
    obtain ⟨P, hP⟩ : ∃ P, pos fs a = P := ⟨_, rfl⟩
    rw [hP] at HFN hx hPn
    have HX := Lib.hid hx
    clear hg hP hx
    go_wp2_with fail
    refine HFN.out.mono ?_
    rintro e w2 ⟨rfl, hb2⟩
    obtain ⟨b, off, eA, hb, e0, e1⟩ := (F1.out.below hb2).at_ HX.out
    subst eA
    have B2 := Lib.hid (B1.out.trans (hb2.mono B1.out.size))
    have p0 : (0 : Int) ≤ (P : Int) := by omega
    have p1 : (P : Int) < (n : Int) := by omega
    have lb : b < w2.heap.size := World.block_lt_of_cell? w2 _ e0
    clear hb2 HFN e0
    go_wp2_with fail
    go_ret2
    exact ⟨rfl, B2.out⟩
end Go.Proofs.Ytmnliieiiaedeaa.dk
