/-
  The document's disk as memory, in any state (a cut ordered, the power off).
-/
import Derived.Test.YtnjdondkggkfoaaGreatRd1
import Derived.Test.YtnjdondkggkfoaaGreatDkB
namespace Go.Proofs.YtnjdondkggkfoaaGreat.dk
open Go.ChangeShapes Go.WideShapes Go.ChangeAt Go.RowKit Go.Maps Go.Sort Go.Shelf plain words ord mem al


def chK : Chn → Int
  | .app _ _ => 0
  | .ren _ _ => 1
  | .rem _ => 2
def chA : Chn → Nm
  | .app a _ => a
  | .ren a _ => a
  | .rem a => a
def chB : Chn → Nm
  | .app _ b => b
  | .ren _ b => b
  | .rem _ => []
def chE (c : Chn) : List Value := [.int .i64 (chK c), .string (bs (chA c)), .string (bs (chB c))]
def CHE : El Chn where
  enc := chE
  k := 3
  e := 99
  len := fun _ => rfl
  one := fun x v hv => by
    simp [chE] at hv
    rcases hv with rfl | rfl | rfl <;> rfl
  pos := by decide
theorem che_at {w : World} {B n i : Nat} {A : Option Addr} {l : List Chn} {x : Chn} (h : Ls CHE w B A n l) (hx : l[i]? = some x) :
    ∃ b off, A = some ⟨b, off, none⟩ ∧ b < B ∧ w.cell? ⟨b, off + i * 3, none⟩ = some (.int .i64 (chK x)) ∧ w.cell? ⟨b, off + i * 3 + 1, none⟩ = some (.string (bs (chA x))) ∧ w.cell? ⟨b, off + i * 3 + 2, none⟩ = some (.string (bs (chB x))) := by
  obtain ⟨b, off, rfl, hb, hc⟩ := h.at_ hx
  exact ⟨b, off, rfl, hb, hc 0 (by decide), hc 1 (by decide), hc 2 (by decide)⟩
theorem get_le {fs : AL Nm} (hs : Srt fs) (q : Nm) : ((al.get fs q).getD []).length ≤ fsum fs := by
  have := del_sum hs q
  omega
theorem done_y (w : World) (n c : Nat) (A : Option Addr) (ls : AL Nm) (x : Chn) (h : Fr w A c ls) (hl : ls.length = n) (hs : Srt ls) (hn : n ≤ 1000000000) (hz : fsum ls + chlen x ≤ 1125899906842624) :
    Calls Tryz.prog 53 #[.slice A n c, .agg #[.int .i64 (chK x), .string (bs (chA x)), .string (bs (chB x))]] w (RetD w A (done ls x)) := by
  cases x with
  | app a b => exact (app_y w n c A ls a b h hl hs hn (by have := get_le hs a; simp only [chlen] at hz; omega)).mono fun _ _ h => h.d
  | ren a b => exact ren_y w n c A ls a b h hl hs hn
  | rem a => exact rem_y w n c A ls a h hl hs hn
/-- the order, and whether the power is gone -/
structure Xt where
  od : Bool
  lf : Int
  kp : Int
  pt : Int
  gn : Bool
/-- the document's disk -/
structure Rk (w : World) (r : Nat) (room : Int) (A : Option Addr) (c : Nat) (ls : AL Nm) (A2 : Option Addr) (c2 : Nat) (pd : List Chn) (N : Int) (xt : Xt) : Prop where
  blk : w.heap[r]? = some (.cells #[.int .i64 room, .slice A ls.length c, .slice A2 pd.length c2, .int .i64 N, .bool xt.od, .int .i64 xt.lf, .int .i64 xt.kp, .int .i64 xt.pt, .bool xt.gn] 90 (0, 0))
  fr : Fr w A c ls
  ch : Ls CHE w w.heap.size A2 pd.length pd
  nil : A2 = none → c2 = 0
  le : pd.length ≤ c2
  cap : c2 ≤ 9223372036854775807
  srt : Srt ls
theorem rk_cells {w : World} {r : Nat} {room : Int} {A : Option Addr} {c : Nat} {ls : AL Nm} {A2 : Option Addr} {c2 : Nat} {pd : List Chn} {N : Int} {xt : Xt} (h : Rk w r room A c ls A2 c2 pd N xt) :
    w.cell? ⟨r, 0, none⟩ = some (.int .i64 room) ∧ w.cell? ⟨r, 1, none⟩ = some (.slice A ls.length c) ∧ w.cell? ⟨r, 2, none⟩ = some (.slice A2 pd.length c2) ∧ w.cell? ⟨r, 3, none⟩ = some (.int .i64 N) ∧ w.cell? ⟨r, 4, none⟩ = some (.bool xt.od) ∧ w.cell? ⟨r, 8, none⟩ = some (.bool xt.gn) := by
  refine ⟨?_, ?_, ?_, ?_, ?_, ?_⟩ <;> (rw [cell_of_row _ _ _ _ _ _ h.blk]; rfl)
theorem Rk.below {w w' : World} {r : Nat} {room : Int} {A : Option Addr} {c : Nat} {ls : AL Nm} {A2 : Option Addr} {c2 : Nat} {pd : List Chn} {N : Int} {xt : Xt} (h : Rk w r room A c ls A2 c2 pd N xt) (hb : Below w.heap.size w w') : Rk w' r room A c ls A2 c2 pd N xt :=
  ⟨blk_below hb h.blk (blk_lt h.blk), h.fr.below hb, (h.ch.below hb (Nat.le_refl _)).more hb.size, h.nil, h.le, h.cap, h.srt⟩
theorem fold_sum_take {ls : AL Nm} (h : Srt ls) {l : List Chn} {i : Nat} {c : Chn} (hi : l[i]? = some c) : fsum (fold ls (l.take i)) + chlen c ≤ fsum ls + sumc l := by
  have h1 := fold_sum h (l.take i)
  have h2 := sumc_at hi
  omega
theorem fold_len_take (ls : AL Nm) (l : List Chn) (i : Nat) : (fold ls (l.take i)).length ≤ ls.length + l.length := by
  have h1 := fold_len ls (l.take i)
  have h2 : (l.take i).length ≤ l.length := by rw [List.length_take]; omega
  omega
set_option maxHeartbeats 2000000 in
set_option maxRecDepth 100000 in
theorem files_y (w : World) (r : Nat) (room : Int) (A : Option Addr) (c : Nat) (ls : AL Nm) (A2 : Option Addr) (c2 : Nat) (pd : List Chn) (N : Int) {xt : Xt} (h : Rk w r room A c ls A2 c2 pd N xt) (hz : fsum ls + sumc pd ≤ 1125899906842624) (hn : ls.length + pd.length ≤ 1000000000) :
    Calls Tryz.prog 54 #[ptr r] w (RetD w A (fold ls pd)) := by
  obtain ⟨_, q1, q2, _⟩ := rk_cells h
  have lr := blk_lt h.blk
  have HR := Lib.hid h
  obtain ⟨M, hM⟩ : ∃ M, pd.length = M := ⟨_, rfl⟩
  have HM := Lib.hid hM
  rw [hM] at q2
  have hle := h.le
  have hcap := h.cap
  rw [hM] at hle
  have hnM : ls.length + M ≤ 1000000000 := by omega
  obtain ⟨n, hln⟩ : ∃ n, ls.length = n := ⟨_, rfl⟩
  rw [hln] at q1
  have HN := Lib.hid hln
  clear h hM hln
  go_enter Tryz.func54, Tryz.ntmps54
  go_wp2_with fail
  go_loopg [3, 4] M (fun gg s3 s4 wr => ∃ (i k : Nat) (A' : Option Addr) (c' : Nat), s3 = .slice A' k c' ∧ s4 = .int .i64 i ∧ i ≤ M ∧ M - i ≤ gg ∧ Aside ((fold ls (pd.take i)).length = k) ∧ Aside (Fr wr A' c' (fold ls (pd.take i))) ∧ Aside (Below w.heap.size w wr) ∧ Aside (A' = A ∨ ∀ a, A' = some a → w.heap.size ≤ a.block ∧ a.block < wr.heap.size))
  case atStart => exact ⟨0, n, A, c, rfl, rfl, Nat.zero_le _, by omega, HN.out, HR.out.fr, Below.refl _ _, .inl rfl⟩
  case round =>
    obtain ⟨i, k, A', c', rfl, rfl, hi, hg, KK, FF, BW, TT⟩ := hrel
    obtain ⟨wv, rfl⟩ : ∃ wv, wv = wr := ⟨wr, rfl⟩
    have R1 := Lib.hid (HR.out.below BW.out)
    obtain ⟨_, _, q2, _⟩ := rk_cells R1.out
    rw [HM.out] at q2
    have lr := blk_lt R1.out.blk
    by_cases hlt : i < M
    · have i1 : (i : Int) < (M : Int) := by omega
      have i0 : (0 : Int) ≤ (i : Int) := by omega
      obtain ⟨x, hx⟩ : ∃ x, pd[i]? = some x := ⟨_, List.getElem?_eq_getElem (by have := HM.out; omega)⟩
      obtain ⟨b, off, eA, hb, e0, e1, e2⟩ := che_at R1.out.ch hx
      subst eA
      have lb : b < wv.heap.size := World.block_lt_of_cell? wv _ e0
      have hk9 := fold_len_take ls pd i
      rw [KK.out] at hk9
      have HD := Lib.hid (done_y wv k c' A' (fold ls (pd.take i)) x FF.out KK.out (fold_srt HR.out.srt _) (by omega) (by have := fold_sum_take HR.out.srt hx; omega))
      rw [← fold_take hx] at HD
      clear hx hk9
      go_wp2_with fail
      refine HD.out.mono ?_
      rintro e w2 ⟨A3, c3, rfl, hf3, hb3, hat3⟩
      have F3 := Lib.hid hf3
      have B3 := Lib.hid (BW.out.trans (hb3.mono BW.out.size))
      have T3 := Lib.hid (show A3 = A ∨ ∀ a, A3 = some a → w.heap.size ≤ a.block ∧ a.block < w2.heap.size from by
        rcases hat3 with e | e
        · rw [e]; exact TT.out.imp id (fun h a ha => ⟨(h a ha).1, Nat.lt_of_lt_of_le (h a ha).2 hb3.size⟩)
        · exact .inr fun a ha => ⟨Nat.le_trans BW.out.size (e a ha).1, (e a ha).2⟩)
      clear hat3
      obtain ⟨k3, hk3⟩ : ∃ k3, (fold ls (pd.take (i + 1))).length = k3 := ⟨_, rfl⟩
      rw [hk3]
      have K3 := Lib.hid hk3
      clear hf3 hb3 hk3 HD e0 e1 e2 q2
      go_wp2_with fail
      go_roundg (M - (i + 1))
      case measure => omega
      case rel => exact ⟨i + 1, k3, A3, c3, rfl, by go_num, by omega, by omega, K3.out, F3.out, B3.out, T3.out⟩
    · obtain rfl : i = M := by omega
      have i1 : ¬ (i : Int) < (i : Int) := by omega
      go_wp2_with fail
      go_ret
      have hp : pd.take i = pd := List.take_of_length_le (by rw [HM.out]; exact Nat.le_refl _)
      have h1 := KK.out
      have h2 := FF.out
      rw [hp] at h1 h2
      exact ⟨A', c', by rw [h1]; rfl, h2, BW.out, TT.out⟩

section
variable {w w' : World} {r : Nat} {room : Int} {A : Option Addr} {c : Nat} {ls : AL Nm} {A2 : Option Addr} {c2 : Nat} {pd : List Chn} {N : Int} {xt : Xt}
theorem ls_chg {α : Type} {E : El α} {S : Nat → Prop} {B n : Nat} {l : List α} (h : Ls E w B A n l) (hB : B ≤ w.heap.size) (hc : Chg S w w') (hS : ∀ a, A = some a → ¬ S a.block) : Ls E w' B A n l := by
  refine ⟨h.1, ⟨h.2.len, fun j hj => ?_⟩⟩
  obtain ⟨b, off, v, e, hb, hv, hcell⟩ := h.2.at_ j hj
  refine ⟨b, off, v, e, hb, hv, ?_⟩
  have ho : w.heap[b]? = some w.heap[b] := Array.getElem?_eq_getElem (by omega)
  have ho' := hc.blk ho (hS _ e)
  rw [← hcell]
  simp only [World.cell?, ho, ho']
theorem Fr.chg {S : Nat → Prop} {l : AL Nm} (h : Fr w A c l) (hc : Chg S w w') (hS : ∀ a, A = some a → ¬ S a.block) : Fr w' A c l :=
  ⟨(ls_chg h.ls (Nat.le_refl _) hc hS).more hc.size, h.nil, h.len, h.cap⟩
theorem Rk.chg {S : Nat → Prop} (h : Rk w r room A c ls A2 c2 pd N xt) (hc : Chg S w w') (hr : ¬ S r) (h1 : ∀ a, A = some a → ¬ S a.block) (h2 : ∀ a, A2 = some a → ¬ S a.block) : Rk w' r room A c ls A2 c2 pd N xt :=
  ⟨hc.blk h.blk hr, h.fr.chg hc h1, (ls_chg h.ch (Nat.le_refl _) hc h2).more hc.size, h.nil, h.le, h.cap, h.srt⟩
end
set_option maxRecDepth 100000 in
theorem may_y (w : World) (a : Nm) : Calls Tryz.prog 87 #[.string (bs a)] w fun e w' => e = .returned (.bool (okn a)) ∧ Below w.heap.size w w' := by
  have hsz := bs_size a
  obtain ⟨s, hs⟩ : ∃ s, bs a = s := ⟨_, rfl⟩
  obtain ⟨n, hn⟩ : ∃ n, a.length = n := ⟨_, rfl⟩
  have hok : okn a = (decide (1 ≤ n) && decide (n ≤ 40)) := by unfold okn; rw [hn]
  rw [hs, hn] at hsz
  rw [hs, hok]
  have HO := Lib.hid hok
  clear hok hs hn
  by_cases h1 : 1 ≤ n
  · have i1 : (1 : Int) ≤ (n : Int) := by omega
    by_cases h2 : n ≤ 40
    · have i2 : (n : Int) ≤ 40 := by omega
      go_enter Tryz.func87, Tryz.ntmps87
      go_wp2_with fail
      go_ret
      exact ⟨by simp [h1, h2], Below.refl _ _⟩
    · have i2 : ¬ (n : Int) ≤ 40 := by omega
      go_enter Tryz.func87, Tryz.ntmps87
      go_wp2_with fail
      go_ret
      exact ⟨by simp [h2], Below.refl _ _⟩
  · have i1 : ¬ (1 : Int) ≤ (n : Int) := by omega
    go_enter Tryz.func87, Tryz.ntmps87
    go_wp2_with fail
    go_ret
    exact ⟨by simp [h1], Below.refl _ _⟩
theorem fsum_take {fs : AL Nm} {i : Nat} {x : Nm × Nm} (h : fs[i]? = some x) : fsum (fs.take (i + 1)) = fsum (fs.take i) + x.2.length := by
  induction fs generalizing i with
  | nil => simp at h
  | cons y fs ih =>
    obtain ⟨k, z⟩ := y
    cases i with
    | zero => simp at h; subst h; simp [fsum, sum]
    | succ i =>
      have := ih (i := i) (by simpa using h)
      simp only [List.take_succ_cons]
      unfold fsum at this ⊢
      simp only [sum]
      omega
theorem fsum_take_le (fs : AL Nm) : ∀ i, fsum (fs.take i) ≤ fsum fs := by
  induction fs with
  | nil => intro i; simp
  | cons y fs ih =>
    obtain ⟨k, z⟩ := y
    intro i
    cases i with
    | zero => exact Nat.zero_le _
    | succ i =>
      have := ih i
      simp only [List.take_succ_cons]
      unfold fsum at this ⊢
      simp only [sum]
      omega
set_option maxHeartbeats 2000000 in
set_option maxRecDepth 100000 in
theorem used_y (w : World) (r : Nat) (room : Int) (A : Option Addr) (c : Nat) (ls : AL Nm) (A2 : Option Addr) (c2 : Nat) (pd : List Chn) (N : Int) {xt : Xt} (h : Rk w r room A c ls A2 c2 pd N xt) (hz : fsum ls + sumc pd ≤ 1125899906842624) (hn : ls.length + pd.length ≤ 1000000000) :
    Calls Tryz.prog 108 #[ptr r] w fun e w' => e = .returned (.int .i64 (fsum (fold ls pd) : Nat)) ∧ Below w.heap.size w w' := by
  have HFI := Lib.hid (files_y w r room A c ls A2 c2 pd N h hz hn)
  have hsum := fold_sum h.srt pd
  have hlen := fold_len ls pd
  obtain ⟨fs, hfs⟩ : ∃ fs, fold ls pd = fs := ⟨_, rfl⟩
  rw [hfs] at HFI hsum hlen ⊢
  obtain ⟨n, hnn⟩ : ∃ n, fs.length = n := ⟨_, rfl⟩
  unfold RetD at HFI
  rw [hnn] at HFI hlen
  have HN := Lib.hid hnn
  clear h hfs hnn
  go_enter Tryz.func108, Tryz.ntmps108
  go_wp2_with fail
  refine HFI.out.mono ?_
  rintro e w1 ⟨A1, c1, rfl, hf1, hb1, _⟩
  have F1 := Lib.hid hf1
  have B1 := Lib.hid hb1
  clear hf1 hb1 HFI
  go_wp2_with fail
  go_loopg [3, 5] n (fun gg s3 s5 wr => ∃ (i t : Nat), s3 = .int .i64 t ∧ s5 = .int .i64 i ∧ i ≤ n ∧ n - i ≤ gg ∧ t ≤ fsum fs ∧ Aside (fsum (fs.take i) = t) ∧ Aside (Below w1.heap.size w1 wr))
  case atStart => exact ⟨0, 0, rfl, rfl, Nat.zero_le _, by omega, Nat.zero_le _, rfl, Below.refl _ _⟩
  case round =>
    obtain ⟨i, t, rfl, rfl, hi, hg, htf, TT, BW⟩ := hrel
    obtain ⟨wv, rfl⟩ : ∃ wv, wv = wr := ⟨wr, rfl⟩
    by_cases hlt : i < n
    · have i1 : (i : Int) < (n : Int) := by omega
      have i0 : (0 : Int) ≤ (i : Int) := by omega
      obtain ⟨x, hx⟩ : ∃ x, fs[i]? = some x := ⟨_, List.getElem?_eq_getElem (by rw [HN.out]; omega)⟩
      obtain ⟨b, off, eA, hb, e0, e1⟩ := (F1.out.below BW.out).at_ hx
      subst eA
      have lb : b < wv.heap.size := World.block_lt_of_cell? wv _ e0
      have hft := fsum_take hx
      have hfl := fsum_take_le fs (i + 1)
      have hbz := bs_size x.2
      obtain ⟨sx, hsx⟩ : ∃ sx, bs x.2 = sx := ⟨_, rfl⟩
      obtain ⟨lx, hlx⟩ : ∃ lx, x.2.length = lx := ⟨_, rfl⟩
      rw [hsx] at hbz e1
      rw [hlx] at hft hbz
      rw [TT.out] at hft
      rw [hft] at hfl
      obtain ⟨T2, hT2⟩ : ∃ T2, t + lx = T2 := ⟨_, rfl⟩
      rw [hT2] at hft hfl
      have hwt : IntKind.i64.wrap ((t : Int) + (lx : Int)) = (T2 : Int) := by rw [IntWalk.i64_in _ (by omega)]; omega
      have FT := Lib.hid hft
      clear hx hsx hlx hT2 hft e0
      go_wp2_with fail
      go_roundg (n - (i + 1))
      case measure => omega
      case rel => exact ⟨i + 1, T2, rfl, by go_num, by omega, by omega, hfl, FT.out, BW.out⟩
    · obtain rfl : i = n := by omega
      have i1 : ¬ (i : Int) < (i : Int) := by omega
      have ht : fs.take i = fs := List.take_of_length_le (by rw [HN.out]; exact Nat.le_refl _)
      have h1 := TT.out
      rw [ht] at h1
      have H1 := Lib.hid h1
      clear h1 ht
      go_wp2_with fail
      go_ret
      exact ⟨by rw [H1.out]; rfl, B1.out.trans (BW.out.mono B1.out.size)⟩
set_option maxHeartbeats 2000000 in
set_option maxRecDepth 100000 in
theorem readr_y (w : World) (r : Nat) (room : Int) (A : Option Addr) (c : Nat) (ls : AL Nm) (A2 : Option Addr) (c2 : Nat) (pd : List Chn) (N : Int) {xt : Xt} (a : Nm) (h : Rk w r room A c ls A2 c2 pd N xt) (hz : fsum ls + sumc pd ≤ 1125899906842624) (hn : ls.length + pd.length ≤ 1000000000) :
    Calls Tryz.prog 46 #[ptr r, .string (bs a)] w fun e w' => e = .returned (ans (al.get (fold ls pd) a)) ∧ Below w.heap.size w w' := by
  have HFI := Lib.hid (files_y w r room A c ls A2 c2 pd N h hz hn)
  have hlen := fold_len ls pd
  have hsrt := fold_srt h.srt pd
  obtain ⟨fs, hfs⟩ : ∃ fs, fold ls pd = fs := ⟨_, rfl⟩
  rw [hfs] at HFI hlen hsrt ⊢
  obtain ⟨n, hnn⟩ : ∃ n, fs.length = n := ⟨_, rfl⟩
  unfold RetD at HFI
  rw [hnn] at HFI hlen
  have HN := Lib.hid hnn
  have HS := Lib.hid hsrt
  clear h hfs hnn hsrt
  cases hg : al.get fs a with
  | none =>
    go_enter Tryz.func46, Tryz.ntmps46
    go_wp2_with fail
    refine HFI.out.mono ?_
    rintro e w1 ⟨A1, c1, rfl, hf1, hb1, _⟩
    have hls := hf1.ls
    rw [HN.out] at hls
    have HFN := Lib.hid (find_y w1 w1.heap.size n c1 A1 fs a hls (Nat.le_refl _) HS.out (by omega))
    have F1 := Lib.hid hf1
    have B1 := Lib.hid hb1
    clear hf1 hb1 hls HFI
    rw [hg] at HFN
    obtain ⟨P, hP⟩ : ∃ P, pos fs a = P := ⟨_, rfl⟩
    rw [hP] at HFN
    clear hg hP
    go_wp2_with fail
    refine HFN.out.mono ?_
    rintro e w2 ⟨rfl, hb2⟩
    have B2 := Lib.hid (B1.out.trans (hb2.mono B1.out.size))
    clear hb2 HFN
    go_wp2_with fail
    go_ret2
    exact ⟨rfl, B2.out⟩
  | some y =>
    go_enter Tryz.func46, Tryz.ntmps46
    go_wp2_with fail
    refine HFI.out.mono ?_
    rintro e w1 ⟨A1, c1, rfl, hf1, hb1, _⟩
    have hls := hf1.ls
    rw [HN.out] at hls
    have HFN := Lib.hid (find_y w1 w1.heap.size n c1 A1 fs a hls (Nat.le_refl _) HS.out (by omega))
    have F1 := Lib.hid hf1
    have B1 := Lib.hid hb1
    clear hf1 hb1 hls HFI
    have hx := get_at HS.out hg
    have hPn := pos_some HS.out (q := a) (by rw [hg]; rfl)
    rw [hg] at HFN
    rw [HN.out] at hPn
    obtain ⟨P, hP⟩ : ∃ P, pos fs a = P := ⟨_, rfl⟩
    rw [hP] at HFN hx hPn
    have HX := Lib.hid hx
    clear hg hP hx
    go_wp2_with fail
    refine HFN.out.mono ?_
    rintro e w2 ⟨rfl, hb2⟩
    obtain ⟨b, off, eA, hb, e0, e1⟩ := (F1.out.below hb2).at_ HX.out
    subst eA
    have B2 := Lib.hid (B1.out.trans (hb2.mono B1.out.size))
    have p0 : (0 : Int) ≤ (P : Int) := by omega
    have p1 : (P : Int) < (n : Int) := by omega
    have lb : b < w2.heap.size := World.block_lt_of_cell? w2 _ e0
    clear hb2 HFN e0
    go_wp2_with fail
    go_ret2
    exact ⟨rfl, B2.out⟩

theorem infoCH : (Tryz.prog.info? 99).map (fun i => (i.zero, i.size, i.bytes)) = some (some (.agg #[.int .i64 0, .string ByteArray.empty, .string ByteArray.empty]), 3, 40) := by kernel_rfl
/-- 'append(v, x...)' of changes in a walk -/
theorem append_h {w : World} {ops : Array Oper} {rest : List Oper} {o : Oper} {a : Act} {Q : Exit → Act → World → Prop} (hgd : o.guard = none) (s x : Operand)
    (ho : o.op = .call { callee := .builtin .append, args := #[s, x], argTypes := #[88, 88] })
    (base : Nat) (v : Value) (n : Nat) (l : List Chn) (hs : a.eval s = v) (hown : Ow CHE w base v n l)
    (B : Nat) (A : Option Addr) (m c : Nat) (hA : A = none → c = 0) (news : List Chn) (hx : a.eval x = .slice A m c) (hr : Ls CHE w B A m news)
    (hn : n + m ≤ 1099511627776) (hbase : base ≤ w.heap.size)
    (h : ∀ A' c' w', Ow CHE w' base (.slice A' (n + m) c') (n + m) (l ++ news) → w.grownBy w' v.ownBlock → (A' = none → c' = 0) → n + m ≤ c' → c' ≤ 9223372036854775807 → w.heap.size ≤ w'.heap.size → wpList Tryz.prog ops Q rest (a.put o.dst (.slice A' (n + m) c')) w') : wpList Tryz.prog ops Q (o :: rest) a w := by
  obtain ⟨i0, hi, hz0, hz1, hz2⟩ := info_parts infoCH
  exact wpList_append_ow CHE (P := Tryz.prog) Tryz.underlying88 hi hz0 hz1 hz2 rfl (by decide) hgd s x ho base v n l hs hown B A m c hA news hx hr hn hbase h

/-- the order and the power of a state -/
def Xs (st : St) (x : Xt) : Prop := x.gn = st.dead ∧ (match st.due with
  | none => x.od = false
  | some d => x.od = true ∧ x.lf = d.1 ∧ x.kp = d.2.1 ∧ x.pt = d.2.2)
/-- the document's disk at block r is in state st; its blocks are among X -/
def RM (w : World) (r : Nat) (X : Nat → Prop) (st : St) : Prop :=
  ∃ A c A2 c2 xt, Rk w r st.room A c st.last A2 c2 st.pend st.ops xt ∧ Xs st xt ∧ (∀ a, A = some a → X a.block ∧ a.block ≠ r) ∧ (∀ a, A2 = some a → X a.block ∧ a.block ≠ r) ∧ X r
def RetRV (w : World) (r : Nat) (X : Nat → Prop) (st : St) (v : Value) (e : Ending) (w' : World) : Prop :=
  e = .returned v ∧ RM w' r (Ext X w w') st ∧ Chg (fun k => k = r) w w'
abbrev RetRM (w : World) (r : Nat) (X : Nat → Prop) (st : St) (v : Int) (e : Ending) (w' : World) : Prop := RetRV w r X st (.int .i64 v) e w'
section
variable {w w' : World} {r : Nat} {X Y : Nat → Prop} {st : St}
theorem RM.chg {S : Nat → Prop} (h : RM w r X st) (hc : Chg S w w') (hS : ∀ k, X k → ¬ S k) : RM w' r X st := by
  obtain ⟨A, c, A2, c2, xt, h1, hx, h2, h3, h4⟩ := h
  exact ⟨A, c, A2, c2, xt, h1.chg hc (hS _ h4) (fun a e => hS _ (h2 a e).1) (fun a e => hS _ (h3 a e).1), hx, h2, h3, h4⟩
theorem RM.mono (h : RM w r X st) (hs : ∀ k, X k → Y k) : RM w r Y st := by
  obtain ⟨A, c, A2, c2, xt, h1, hx, h2, h3, h4⟩ := h
  exact ⟨A, c, A2, c2, xt, h1, hx, fun a e => ⟨hs _ (h2 a e).1, (h2 a e).2⟩, fun a e => ⟨hs _ (h3 a e).1, (h3 a e).2⟩, hs _ h4⟩
theorem RM.below (h : RM w r X st) (hb : Below w.heap.size w w') : RM w' r X st := h.chg (Chg.of_below hb) (fun _ _ e => e)
theorem RM.srt (h : RM w r X st) : Srt st.last := by
  obtain ⟨A, c, A2, c2, xt, h1, _⟩ := h
  exact h1.srt
theorem RM.at_r (h : RM w r X st) : X r ∧ r < w.heap.size := by
  obtain ⟨A, c, A2, c2, xt, h1, hx, h2, h3, h4⟩ := h
  exact ⟨h4, blk_lt h1.blk⟩
theorem RetRV.same (h : RM w r X st) (hb : Below w.heap.size w w') (v : Value) : RetRV w r X st v (.returned v) w' :=
  ⟨rfl, (h.below hb).mono (fun _ hk => .inl hk), (Chg.of_below hb).mono (fun _ _ e => e.elim)⟩
theorem RetRM.same (h : RM w r X st) (hb : Below w.heap.size w w') (v : Int) : RetRM w r X st v (.returned (.int .i64 v)) w' := RetRV.same h hb _
end
/-- small enough for the machine's numbers -/
structure Sm (st : St) : Prop where
  sum : fsum st.last + sumc st.pend ≤ 536870912
  len : st.last.length + st.pend.length ≤ 536870912
  ops0 : 0 ≤ st.ops
  ops1 : st.ops < 4611686018427387904
theorem chg_below {S : Nat → Prop} {w w1 w2 : World} (hb : Below w.heap.size w w1) (hc : Chg S w1 w2) : Chg S w w2 :=
  ((Chg.of_below hb).mono (S' := S) (fun _ _ e => e.elim)).trans hc (fun _ _ e => e)
theorem RetRV.after {w w1 w' : World} {r : Nat} {X : Nat → Prop} {st : St} {v : Value} {e : Ending} (h : RetRV w1 r X st v e w') (hb : Below w.heap.size w w1) : RetRV w r X st v e w' := by
  obtain ⟨h1, h2, h3⟩ := h
  have := hb.size
  exact ⟨h1, h2.mono fun k hk => hk.imp id (fun e => ⟨by omega, e.2⟩), chg_below hb h3⟩
theorem RetRV.then {w w1 w' : World} {r : Nat} {X : Nat → Prop} {st st1 : St} {v : Value} {e : Ending} (h : RetRV w1 r (Ext X w w1) st v e w') (h1 : Chg (fun k => k = r) w w1) : RetRV w r X st v e w' := by
  obtain ⟨e1, e2, e3⟩ := h
  exact ⟨e1, e2.mono fun k hk => ext_trans h1.size e3.size k hk, h1.trans e3 (fun _ _ e => e)⟩
set_option maxRecDepth 100000 in
theorem new_r (w : World) (room : Int) : Calls Tryz.prog 15 #[.int .i64 room] w fun e w' => e = .returned (ptr w.heap.size) ∧ RM w' w.heap.size (fun k => k = w.heap.size) (newSt room) ∧ Below w.heap.size w w' ∧ w'.heap.size = w.heap.size + 1 := by
  obtain ⟨R, hR⟩ : ∃ R, max 0 room = R := ⟨_, rfl⟩
  have hR2 : (newSt room).room = R := by rw [← hR]; show max room 0 = _; omega
  have HR := Lib.hid hR
  have HR2 := Lib.hid hR2
  have hR3 : max room 0 = R := by omega
  clear hR2
  go_enter Tryz.func15, Tryz.ntmps15
  go_wp2_with fail
  go_ret
  have gr := alloc_new w (.cells #[.int .i64 R, .slice none 0 0, .slice none 0 0, .int .i64 0, .bool false, .int .i64 0, .int .i64 0, .int .i64 0, .bool false] 90)
  refine ⟨rfl, ⟨none, 0, none, 0, ⟨false, 0, 0, 0, false⟩, ⟨?_, ⟨Ls.nil _ _ _, fun _ => rfl, Nat.le_refl _, by omega⟩, Ls.nil _ _ _, fun _ => rfl, Nat.le_refl _, by omega, .nil⟩, ⟨rfl, rfl⟩, fun a e => (by cases e), fun a e => (by cases e), rfl⟩, (Below.refl _ _).alloc (Nat.le_refl _) _, by simp⟩
  rw [gr, HR2.out]
  rfl
theorem Rk.set {w w' : World} {r : Nat} {room : Int} {A : Option Addr} {c : Nat} {ls : AL Nm} {A2 : Option Addr} {c2 : Nat} {pd : List Chn} {N N' : Int} {xt xt' : Xt} (h : Rk w r room A c ls A2 c2 pd N xt) (hc : Chg (fun k => k = r) w w') (hA : ∀ a, A = some a → a.block ≠ r) (hA2 : ∀ a, A2 = some a → a.block ≠ r)
    (hb : w'.heap[r]? = some (.cells #[.int .i64 room, .slice A ls.length c, .slice A2 pd.length c2, .int .i64 N', .bool xt'.od, .int .i64 xt'.lf, .int .i64 xt'.kp, .int .i64 xt'.pt, .bool xt'.gn] 90 (0, 0))) : Rk w' r room A c ls A2 c2 pd N' xt' :=
  ⟨hb, h.fr.chg hc hA, (ls_chg h.ch (Nat.le_refl _) hc hA2).more hc.size, h.nil, h.le, h.cap, h.srt⟩
set_option maxRecDepth 100000 in
theorem power_r (w : World) (r : Nat) (X : Nat → Prop) (st : St) (h : RM w r X st) : Calls Tryz.prog 24 #[ptr r] w (RetRV w r X (powSt st) (.tuple #[])) := by
  obtain ⟨A, c, A2, c2, xt, hk, hxs, hA, hA2, hr⟩ := h
  obtain ⟨q0, q1, q2, q3, q4, q8⟩ := rk_cells hk
  have lr := blk_lt hk.blk
  have f4 := frozen_of_row _ _ 4 _ _ hk.blk
  have f8 := frozen_of_row _ _ 8 _ _ hk.blk
  obtain ⟨w2, hw2⟩ : ∃ w2, (w.setCell ⟨r, 8, none⟩ (.bool false)).setCell ⟨r, 4, none⟩ (.bool false) = w2 := ⟨_, rfl⟩
  have hc2 : Chg (fun k => k = r) w w2 := by rw [← hw2]; exact (chg_set _ _ _ _).trans (chg_set _ _ _ _) (fun _ _ e => e)
  have hk2 : Rk w2 r st.room A c st.last A2 c2 st.pend st.ops ⟨false, xt.lf, xt.kp, xt.pt, false⟩ := hk.set hc2 (fun a e => (hA a e).2) (fun a e => (hA2 a e).2) (by rw [← hw2, setp_obj (setp_obj hk.blk)]; rfl)
  have FIN := Lib.hid (show RetRV w r X (powSt st) (.tuple #[]) (.returned (.tuple #[])) w2 from ⟨rfl, ⟨A, c, A2, c2, _, hk2, ⟨rfl, rfl⟩, fun a e => ⟨.inl (hA a e).1, (hA a e).2⟩, fun a e => ⟨.inl (hA2 a e).1, (hA2 a e).2⟩, .inl hr⟩, hc2⟩)
  have W2 := Lib.hid hw2
  clear hk hxs hA hA2 hr hw2 hc2 hk2 q0 q1 q2 q3
  go_enter Tryz.func24, Tryz.ntmps24
  go_wp2_with fail
  go_end0
  rw [W2.out]
  exact FIN.out
set_option maxRecDepth 100000 in
theorem cut_r (w : World) (r : Nat) (X : Nat → Prop) (st : St) (n k q : Int) (h : RM w r X st) : Calls Tryz.prog 20 #[ptr r, .int .i64 n, .int .i64 k, .int .i64 q] w (RetRV w r X (cutSt st n k q) (.tuple #[])) := by
  obtain ⟨A, c, A2, c2, xt, hk, hxs, hA, hA2, hr⟩ := h
  obtain ⟨q0, q1, q2, q3, q4, q8⟩ := rk_cells hk
  obtain ⟨q5, q6, q7⟩ : w.cell? ⟨r, 5, none⟩ = some (.int .i64 xt.lf) ∧ w.cell? ⟨r, 6, none⟩ = some (.int .i64 xt.kp) ∧ w.cell? ⟨r, 7, none⟩ = some (.int .i64 xt.pt) := by
    refine ⟨?_, ?_, ?_⟩ <;> (rw [cell_of_row _ _ _ _ _ _ hk.blk]; rfl)
  have lr := blk_lt hk.blk
  have f4 := frozen_of_row _ _ 4 _ _ hk.blk
  have f5 := frozen_of_row _ _ 5 _ _ hk.blk
  have f6 := frozen_of_row _ _ 6 _ _ hk.blk
  have f7 := frozen_of_row _ _ 7 _ _ hk.blk
  obtain ⟨L, hL⟩ : ∃ L, max n 0 = L := ⟨_, rfl⟩
  have hL1 : (if (0 : Int) < n then n else 0) = L := by rw [← hL]; split <;> omega
  have hL2 : max 0 n = L := by omega
  obtain ⟨w2, hw2⟩ : ∃ w2, (((w.setCell ⟨r, 4, none⟩ (.bool true)).setCell ⟨r, 5, none⟩ (.int .i64 L)).setCell ⟨r, 6, none⟩ (.int .i64 k)).setCell ⟨r, 7, none⟩ (.int .i64 q) = w2 := ⟨_, rfl⟩
  have hc2 : Chg (fun k => k = r) w w2 := by rw [← hw2]; exact (((chg_set _ _ _ _).trans (chg_set _ _ _ _) (fun _ _ e => e)).trans (chg_set _ _ _ _) (fun _ _ e => e)).trans (chg_set _ _ _ _) (fun _ _ e => e)
  have hk2 : Rk w2 r st.room A c st.last A2 c2 st.pend st.ops ⟨true, L, k, q, xt.gn⟩ := hk.set hc2 (fun a e => (hA a e).2) (fun a e => (hA2 a e).2) (by rw [← hw2, setp_obj (setp_obj (setp_obj (setp_obj hk.blk)))]; rfl)
  have FIN := Lib.hid (show RetRV w r X (cutSt st n k q) (.tuple #[]) (.returned (.tuple #[])) w2 from ⟨rfl, ⟨A, c, A2, c2, _, hk2, ⟨hxs.1, ⟨rfl, hL.symm, rfl, rfl⟩⟩, fun a e => ⟨.inl (hA a e).1, (hA a e).2⟩, fun a e => ⟨.inl (hA2 a e).1, (hA2 a e).2⟩, .inl hr⟩, hc2⟩)
  have W2 := Lib.hid hw2
  have HL := Lib.hid hL
  clear hk hxs hA hA2 hr hw2 hc2 hk2 q0 q1 q2 q3 q8 hL
  go_enter Tryz.func20, Tryz.ntmps20
  go_wp2_with fail
  all_goals (
    go_end0
    first
      | (rw [W2.out]; exact FIN.out)
      | skip)

theorem kept_small {k : Int} {M i : Nat} (h : i < M) (hk : (i : Int) < k) : i < keptN k M := by unfold keptN; omega
theorem kept_le (k : Int) (M : Nat) : keptN k M ≤ M := by unfold keptN; omega
theorem kept_at {k : Int} {M i : Nat} (h : i ≤ keptN k M) (hk : ¬ (i : Int) < k) : keptN k M = i := by unfold keptN at *; omega
set_option maxHeartbeats 4000000 in
set_option maxRecDepth 100000 in
theorem crash_r (w : World) (r : Nat) (X : Nat → Prop) (st : St) (k q : Int) (h : RM w r X st) (hsz : fsum st.last + sumc st.pend ≤ 1073741824) (hpl : st.last.length + st.pend.length ≤ 1000000000) :
    Calls Tryz.prog 22 #[ptr r, .int .i64 k, .int .i64 q] w (RetRV w r X (crashSt st k q) (.tuple #[])) := by
  obtain ⟨A, c, A2, c2, xt, hk, hxs, hA, hA2, hr⟩ := h
  obtain ⟨q0, q1, q2, q3, q4, q8⟩ := rk_cells hk
  have lr := blk_lt hk.blk
  obtain ⟨room, ls, pd, due, dead, N0⟩ := st
  dsimp only at hk hxs hsz hpl q0 q1 q2 q3
  cases hdd : dead with
  | true =>
    subst hdd
    have e8 : xt.gn = true := hxs.1
    have FIN := Lib.hid (show RetRV w r X (crashSt ⟨room, ls, pd, due, true, N0⟩ k q) (.tuple #[]) (.returned (.tuple #[])) w from ⟨rfl, ⟨A, c, A2, c2, xt, hk, hxs, fun a e => ⟨.inl (hA a e).1, (hA a e).2⟩, fun a e => ⟨.inl (hA2 a e).1, (hA2 a e).2⟩, .inl hr⟩, Chg.refl _ _⟩)
    rw [e8] at q8
    clear hk hxs hA hA2 hr hsz hpl e8 q0 q1 q2 q3 q4
    go_enter Tryz.func22, Tryz.ntmps22
    go_wp2_with fail
    go_end0
    exact FIN.out
  | false =>
    subst hdd
    have e8 : xt.gn = false := hxs.1
    rw [e8] at q8
    have HR := Lib.hid hk
    obtain ⟨M, hM⟩ : ∃ M, pd.length = M := ⟨_, rfl⟩
    have HM := Lib.hid hM
    rw [hM] at q2 hpl
    have hle := hk.le
    have hcap := hk.cap
    rw [hM] at hle
    obtain ⟨n, hln⟩ : ∃ n, ls.length = n := ⟨_, rfl⟩
    rw [hln] at q1 hpl
    have HN := Lib.hid hln
    have HSZ := Lib.hid hsz
    obtain ⟨KP, hKP⟩ : ∃ KP, keptN k M = KP := ⟨_, rfl⟩
    have hKM : KP ≤ M := by rw [← hKP]; exact kept_le _ _
    have HKP := Lib.hid hKP
    have HFIN := Lib.hid (show ∀ (wz : World) (l' : AL Nm) (k9 : Nat) (A9 : Option Addr) (c9 : Nat), wz.heap[r]? = some (.cells #[.int .i64 room, .slice A n c, .slice A2 M c2, .int .i64 N0, .bool xt.od, .int .i64 xt.lf, .int .i64 xt.kp, .int .i64 xt.pt, .bool xt.gn] 90 (0, 0)) → Below w.heap.size w wz →
        (Fr wz A9 c9 l' ∧ l'.length = k9 ∧ Srt l' ∧ (A9 = A ∨ ∀ a, A9 = some a → w.heap.size ≤ a.block ∧ a.block < wz.heap.size)) → l' = partOf (fold ls (pd.take KP)) pd[KP]? q →
        RetRV w r X (crashSt ⟨room, ls, pd, due, false, N0⟩ k q) (.tuple #[]) (.returned (.tuple #[])) ((((wz.setCell ⟨r, 1, none⟩ (.slice A9 k9 c9)).setCell ⟨r, 2, none⟩ (.slice none 0 0)).setCell ⟨r, 4, none⟩ (.bool false)).setCell ⟨r, 8, none⟩ (.bool true)) from by
      intro wz l' k9 A9 c9 g9 b9 ⟨f9, e9, s9, t9⟩ hl
      have hst : crashSt ⟨room, ls, pd, due, false, N0⟩ k q = ⟨room, l', [], none, true, N0⟩ := by
        unfold crashSt
        rw [if_neg (by show ¬ false = true; decide), hl, ← hKP, ← hM]
      rw [hst]
      have hcc : Chg (fun k => k = r) wz ((((wz.setCell ⟨r, 1, none⟩ (.slice A9 k9 c9)).setCell ⟨r, 2, none⟩ (.slice none 0 0)).setCell ⟨r, 4, none⟩ (.bool false)).setCell ⟨r, 8, none⟩ (.bool true)) := (((chg_set _ _ _ _).trans (chg_set _ _ _ _) (fun _ _ e => e)).trans (chg_set _ _ _ _) (fun _ _ e => e)).trans (chg_set _ _ _ _) (fun _ _ e => e)
      have hlr := blk_lt hk.blk
      have hne : ∀ a, A9 = some a → (X a.block ∨ (w.heap.size ≤ a.block ∧ a.block < wz.heap.size)) ∧ a.block ≠ r := fun a e => by
        rcases t9 with e2 | e2
        · rw [e2] at e; exact ⟨.inl (hA a e).1, (hA a e).2⟩
        · have h9 := e2 a e
          exact ⟨.inr h9, by omega⟩
      refine ⟨rfl, ⟨A9, c9, none, 0, ⟨false, xt.lf, xt.kp, xt.pt, true⟩, ⟨?_, f9.chg hcc (fun a e => (hne a e).2), Ls.nil _ _ _, fun _ => rfl, Nat.le_refl _, by omega, s9⟩, ⟨rfl, rfl⟩, fun a e => ⟨?_, (hne a e).2⟩, fun a e => (by cases e), .inl hr⟩, ((Chg.of_below b9).mono (S' := fun k => k = r) (fun _ _ e => e.elim)).trans hcc (fun _ _ e => e)⟩
      · rw [setp_obj (setp_obj (setp_obj (setp_obj g9))), e9]
        simp
      · rcases (hne a e).1 with e1 | e1
        · exact .inl e1
        · exact .inr ⟨e1.1, Nat.lt_of_lt_of_le e1.2 hcc.size⟩)
    clear hk hxs hA hA2 hr hsz hM hln e8 hKP q3 q4
    go_enter Tryz.func22, Tryz.ntmps22
    go_wp2_with fail
    go_loopg [6, 7, 8] M (fun gg s6 s7 s8 wr => ∃ (i k' : Nat) (A' : Option Addr) (c' : Nat), s6 = .slice A' k' c' ∧ s7 = .int .i64 i ∧ i ≤ KP ∧ M - i ≤ gg ∧ Aside (Fr wr A' c' (fold ls (pd.take i)) ∧ (fold ls (pd.take i)).length = k' ∧ Srt (fold ls (pd.take i)) ∧ (A' = A ∨ ∀ a, A' = some a → w.heap.size ≤ a.block ∧ a.block < wr.heap.size)) ∧ Aside (Below w.heap.size w wr))
    case atStart => exact ⟨0, n, A, c, rfl, rfl, Nat.zero_le _, by omega, ⟨HR.out.fr, HN.out, HR.out.srt, .inl rfl⟩, Below.refl _ _⟩
    case round =>
      obtain ⟨i, k', A', c', rfl, rfl, hi, hg, FF, BW⟩ := hrel
      obtain ⟨wv, rfl⟩ : ∃ wv, wv = wr := ⟨wr, rfl⟩
      have FF := Lib.hid FF
      have BW := Lib.hid BW
      have R1 := Lib.hid (HR.out.below BW.out)
      obtain ⟨_, _, q2, _⟩ := rk_cells R1.out
      rw [HM.out] at q2
      have lr := blk_lt R1.out.blk
      by_cases hlt : i < M
      · have i1 : (i : Int) < (M : Int) := by omega
        have i0 : (0 : Int) ≤ (i : Int) := by omega
        obtain ⟨x, hx⟩ : ∃ x, pd[i]? = some x := ⟨_, List.getElem?_eq_getElem (by have := HM.out; omega)⟩
        obtain ⟨b, off, eA, hb, e0, e1, e2⟩ := che_at R1.out.ch hx
        subst eA
        have lb : b < wv.heap.size := World.block_lt_of_cell? wv _ e0
        have hk9 := fold_len_take ls pd i
        rw [FF.out.2.1, HM.out, HN.out] at hk9
        have hs9 := fold_sum_take HR.out.srt hx
        have hss := HSZ.out
        obtain ⟨w5, hw5⟩ : ∃ w5, wv.alloc (.cells #[.int .i64 (chK x), .string (bs (chA x)), .string (bs (chB x))] 99) = w5 := ⟨_, rfl⟩
        have hb5 : Below wv.heap.size wv w5 := by rw [← hw5]; exact (Below.refl _ _).alloc (Nat.le_refl _) _
        have g5 : w5.heap[wv.heap.size]? = some (.cells #[.int .i64 (chK x), .string (bs (chA x)), .string (bs (chB x))] 99 (0, 0)) := by rw [← hw5]; exact alloc_new _ _
        have d0 : w5.cell? ⟨wv.heap.size, 0, none⟩ = some (.int .i64 (chK x)) := by rw [cell_of_row _ _ _ _ _ _ g5]; rfl
        have d1 : w5.cell? ⟨wv.heap.size, 1, none⟩ = some (.string (bs (chA x))) := by rw [cell_of_row _ _ _ _ _ _ g5]; rfl
        have d2 : w5.cell? ⟨wv.heap.size, 2, none⟩ = some (.string (bs (chB x))) := by rw [cell_of_row _ _ _ _ _ _ g5]; rfl
        have l5 := blk_lt g5
        have F5 := Lib.hid (FF.out.1.below hb5)
        have B5 := Lib.hid (BW.out.trans (hb5.mono BW.out.size))
        have HB5 := Lib.hid hb5
        by_cases hik : (i : Int) < k
        · have HD := Lib.hid (done_y w5 k' c' A' (fold ls (pd.take i)) x F5.out FF.out.2.1 FF.out.2.2.1 (by omega) (by omega))
          rw [← fold_take hx] at HD
          have hlt2 : i + 1 ≤ KP := by rw [← HKP.out]; exact kept_small hlt hik
          clear hx hk9 hs9 hss hb5 g5
          go_wp2_with fail
          refine HD.out.mono ?_
          rintro e w6 ⟨A3, c3, rfl, hf3, hb3, hat3⟩
          have T3 := Lib.hid (show Srt (fold ls (pd.take (i + 1))) ∧ (A3 = A ∨ ∀ a, A3 = some a → w.heap.size ≤ a.block ∧ a.block < w6.heap.size) from by
            refine ⟨fold_srt HR.out.srt _, ?_⟩
            have s5 := HB5.out.size
            rcases hat3 with e | e
            · rw [e]; exact FF.out.2.2.2.imp id (fun h a ha => ⟨(h a ha).1, Nat.lt_of_lt_of_le (h a ha).2 (Nat.le_trans s5 hb3.size)⟩)
            · exact .inr fun a ha => ⟨Nat.le_trans B5.out.size (e a ha).1, (e a ha).2⟩)
          obtain ⟨k3, hk3⟩ : ∃ k3, (fold ls (pd.take (i + 1))).length = k3 := ⟨_, rfl⟩
          rw [hk3]
          have F3 := Lib.hid (And.intro hf3 hk3)
          have B3 := Lib.hid (B5.out.trans (hb3.mono B5.out.size))
          clear hf3 hb3 hk3 hat3 HD e0 e1 e2 q2 d0 d1 d2 hw5
          go_wp2_with fail
          go_roundg (M - (i + 1))
          case measure => omega
          case rel => exact ⟨i + 1, k3, A3, c3, rfl, by go_num, hlt2, by omega, ⟨F3.out.1, F3.out.2, T3.out.1, T3.out.2⟩, B3.out⟩
        · obtain rfl : KP = i := by rw [← HKP.out] at hi ⊢; exact kept_at hi hik
          have HX := Lib.hid hx
          cases x with
          | app a b9 =>
            simp only [chK, chA, chB] at d0 d1 d2 e0 e1 e2 hw5 g5 hs9
            by_cases hq : 0 < q
            · have hq2 : ¬ q ≤ 0 := by omega
              obtain ⟨bl, hbl⟩ : ∃ bl, b9.length = bl := ⟨_, rfl⟩
              have hbz : (bs b9).size = bl := by rw [bs_size, hbl]
              obtain ⟨mq, hmq⟩ : ∃ mq : Nat, (min q (bl : Int)).toNat = mq := ⟨_, rfl⟩
              have hmi : min q (bl : Int) = (mq : Int) := by omega
              have hmf : (if (bl : Int) < q then (bl : Int) else q) = (mq : Int) := by rw [← hmi]; split <;> omega
              have hm1 : (mq : Int) ≤ (bl : Int) := by omega
              have hex : (bs b9).extract 0 mq = bs (b9.take mq) := bs_extract _ _
              have fz2 := frozen_of_row _ _ 2 _ _ g5
              have hch : chlen (Chn.app a b9) = bl := hbl
              obtain ⟨w6, hw6⟩ : ∃ w6, w5.setCell ⟨wv.heap.size, 2, none⟩ (.string (bs (b9.take mq))) = w6 := ⟨_, rfl⟩
              have hc6 : Chg (fun k => k = wv.heap.size) w5 w6 := by rw [← hw6]; exact chg_set _ _ _ _
              have g6 : w6.heap[wv.heap.size]? = some (.cells #[.int .i64 0, .string (bs a), .string (bs (b9.take mq))] 99 (0, 0)) := by rw [← hw6, setp_obj g5]; rfl
              have hb6 : Below wv.heap.size wv w6 := HB5.out.trans (hc6.below (by have := HB5.out.size; omega) (fun k e => by omega))
              have d60 : w6.cell? ⟨wv.heap.size, 0, none⟩ = some (.int .i64 0) := by rw [cell_of_row _ _ _ _ _ _ g6]; rfl
              have d61 : w6.cell? ⟨wv.heap.size, 1, none⟩ = some (.string (bs a)) := by rw [cell_of_row _ _ _ _ _ _ g6]; rfl
              have d62 : w6.cell? ⟨wv.heap.size, 2, none⟩ = some (.string (bs (b9.take mq))) := by rw [cell_of_row _ _ _ _ _ _ g6]; rfl
              have l6 := blk_lt g6
              have HD := Lib.hid (done_y w6 k' c' A' (fold ls (pd.take KP)) (.app a (b9.take mq)) (FF.out.1.below hb6) FF.out.2.1 FF.out.2.2.1 (by omega) (by simp only [chlen, List.length_take]; omega))
              simp only [chK, chA, chB] at HD
              have HPT := Lib.hid (show done (fold ls (pd.take KP)) (.app a (b9.take mq)) = partOf (fold ls (pd.take KP)) pd[KP]? q from by
                rw [hx]
                show _ = if 0 < q then done (fold ls (pd.take KP)) (.app a (b9.take (min q (b9.length : Int)).toNat)) else _
                rw [if_pos hq, hbl, hmq])
              have W6 := Lib.hid hw6
              have HEX := Lib.hid hex
              have B6 := Lib.hid (And.intro (BW.out.trans (hb6.mono BW.out.size)) hb6)
              obtain ⟨sb, hsb⟩ : ∃ sb, bs b9 = sb := ⟨_, rfl⟩
              rw [hsb] at hw5 d2 e2 hbz HEX
              have hnb : b9.length = bl := hbl
              clear hx hk9 hs9 hss hb5 g5 hc6 g6 hb6 hw6 hmq hch hex hbl hsb hnb
              go_wp2_with fail
              rw [HEX.out, W6.out]
              refine HD.out.mono ?_
              rintro e w7 ⟨A3, c3, rfl, hf3, hb3, hat3⟩
              obtain ⟨k3, hk3⟩ : ∃ k3, (done (fold ls (pd.take KP)) (Chn.app a (b9.take mq))).length = k3 := ⟨_, rfl⟩
              rw [hk3]
              have HF9 := Lib.hid (show Fr w7 A3 c3 (done (fold ls (pd.take KP)) (Chn.app a (b9.take mq))) ∧ (done (fold ls (pd.take KP)) (Chn.app a (b9.take mq))).length = k3 ∧ Srt (done (fold ls (pd.take KP)) (Chn.app a (b9.take mq))) ∧ (A3 = A ∨ ∀ a, A3 = some a → w.heap.size ≤ a.block ∧ a.block < w7.heap.size) from by
                refine ⟨hf3, hk3, done_srt FF.out.2.2.1 _, ?_⟩
                have s5 := B6.out.2.size
                rcases hat3 with e | e
                · rw [e]; exact FF.out.2.2.2.imp id (fun h a ha => ⟨(h a ha).1, Nat.lt_of_lt_of_le (h a ha).2 (Nat.le_trans s5 hb3.size)⟩)
                · exact .inr fun a ha => ⟨Nat.le_trans B6.out.1.size (e a ha).1, (e a ha).2⟩)
              have HS9 := Lib.hid HPT.out
              have BZ := Lib.hid (B6.out.1.trans (hb3.mono B6.out.1.size))
              clear hf3 hb3 hat3 hk3 HD e0 e1 e2 d0 d1 d2 hw5 d60 d61 d62 q2 lr
              obtain ⟨gr9, lr9⟩ : w7.heap[r]? = some (.cells #[.int .i64 room, .slice A n c, .slice (some ⟨b, off, none⟩) M c2, .int .i64 N0, .bool xt.od, .int .i64 xt.lf, .int .i64 xt.kp, .int .i64 xt.pt, .bool xt.gn] 90 (0, 0)) ∧ r < w7.heap.size := by
                have g := blk_below BZ.out HR.out.blk (blk_lt HR.out.blk)
                rw [HN.out, HM.out] at g
                exact ⟨g, blk_lt g⟩
              have y1 : w7.cell? ⟨r, 1, none⟩ = some (.slice A n c) := by rw [cell_of_row _ _ _ _ _ _ gr9]; rfl
              have y2 : w7.cell? ⟨r, 2, none⟩ = some (.slice (some ⟨b, off, none⟩) M c2) := by rw [cell_of_row _ _ _ _ _ _ gr9]; rfl
              have y4 : w7.cell? ⟨r, 4, none⟩ = some (.bool xt.od) := by rw [cell_of_row _ _ _ _ _ _ gr9]; rfl
              have y8 : w7.cell? ⟨r, 8, none⟩ = some (.bool xt.gn) := by rw [cell_of_row _ _ _ _ _ _ gr9]; rfl
              have z1 := frozen_of_row _ _ 1 _ _ gr9
              have z2 := frozen_of_row _ _ 2 _ _ gr9
              have z4 := frozen_of_row _ _ 4 _ _ gr9
              have z8 := frozen_of_row _ _ 8 _ _ gr9
              have G9 := Lib.hid gr9
              clear gr9
              go_wp2_with fail
              go_end0
              exact HFIN.out w7 (done (fold ls (pd.take KP)) (Chn.app a (b9.take mq))) k3 A3 c3 G9.out BZ.out HF9.out HS9.out
            · have hq2 : ¬ 0 < q := hq
              have HF9 := Lib.hid (show Fr w5 A' c' (fold ls (pd.take KP)) ∧ (fold ls (pd.take KP)).length = k' ∧ Srt (fold ls (pd.take KP)) ∧ (A' = A ∨ ∀ a, A' = some a → w.heap.size ≤ a.block ∧ a.block < w5.heap.size) from
                ⟨F5.out, FF.out.2.1, FF.out.2.2.1, FF.out.2.2.2.imp id (fun h a ha => ⟨(h a ha).1, Nat.lt_of_lt_of_le (h a ha).2 HB5.out.size⟩)⟩)
              have HS9 := Lib.hid (show fold ls (pd.take KP) = partOf (fold ls (pd.take KP)) pd[KP]? q from by rw [hx]; show _ = (if 0 < q then _ else _); rw [if_neg hq])
              have BZ := Lib.hid B5.out
              clear hx hk9 hs9 hss hb5 g5
              obtain ⟨gr9, lr9⟩ : w5.heap[r]? = some (.cells #[.int .i64 room, .slice A n c, .slice (some ⟨b, off, none⟩) M c2, .int .i64 N0, .bool xt.od, .int .i64 xt.lf, .int .i64 xt.kp, .int .i64 xt.pt, .bool xt.gn] 90 (0, 0)) ∧ r < w5.heap.size := by
                have g := blk_below BZ.out HR.out.blk (blk_lt HR.out.blk)
                rw [HN.out, HM.out] at g
                exact ⟨g, blk_lt g⟩
              have y1 : w5.cell? ⟨r, 1, none⟩ = some (.slice A n c) := by rw [cell_of_row _ _ _ _ _ _ gr9]; rfl
              have y2 : w5.cell? ⟨r, 2, none⟩ = some (.slice (some ⟨b, off, none⟩) M c2) := by rw [cell_of_row _ _ _ _ _ _ gr9]; rfl
              have y4 : w5.cell? ⟨r, 4, none⟩ = some (.bool xt.od) := by rw [cell_of_row _ _ _ _ _ _ gr9]; rfl
              have y8 : w5.cell? ⟨r, 8, none⟩ = some (.bool xt.gn) := by rw [cell_of_row _ _ _ _ _ _ gr9]; rfl
              have z1 := frozen_of_row _ _ 1 _ _ gr9
              have z2 := frozen_of_row _ _ 2 _ _ gr9
              have z4 := frozen_of_row _ _ 4 _ _ gr9
              have z8 := frozen_of_row _ _ 8 _ _ gr9
              have G9 := Lib.hid gr9
              clear gr9
              go_wp2_with fail
              go_end0
              exact HFIN.out w5 (fold ls (pd.take KP)) k' A' c' G9.out BZ.out HF9.out HS9.out
          | ren a b9 =>
            simp only [chK, chA, chB] at d0 d1 d2 e0 e1 e2 hw5 g5
            have HF9 := Lib.hid (show Fr w5 A' c' (fold ls (pd.take KP)) ∧ (fold ls (pd.take KP)).length = k' ∧ Srt (fold ls (pd.take KP)) ∧ (A' = A ∨ ∀ a, A' = some a → w.heap.size ≤ a.block ∧ a.block < w5.heap.size) from
              ⟨F5.out, FF.out.2.1, FF.out.2.2.1, FF.out.2.2.2.imp id (fun h a ha => ⟨(h a ha).1, Nat.lt_of_lt_of_le (h a ha).2 HB5.out.size⟩)⟩)
            have HS9 := Lib.hid (show fold ls (pd.take KP) = partOf (fold ls (pd.take KP)) pd[KP]? q from by rw [hx]; rfl)
            have BZ := Lib.hid B5.out
            clear hx hk9 hs9 hss hb5 g5
            obtain ⟨gr9, lr9⟩ : w5.heap[r]? = some (.cells #[.int .i64 room, .slice A n c, .slice (some ⟨b, off, none⟩) M c2, .int .i64 N0, .bool xt.od, .int .i64 xt.lf, .int .i64 xt.kp, .int .i64 xt.pt, .bool xt.gn] 90 (0, 0)) ∧ r < w5.heap.size := by
              have g := blk_below BZ.out HR.out.blk (blk_lt HR.out.blk)
              rw [HN.out, HM.out] at g
              exact ⟨g, blk_lt g⟩
            have y1 : w5.cell? ⟨r, 1, none⟩ = some (.slice A n c) := by rw [cell_of_row _ _ _ _ _ _ gr9]; rfl
            have y2 : w5.cell? ⟨r, 2, none⟩ = some (.slice (some ⟨b, off, none⟩) M c2) := by rw [cell_of_row _ _ _ _ _ _ gr9]; rfl
            have y4 : w5.cell? ⟨r, 4, none⟩ = some (.bool xt.od) := by rw [cell_of_row _ _ _ _ _ _ gr9]; rfl
            have y8 : w5.cell? ⟨r, 8, none⟩ = some (.bool xt.gn) := by rw [cell_of_row _ _ _ _ _ _ gr9]; rfl
            have z1 := frozen_of_row _ _ 1 _ _ gr9
            have z2 := frozen_of_row _ _ 2 _ _ gr9
            have z4 := frozen_of_row _ _ 4 _ _ gr9
            have z8 := frozen_of_row _ _ 8 _ _ gr9
            have G9 := Lib.hid gr9
            clear gr9
            go_wp2_with fail
            go_end0
            exact HFIN.out w5 (fold ls (pd.take KP)) k' A' c' G9.out BZ.out HF9.out HS9.out
          | rem a =>
            simp only [chK, chA, chB] at d0 d1 d2 e0 e1 e2 hw5 g5
            have HF9 := Lib.hid (show Fr w5 A' c' (fold ls (pd.take KP)) ∧ (fold ls (pd.take KP)).length = k' ∧ Srt (fold ls (pd.take KP)) ∧ (A' = A ∨ ∀ a, A' = some a → w.heap.size ≤ a.block ∧ a.block < w5.heap.size) from
              ⟨F5.out, FF.out.2.1, FF.out.2.2.1, FF.out.2.2.2.imp id (fun h a ha => ⟨(h a ha).1, Nat.lt_of_lt_of_le (h a ha).2 HB5.out.size⟩)⟩)
            have HS9 := Lib.hid (show fold ls (pd.take KP) = partOf (fold ls (pd.take KP)) pd[KP]? q from by rw [hx]; rfl)
            have BZ := Lib.hid B5.out
            clear hx hk9 hs9 hss hb5 g5
            obtain ⟨gr9, lr9⟩ : w5.heap[r]? = some (.cells #[.int .i64 room, .slice A n c, .slice (some ⟨b, off, none⟩) M c2, .int .i64 N0, .bool xt.od, .int .i64 xt.lf, .int .i64 xt.kp, .int .i64 xt.pt, .bool xt.gn] 90 (0, 0)) ∧ r < w5.heap.size := by
              have g := blk_below BZ.out HR.out.blk (blk_lt HR.out.blk)
              rw [HN.out, HM.out] at g
              exact ⟨g, blk_lt g⟩
            have y1 : w5.cell? ⟨r, 1, none⟩ = some (.slice A n c) := by rw [cell_of_row _ _ _ _ _ _ gr9]; rfl
            have y2 : w5.cell? ⟨r, 2, none⟩ = some (.slice (some ⟨b, off, none⟩) M c2) := by rw [cell_of_row _ _ _ _ _ _ gr9]; rfl
            have y4 : w5.cell? ⟨r, 4, none⟩ = some (.bool xt.od) := by rw [cell_of_row _ _ _ _ _ _ gr9]; rfl
            have y8 : w5.cell? ⟨r, 8, none⟩ = some (.bool xt.gn) := by rw [cell_of_row _ _ _ _ _ _ gr9]; rfl
            have z1 := frozen_of_row _ _ 1 _ _ gr9
            have z2 := frozen_of_row _ _ 2 _ _ gr9
            have z4 := frozen_of_row _ _ 4 _ _ gr9
            have z8 := frozen_of_row _ _ 8 _ _ gr9
            have G9 := Lib.hid gr9
            clear gr9
            go_wp2_with fail
            go_end0
            exact HFIN.out w5 (fold ls (pd.take KP)) k' A' c' G9.out BZ.out HF9.out HS9.out
      · obtain rfl : KP = i := by omega
        have hiM : KP = M := by omega
        have i1 : ¬ (KP : Int) < (M : Int) := by omega
        have HF9 := Lib.hid FF.out
        have HS9 := Lib.hid (show fold ls (pd.take KP) = partOf (fold ls (pd.take KP)) pd[KP]? q from by rw [List.getElem?_eq_none (by have := HM.out; omega)]; rfl)
        have BZ := Lib.hid BW.out
        clear FF BW R1
        obtain ⟨gr9, lr9⟩ : wv.heap[r]? = some (.cells #[.int .i64 room, .slice A n c, .slice A2 M c2, .int .i64 N0, .bool xt.od, .int .i64 xt.lf, .int .i64 xt.kp, .int .i64 xt.pt, .bool xt.gn] 90 (0, 0)) ∧ r < wv.heap.size := by
          have g := blk_below BZ.out HR.out.blk (blk_lt HR.out.blk)
          rw [HN.out, HM.out] at g
          exact ⟨g, blk_lt g⟩
        have y1 : wv.cell? ⟨r, 1, none⟩ = some (.slice A n c) := by rw [cell_of_row _ _ _ _ _ _ gr9]; rfl
        have y2 : wv.cell? ⟨r, 2, none⟩ = some (.slice A2 M c2) := by rw [cell_of_row _ _ _ _ _ _ gr9]; rfl
        have y4 : wv.cell? ⟨r, 4, none⟩ = some (.bool xt.od) := by rw [cell_of_row _ _ _ _ _ _ gr9]; rfl
        have y8 : wv.cell? ⟨r, 8, none⟩ = some (.bool xt.gn) := by rw [cell_of_row _ _ _ _ _ _ gr9]; rfl
        have z1 := frozen_of_row _ _ 1 _ _ gr9
        have z2 := frozen_of_row _ _ 2 _ _ gr9
        have z4 := frozen_of_row _ _ 4 _ _ gr9
        have z8 := frozen_of_row _ _ 8 _ _ gr9
        have G9 := Lib.hid gr9
        clear gr9
        go_wp2_with fail
        go_end0
        exact HFIN.out wv (fold ls (pd.take KP)) k' A' c' G9.out BZ.out HF9.out HS9.out
/-- behind the power's part of a raw call -/
def rawSt (st : St) : St := if (pw st).dead then pw st else cnt st
theorem rk_more {w : World} {r : Nat} {room : Int} {A : Option Addr} {c : Nat} {ls : AL Nm} {A2 : Option Addr} {c2 : Nat} {pd : List Chn} {N : Int} {xt : Xt} (h : Rk w r room A c ls A2 c2 pd N xt) :
    w.cell? ⟨r, 5, none⟩ = some (.int .i64 xt.lf) ∧ w.cell? ⟨r, 6, none⟩ = some (.int .i64 xt.kp) ∧ w.cell? ⟨r, 7, none⟩ = some (.int .i64 xt.pt) := by
  refine ⟨?_, ?_, ?_⟩ <;> (rw [cell_of_row _ _ _ _ _ _ h.blk]; rfl)
set_option maxHeartbeats 2000000 in
set_option maxRecDepth 100000 in
theorem raw_r (w : World) (r : Nat) (X : Nat → Prop) (st : St) (h : RM w r X st) (hs : Small st) :
    Calls Tryz.prog 89 #[ptr r] w (RetRM w r X (rawSt st) (doE st)) := by
  have H := Lib.hid h
  have HS := Lib.hid hs
  obtain ⟨A, c, A2, c2, xt, hk, hxs, hA, hA2, hr⟩ := h
  obtain ⟨q0, q1, q2, q3, q4, q8⟩ := rk_cells hk
  obtain ⟨q5, q6, q7⟩ := rk_more hk
  have lr := blk_lt hk.blk
  have fz3 := frozen_of_row _ _ 3 _ _ hk.blk
  have fz5 := frozen_of_row _ _ 5 _ _ hk.blk
  have hw : IntKind.i64.wrap (st.ops + 1) = st.ops + 1 := IntWalk.i64_in _ (by have := hs.ops0; have := hs.ops1; omega)
  have hx1 := hxs.1
  have hx2 := hxs.2
  have HK := Lib.hid (And.intro hk (And.intro hxs (And.intro hA (And.intro hA2 hr))))
  clear hk hxs hA hA2 hr hs q0 q1 q2
  cases hd : st.due with
  | none =>
    rw [hd] at hx2
    have e4 : xt.od = false := hx2
    have epw : pw st = st := by unfold pw; rw [hd]
    rw [e4] at q4
    rw [hx1] at q8
    cases hdd : st.dead with
    | true =>
      have e1 : rawSt st = st := by unfold rawSt; rw [epw, hdd]; rfl
      have e2 : doE st = 13 := by unfold doE; rw [epw, hdd]; rfl
      rw [e1, e2]
      rw [hdd] at q8
      clear hd hdd hx1 hx2 e4 epw e1 e2 hw q5 q6 q7 q3
      go_enter Tryz.func89, Tryz.ntmps89
      go_wp2_with fail
      go_ret
      exact RetRM.same H.out (Below.refl _ _) _
    | false =>
      have e1 : rawSt st = cnt st := by unfold rawSt; rw [epw, hdd]; rfl
      have e2 : doE st = 0 := by unfold doE; rw [epw, hdd]; rfl
      have e3 : cnt st = { st with ops := st.ops + 1 } := by unfold cnt; rw [hd]; cases st; simp_all
      rw [e1, e2, e3]
      rw [hdd] at q8
      obtain ⟨w2, hw2⟩ : ∃ w2, w.setCell ⟨r, 3, none⟩ (.int .i64 (st.ops + 1)) = w2 := ⟨_, rfl⟩
      have hc2 : Chg (fun k => k = r) w w2 := by rw [← hw2]; exact chg_set _ _ _ _
      have hk2 : Rk w2 r st.room A c st.last A2 c2 st.pend (st.ops + 1) xt := HK.out.1.set hc2 (fun a e => (HK.out.2.2.1 a e).2) (fun a e => (HK.out.2.2.2.1 a e).2) (by rw [← hw2, setp_obj HK.out.1.blk]; rfl)
      have FIN := Lib.hid (show RetRM w r X { st with ops := st.ops + 1 } 0 (.returned (.int .i64 0)) w2 from ⟨rfl, ⟨A, c, A2, c2, xt, hk2, HK.out.2.1, fun a e => ⟨.inl (HK.out.2.2.1 a e).1, (HK.out.2.2.1 a e).2⟩, fun a e => ⟨.inl (HK.out.2.2.2.1 a e).1, (HK.out.2.2.2.1 a e).2⟩, .inl HK.out.2.2.2.2⟩, hc2⟩)
      have W2 := Lib.hid hw2
      clear hd hdd hx1 hx2 e4 epw e1 e2 e3 q5 q6 q7 hw2 hc2 hk2
      go_enter Tryz.func89, Tryz.ntmps89
      go_wp2_with fail
      go_ret
      rw [W2.out]
      exact FIN.out
  | some d =>
    obtain ⟨l, a, b⟩ := d
    rw [hd] at hx2
    obtain ⟨e4, e5, e6, e7⟩ := hx2
    dsimp only at e5 e6 e7
    rw [e4] at q4
    rw [e5] at q5
    rw [e6] at q6
    rw [e7] at q7
    rw [hx1] at q8
    by_cases l0 : l = 0
    · subst l0
      have e1 : rawSt st = crashSt st a b := by
        have : pw st = crashSt st a b := by
          unfold pw
          rw [hd]
          cases hdd : st.dead with
          | true => unfold crashSt; rw [if_pos hdd]; rfl
          | false => dsimp only; rw [if_pos ⟨rfl, rfl⟩]
        unfold rawSt; rw [this, if_pos (crash_dead _ _ _)]
      have e2 : doE st = 13 := by
        have : pw st = crashSt st a b := by
          unfold pw
          rw [hd]
          cases hdd : st.dead with
          | true => unfold crashSt; rw [if_pos hdd]; rfl
          | false => dsimp only; rw [if_pos ⟨rfl, rfl⟩]
        unfold doE; rw [this, if_pos (crash_dead _ _ _)]
      rw [e1, e2]
      have HCR := Lib.hid (crash_r w.drew r X st a b (H.out.below (Below.refl _ _).drew) (by have := HS.out.sum; omega) (by have := HS.out.len; omega))
      clear hd hx1 e4 e5 e6 e7 e1 e2 hw q3 q8
      have z6 := Wb.at_ q6
      have z7 := Wb.at_ q7
      go_enter Tryz.func89, Tryz.ntmps89
      go_wp2_with fail
      refine wp_region_plan [([0, 1, 2, 3, 4, 5, 6, 7, 8], some (9, true)), ([], none)] (by kernel_rfl) (by kernel_rfl) ?_
      refine seg_write _ (by dsimp only [pick, at_]) _ (by dsimp only [pick, at_]) ?_
      repeat (go_big_quiet_step (fail))
      refine wpQuiet_nil ?_
      intro K1 h2
      clear z6 z7 q4 q5 q6 q7 lr fz3 fz5
      go_wp2_with fail
      refine HCR.out.mono ?_
      rintro e w2 ⟨rfl, hm2, hc2⟩
      have R2 := Lib.hid (And.intro hm2 hc2)
      obtain ⟨A3, c3, A4, c4, xt3, hk3, hxs3, _⟩ := hm2
      have p8 := (rk_cells hk3).2.2.2.2.2
      rw [hxs3.1, crash_dead] at p8
      have lr3 := blk_lt hk3.blk
      clear hk3 hxs3 hc2 HCR
      go_wp2_with fail
      refine seg_end _ (by dsimp only [pick, at_]) ?_
      repeat (go_big_quiet_step (fail))
      refine wpQuiet_nil (NoPanic.normal ?_)
      go_wp2_with fail
      go_ret
      exact ⟨rfl, R2.out.1.mono (fun k hk => hk.imp id (fun e => e)), (Chg.refl _ _).drew.trans R2.out.2 (fun _ _ e => e)⟩
    · have epw : pw st = st := by unfold pw; rw [hd]; dsimp only; rw [if_neg (fun e => l0 e.2)]
      cases hdd : st.dead with
      | true =>
        have e1 : rawSt st = st := by unfold rawSt; rw [epw, hdd]; rfl
        have e2 : doE st = 13 := by unfold doE; rw [epw, hdd]; rfl
        rw [e1, e2]
        rw [hdd] at q8
        clear hd hdd hx1 e4 e5 e6 e7 epw e1 e2 hw q6 q7 q3
        go_enter Tryz.func89, Tryz.ntmps89
        go_wp2_with fail
        go_ret
        exact RetRM.same H.out (Below.refl _ _) _
      | false =>
        have e1 : rawSt st = cnt st := by unfold rawSt; rw [epw, hdd]; rfl
        have e2 : doE st = 0 := by unfold doE; rw [epw, hdd]; rfl
        have e3 : cnt st = { st with ops := st.ops + 1, due := some (l - 1, a, b) } := by unfold cnt; rw [hd]; rfl
        have hl9 := HS.out.due _ hd
        dsimp only at hl9
        have hwl : IntKind.i64.wrap (l - 1) = l - 1 := IntWalk.i64_in _ (by omega)
        rw [e1, e2, e3]
        rw [hdd] at q8
        obtain ⟨w2, hw2⟩ : ∃ w2, (w.setCell ⟨r, 5, none⟩ (.int .i64 (l - 1))).setCell ⟨r, 3, none⟩ (.int .i64 (st.ops + 1)) = w2 := ⟨_, rfl⟩
        have hc2 : Chg (fun k => k = r) w w2 := by rw [← hw2]; exact (chg_set _ _ _ _).trans (chg_set _ _ _ _) (fun _ _ e => e)
        have hk2 : Rk w2 r st.room A c st.last A2 c2 st.pend (st.ops + 1) ⟨true, l - 1, xt.kp, xt.pt, xt.gn⟩ := HK.out.1.set hc2 (fun a e => (HK.out.2.2.1 a e).2) (fun a e => (HK.out.2.2.2.1 a e).2) (by rw [← hw2, setp_obj (setp_obj HK.out.1.blk), e4]; rfl)
        have FIN := Lib.hid (show RetRM w r X { st with ops := st.ops + 1, due := some (l - 1, a, b) } 0 (.returned (.int .i64 0)) w2 from ⟨rfl, ⟨A, c, A2, c2, _, hk2, ⟨hx1, ⟨rfl, rfl, e6, e7⟩⟩, fun a e => ⟨.inl (HK.out.2.2.1 a e).1, (HK.out.2.2.1 a e).2⟩, fun a e => ⟨.inl (HK.out.2.2.2.1 a e).1, (HK.out.2.2.2.1 a e).2⟩, .inl HK.out.2.2.2.2⟩, hc2⟩)
        have W2 := Lib.hid hw2
        clear hd hdd hx1 e4 e5 e6 e7 epw e1 e2 e3 q6 q7 hw2 hc2 hk2
        go_enter Tryz.func89, Tryz.ntmps89
        go_wp2_with fail
        go_ret
        rw [W2.out]
        exact FIN.out
theorem RetRV.from1 {w w1 w2 : World} {r : Nat} {X : Nat → Prop} {st : St} {v : Value} (hb : Below w.heap.size w w1) (hm : RM w2 r (Ext X w1 w2) st) (hc : Chg (fun k => k = r) w1 w2) : RetRV w r X st v (.returned v) w2 := RetRV.after ⟨rfl, hm, hc⟩ hb
set_option maxHeartbeats 2000000 in
set_option maxRecDepth 100000 in
theorem change_r (w : World) (r : Nat) (X : Nat → Prop) (st : St) (x : Chn) (h : RM w r X st) (hs : Small st) (hX : ∀ k, X k → k < w.heap.size) :
    Calls Tryz.prog 88 #[ptr r, .agg #[.int .i64 (chK x), .string (bs (chA x)), .string (bs (chB x))]] w (RetRM w r X (doSt st x) (doE st)) := by
  obtain ⟨w1, hw1⟩ : ∃ w1, w.alloc (.cells #[.int .i64 (chK x), .string (bs (chA x)), .string (bs (chB x))] 99) = w1 := ⟨_, rfl⟩
  have hb1 : Below w.heap.size w w1 := by rw [← hw1]; exact (Below.refl _ _).alloc (Nat.le_refl _) _
  have g1 : w1.heap[w.heap.size]? = some (.cells #[.int .i64 (chK x), .string (bs (chA x)), .string (bs (chB x))] 99 (0, 0)) := by rw [← hw1]; exact alloc_new _ _
  have lr0 := h.at_r.2
  have HRAW := Lib.hid (raw_r w1 r X st (h.below hb1) hs)
  have HB1 := Lib.hid hb1
  have W1 := Lib.hid hw1
  have hs1 : w1.heap.size = w.heap.size + 1 := by rw [← hw1]; simp
  have HG1 := Lib.hid g1
  have HX := Lib.hid hX
  have hpl := hs.len
  cases hdead : (pw st).dead with
  | true =>
    have e1 : rawSt st = pw st := by unfold rawSt; rw [if_pos hdead]
    have e2 : doE st = 13 := by unfold doE; rw [if_pos hdead]
    have e3 : doSt st x = pw st := by unfold doSt; rw [if_pos hdead]
    rw [e1, e2] at HRAW
    rw [e2, e3]
    clear h hX hw1 hb1 g1 hdead e1 e2 e3 hpl hs
    go_enter Tryz.func88, Tryz.ntmps88
    go_wp2_with fail
    rw [W1.out]
    refine HRAW.out.mono ?_
    rintro e w2 ⟨rfl, hm2, hc2⟩
    have R2 := Lib.hid (And.intro hm2 hc2)
    clear hm2 hc2 HRAW
    go_wp2_with fail
    go_ret
    exact RetRV.from1 HB1.out R2.out.1 R2.out.2
  | false =>
    have e1 : rawSt st = cnt st := by unfold rawSt; rw [if_neg (by rw [hdead]; decide)]
    have e2 : doE st = 0 := by unfold doE; rw [if_neg (by rw [hdead]; decide)]
    have e3 : doSt st x = cnt { st with pend := st.pend ++ [x] } := by unfold doSt; rw [if_neg (by rw [hdead]; decide)]
    rw [e1, e2] at HRAW
    rw [e2, e3]
    clear h hX hw1 hb1 g1 hdead e1 e2 e3 hs
    go_enter Tryz.func88, Tryz.ntmps88
    go_wp2_with fail
    rw [W1.out]
    refine HRAW.out.mono ?_
    rintro e w2 ⟨rfl, ⟨A, c, A2, c2, xt, hk2, hxs2, hA, hA2, hr2⟩, hc2⟩
    have g2 := hc2.blk HG1.out (by omega)
    obtain ⟨M, hM⟩ : ∃ M, st.pend.length = M := ⟨_, rfl⟩
    have hcp : (cnt st).pend = st.pend := rfl
    have gr2 := hk2.blk
    rw [hcp, hM] at gr2
    have hls2 := hk2.ch
    rw [hcp, hM] at hls2
    have q2 : w2.cell? ⟨r, 2, none⟩ = some (.slice A2 M c2) := by rw [cell_of_row _ _ _ _ _ _ gr2]; rfl
    have lr2 := blk_lt gr2
    have hbl : Below w2.heap.size w2 (w2.alloc (.cells #[] 99)) := (Below.refl _ _).alloc (Nat.le_refl _) _
    have hown : Ow CHE (w2.alloc (.cells #[] 99)) w2.heap.size (.slice (some ⟨w2.heap.size, 0, none⟩) 0 0) 0 [] := Ow.lit w2
    have hlsl := hls2.below hbl (Nat.le_refl _)
    have hM9 : M ≤ 1000000000 := by omega
    have hnil := hk2.nil
    have hle := hk2.le
    have hcap := hk2.cap
    rw [hcp, hM] at hle
    have HK2 := Lib.hid (And.intro hk2 (And.intro hxs2 (And.intro hA (And.intro hA2 hr2))))
    have HC2 := Lib.hid hc2
    have HML := Lib.hid hM
    have hs2 := hc2.size
    obtain ⟨pd, hpd⟩ : ∃ pd, st.pend = pd := ⟨_, rfl⟩
    rw [hpd] at hlsl
    have HPD := Lib.hid hpd
    clear hk2 hxs2 hA hA2 hr2 hc2 hM hls2 hcp HRAW hpd hpl
    go_wp2_with (first | (at_builtin; refine append_h rfl (.tmp 12) (.tmp 16) rfl _ _ 0 [] rfl hown _ A2 M c2 hnil pd rfl hlsl (by omega) (by simp) ?_; intro A4 c4 w4 hown4 hg4 hA4 hc41 hc42 hs4; simp only [Nat.zero_add, List.nil_append] at hown4; have hb4 := hown.below_grown hbl hg4 (by simp); have g4 := blk_below hb4 g2 (blk_lt g2); have gr4 := blk_below hb4 gr2 lr2; have d0 : w4.cell? ⟨w.heap.size, 0, none⟩ = some (.int .i64 (chK x)) := by { rw [cell_of_row _ _ _ _ _ _ g4]; rfl }; have d1 : w4.cell? ⟨w.heap.size, 1, none⟩ = some (.string (bs (chA x))) := by { rw [cell_of_row _ _ _ _ _ _ g4]; rfl }; have d2 : w4.cell? ⟨w.heap.size, 2, none⟩ = some (.string (bs (chB x))) := by { rw [cell_of_row _ _ _ _ _ _ g4]; rfl }; have l4 := blk_lt g4; clear hg4 g4 hlsl) | (at_builtin; refine append_h rfl (.tmp 19) (.tmp 21) rfl _ _ M pd rfl (hown4.below ((Below.refl _ _).alloc (Nat.le_refl _) _) (Nat.le_refl _)) (w4.heap.size + 1) _ 1 _ (fun e => by cases e) [x] rfl (ls_new (E := CHE) _ x) (by omega) (by have := hb4.size; simp; omega) ?_; intro A5 c5 w5 hown5 hg5 hA5 hc51 hc52 hs5; have hb5 := (hown4.below ((Below.refl _ _).alloc (Nat.le_refl _) _) (Nat.le_refl _)).below_grown (hb4.alloc hb4.size _) hg5 (by have := hb4.size; simp; omega); have gr5 := blk_below hb5 gr2 lr2; have q5 : w5.cell? ⟨r, 2, none⟩ = some (.slice A2 M c2) := by { rw [cell_of_row _ _ _ _ _ _ gr5]; rfl }; have fz5 := frozen_of_row _ _ 2 _ _ gr5; have lr5 := blk_lt gr5; have GR5 := Lib.hid gr5; clear hg5 gr5))
    go_ret
    have hb5w := hb5.size
    have hc6 := chg_set w5 r 2 (.slice A5 (M + 1) c5)
    have hnr : ∀ a, A5 = some a → w2.heap.size ≤ a.block ∧ a.block < w5.heap.size := fun a e => by subst e; exact hown5.lt a.block rfl
    obtain ⟨hk2, hxs2, hA, hA2, hr2⟩ := HK2.out
    have hrX : r < w2.heap.size := lr2
    have hcall : Chg (fun k => k = r) w1 (w5.setCell ⟨r, 2, none⟩ (.slice A5 (M + 1) c5)) := (HC2.out.trans ((Chg.of_below hb5).mono (S' := fun k => k = r) (fun _ _ e => e.elim)) (fun _ _ e => e)).trans hc6 (fun _ _ e => e)
    refine RetRV.from1 (w1 := w1) HB1.out ⟨A, c, A5, c5, xt, ⟨?_, ?_, ?_, hA5, ?_, hc52, hk2.srt⟩, ?_, fun a e => ⟨?_, (hA a e).2⟩, fun a e => ?_, ?_⟩ hcall
    · rw [setp_obj GR5.out]
      show some (Obj.cells _ _ _) = some (Obj.cells #[_, _, .slice A5 (st.pend ++ [x]).length c5, _, _, _, _, _, _] _ _)
      rw [List.length_append, HML.out]
      simp
      exact ⟨rfl, rfl, rfl⟩
    · exact (hk2.fr.below hb5).chg hc6 (fun a e => (hA a e).2)
    · have h9 := ls_chg hown5.ls (Nat.le_refl _) hc6 (fun a e => by have := (hnr a e).1; omega)
      show Ls CHE _ _ A5 (st.pend ++ [x]).length (st.pend ++ [x])
      rw [List.length_append, HML.out, HPD.out]
      exact h9.more hc6.size
    · show (st.pend ++ [x]).length ≤ c5
      rw [List.length_append, HML.out]; exact hc51
    · exact hxs2
    · rcases (hA a e).1 with e9 | e9
      · exact .inl e9
      · exact .inr ⟨e9.1, by have := hc6.size; omega⟩
    · have h9 := hnr a e
      exact ⟨.inr ⟨by omega, by have := hc6.size; omega⟩, by omega⟩
    · rcases hr2 with e9 | e9
      · exact .inl e9
      · exact .inr ⟨e9.1, by have := hc6.size; omega⟩
theorem app_gen {st : St} {a b : Nm} (ha : okn a = true) (hf : ¬ st.room < (fsum st.shown : Int) + (b.length : Int)) : appSt st a b = (doSt st (.app a b), doE st) := by
  unfold appSt; rw [if_neg (by rw [ha]; decide), if_neg hf]
theorem rem_gen {st : St} {a : Nm} (ha : okn a = true) (hf : al.get st.shown a ≠ none) : remSt st a = (doSt st (.rem a), doE st) := by
  unfold remSt; rw [if_neg (by rw [ha]; decide), if_neg hf]
theorem ren_gen {st : St} {a b : Nm} (ha : okn a = true) (hb : okn b = true) (hf : al.get st.shown a ≠ none) : renSt st a b = (doSt st (.ren a b), doE st) := by
  unfold renSt; rw [if_neg (by rw [ha, hb]; decide), if_neg hf]
set_option maxHeartbeats 2000000 in
set_option maxRecDepth 100000 in
theorem append_r (w : World) (r : Nat) (X : Nat → Prop) (st : St) (a b : Nm) (h : RM w r X st) (hs : Small st) (hX : ∀ k, X k → k < w.heap.size) (hr0 : 0 ≤ st.room) (hr1 : st.room ≤ 1073741824) (hbl : b.length ≤ 1125899906842624) :
    Calls Tryz.prog 85 #[ptr r, .string (bs a), .string (bs b)] w (RetRM w r X (appSt st a b).1 (appSt st a b).2) := by
  have HM := Lib.hid (may_y w a)
  have H := Lib.hid h
  have HS := Lib.hid hs
  have HX := Lib.hid hX
  cases hok : okn a with
  | false =>
    rw [app_name hok]
    rw [hok] at HM
    clear hok h hs hX
    go_enter Tryz.func85, Tryz.ntmps85
    go_wp2_with fail
    refine HM.out.mono ?_
    rintro e w1 ⟨rfl, hb1⟩
    have B1 := Lib.hid hb1
    clear hb1 HM
    go_wp2_with fail
    go_ret
    exact RetRM.same H.out B1.out _
  | true =>
    rw [hok] at HM
    have HU := Lib.hid (fun u (hu : Below w.heap.size w u) => show ∃ room, u.cell? ⟨r, 0, none⟩ = some (.int .i64 room) ∧ room = st.room ∧ r < u.heap.size ∧ Calls Tryz.prog 108 #[ptr r] u.drew fun e w' => e = .returned (.int .i64 (fsum st.shown : Nat)) ∧ Below u.drew.heap.size u.drew w' from by
      obtain ⟨A, c, A2, c2, xt, k1, _⟩ := H.out.below hu
      exact ⟨st.room, (rk_cells k1).1, rfl, blk_lt k1.blk, used_y u.drew r st.room A c st.last A2 c2 st.pend st.ops (k1.below (Below.refl _ _).drew) (by have := HS.out.sum; omega) (by have := HS.out.len; omega)⟩)
    have hsum := fold_sum (ls := st.last) (by exact H.out.srt) st.pend
    have hU : fsum st.shown ≤ 536870912 := by have := HS.out.sum; unfold St.shown; omega
    obtain ⟨U, hUe⟩ : ∃ U, fsum st.shown = U := ⟨_, rfl⟩
    have hbz := bs_size b
    have hwr : IntKind.i64.wrap (st.room - (U : Int)) = st.room - (U : Int) := IntWalk.i64_in _ (by omega)
    obtain ⟨L, hL⟩ : ∃ L, b.length = L := ⟨_, rfl⟩
    rw [hL] at hbz hbl
    rw [hUe] at hU HU
    by_cases hf : st.room < (U : Int) + (L : Int)
    · rw [app_full hok (by rw [hUe, hL]; exact hf)]
      have hf2 : st.room - (U : Int) < (L : Int) := by omega
      obtain ⟨sb, hsb⟩ : ∃ sb, bs b = sb := ⟨_, rfl⟩
      rw [hsb] at hbz ⊢
      clear hok h hs hX hsum hUe hL hf hsb
      go_enter Tryz.func85, Tryz.ntmps85
      go_wp2_with fail
      refine HM.out.mono ?_
      rintro e w1 ⟨rfl, hb1⟩
      obtain ⟨room, q0, hroom, lr, hus⟩ := HU.out w1 hb1
      have B1 := Lib.hid hb1
      have HUS := Lib.hid hus
      have z0 := Wb.at_ q0
      subst hroom
      clear hb1 HM hus
      go_wp2_with fail
      refine wp_region_plan [([0, 1, 2, 3, 4, 5, 6], some (7, false)), ([8, 9], none)] (by kernel_rfl) (by kernel_rfl) ?_
      refine seg_act _ (by dsimp only [pick, at_]) _ (by dsimp only [pick, at_]) ?_
      repeat (go_big_quiet_step (fail))
      refine wpQuiet_nil ?_
      intro K1 g1 g2
      clear g1 z0
      go_wp2_with (fail)
      refine HUS.out.mono ?_
      rintro e w2 ⟨rfl, hb2⟩
      have b2 : Below w1.heap.size w1 w2 := ((Below.refl _ w1).drew).trans hb2
      have B2 := Lib.hid (B1.out.trans (b2.mono B1.out.size))
      clear hb2 HUS
      go_wp2_with (fail)
      refine g2 _ _ b2 ?_
      clear g2 b2
      refine seg_end _ (by dsimp only [pick, at_]) ?_
      repeat (go_big_quiet_step (fail))
      refine wpQuiet_nil (NoPanic.normal ?_)
      go_wp2_with fail
      go_ret
      exact RetRM.same H.out B2.out _
    · rw [app_gen hok (by rw [hUe, hL]; exact hf)]
      have hf2 : ¬ st.room - (U : Int) < (L : Int) := by omega
      have HCH := Lib.hid (fun u (hu : Below w.heap.size w u) => (change_r u r X st (.app a b) (H.out.below hu) HS.out (fun k hk => Nat.lt_of_lt_of_le (HX.out k hk) hu.size)))
      simp only [chK, chA, chB] at HCH
      obtain ⟨sb, hsb⟩ : ∃ sb, bs b = sb := ⟨_, rfl⟩
      rw [hsb] at hbz HCH ⊢
      clear hok h hs hX hsum hUe hL hf hsb
      go_enter Tryz.func85, Tryz.ntmps85
      go_wp2_with fail
      refine HM.out.mono ?_
      rintro e w1 ⟨rfl, hb1⟩
      obtain ⟨room, q0, hroom, lr, hus⟩ := HU.out w1 hb1
      have B1 := Lib.hid hb1
      have HUS := Lib.hid hus
      have z0 := Wb.at_ q0
      subst hroom
      clear hb1 HM hus
      go_wp2_with fail
      refine wp_region_plan [([0, 1, 2, 3, 4, 5, 6], some (7, false)), ([8, 9], none)] (by kernel_rfl) (by kernel_rfl) ?_
      refine seg_act _ (by dsimp only [pick, at_]) _ (by dsimp only [pick, at_]) ?_
      repeat (go_big_quiet_step (fail))
      refine wpQuiet_nil ?_
      intro K1 g1 g2
      clear g1 z0
      go_wp2_with (fail)
      refine HUS.out.mono ?_
      rintro e w2 ⟨rfl, hb2⟩
      have b2 : Below w1.heap.size w1 w2 := ((Below.refl _ w1).drew).trans hb2
      have B2 := Lib.hid (B1.out.trans (b2.mono B1.out.size))
      clear hb2 HUS
      go_wp2_with (fail)
      refine g2 _ _ b2 ?_
      clear g2 b2
      refine seg_end _ (by dsimp only [pick, at_]) ?_
      repeat (go_big_quiet_step (fail))
      refine wpQuiet_nil (NoPanic.normal ?_)
      have HC2 := Lib.hid (HCH.out w2 B2.out)
      go_wp2_with fail
      refine HC2.out.mono ?_
      rintro e w3 hr3
      have R3 := Lib.hid (hr3.after B2.out)
      obtain ⟨rfl, _⟩ := hr3
      clear HC2
      go_wp2_with fail
      go_ret
      exact R3.out

theorem RM.read {w u : World} {r : Nat} {X : Nat → Prop} {st : St} (h : RM w r X st) (hs : Small st) (hu : Below w.heap.size w u) (a : Nm) :
    Calls Tryz.prog 46 #[ptr r, .string (bs a)] u fun e w' => e = .returned (ans (al.get st.shown a)) ∧ Below u.heap.size u w' := by
  obtain ⟨A, c, A2, c2, xt, k1, _⟩ := h.below hu
  exact readr_y u r st.room A c st.last A2 c2 st.pend st.ops a k1 (by have := hs.sum; omega) (by have := hs.len; omega)
set_option maxHeartbeats 2000000 in
set_option maxRecDepth 100000 in
theorem remove_r (w : World) (r : Nat) (X : Nat → Prop) (st : St) (a : Nm) (h : RM w r X st) (hs : Small st) (hX : ∀ k, X k → k < w.heap.size) :
    Calls Tryz.prog 49 #[ptr r, .string (bs a)] w (RetRM w r X (remSt st a).1 (remSt st a).2) := by
  have HM := Lib.hid (may_y w a)
  have H := Lib.hid h
  have HS := Lib.hid hs
  have HX := Lib.hid hX
  cases hok : okn a with
  | false =>
    rw [rem_name hok]
    rw [hok] at HM
    clear hok h hs hX
    go_enter Tryz.func49, Tryz.ntmps49
    go_wp2_with fail
    refine HM.out.mono ?_
    rintro e w1 ⟨rfl, hb1⟩
    have B1 := Lib.hid hb1
    clear hb1 HM
    go_wp2_with fail
    go_ret
    exact RetRM.same H.out B1.out _
  | true =>
    rw [hok] at HM
    have HRD := Lib.hid (fun u hu => H.out.read HS.out (u := u) hu a)
    cases hg : al.get st.shown a with
    | none =>
      rw [rem_none hok hg]
      rw [hg, ans_none] at HRD
      clear hok h hs hX hg
      go_enter Tryz.func49, Tryz.ntmps49
      go_wp2_with fail
      refine HM.out.mono ?_
      rintro e w1 ⟨rfl, hb1⟩
      have B1 := Lib.hid hb1
      have HR1 := Lib.hid (HRD.out w1 hb1)
      clear hb1 HM
      go_wp2_with fail
      refine HR1.out.mono ?_
      rintro e w2 ⟨rfl, hb2⟩
      have B2 := Lib.hid (B1.out.trans (hb2.mono B1.out.size))
      clear hb2 HR1
      go_wp2_with fail
      go_ret
      exact RetRM.same H.out B2.out _
    | some y =>
      rw [rem_gen hok (by rw [hg]; simp)]
      rw [hg, ans_some] at HRD
      have HCH := Lib.hid (fun u (hu : Below w.heap.size w u) => (change_r u r X st (.rem a) (H.out.below hu) HS.out (fun k hk => Nat.lt_of_lt_of_le (HX.out k hk) hu.size)))
      simp only [chK, chA, chB] at HCH
      rw [show bs [] = ⟨#[]⟩ from rfl] at HCH
      clear hok h hs hX hg
      go_enter Tryz.func49, Tryz.ntmps49
      go_wp2_with fail
      refine HM.out.mono ?_
      rintro e w1 ⟨rfl, hb1⟩
      have B1 := Lib.hid hb1
      have HR1 := Lib.hid (HRD.out w1 hb1)
      clear hb1 HM
      go_wp2_with fail
      refine HR1.out.mono ?_
      rintro e w2 ⟨rfl, hb2⟩
      have B2 := Lib.hid (B1.out.trans (hb2.mono B1.out.size))
      have HC2 := Lib.hid (HCH.out w2 B2.out)
      clear hb2 HR1
      go_wp2_with fail
      refine HC2.out.mono ?_
      rintro e w3 hr3
      have R3 := Lib.hid (hr3.after B2.out)
      obtain ⟨rfl, _⟩ := hr3
      clear HC2
      go_wp2_with fail
      go_ret
      exact R3.out
set_option maxHeartbeats 2000000 in
set_option maxRecDepth 100000 in
theorem rename_r (w : World) (r : Nat) (X : Nat → Prop) (st : St) (a b : Nm) (h : RM w r X st) (hs : Small st) (hX : ∀ k, X k → k < w.heap.size) :
    Calls Tryz.prog 86 #[ptr r, .string (bs a), .string (bs b)] w (RetRM w r X (renSt st a b).1 (renSt st a b).2) := by
  have HM := Lib.hid (may_y w a)
  have HMb := Lib.hid (fun u => may_y u b)
  have H := Lib.hid h
  have HS := Lib.hid hs
  have HX := Lib.hid hX
  cases hok : okn a with
  | false =>
    rw [ren_name (.inl hok)]
    rw [hok] at HM
    clear hok h hs hX HMb
    go_enter Tryz.func86, Tryz.ntmps86
    go_wp2_with fail
    refine HM.out.mono ?_
    rintro e w1 ⟨rfl, hb1⟩
    have B1 := Lib.hid hb1
    clear hb1 HM
    go_wp2_with fail
    go_ret
    exact RetRM.same H.out B1.out _
  | true =>
    rw [hok] at HM
    cases hokb : okn b with
    | false =>
      rw [ren_name (.inr hokb)]
      rw [hokb] at HMb
      clear hok h hs hX hokb
      go_enter Tryz.func86, Tryz.ntmps86
      go_wp2_with fail
      refine HM.out.mono ?_
      rintro e w1 ⟨rfl, hb1⟩
      have B1 := Lib.hid hb1
      have HM1 := Lib.hid (HMb.out w1)
      clear hb1 HM
      go_wp2_with fail
      refine HM1.out.mono ?_
      rintro e w2 ⟨rfl, hb2⟩
      have B2 := Lib.hid (B1.out.trans (hb2.mono B1.out.size))
      clear hb2 HM1
      go_wp2_with fail
      go_ret
      exact RetRM.same H.out B2.out _
    | true =>
      rw [hokb] at HMb
      have HRD := Lib.hid (fun u hu => H.out.read HS.out (u := u) hu a)
      cases hg : al.get st.shown a with
      | none =>
        rw [ren_none hok hokb hg]
        rw [hg, ans_none] at HRD
        clear hok h hs hX hg hokb
        go_enter Tryz.func86, Tryz.ntmps86
        go_wp2_with fail
        refine HM.out.mono ?_
        rintro e w1 ⟨rfl, hb1⟩
        have B1 := Lib.hid hb1
        have HM1 := Lib.hid (HMb.out w1)
        clear hb1 HM
        go_wp2_with fail
        refine HM1.out.mono ?_
        rintro e w2 ⟨rfl, hb2⟩
        have B2 := Lib.hid (B1.out.trans (hb2.mono B1.out.size))
        have HR1 := Lib.hid (HRD.out w2 B2.out)
        clear hb2 HM1
        go_wp2_with fail
        refine HR1.out.mono ?_
        rintro e w3 ⟨rfl, hb3⟩
        have B3 := Lib.hid (B2.out.trans (hb3.mono B2.out.size))
        clear hb3 HR1
        go_wp2_with fail
        go_ret
        exact RetRM.same H.out B3.out _
      | some y =>
        rw [ren_gen hok hokb (by rw [hg]; simp)]
        rw [hg, ans_some] at HRD
        have HCH := Lib.hid (fun u (hu : Below w.heap.size w u) => (change_r u r X st (.ren a b) (H.out.below hu) HS.out (fun k hk => Nat.lt_of_lt_of_le (HX.out k hk) hu.size)))
        simp only [chK, chA, chB] at HCH
        clear hok h hs hX hg hokb
        go_enter Tryz.func86, Tryz.ntmps86
        go_wp2_with fail
        refine HM.out.mono ?_
        rintro e w1 ⟨rfl, hb1⟩
        have B1 := Lib.hid hb1
        have HM1 := Lib.hid (HMb.out w1)
        clear hb1 HM
        go_wp2_with fail
        refine HM1.out.mono ?_
        rintro e w2 ⟨rfl, hb2⟩
        have B2 := Lib.hid (B1.out.trans (hb2.mono B1.out.size))
        have HR1 := Lib.hid (HRD.out w2 B2.out)
        clear hb2 HM1
        go_wp2_with fail
        refine HR1.out.mono ?_
        rintro e w3 ⟨rfl, hb3⟩
        have B3 := Lib.hid (B2.out.trans (hb3.mono B2.out.size))
        have HC2 := Lib.hid (HCH.out w3 B3.out)
        clear hb3 HR1
        go_wp2_with fail
        refine HC2.out.mono ?_
        rintro e w4 hr3
        have R3 := Lib.hid (hr3.after B3.out)
        obtain ⟨rfl, _⟩ := hr3
        clear HC2
        go_wp2_with fail
        go_ret
        exact R3.out

set_option maxHeartbeats 2000000 in
set_option maxRecDepth 100000 in
theorem sync_r (w : World) (r : Nat) (X : Nat → Prop) (st : St) (h : RM w r X st) (hs : Small st) :
    Calls Tryz.prog 50 #[ptr r] w (RetRM w r X (syncSt st) (doE st)) := by
  have HRAW := Lib.hid (raw_r w r X st h hs)
  cases hdead : (pw st).dead with
  | true =>
    have e1 : rawSt st = pw st := by unfold rawSt; rw [if_pos hdead]
    have e2 : doE st = 13 := by unfold doE; rw [if_pos hdead]
    have e3 : syncSt st = pw st := by unfold syncSt; rw [if_pos hdead]
    rw [e1, e2] at HRAW
    rw [e2, e3]
    clear h hdead e1 e2 e3 hs
    go_enter Tryz.func50, Tryz.ntmps50
    go_wp2_with fail
    refine HRAW.out.mono ?_
    rintro e w2 ⟨rfl, hm2, hc2⟩
    have R2 := Lib.hid (And.intro hm2 hc2)
    clear hm2 hc2 HRAW
    go_wp2_with fail
    go_ret
    exact ⟨rfl, R2.out.1, R2.out.2⟩
  | false =>
    have e1 : rawSt st = cnt st := by unfold rawSt; rw [if_neg (by rw [hdead]; decide)]
    have e2 : doE st = 0 := by unfold doE; rw [if_neg (by rw [hdead]; decide)]
    have e3 : syncSt st = cnt { st with last := st.shown, pend := [] } := by unfold syncSt; rw [if_neg (by rw [hdead]; decide)]
    rw [e1, e2] at HRAW
    rw [e2, e3]
    have HS := Lib.hid hs
    have hrw := h.at_r.2
    clear h hdead e1 e2 e3 hs
    go_enter Tryz.func50, Tryz.ntmps50
    go_wp2_with fail
    refine HRAW.out.mono ?_
    rintro e w2 ⟨rfl, ⟨A, c, A2, c2, xt, hk2, hxs2, hA, hA2, hr2⟩, hc2⟩
    have HFI := Lib.hid (files_y w2 r st.room A c st.last A2 c2 st.pend (st.ops + 1) hk2 (by have := HS.out.sum; omega) (by have := HS.out.len; omega))
    have HK2 := Lib.hid (And.intro hk2 (And.intro hxs2 (And.intro hA (And.intro hA2 hr2))))
    have HC2 := Lib.hid hc2
    have hs2 := hc2.size
    have hlr2 := blk_lt hk2.blk
    clear hk2 hxs2 hA hA2 hr2 hc2 HRAW
    obtain ⟨fs, hfs⟩ : ∃ fs, fold st.last st.pend = fs := ⟨_, rfl⟩
    have hfs' : st.shown = fs := hfs
    rw [hfs] at HFI
    have HFS := Lib.hid hfs'
    have HSR := Lib.hid (show Srt fs from by rw [← hfs]; exact fold_srt HK2.out.1.srt _)
    obtain ⟨n, hn⟩ : ∃ n, fs.length = n := ⟨_, rfl⟩
    unfold RetD at HFI
    rw [hn] at HFI
    have HN := Lib.hid hn
    clear hfs hfs' hn
    go_wp2_with fail
    refine HFI.out.mono ?_
    rintro e w3 ⟨A3, c3, rfl, hf3, hb3, hat⟩
    have gr3 := blk_below hb3 HK2.out.1.blk (blk_lt HK2.out.1.blk)
    have q1 : w3.cell? ⟨r, 1, none⟩ = some (.slice A st.last.length c) := by rw [cell_of_row _ _ _ _ _ _ gr3]; rfl
    have fz1 := frozen_of_row _ _ 1 _ _ gr3
    have lr3 := blk_lt gr3
    have gs := setp_obj (o := 1) (u := .slice A3 n c3) gr3
    have q2 : (w3.setCell ⟨r, 1, none⟩ (.slice A3 n c3)).cell? ⟨r, 2, none⟩ = some (.slice A2 st.pend.length c2) := by rw [cell_of_row _ _ _ _ _ _ gs]; rfl
    have fz2 := frozen_of_row _ _ 2 _ _ gs
    have R3 := Lib.hid (And.intro hf3 (And.intro hb3 (And.intro hat gr3)))
    clear hf3 hb3 hat gr3 gs HFI
    go_wp2_with fail
    go_ret
    rw [HFS.out]
    obtain ⟨hf3, hb3, hat, gr3⟩ := R3.out
    have hb3s := hb3.size
    have hc6 : Chg (fun k => k = r) w3 ((w3.setCell ⟨r, 1, none⟩ (.slice A3 n c3)).setCell ⟨r, 2, none⟩ (.slice none 0 0)) := (chg_set _ _ _ _).trans (chg_set _ _ _ _) (fun _ _ e => e)
    have hc6s := hc6.size
    obtain ⟨hk2, hxs2, hA, hA2, hr2⟩ := HK2.out
    have hne : ∀ a, A3 = some a → (X a.block ∨ (w.heap.size ≤ a.block ∧ a.block < w3.heap.size)) ∧ a.block ≠ r := fun a e => by
      rcases hat with e9 | e9
      · rw [e9] at e
        have h9 := hA a e
        rcases h9.1 with e8 | e8
        · exact ⟨.inl e8, h9.2⟩
        · exact ⟨.inr ⟨e8.1, by omega⟩, h9.2⟩
      · have h9 := e9 a e
        exact ⟨.inr ⟨by omega, h9.2⟩, by omega⟩
    refine ⟨rfl, ⟨A3, c3, none, 0, xt, ⟨?_, hf3.chg hc6 (fun a e => (hne a e).2), Ls.nil _ _ _, fun _ => rfl, Nat.le_refl _, by omega, HSR.out⟩, hxs2, fun a e => ⟨?_, (hne a e).2⟩, fun a e => (by cases e), ?_⟩, (HC2.out.trans ((Chg.of_below hb3).mono (S' := fun k => k = r) (fun _ _ e => e.elim)) (fun _ _ e => e)).trans hc6 (fun _ _ e => e)⟩
    · rw [setp_obj (setp_obj gr3)]
      show some (Obj.cells _ _ _) = some (Obj.cells #[_, .slice A3 fs.length c3, _, _, _, _, _, _, _] _ _)
      rw [HN.out]
      simp
      exact ⟨rfl, rfl, rfl⟩
    · rcases (hne a e).1 with e9 | e9
      · exact .inl e9
      · exact .inr ⟨e9.1, by omega⟩
    · rcases hr2 with e9 | e9
      · exact .inl e9
      · exact .inr ⟨e9.1, by omega⟩
end Go.Proofs.YtnjdondkggkfoaaGreat.dk
