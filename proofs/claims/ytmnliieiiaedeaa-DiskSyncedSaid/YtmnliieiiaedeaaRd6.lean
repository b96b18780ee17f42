/-
  The document's disk as memory; its files.
-/
import Derived.Test.YtmnliieiiaedeaaRd5
namespace Go.Proofs.Ytmnliieiiaedeaa.dk
open Go.ChangeShapes Go.WideShapes Go.ChangeAt Go.RowKit Go.Maps Go.Sort Go.Shelf plain words ord mem al

def chK : Chn → Int
  | .app _ _ => 0
  | .ren _ _ => 1
  | .rem _ => 2
def chA : Chn → Nm
  | .app a _ => a
  | .ren a _ => a
  | .rem a => a
def chB : Chn → Nm
  | .app _ b => b
  | .ren _ b => b
  | .rem _ => []
def chE (c : Chn) : List Value := [.int .i64 (chK c), .string (bs (chA c)), .string (bs (chB c))]
def CHE : El Chn where
  enc := chE
  k := 3
  e := 90
  len := fun _ => rfl
  one := fun x v hv => by
    simp [chE] at hv
    rcases hv with rfl | rfl | rfl <;> rfl
  pos := by decide
theorem che_at {w : World} {B n i : Nat} {A : Option Addr} {l : List Chn} {x : Chn} (h : Ls CHE w B A n l) (hx : l[i]? = some x) :
    ∃ b off, A = some ⟨b, off, none⟩ ∧ b < B ∧ w.cell? ⟨b, off + i * 3, none⟩ = some (.int .i64 (chK x)) ∧ w.cell? ⟨b, off + i * 3 + 1, none⟩ = some (.string (bs (chA x))) ∧ w.cell? ⟨b, off + i * 3 + 2, none⟩ = some (.string (bs (chB x))) := by
  obtain ⟨b, off, rfl, hb, hc⟩ := h.at_ hx
  exact ⟨b, off, rfl, hb, hc 0 (by decide), hc 1 (by decide), hc 2 (by decide)⟩
theorem get_le {fs : AL Nm} (hs : Srt fs) (q : Nm) : ((al.get fs q).getD []).length ≤ fsum fs := by
  have := del_sum hs q
  omega
theorem done_y (w : World) (n c : Nat) (A : Option Addr) (ls : AL Nm) (x : Chn) (h : Fr w A c ls) (hl : ls.length = n) (hs : Srt ls) (hn : n ≤ 1000000000) (hz : fsum ls + chlen x ≤ 1125899906842624) :
    Calls Try.prog 59 #[.slice A n c, .agg #[.int .i64 (chK x), .string (bs (chA x)), .string (bs (chB x))]] w (RetD w A (done ls x)) := by
  cases x with
  | app a b => exact (app_y w n c A ls a b h hl hs hn (by have := get_le hs a; simp only [chlen] at hz; omega)).mono fun _ _ h => h.d
  | ren a b => exact ren_y w n c A ls a b h hl hs hn
  | rem a => exact rem_y w n c A ls a h hl hs hn
/-- the document's disk, its power on and no cut ordered -/
structure Rk (w : World) (r : Nat) (room : Int) (A : Option Addr) (c : Nat) (ls : AL Nm) (A2 : Option Addr) (c2 : Nat) (pd : List Chn) (N : Int) : Prop where
  blk : w.heap[r]? = some (.cells #[.int .i64 room, .slice A ls.length c, .slice A2 pd.length c2, .int .i64 N, .bool false, .int .i64 0, .int .i64 0, .int .i64 0, .bool false] 87 (0, 0))
  fr : Fr w A c ls
  ch : Ls CHE w w.heap.size A2 pd.length pd
  nil : A2 = none → c2 = 0
  le : pd.length ≤ c2
  cap : c2 ≤ 9223372036854775807
  srt : Srt ls
theorem rk_cells {w : World} {r : Nat} {room : Int} {A : Option Addr} {c : Nat} {ls : AL Nm} {A2 : Option Addr} {c2 : Nat} {pd : List Chn} {N : Int} (h : Rk w r room A c ls A2 c2 pd N) :
    w.cell? ⟨r, 0, none⟩ = some (.int .i64 room) ∧ w.cell? ⟨r, 1, none⟩ = some (.slice A ls.length c) ∧ w.cell? ⟨r, 2, none⟩ = some (.slice A2 pd.length c2) ∧ w.cell? ⟨r, 3, none⟩ = some (.int .i64 N) ∧ w.cell? ⟨r, 4, none⟩ = some (.bool false) ∧ w.cell? ⟨r, 8, none⟩ = some (.bool false) := by
  refine ⟨?_, ?_, ?_, ?_, ?_, ?_⟩ <;> (rw [cell_of_row _ _ _ _ _ _ h.blk]; rfl)
theorem Rk.below {w w' : World} {r : Nat} {room : Int} {A : Option Addr} {c : Nat} {ls : AL Nm} {A2 : Option Addr} {c2 : Nat} {pd : List Chn} {N : Int} (h : Rk w r room A c ls A2 c2 pd N) (hb : Below w.heap.size w w') : Rk w' r room A c ls A2 c2 pd N :=
  ⟨blk_below hb h.blk (blk_lt h.blk), h.fr.below hb, (h.ch.below hb (Nat.le_refl _)).more hb.size, h.nil, h.le, h.cap, h.srt⟩
theorem fold_sum_take {ls : AL Nm} (h : Srt ls) {l : List Chn} {i : Nat} {c : Chn} (hi : l[i]? = some c) : fsum (fold ls (l.take i)) + chlen c ≤ fsum ls + sumc l := by
  have h1 := fold_sum h (l.take i)
  have h2 := sumc_at hi
  omega
theorem fold_len_take (ls : AL Nm) (l : List Chn) (i : Nat) : (fold ls (l.take i)).length ≤ ls.length + l.length := by
  have h1 := fold_len ls (l.take i)
  have h2 : (l.take i).length ≤ l.length := by rw [List.length_take]; omega
  omega
set_option maxHeartbeats 2000000 in
set_option maxRecDepth 100000 in
theorem files_y (w : World) (r : Nat) (room : Int) (A : Option Addr) (c : Nat) (ls : AL Nm) (A2 : Option Addr) (c2 : Nat) (pd : List Chn) (N : Int) (h : Rk w r room A c ls A2 c2 pd N) (hz : fsum ls + sumc pd ≤ 1125899906842624) (hn : ls.length + pd.length ≤ 1000000000) :
    Calls Try.prog 26 #[ptr r] w (RetD w A (fold ls pd)) := by
  obtain ⟨_, q1, q2, _⟩ := rk_cells h
  have lr := blk_lt h.blk
  have HR := Lib.hid h
  obtain ⟨M, hM⟩ : ∃ M, pd.length = M := ⟨_, rfl⟩
  have HM := Lib.hid hM
  rw [hM] at q2
  have hle := h.le
  have hcap := h.cap
  rw [hM] at hle
  have hnM : ls.length + M ≤ 1000000000 := by omega
  obtain ⟨n, hln⟩ : ∃ n, ls.length = n := ⟨_, rfl⟩
  rw [hln] at q1
  have HN := Lib.hid hln
  clear h hM hln
  go_enter Try.func26, Try.ntmps26
  go_wp2_with fail
  go_loopg [3, 4] M (fun gg s3 s4 wr => ∃ (i k : Nat) (A' : Option Addr) (c' : Nat), s3 = .slice A' k c' ∧ s4 = .int .i64 i ∧ i ≤ M ∧ M - i ≤ gg ∧ Aside ((fold ls (pd.take i)).length = k) ∧ Aside (Fr wr A' c' (fold ls (pd.take i))) ∧ Aside (Below w.heap.size w wr) ∧ Aside (A' = A ∨ ∀ a, A' = some a → w.heap.size ≤ a.block ∧ a.block < wr.heap.size))
  case atStart => exact ⟨0, n, A, c, rfl, rfl, Nat.zero_le _, by omega, HN.out, HR.out.fr, Below.refl _ _, .inl rfl⟩
  case round =>
    obtain ⟨i, k, A', c', rfl, rfl, hi, hg, KK, FF, BW, TT⟩ := hrel
    obtain ⟨wv, rfl⟩ : ∃ wv, wv = wr := ⟨wr, rfl⟩
    have R1 := Lib.hid (HR.out.below BW.out)
    obtain ⟨_, _, q2, _⟩ := rk_cells R1.out
    rw [HM.out] at q2
    have lr := blk_lt R1.out.blk
    by_cases hlt : i < M
    · have i1 : (i : Int) < (M : Int) := by omega
      have i0 : (0 : Int) ≤ (i : Int) := by omega
      obtain ⟨x, hx⟩ : ∃ x, pd[i]? = some x := ⟨_, List.getElem?_eq_getElem (by have := HM.out; omega)⟩
      obtain ⟨b, off, eA, hb, e0, e1, e2⟩ := che_at R1.out.ch hx
      subst eA
      have lb : b < wv.heap.size := World.block_lt_of_cell? wv _ e0
      have hk9 := fold_len_take ls pd i
      rw [KK.out] at hk9
      have HD := Lib.hid (done_y wv k c' A' (fold ls (pd.take i)) x FF.out KK.out (fold_srt HR.out.srt _) (by omega) (by have := fold_sum_take HR.out.srt hx; omega))
      rw [← fold_take hx] at HD
      clear hx hk9
      go_wp2_with fail
      refine HD.out.mono ?_
      rintro e w2 ⟨A3, c3, rfl, hf3, hb3, hat3⟩
      have F3 := Lib.hid hf3
      have B3 := Lib.hid (BW.out.trans (hb3.mono BW.out.size))
      have T3 := Lib.hid (show A3 = A ∨ ∀ a, A3 = some a → w.heap.size ≤ a.block ∧ a.block < w2.heap.size from by
        rcases hat3 with e | e
        · rw [e]; exact TT.out.imp id (fun h a ha => ⟨(h a ha).1, Nat.lt_of_lt_of_le (h a ha).2 hb3.size⟩)
        · exact .inr fun a ha => ⟨Nat.le_trans BW.out.size (e a ha).1, (e a ha).2⟩)
      clear hat3
      obtain ⟨k3, hk3⟩ : ∃ k3, (fold ls (pd.take (i + 1))).length = k3 := ⟨_, rfl⟩
      rw [hk3]
      have K3 := Lib.hid hk3
      clear hf3 hb3 hk3 HD e0 e1 e2 q2
      go_wp2_with fail
      go_roundg (M - (i + 1))
      case measure => omega
      case rel => exact ⟨i + 1, k3, A3, c3, rfl, by go_num, by omega, by omega, K3.out, F3.out, B3.out, T3.out⟩
    · obtain rfl : i = M := by omega
      have i1 : ¬ (i : Int) < (i : Int) := by omega
      go_wp2_with fail
      go_ret
      have hp : pd.take i = pd := List.take_of_length_le (by rw [HM.out]; exact Nat.le_refl _)
      have h1 := KK.out
      have h2 := FF.out
      rw [hp] at h1 h2
      exact ⟨A', c', by rw [h1]; rfl, h2, BW.out, TT.out⟩
end Go.Proofs.Ytmnliieiiaedeaa.dk
