/-
  The packets under way: what a net is in memory, and its calls.
-/
import Derived.Test.YtcebmlcdhapnkaaClone
import Derived.Test.YtcebmlcdhapnkaaRow
namespace Go.Proofs.Ytcebmlcdhapnkaa.net
open Go.ChangeShapes Go.WideShapes Go.ChangeAt Go.RowKit plain words ord mem

/-- a packet in memory -/
structure Pk where
  src : Int
  dst : Int
  a : Option Addr
  n : Nat
  c : Nat
  bs : List UInt8
abbrev Msg := Int × Int × List UInt8
def Pk.msg (k : Pk) : Msg := (k.src, k.dst, k.bs)
def Pk.cells (k : Pk) : List Value := [.int .i64 k.src, .int .i64 k.dst, .slice k.a k.n k.c]
def pcells (K : List Pk) : List Value := K.flatMap Pk.cells
theorem pcells_len (K : List Pk) : (pcells K).length = K.length * 3 := by
  induction K with
  | nil => rfl
  | cons k K ih => simp [pcells, Pk.cells] at ih ⊢; omega
theorem pcells_append (K L : List Pk) : pcells (K ++ L) = pcells K ++ pcells L := by simp [pcells]
theorem pcells_at (K : List Pk) (i : Nat) (hi : i < K.length) : (pcells K)[i * 3]? = some (.int .i64 K[i].src) ∧ (pcells K)[i * 3 + 1]? = some (.int .i64 K[i].dst) ∧ (pcells K)[i * 3 + 2]? = some (.slice K[i].a K[i].n K[i].c) := by
  induction K generalizing i with
  | nil => simp at hi
  | cons k K ih =>
    cases i with
    | zero => simp [pcells, Pk.cells]
    | succ i =>
      have := ih i (by simpa using hi)
      simp only [pcells, List.flatMap_cons, Pk.cells] at this ⊢
      rw [show (i + 1) * 3 = i * 3 + 3 from by omega]
      simpa [List.getElem?_append_right] using this
theorem pcells_one (K : List Pk) : ∀ u ∈ pcells K, u.oneCell' = true := by
  intro u hu
  simp only [pcells, List.mem_flatMap, Pk.cells] at hu
  obtain ⟨k, _, hu⟩ := hu
  simp at hu
  rcases hu with rfl | rfl | rfl <;> rfl
theorem pcells_take (K : List Pk) (i : Nat) : (pcells K).take (i * 3) = pcells (K.take i) := by
  induction K generalizing i with
  | nil => simp [pcells]
  | cons k K ih =>
    cases i with
    | zero => simp [pcells]
    | succ i =>
      have := ih i
      simp only [pcells, List.flatMap_cons, Pk.cells, List.take_succ_cons] at this ⊢
      rw [show (i + 1) * 3 = i * 3 + 3 from by omega]
      simpa using this
theorem pcells_drop (K : List Pk) (i : Nat) : (pcells K).drop (i * 3) = pcells (K.drop i) := by
  induction K generalizing i with
  | nil => simp [pcells]
  | cons k K ih =>
    cases i with
    | zero => simp [pcells]
    | succ i =>
      have := ih i
      simp only [pcells, List.flatMap_cons, Pk.cells, List.drop_succ_cons] at this ⊢
      rw [show (i + 1) * 3 = i * 3 + 3 from by omega]
      simpa using this
/-- a packet's bytes are a row of their own -/
def PkOk (w : World) (k : Pk) : Prop := w.ownsRow 0 5 1 (.slice k.a k.n k.c) k.n (u8s k.bs)
/-- a net at block p, its list in block r: it has the packets P -/
def IsNet (w : World) (p : Nat) (r : Option Nat) (P : List Msg) : Prop :=
  ∃ v K, w.heap[p]? = some (.cells #[v] 73 (0, 0)) ∧ Row w 32 3 v K.length (pcells K) ∧ (∀ k ∈ K, PkOk w k) ∧ K.map Pk.msg = P ∧ v.ownBlock = r
/-- what a call that changes a net leaves *-/
def NetPost (w : World) (p : Nat) (r : Option Nat) (ret : Value) (P : List Msg) (e : Ending) (w' : World) : Prop :=
  ∃ r', e = .returned ret ∧ IsNet w' p r' P ∧ Chg (fun b => b = p ∨ some b = r) w w' ∧ (r' = r ∨ ∃ g, r' = some g ∧ w.heap.size ≤ g)
theorem infoP : (Try.prog.info? 32).map (fun i => (i.zero, i.size, i.bytes)) = some (some (.agg #[.int .i64 0, .int .i64 0, .slice none 0 0]), 3, 40) := by kernel_rfl

/-- net.clone: a packet with bytes of its own -/
theorem pclone_x (w : World) (x y : Int) (B n c : Nat) (A : Option Addr) (bs : List UInt8) (h : Bs w B A n bs) (hA : A = none → c = 0) (hB : B ≤ w.heap.size) (hn : n ≤ 1099511627776) :
    Calls Try.prog 40 #[.agg #[.int .i64 x, .int .i64 y, .slice A n c]] w fun e w' =>
      ∃ A' c', e = .returned (.agg #[.int .i64 x, .int .i64 y, .slice A' n c']) ∧ w'.ownsRow w.heap.size 5 1 (.slice A' n c') n (u8s bs) ∧ Below w.heap.size w w' := by
  obtain ⟨P1, hP1⟩ : ∃ o, Obj.cells #[.int .i64 x, .int .i64 y, .slice A n c] 32 (0, 0) = o := ⟨_, rfl⟩
  obtain ⟨P2, hP2⟩ : ∃ o, Obj.cells #[.int .i64 0, .int .i64 0, .slice none 0 0] 32 (0, 0) = o := ⟨_, rfl⟩
  have hb := h.keep (w' := (w.alloc P1).alloc P2) (fun p hp => by rw [World.cell?_alloc_lt _ _ _ (by simp; omega), World.cell?_alloc_lt _ _ _ (by omega)])
  have hcl := clone_x ((w.alloc P1).alloc P2) B n c A bs hb hA (by simp; omega) hn
  subst hP1 hP2
  have HCL := Lib.hid hcl
  clear hcl hb
  go_enter Try.func40, Try.ntmps40
  go_wp2_with fail
  refine HCL.out.mono ?_
  rintro e w1 ⟨A', c', rfl, hown, hb⟩
  have f0 := blk_below hb (alloc_old _ (alloc_new w _)) (by simp; omega)
  have f1 := blk_below hb (alloc_new (w.alloc _) _) (by simp)
  have c0 : w1.cell? ⟨w.heap.size, 0, none⟩ = some (.int .i64 x) := by rw [cell_of_row _ _ _ _ _ _ f0]; rfl
  have c1 : w1.cell? ⟨w.heap.size, 1, none⟩ = some (.int .i64 y) := by rw [cell_of_row _ _ _ _ _ _ f0]; rfl
  have c2 : w1.cell? ⟨w.heap.size, 2, none⟩ = some (.slice A n c) := by rw [cell_of_row _ _ _ _ _ _ f0]; rfl
  have z0 : w1.frozen? ⟨w.heap.size, 2, none⟩ = false := frozen_of_row _ _ _ _ _ f0
  have hsz : (w.alloc (Obj.cells #[Value.int .i64 x, .int .i64 y, .slice A n c] 32)).heap.size = w.heap.size + 1 := by simp
  rw [hsz] at f1
  have d0 : w1.cell? ⟨w.heap.size + 1, 0, none⟩ = some (.int .i64 0) := by rw [cell_of_row _ _ _ _ _ _ f1]; rfl
  have d1 : w1.cell? ⟨w.heap.size + 1, 1, none⟩ = some (.int .i64 0) := by rw [cell_of_row _ _ _ _ _ _ f1]; rfl
  have d2 : w1.cell? ⟨w.heap.size + 1, 2, none⟩ = some (.slice none 0 0) := by rw [cell_of_row _ _ _ _ _ _ f1]; rfl
  have y0 : w1.frozen? ⟨w.heap.size + 1, 0, none⟩ = false := frozen_of_row _ _ _ _ _ f1
  have y1 : w1.frozen? ⟨w.heap.size + 1, 1, none⟩ = false := frozen_of_row _ _ _ _ _ f1
  have y2 : w1.frozen? ⟨w.heap.size + 1, 2, none⟩ = false := frozen_of_row _ _ _ _ _ f1
  have HOWN := Lib.hid hown
  have HB := Lib.hid hb
  have F0 := Lib.hid f0
  have F1 := Lib.hid f1
  clear hown hb f0 f1 HCL hsz
  go_wp2_with fail
  refine bodyPost_ret (v := .agg #[.int .i64 x, .int .i64 y, .slice A' n c']) (by simp [results, Try.results40, go_sem, d0, d1, d2]) rfl ⟨A', c', rfl, ?_, ?_⟩
  · have hch : Chg (fun k => k = w.heap.size ∨ k = w.heap.size + 1) w1 ((((w1.setCell ⟨w.heap.size, 2, none⟩ (.slice A' n c')).setCell ⟨w.heap.size + 1, 0, none⟩ (.int .i64 x)).setCell ⟨w.heap.size + 1, 1, none⟩ (.int .i64 y)).setCell ⟨w.heap.size + 1, 2, none⟩ (.slice A' n c')) :=
      ((((Chg.refl _ _).setCell (fun _ => .inl rfl) _).setCell (fun _ => .inr rfl) _).setCell (fun _ => .inr rfl) _).setCell (fun _ => .inr rfl) _
    refine own_base (own_chg HOWN.out hch fun g hg => ?_) (by simp; omega)
    have := (HOWN.out.lt g hg).1
    simp at this
    omega
  · exact (((((((Below.refl _ _).alloc (Nat.le_refl _) _).alloc (by simp) _).trans (HB.out.mono (by simp; omega))).setCell (by simp) _).setCell (by simp) _).setCell (by simp) _).setCell (by simp) _

theorem IsNet.lt {w : World} {p : Nat} {r : Option Nat} {P : List Msg} (h : IsNet w p r P) : p < w.heap.size := by
  obtain ⟨v, K, h1, _⟩ := h
  exact blk_lt h1
set_option maxHeartbeats 1000000 in
theorem add_x (w : World) (p : Nat) (r : Option Nat) (P : List Msg) (hN : IsNet w p r P) (x y : Int) (B n c : Nat) (A : Option Addr) (bs : List UInt8) (h : Bs w B A n bs) (hA : A = none → c = 0) (hB : B ≤ w.heap.size) (hn : n ≤ 1099511627776) (hP : P.length < 256) :
    Calls Try.prog 37 #[.pointer (some ⟨p, 0, none⟩), .agg #[.int .i64 x, .int .i64 y, .slice A n c]] w (NetPost w p r (.int .i64 0) (P ++ [(x, y, bs)])) := by
  have hpl := hN.lt
  obtain ⟨v, K, hp, hown, hK, rfl, hr⟩ := hN
  obtain ⟨vA, vc, rfl, hv1, hv2, _⟩ := hown.form
  obtain ⟨P1, hP1⟩ : ∃ o, Obj.cells #[.int .i64 x, .int .i64 y, .slice A n c] 32 (0, 0) = o := ⟨_, rfl⟩
  have f0 := alloc_old P1 hp
  have f1 := alloc_new w P1
  have hb := h.alloc hB P1
  have hcl := fun w' (hb' : Below w.heap.size w w') => pclone_x w' x y B n c A bs (h.below hb' hB) hA (Nat.le_trans hB hb'.size) hn
  subst hP1
  have hbel0 : Below w.heap.size w (w.alloc (.cells #[.int .i64 x, .int .i64 y, .slice A n c] 32)) := (Below.refl _ _).alloc (Nat.le_refl _) _
  obtain ⟨wb, hwb⟩ : ∃ wb, w.alloc (.cells #[.int .i64 x, .int .i64 y, .slice A n c] 32) = wb := ⟨_, rfl⟩
  rw [hwb] at f0 f1 hbel0
  have HWB := Lib.hid hwb
  have c0 : wb.cell? ⟨p, 0, none⟩ = some (.slice vA K.length vc) := by rw [cell_of_row _ _ _ _ _ _ f0]; rfl
  have cw : w.cell? ⟨p, 0, none⟩ = some (.slice vA K.length vc) := by rw [cell_of_row _ _ _ _ _ _ hp]; rfl
  have hk1 : ¬ (256 : Int) ≤ (K.length : Int) := by simp at hP; omega
  have F0 := Lib.hid f0
  have F1 := Lib.hid f1
  have HCL := Lib.hid hcl
  have HOWN := Lib.hid hown
  have HPK := Lib.hid hK
  have HP := Lib.hid hp
  have HBEL := Lib.hid hbel0
  clear hcl hb f0 f1 hown hp hK hwb hbel0
  go_enter Try.func37, Try.ntmps37
  go_wp2_with (fail)
  rw [HWB.out]
  go_wp2_with (fail)
  have q0 := Wb.at_ c0
  have q1 := Wb.at_ (show wb.cell? ⟨w.heap.size, 0, none⟩ = some (.int .i64 x) by rw [cell_of_row _ _ _ _ _ _ F1.out]; rfl)
  have q2 := Wb.at_ (show wb.cell? ⟨w.heap.size, 1, none⟩ = some (.int .i64 y) by rw [cell_of_row _ _ _ _ _ _ F1.out]; rfl)
  have q3 := Wb.at_ (show wb.cell? ⟨w.heap.size, 2, none⟩ = some (.slice A n c) by rw [cell_of_row _ _ _ _ _ _ F1.out]; rfl)
  refine wp_region_plan [([0, 1, 2, 3, 4, 5], some (6, false)), ([], some (7, false)), ([], some (8, true)), ([9, 10], some (11, true)), ([], none)] (by kernel_rfl) (by kernel_rfl) ?_
  refine seg_act _ (by dsimp only [pick, at_]) _ (by dsimp only [pick, at_]) ?_
  repeat (go_big_quiet_step (fail))
  refine wpQuiet_nil ?_
  intro K1 h1 h2
  clear h1
  go_wp2_with (fail)
  refine (HCL.out wb.drew HBEL.out.drew).mono ?_
  rintro e w1 ⟨A', c', rfl, hown1, hb1⟩
  have hb2 : Below wb.heap.size wb w1 := (Below.refl _ _).drew.trans hb1
  go_wp2_with (fail)
  refine h2 _ _ hb2 ?_
  clear h2 q0 q1 q2 q3
  refine seg_act _ (by dsimp only [pick, at_]) _ (by dsimp only [pick, at_]) ?_
  repeat (go_big_quiet_step (fail))
  refine wpQuiet_nil ?_
  intro K2 h1 h2
  clear h1
  go_wp2_with (fail)
  obtain ⟨w2, hw2⟩ : ∃ w2, w1.alloc (.cells #[.int .i64 x, .int .i64 y, .slice A' n c'] 32) = w2 := ⟨_, rfl⟩
  have hb3 : Below w1.heap.size w1 w2 := by rw [← hw2]; exact (Below.refl _ _).alloc (Nat.le_refl _) _
  have g0 : w2.heap[w1.heap.size]? = some (.cells #[.int .i64 x, .int .i64 y, .slice A' n c'] 32 (0, 0)) := by rw [← hw2]; exact alloc_new _ _
  have hs2 : w2.heap.size = w1.heap.size + 1 := by rw [← hw2]; simp
  rw [hw2]
  refine h2 _ _ hb3 ?_
  clear h2 hw2
  have hs1 := hb2.size
  have hs0 := HBEL.out.size
  have hall : Below w.heap.size w w2 := (HBEL.out.trans (hb2.mono hs0)).trans (hb3.mono (by omega))
  have hown2 := HOWN.out.below hall (Nat.le_refl _)
  have hp2 : w2.heap[p]? = some (.cells #[.slice vA K.length vc] 73 (0, 0)) := blk_below hall HP.out hpl
  have hpk2 : ∀ k ∈ K, PkOk w2 k := fun k hk => own_keep (HPK.out k hk) hall (Nat.le_refl _)
  have hnew2 : w2.ownsRow w.heap.size 5 1 (.slice A' n c') n (u8s bs) := own_base (own_keep hown1 hb3 (Nat.le_refl _)) (Nat.le_trans hs0 (Nat.le_refl _))
  have hnews : Rd w2 w2.heap.size (some ⟨w1.heap.size, 0, none⟩) 3 [.int .i64 x, .int .i64 y, .slice A' n c'] := ⟨rfl, fun j hj => ⟨w1.heap.size, 0, _, rfl, blk_lt g0, List.getElem?_eq_getElem (by simpa using hj), by
    rw [Nat.zero_add, cell_of_row _ _ _ _ _ _ g0, ← List.getElem?_eq_getElem (by simpa using hj)]; simp⟩⟩
  have hsl : w.heap.size ≤ w2.heap.size := by omega
  have HNEW := Lib.hid hnew2
  have HPK2 := Lib.hid hpk2
  have HALL := Lib.hid hall
  have HP2 := Lib.hid hp2
  obtain ⟨i0, hi, hz0, hz1, hz2⟩ := info_parts infoP
  clear hown1 hb1 hb2 hb3 hnew2 hpk2 hall hp2 HCL
  refine seg_write _ (by dsimp only [pick, at_]) _ (by dsimp only [pick, at_]) ?_
  refine wpQuiet_nil ?_
  intro K3 h3
  refine wpList_append_row _ rfl (.tmp 15) (.tmp 18) 44 rfl 32 i0 _ 3 40 Try.underlying44 hi hz0 hz1 hz2 rfl (by decide) _ K.length (pcells K) (by rfl) hown2 _ _ 1 1 (fun e => by cases e) _ (by rfl) hnews (by intro u hu; simp at hu; rcases hu with rfl | rfl | rfl <;> rfl) (by unfold maxLen; simp at hP; omega) (by simp at hP; omega) ?_
  intro v3 w3 hown3 hgrow hat hnn
  obtain ⟨g, cap, rfl, hlt, hcap1, hcap2⟩ := hown3.pos (by omega)
  have hown3' : Row w3 32 3 (.slice (some ⟨g, 0, none⟩) (K.length + 1) cap) (K.length + 1) (pcells (K ++ [⟨x, y, A', n, c', bs⟩])) := by
    rw [pcells_append]; exact hown3
  have hat : (Value.slice vA K.length vc).ownBlock = some g ∨ g = w2.heap.size := hat.imp (fun e => e.symm) (fun e => by injection e)
  have hpv : ∀ g', (Value.slice vA K.length vc).ownBlock = some g' → p ≠ g' := fun g' hg' => by
    obtain ⟨cur, hc⟩ := HOWN.out.type hg'
    exact blk_type HP.out hc (by decide)
  have hp3 : w3.heap[p]? = some (.cells #[.slice vA K.length vc] 73 (0, 0)) :=
    (hgrow.block p (by omega) (fun e => hpv p e.symm rfl)).trans HP2.out
  have hc3 : w3.cell? ⟨p, 0, none⟩ = some (.slice vA K.length vc) := by rw [cell_of_row _ _ _ _ _ _ hp3]; rfl
  have hf3 : w3.frozen? ⟨p, 0, none⟩ = false := frozen_of_row _ _ _ _ _ hp3
  have hch3 : Chg (fun b => b = p ∨ some b = r) w w3 := ((Chg.of_below HALL.out).mono (fun _ _ e => e.elim)).grown hgrow (fun k hk _ => .inr (by rw [← hr, hk]))
  have hpg : p ≠ g := by
    rcases hat with e | e
    · exact hpv g e
    · omega
  have hk3 : ∀ k ∈ K ++ [⟨x, y, A', n, c', bs⟩], PkOk w3 k := fun k hk => by
    have h0 : w2.ownsRow 0 5 1 (.slice k.a k.n k.c) k.n (u8s k.bs) := by
      rcases List.mem_append.1 hk with hk | hk
      · exact HPK2.out k hk
      · simp at hk; subst hk; exact own_base HNEW.out (Nat.zero_le _)
    refine h0.kept hgrow ?_
    cases hx : (Value.slice k.a k.n k.c).ownBlock with
    | none => exact .inl rfl
    | some gx =>
      refine .inr fun e => ?_
      obtain ⟨cx, hcx⟩ := own_type h0 hx
      obtain ⟨cy, hcy⟩ := hown2.type e.symm
      exact blk_type hcx hcy (by decide) rfl
  have HOWN3 := Lib.hid hown3'
  have HK3 := Lib.hid hk3
  have HCH3 := Lib.hid hch3
  have HP3 := Lib.hid hp3
  clear hown3 hown3' hk3 hch3 hp3 hown2 HNEW HPK2 HALL HP2 hgrow hnews g0
  go_wp2_with (fail)
  refine seg_write _ (by dsimp only [pick, at_]) _ (by dsimp only [pick, at_]) ?_
  repeat (go_big_quiet_step (fail))
  refine wpQuiet_nil ?_
  intro K4 h4
  go_wp2_with (fail)
  refine seg_end _ (by dsimp only [pick, at_]) ?_
  refine wpQuiet_nil (NoPanic.normal ?_)
  go_wp2_with (fail)
  go_ret
  have hpost : w3.heap.size ≤ (w3.setCell ⟨p, 0, none⟩ (.slice (some ⟨g, 0, none⟩) (K.length + 1) cap)).heap.size := by simp [World.setCell]
  refine ⟨some g, rfl, ⟨_, K ++ [⟨x, y, A', n, c', bs⟩], heap_setCell_same _ _ _ _ _ _ HP3.out, ?_, fun k hk => ?_, by simp [Pk.msg], rfl⟩, HCH3.out.setCell (fun _ => .inl rfl) _, ?_⟩
  · have := HOWN3.out.chg ((Chg.refl (fun b => b = p) w3).setCell (p := ⟨p, 0, none⟩) (fun _ => rfl) (.slice (some ⟨g, 0, none⟩) (K.length + 1) cap)) (fun g' hg' e => hpg (by cases hg'; exact e.symm))
    simpa using this
  · refine own_chg (HK3.out k hk) ((Chg.refl (fun b => b = p) w3).setCell (p := ⟨p, 0, none⟩) (fun _ => rfl) _) (fun g' hg' e => ?_)
    obtain ⟨cx, hcx⟩ := own_type (HK3.out k hk) hg'
    exact blk_type hcx HP3.out (by decide) e
  · rcases hat with e | e
    · exact .inl (e.symm.trans hr)
    · exact .inr ⟨g, rfl, by omega⟩

/-- the list's slot and length *-/
theorem IsNet.slot {w : World} {p : Nat} {r : Option Nat} {P : List Msg} (h : IsNet w p r P) : ∃ A c, w.cell? ⟨p, 0, none⟩ = some (.slice A P.length c) ∧ P.length ≤ c ∧ c ≤ 9223372036854775807 := by
  obtain ⟨v, K, h1, h2, _, rfl, _⟩ := h
  obtain ⟨A, c, rfl, h3, h4, _⟩ := h2.form
  exact ⟨A, c, by rw [cell_of_row _ _ _ _ _ _ h1]; simp, by simpa using h3, h4⟩
theorem IsNet.chg {S : Nat → Prop} {w w' : World} {p : Nat} {r : Option Nat} {P : List Msg} (h : IsNet w p r P) (hc : Chg S w w') (hp : ¬ S p) (hr : ∀ g, r = some g → ¬ S g) (hd : ∀ b cur, S b → w.heap[b]? ≠ some (.cells cur 5 (0, 0))) : IsNet w' p r P := by
  obtain ⟨v, K, h1, h2, h3, h4, h5⟩ := h
  refine ⟨v, K, hc.blk h1 hp, h2.chg hc (fun g hg => hr g (h5 ▸ hg)), fun k hk => own_chg (h3 k hk) hc (fun g hg e => ?_), h4, h5⟩
  obtain ⟨cur, hcur⟩ := own_type (h3 k hk) hg
  exact hd g cur e hcur
theorem IsNet.below {w w' : World} {p : Nat} {r : Option Nat} {P : List Msg} (h : IsNet w p r P) (hb : Below w.heap.size w w') : IsNet w' p r P := h.chg (Chg.of_below hb) (fun e => e) (fun _ _ e => e) (fun _ _ e => e.elim)
theorem IsNet.drew {w : World} {p : Nat} {r : Option Nat} {P : List Msg} (h : IsNet w p r P) : IsNet w.drew p r P := h
theorem IsNet.row_lt {w : World} {p g : Nat} {P : List Msg} (h : IsNet w p (some g) P) : g < w.heap.size := by
  obtain ⟨v, K, h1, h2, h3, h4, h5⟩ := h
  exact h2.lt h5
theorem IsNet.apart {w : World} {p g : Nat} {P : List Msg} (h : IsNet w p (some g) P) : p ≠ g := by
  obtain ⟨v, K, h1, h2, h3, h4, h5⟩ := h
  obtain ⟨cur, hc⟩ := h2.type h5
  exact blk_type h1 hc (by decide)
theorem new_x (w : World) : Calls Try.prog 13 #[] w fun e w' => e = .returned (.pointer (some ⟨w.heap.size, 0, none⟩)) ∧ IsNet w' w.heap.size none [] ∧ Below w.heap.size w w' := by
  go_enter Try.func13, Try.ntmps13
  go_wp2_with (fail)
  go_ret
  exact ⟨rfl, ⟨_, [], alloc_new w _, Row.nil _ _ _, by simp, rfl, rfl⟩, (Below.refl _ _).alloc (Nat.le_refl _) _⟩
theorem len_x (w : World) (p : Nat) (r : Option Nat) (P : List Msg) (h : IsNet w p r P) :
    Calls Try.prog 15 #[.pointer (some ⟨p, 0, none⟩)] w fun e w' => e = .returned (.int .i64 (P.length : Int)) ∧ w = w' := by
  obtain ⟨A, c, hc, h1, h2⟩ := h.slot
  go_enter Try.func15, Try.ntmps15
  go_wp2_with (fail)
  go_ret
  exact ⟨rfl, rfl⟩
def inP (P : List Msg) (i : Int) : Bool := decide (0 ≤ i) && decide (i < P.length)
theorem has_x (w : World) (p : Nat) (r : Option Nat) (P : List Msg) (h : IsNet w p r P) (i : Int) :
    Calls Try.prog 38 #[.pointer (some ⟨p, 0, none⟩), .int .i64 i] w fun e w' => e = .returned (.bool (inP P i)) ∧ w = w' := by
  obtain ⟨A, c, hc, h1, h2⟩ := h.slot
  unfold inP
  by_cases h3 : 0 ≤ i
  · by_cases h4 : i < (P.length : Int)
    · go_enter Try.func38, Try.ntmps38
      go_wp2_with (fail)
      go_ret
      exact ⟨ret_bool (by simp [h3, h4]), rfl⟩
    · go_enter Try.func38, Try.ntmps38
      go_wp2_with (fail)
      go_ret
      exact ⟨ret_bool (by simp [h3, h4]), rfl⟩
  · go_enter Try.func38, Try.ntmps38
    go_wp2_with (fail)
    go_ret
    exact ⟨ret_bool (by simp; omega), rfl⟩
/-- a full net *-/
theorem add_full (w : World) (p : Nat) (r : Option Nat) (P : List Msg) (hN : IsNet w p r P) (v : Value) (x y : Int) (hP : 256 ≤ P.length) (A : Option Addr) (n c : Nat) :
    Calls Try.prog 37 #[.pointer (some ⟨p, 0, none⟩), .agg #[.int .i64 x, .int .i64 y, .slice A n c]] w fun e w' =>
      e = .returned (.int .i64 12) ∧ Below w.heap.size w w' := by
  obtain ⟨A, c, hc, h1, h2⟩ := hN.slot
  have hpl := hN.lt
  have hk : (256 : Int) ≤ (P.length : Int) := by omega
  go_enter Try.func37, Try.ntmps37
  go_wp2_with (fail)
  go_ret
  exact ⟨rfl, (Below.refl _ _).alloc (Nat.le_refl _) _⟩

/-- what Send answers, and leaves *-/
def sent (P : List Msg) (m : Msg) : Int × List Msg := if 32768 < m.2.2.length then (1, P) else if 256 ≤ P.length then (12, P) else (0, P ++ [m])
theorem send_x (w : World) (p : Nat) (r : Option Nat) (P : List Msg) (hN : IsNet w p r P) (x y : Int) (B n c : Nat) (A : Option Addr) (bs : List UInt8) (h : Bs w B A n bs) (hA : A = none → c = 0) (hB : B ≤ w.heap.size) (hn : n ≤ 9223372036854775807) :
    Calls Try.prog 14 #[.pointer (some ⟨p, 0, none⟩), .int .i64 x, .int .i64 y, .slice A n c] w (NetPost w p r (.int .i64 (sent P (x, y, bs)).1) (sent P (x, y, bs)).2) := by
  have hl := h.len_
  by_cases h1 : 32768 < n
  · have h1' : (32768 : Int) < (n : Int) := by omega
    go_enter Try.func14, Try.ntmps14
    go_wp2_with (fail)
    go_ret
    rw [show sent P (x, y, bs) = (1, P) from if_pos (by simp only [hl]; exact h1)]
    exact ⟨r, rfl, hN, Chg.refl _ _, .inl rfl⟩
  · have h1' : ¬ (32768 : Int) < (n : Int) := by omega
    by_cases h2 : 256 ≤ P.length
    · have hc := add_full w p r P hN undef x y h2 A n c
      have HC := Lib.hid hc
      clear hc
      go_enter Try.func14, Try.ntmps14
      go_wp2_with (fail)
      refine HC.out.mono ?_
      rintro e w1 ⟨rfl, hb⟩
      go_wp2_with (fail)
      go_ret
      rw [show sent P (x, y, bs) = (12, P) from (if_neg (by simp only [hl]; exact h1)).trans (if_pos h2)]
      exact ⟨r, rfl, hN.below hb, (Chg.of_below hb).mono (fun _ _ e => e.elim), .inl rfl⟩
    · have hc := add_x w p r P hN x y B n c A bs h hA hB (by omega) (by omega)
      have HC := Lib.hid hc
      clear hc
      go_enter Try.func14, Try.ntmps14
      go_wp2_with (fail)
      refine HC.out.mono ?_
      rintro e w1 ⟨r', rfl, hN', hch, hr⟩
      go_wp2_with (fail)
      go_ret
      rw [show sent P (x, y, bs) = (0, P ++ [(x, y, bs)]) from (if_neg (by simp only [hl]; exact h1)).trans (if_neg h2)]
      exact ⟨r', rfl, hN', hch, hr⟩

/-- one packet's cells *-/
theorem IsNet.at_ {w : World} {p : Nat} {r : Option Nat} {P : List Msg} (h : IsNet w p r P) {k : Nat} {x y : Int} {bs : List UInt8} (hk : P[k]? = some (x, y, bs)) :
    ∃ g c A n d, w.cell? ⟨p, 0, none⟩ = some (.slice (some ⟨g, 0, none⟩) P.length c) ∧ w.cell? ⟨g, k * 3, none⟩ = some (.int .i64 x) ∧ w.cell? ⟨g, k * 3 + 1, none⟩ = some (.int .i64 y) ∧ w.cell? ⟨g, k * 3 + 2, none⟩ = some (.slice A n d) ∧ Bs w w.heap.size A n bs ∧ (A = none → d = 0) ∧ P.length ≤ c ∧ c ≤ 9223372036854775807 ∧ g < w.heap.size ∧ w.ownsRow 0 5 1 (.slice A n d) n (u8s bs) := by
  obtain ⟨v, K, h1, h2, h3, rfl, h5⟩ := h
  have hkl : k < K.length := by
    rcases Nat.lt_or_ge k K.length with h | h
    · exact h
    · rw [List.getElem?_eq_none (by simpa using h)] at hk; cases hk
  have hm : (K[k]).msg = (x, y, bs) := by
    rw [List.getElem?_map, List.getElem?_eq_getElem hkl] at hk
    simpa using hk
  obtain ⟨g, c, rfl, hg, hc1, hc2⟩ := h2.pos (by omega)
  obtain ⟨p0, p1, p2⟩ := pcells_at K k hkl
  have e0 := h2.cellAt (k * 3) (by omega)
  have e1 := h2.cellAt (k * 3 + 1) (by omega)
  have e2 := h2.cellAt (k * 3 + 2) (by omega)
  rw [p0] at e0
  rw [p1] at e1
  rw [p2] at e2
  have hok : w.ownsRow 0 5 1 (.slice K[k].a K[k].n K[k].c) K[k].n (u8s K[k].bs) := h3 K[k] (List.getElem_mem hkl)
  have hb : K[k].bs = bs := congrArg (fun q => q.2.2) hm
  have hx : K[k].src = x := congrArg (fun q => q.1) hm
  have hy : K[k].dst = y := congrArg (fun q => q.2.1) hm
  refine ⟨g, c, K[k].a, K[k].n, K[k].c, ?_, hx ▸ e0, hy ▸ e1, e2, hb ▸ own_bs hok, fun e => ?_, by simpa using hc1, hc2, hg, hb ▸ hok⟩
  · rw [cell_of_row _ _ _ _ _ _ h1]; simp
  · rcases own_form hok with ⟨e', _⟩ | ⟨_, _, e', _⟩
    · injection e'
    · rw [e] at e'; injection e' with e'; cases e'

/-- At and Take of a packet that is there: the packet, its bytes its own *-/
def AtPost (w : World) (x y : Int) (n : Nat) (bs : List UInt8) (last : Value) (e : Ending) (w' : World) : Prop :=
  ∃ A c, e = .returned (.tuple #[.agg #[.int .i64 x, .int .i64 y, .slice A n c], last]) ∧ w'.ownsRow w.heap.size 5 1 (.slice A n c) n (u8s bs) ∧ Below w.heap.size w w'

set_option maxHeartbeats 1000000 in
theorem at_x (w : World) (p : Nat) (r : Option Nat) (P : List Msg) (hN : IsNet w p r P) (k : Nat) (x y : Int) (bs : List UInt8) (hk : P[k]? = some (x, y, bs)) (hn : bs.length ≤ 1099511627776) (n : Nat) (hbn : bs.length = n) :
    Calls Try.prog 17 #[.pointer (some ⟨p, 0, none⟩), .int .i64 (k : Int)] w (AtPost w x y n bs (.bool true)) := by
  have hkl : k < P.length := by
    rcases Nat.lt_or_ge k P.length with h | h
    · exact h
    · rw [List.getElem?_eq_none h] at hk; cases hk
  have hpl := hN.lt
  obtain ⟨g, c, A, n', d, hc, c0, c1, c2, hbs, hA, hc1, hc2, hgl, _⟩ := hN.at_ hk
  obtain rfl : n' = n := hbs.len_.symm.trans hbn
  have hin : inP P (k : Int) = true := by simp [inP]; omega
  obtain ⟨P1, hP1⟩ : ∃ o, Obj.cells #[.int .i64 0, .int .i64 0, .slice none 0 0] 32 (0, 0) = o := ⟨_, rfl⟩
  have hha := fun w' h => has_x w' p r P h (k : Int)
  rw [hin] at hha
  have hha0 := hha (w.alloc P1) (hN.below ((Below.refl _ _).alloc (Nat.le_refl _) _))
  have hcl := pclone_x (w.alloc P1) x y w.heap.size n' d A bs (hbs.alloc (Nat.le_refl _) _) hA (by simp) (by omega)
  have i1 : (0 : Int) ≤ (k : Int) := by omega
  have i2 : (k : Int) < (P.length : Int) := by omega
  subst hP1
  have HHA := Lib.hid hha0
  have HCL := Lib.hid hcl
  clear hha hha0 hcl hin hbs hk hbn
  go_enter Try.func17, Try.ntmps17
  go_wp2_with (fail)
  refine HHA.out.mono ?_
  rintro e w1 ⟨rfl, rfl⟩
  go_wp2_with (fail)
  refine HCL.out.mono ?_
  rintro e w1 ⟨A', c', rfl, hown, hb⟩
  have f0 := blk_below hb (alloc_new w _) (by simp)
  have d0 : w1.cell? ⟨w.heap.size, 0, none⟩ = some (.int .i64 0) := by rw [cell_of_row _ _ _ _ _ _ f0]; rfl
  have d1 : w1.cell? ⟨w.heap.size, 1, none⟩ = some (.int .i64 0) := by rw [cell_of_row _ _ _ _ _ _ f0]; rfl
  have d2 : w1.cell? ⟨w.heap.size, 2, none⟩ = some (.slice none 0 0) := by rw [cell_of_row _ _ _ _ _ _ f0]; rfl
  have y0 : w1.frozen? ⟨w.heap.size, 0, none⟩ = false := frozen_of_row _ _ _ _ _ f0
  have y1 : w1.frozen? ⟨w.heap.size, 1, none⟩ = false := frozen_of_row _ _ _ _ _ f0
  have y2 : w1.frozen? ⟨w.heap.size, 2, none⟩ = false := frozen_of_row _ _ _ _ _ f0
  have HOWN := Lib.hid hown
  have HB := Lib.hid hb
  clear hown hb f0 HCL HHA
  go_wp2_with (fail)
  refine bodyPost_ret (v := .tuple #[.agg #[.int .i64 x, .int .i64 y, .slice A' n' c'], .bool true]) (by simp [results, Try.results17, go_sem, d0, d1, d2]) rfl ⟨A', c', rfl, ?_, ?_⟩
  · have hch : Chg (fun k => k = w.heap.size) w1 (((w1.setCell ⟨w.heap.size, 0, none⟩ (.int .i64 x)).setCell ⟨w.heap.size, 1, none⟩ (.int .i64 y)).setCell ⟨w.heap.size, 2, none⟩ (.slice A' n' c')) :=
      (((Chg.refl (fun k => k = w.heap.size) w1).setCell (p := ⟨w.heap.size, 0, none⟩) (fun _ => rfl) _).setCell (p := ⟨w.heap.size, 1, none⟩) (fun _ => rfl) _).setCell (p := ⟨w.heap.size, 2, none⟩) (fun _ => rfl) _
    refine own_base (own_chg HOWN.out hch fun g hg => ?_) (by simp)
    have := (HOWN.out.lt g hg).1
    simp at this
    omega
  · exact ((((((Below.refl _ _).alloc (Nat.le_refl _) _).trans (HB.out.mono (by simp))).setCell (by simp) _).setCell (by simp) _).setCell (by simp) _)
theorem at_no (w : World) (p : Nat) (r : Option Nat) (P : List Msg) (hN : IsNet w p r P) (i : Int) (hi : inP P i = false) :
    Calls Try.prog 17 #[.pointer (some ⟨p, 0, none⟩), .int .i64 i] w fun e w' => e = .returned (.tuple #[.agg #[.int .i64 0, .int .i64 0, .slice none 0 0], .bool false]) ∧ Below w.heap.size w w' := by
  have hha := has_x (w.alloc (.cells #[.int .i64 0, .int .i64 0, .slice none 0 0] 32)) p r P (hN.below ((Below.refl _ _).alloc (Nat.le_refl _) _)) i
  rw [hi] at hha
  have HHA := Lib.hid hha
  clear hha hi
  go_enter Try.func17, Try.ntmps17
  go_wp2_with (fail)
  refine HHA.out.mono ?_
  rintro e w1 ⟨rfl, rfl⟩
  go_wp2_with (fail)
  refine bodyPost_ret (v := .tuple #[.agg #[.int .i64 0, .int .i64 0, .slice none 0 0], .bool false]) (by simp [results, Try.results17, go_sem]) rfl ⟨rfl, ?_⟩
  exact (Below.refl _ _).alloc (Nat.le_refl _) _
end Go.Proofs.Ytcebmlcdhapnkaa.net
