/-
  Messages: passing over lists.
-/
import Derived.Test.YthkcnakodlbdpaaWrQ
import Derived.Test.YthkcnakodlbdpaaMg
import Derived.Deep.LoopGhost
namespace Go.Proofs.Ythkcnakodlbdpaa.wr
open Go.ChangeShapes Go.WideShapes Go.ChangeAt Go.RowKit plain words ord mem uvs uvc

abbrev PE : El Pt := mg.PE
def mtE (m : Mt) : List Value := [.string (cl.tx m.1), .int .i64 m.2.1, .int .i64 m.2.2.1, .int .u32 m.2.2.2]
theorem mtE_one (m : Mt) : ∀ v ∈ mtE m, v.oneCell' = true := by
  intro v hv
  simp [mtE] at hv
  rcases hv with rfl | rfl | rfl | rfl <;> rfl
def ME : El Mt := ⟨mtE, 4, 49, fun _ => rfl, mtE_one, by decide⟩
theorem infoM : (Try.prog.info? 49).map (fun i => (i.zero, i.size, i.bytes)) = some (some (.agg #[.string ByteArray.empty, .int .i64 0, .int .i64 0, .int .u32 0]), 4, 40) := by kernel_rfl
theorem info_of {e : TypeId} {z : Value} {k b : Nat} (h : (Try.prog.info? e).map (fun i => (i.zero, i.size, i.bytes)) = some (some z, k, b)) : ∃ i, Try.prog.info? e = some i ∧ i.zero = some z ∧ i.size = k ∧ i.bytes = b := by
  cases hq : Try.prog.info? e with
  | none => rw [hq] at h; cases h
  | some i =>
    rw [hq] at h
    simp at h
    exact ⟨i, rfl, h.1, h.2.1, h.2.2⟩
def PtOk (p : Pt) : Prop := (0 ≤ p.2.1 ∧ p.2.1 < 18446744073709551616) ∧ (0 ≤ p.2.2 ∧ p.2.2 < 18446744073709551616)
def MtOk (p : Mt) : Prop := p.1.length ≤ 1000000000 ∧ 0 ≤ p.2.2.2 ∧ p.2.2.2 < 4294967296
def RetLs {α : Type} (E : El α) (w : World) (g B mb : Nat) (cur : Array Value) (t : TypeId) (off : Nat) (r : R (List α)) (e : Ending) (w' : World) : Prop :=
  Chg (FR w g B mb) w w' ∧ ((r.1 = 0 ∧ e = .returned (.tuple #[]) ∧ StE w' g B r.2.1 ∧ ∃ A' c', V w' mb (cur.setIfInBounds off (.slice A' r.2.2.length c')) t ∧ Ow E w' w.heap.size (.slice A' r.2.2.length c') r.2.2.length r.2.2) ∨ (r.1 ≠ 0 ∧ e = .panicked (errC r.1)))
theorem cntE_rng (l : By) (v most : Int) (h : 0 ≤ v) : (cntE l v most).1 = 0 → 0 ≤ (cntE l v most).2.2 ∧ (cntE l v most).2.2 ≤ most := by
  unfold cntE numE
  split
  · simp
  · split
    · simp
    · intro _; simp only; omega
theorem bnd_len {α β : Type} {r : R α} {d : β} {k : By → α → R β} {n : Nat} (h1 : r.2.1.length ≤ n) (h2 : r.1 = 0 → (k r.2.1 r.2.2).2.1.length ≤ n) : (bnd r d k).2.1.length ≤ n := by
  unfold bnd; split
  · rename_i h; exact h2 h
  · exact h1
theorem fixE_len' (s : By) (v : Int) (k : Nat) : (fixE s v k).2.1.length = s.length + k := by unfold fixE; simp [cl.be_len]
theorem passPtE_len (s : By) (p : Pt) : (passPt encC s p).2.1.length ≤ s.length + 60 := by
  have h1 := numE_len s p.1 1099511627776
  refine bnd_len (Nat.le_trans h1 (by omega)) fun _ => ?_
  have h2 := fixE_len' (numE s p.1 1099511627776).2.1 p.2.1 8
  refine bnd_len (show (fixE (numE s p.1 1099511627776).2.1 p.2.1 8).2.1.length ≤ _ by omega) fun _ => ?_
  have h3 := fixE_len' (fixE (numE s p.1 1099511627776).2.1 p.2.1 8).2.1 p.2.2 8
  refine bnd_len (show (fixE (fixE (numE s p.1 1099511627776).2.1 p.2.1 8).2.1 p.2.2 8).2.1.length ≤ _ by omega) fun _ => ?_
  show (fixE (fixE (numE s p.1 1099511627776).2.1 p.2.1 8).2.1 p.2.2 8).2.1.length ≤ _
  omega
theorem passMtE_len (s : By) (p : Mt) : (passMt encC s p).2.1.length ≤ s.length + 60 := by
  have h1 := txtE_len s p.1
  refine bnd_len (show (txtE s p.1).2.1.length ≤ _ by omega) fun _ => ?_
  have h2 := numE_len (txtE s p.1).2.1 p.2.1 1099511627776
  refine bnd_len (show (numE (txtE s p.1).2.1 p.2.1 1099511627776).2.1.length ≤ _ by omega) fun _ => ?_
  have h3 := numE_len (numE (txtE s p.1).2.1 p.2.1 1099511627776).2.1 p.2.2.1 512
  refine bnd_len (show (numE (numE (txtE s p.1).2.1 p.2.1 1099511627776).2.1 p.2.2.1 512).2.1.length ≤ _ by omega) fun _ => ?_
  have h4 := fixE_len' (numE (numE (txtE s p.1).2.1 p.2.1 1099511627776).2.1 p.2.2.1 512).2.1 p.2.2.2 4
  refine bnd_len (show (fixE (numE (numE (txtE s p.1).2.1 p.2.1 1099511627776).2.1 p.2.2.1 512).2.1 p.2.2.2 4).2.1.length ≤ _ by omega) fun _ => ?_
  show (fixE (numE (numE (txtE s p.1).2.1 p.2.1 1099511627776).2.1 p.2.2.1 512).2.1 p.2.2.2 4).2.1.length ≤ _
  omega
/-- a list passed so far -/
def PL {α : Type} (item : By → α → R α) (l1 : By) (IT : List α) (i : Nat) (s : By) (done : List α) : Prop := passL item l1 IT = bnd (passL item s (IT.drop i)) [] fun s l' => (0, s, done ++ l')
section
variable {α : Type} {item : By → α → R α} {l1 s s2 : By} {IT dn : List α} {i : Nat} {x x2 : α} {er : Int}
theorem passL_err (item : By → α → R α) (s : By) (l : List α) (h : (passL item s l).1 ≠ 0) : (passL item s l).2.2 = [] := by
  cases l with
  | nil => exact absurd rfl h
  | cons x l =>
    simp only [passL] at h ⊢
    by_cases h1 : (item s x).1 = 0
    · rw [bnd_ok h1] at h ⊢
      by_cases h2 : (passL item (item s x).2.1 l).1 = 0
      · rw [bnd_ok h2] at h; exact absurd rfl h
      · rw [bnd_no h2]
    · rw [bnd_no h1]
theorem PL.zero (item : By → α → R α) (l1 : By) (IT : List α) : PL item l1 IT 0 l1 [] := by
  unfold PL
  rw [List.drop_zero]
  by_cases h : (passL item l1 IT).1 = 0
  · rw [bnd_ok h]
    exact Prod.ext h (Prod.ext rfl (by simp))
  · rw [bnd_no h]
    exact Prod.ext rfl (Prod.ext rfl (passL_err item l1 IT h))
theorem drop_cons (hx : IT[i]? = some x) : IT.drop i = x :: IT.drop (i + 1) := by
  obtain ⟨h1, h2⟩ := List.getElem?_eq_some_iff.1 hx
  rw [List.drop_eq_getElem_cons h1, h2]
theorem PL.unroll (h : PL item l1 IT i s dn) (hx : IT[i]? = some x) : passL item l1 IT = bnd (item s x) [] fun s y => bnd (passL item s (IT.drop (i + 1))) [] fun s l' => (0, s, (dn ++ [y]) ++ l') := by
  have h1 : passL item l1 IT = bnd (passL item s (IT.drop i)) [] fun s l' => (0, s, dn ++ l') := h
  rw [h1, drop_cons hx]
  simp only [passL]
  rw [bnd_assoc]
  congr 1
  funext s y
  rw [bnd_assoc]
  congr 1
  funext s l'
  rw [bnd_ok rfl]
  simp
theorem PL.step (h : PL item l1 IT i s dn) (hx : IT[i]? = some x) (hr : item s x = (0, s2, x2)) : PL item l1 IT (i + 1) s2 (dn ++ [x2]) := by
  unfold PL
  rw [h.unroll hx, hr, bnd_ok rfl]
theorem PL.err (h : PL item l1 IT i s dn) (hx : IT[i]? = some x) (hr : item s x = (er, s2, x2)) (h0 : er ≠ 0) : (passL item l1 IT).1 = er := by
  rw [h.unroll hx, hr, bnd_no h0]
theorem PL.fin {n : Nat} (h : PL item l1 IT n s dn) (hn : IT.length = n) : passL item l1 IT = (0, s, dn) := by
  have h1 : passL item l1 IT = bnd (passL item s (IT.drop n)) [] fun s l' => (0, s, dn ++ l') := h
  rw [h1, List.drop_of_length_le (by omega)]
  show bnd (0, s, []) _ _ = _
  rw [bnd_ok rfl]; simp
theorem fit_len (z : α) (l : List α) (n : Nat) : (fit z l (n : Int)).length = n := by
  unfold fit; simp; omega
theorem fit_mem {z x : α} {l : List α} {n : Int} (h : x ∈ fit z l n) : x ∈ l ∨ x = z := by
  unfold fit at h
  rcases List.mem_append.1 h with h | h
  · exact .inl (List.mem_of_mem_take h)
  · exact .inr (List.eq_of_mem_replicate h)
end
theorem StE.chg1 {w w' : World} {g B ib : Nat} {l : By} {cur : Array Value} {t : TypeId} (h : StE w g B l) (hc : Chg (fun k => k = ib) w w') (hne : g ≠ ib) (hV : V w ib cur t) (ht : t ≠ 5) : StE w' g B l := by
  obtain ⟨A, c, hg, ho⟩ := h
  refine ⟨A, c, hc.blk hg hne, own_chg ho hc fun k hk e => ?_⟩
  obtain ⟨cur', hc'⟩ := own_type ho hk
  rw [e, hV] at hc'
  injection hc' with hc'
  injection hc' with _ hc'
  exact ht hc'
theorem row_ow {α : Type} (E : El α) {w : World} {b base n : Nat} {l : List α} (hl : l.length = n) (hV : V w b (cs E.enc l).toArray E.e) (hb : base ≤ b) (hm : n ≤ maxLen) : Ow E w base (.slice (some ⟨b, 0, none⟩) n n) n l :=
  ⟨hl, by rw [cs_len E.len, hl], .inr ⟨b, n, (cs E.enc l).toArray, rfl, hb, hV, Nat.le_refl _, hm, by rw [List.size_toArray, cs_len E.len, hl], List.take_of_length_le (by show (cs E.enc l).length ≤ _; rw [cs_len E.len, hl]; exact Nat.le_refl _)⟩⟩
theorem copy_ls {α : Type} (E : El α) (z : α) {T : TypeId} {w : World} {ib N n c B : Nat} {A : Option Addr} {l : List α} (ht : Try.prog.underlying T = some (.slice E.e)) (hs : (Try.prog.info? E.e).map (·.size) = some E.k)
    (hV : V w ib (cs E.enc (List.replicate N z)).toArray E.e) (hl : Ls E w B A n l) (hA : A = none → c = 0) :
    ∃ w' M, (∀ ty, (Builtin.copy_ #[T, T] ty #[.slice (some ⟨ib, 0, none⟩) N N, .slice A n c]).run Try.prog w = .ok (.int .i64 (M : Nat)) w') ∧ V w' ib (cs E.enc (fit z l (N : Int))).toArray E.e ∧ Chg (fun k => k = ib) w w' := by
  cases A with
  | none =>
    have hn : n = 0 := by
      rcases Nat.eq_zero_or_pos n with h0 | h0
      · exact h0
      · obtain ⟨_, _, e, _⟩ := Rd.some_of hl.2 (show 0 < n * E.k from Nat.mul_pos h0 E.pos); cases e
    subst hn
    obtain rfl := hA rfl
    obtain rfl := List.eq_nil_of_length_eq_zero hl.1
    refine ⟨w, 0, fun ty => run_copy_nil Try.prog w T T ty E.e _ N N ht (by cases hq : Try.prog.info? E.e <;> simp [hq] at hs ⊢), ?_, Chg.refl _ _⟩
    have e : fit z [] (N : Int) = List.replicate N z := by unfold fit; simp
    rw [e]; exact hV
  | some ad =>
    obtain ⟨m, hm⟩ : ∃ m, Nat.min n N = m := ⟨_, rfl⟩
    have hm1 : m ≤ n := by rw [← hm]; exact Nat.min_le_left _ _
    have hm2 : m ≤ N := by rw [← hm]; exact Nat.min_le_right _ _
    have hm3 : m = n ∨ m = N := by
      rcases Nat.le_total n N with h | h
      · exact .inl (by rw [← hm]; exact Nat.min_eq_left h)
      · exact .inr (by rw [← hm]; exact Nat.min_eq_right h)
    have hll := hl.1
    have e : fit z l (N : Int) = l.take m ++ (List.replicate N z).drop m := by
      unfold fit
      rw [Int.toNat_natCast, List.drop_replicate, hll]
      rcases hm3 with h | h
      · rw [h, List.take_of_length_le (by omega), List.take_of_length_le (by omega)]
      · rw [h, show N - n = 0 by omega, Nat.sub_self]
    have hlen : (cs E.enc (l.take m)).length = m * E.k := by rw [cs_len E.len, List.length_take, hll, Nat.min_eq_left hm1]
    refine ⟨w.setRow ib (cs E.enc (fit z l (N : Int))).toArray, m, fun ty => ?_, setRow_heap w ib _ _ _ _ hV, ?_⟩
    · have h1 := run_copy_rowk (P := Try.prog) w T T ty E.e ib N N E.k ad n c (cs E.enc (List.replicate N z)).toArray E.e (cs E.enc (l.take m)) ht hs hV (by rw [hm]; exact hlen) (fun j v hj => ?_) ?_ (cs_oneCell E.one _)
      · rw [h1, e, cs_append, hlen]
        have : (cs E.enc (List.replicate N z)).toArray.toList.drop (m * E.k) = cs E.enc ((List.replicate N z).drop m) := by
          rw [← cs_drop E.len]
        rw [this, hm]
        rfl
      · have hjl : j < n * E.k := by
          have := (List.getElem?_eq_some_iff.1 hj).1
          rw [hlen] at this
          have h2 : m * E.k ≤ n * E.k := Nat.mul_le_mul_right _ hm1
          omega
        obtain ⟨b, off, v', e1, _, hv', hc'⟩ := hl.2.at_ j hjl
        cases e1
        have h3 : (cs E.enc (l.take m))[j]? = (cs E.enc l)[j]? := by
          rw [← cs_take E.len, List.getElem?_take_of_lt (by have := (List.getElem?_eq_some_iff.1 hj).1; rw [hlen] at this; exact this)]
        rw [h3, hv'] at hj
        rw [words.add_plain, hc', hj]
      · rw [hlen, List.size_toArray, cs_len E.len, List.length_replicate]
        exact Nat.mul_le_mul_right _ hm2
    · refine ⟨rfl, rfl, rfl, by simp [World.setRow], fun k hk hn => ?_⟩
      simp [World.setRow, Array.getElem?_modify, Ne.symm hn]
theorem put3_cs (done rest : List Pt) (x x2 : Pt) {i : Nat} (h : done.length = i) : (((cs PE.enc (done ++ x :: rest)).toArray.setIfInBounds (i * 3) (.int .i64 x2.1)).setIfInBounds (i * 3 + 1) (.int .u64 x2.2.1)).setIfInBounds (i * 3 + 2) (.int .u64 x2.2.2) = (cs PE.enc (done ++ x2 :: rest)).toArray := by
  have hl : (cs PE.enc done).length = i * 3 := by rw [cs_len PE.len, h]; rfl
  apply Array.ext'
  simp only [Array.toList_setIfInBounds, cs_append, cs_cons]
  rw [show PE.enc x = [.int .i64 x.1, .int .u64 x.2.1, .int .u64 x.2.2] from rfl, show PE.enc x2 = [.int .i64 x2.1, .int .u64 x2.2.1, .int .u64 x2.2.2] from rfl]
  rw [List.set_append_right _ _ (by omega), List.set_append_right _ _ (by omega), List.set_append_right _ _ (by omega), hl]
  simp
theorem put4_cs (done rest : List Mt) (x x2 : Mt) {i : Nat} (h : done.length = i) : ((((cs ME.enc (done ++ x :: rest)).toArray.setIfInBounds (i * 4) (.string (cl.tx x2.1))).setIfInBounds (i * 4 + 1) (.int .i64 x2.2.1)).setIfInBounds (i * 4 + 2) (.int .i64 x2.2.2.1)).setIfInBounds (i * 4 + 3) (.int .u32 x2.2.2.2) = (cs ME.enc (done ++ x2 :: rest)).toArray := by
  have hl : (cs ME.enc done).length = i * 4 := by rw [cs_len ME.len, h]; rfl
  apply Array.ext'
  simp only [Array.toList_setIfInBounds, cs_append, cs_cons]
  rw [show ME.enc x = mtE x from rfl, show ME.enc x2 = mtE x2 from rfl]
  unfold mtE
  rw [List.set_append_right _ _ (by omega), List.set_append_right _ _ (by omega), List.set_append_right _ _ (by omega), List.set_append_right _ _ (by omega), hl]
  simp

set_option maxHeartbeats 4000000 in
set_option maxRecDepth 100000 in
theorem passLP_e (w : World) (g B mb off B0 : Nat) (cur : Array Value) (t : TypeId) (l : By) (lst : List Pt) (A : Option Addr) (n c : Nat) (h : StE w g B l) (hV : V w mb cur t) (c0 : cur[off]? = some (.slice A n c)) (hl : Ls PE w B0 A n lst) (hA : A = none → c = 0) (hfit : ∀ x ∈ lst, PtOk x)
    (hne : mb ≠ g) (ht : t ≠ 5) (hgB : B0 ≤ B) (hB : B ≤ w.heap.size) (h0g : B0 ≤ g) (h0m : B0 ≤ mb) (hn : l.length ≤ 1000000) (hln : n ≤ 1000000) :
    Calls Try.prog 26 #[.iface 50 (.pointer (some ⟨g, 0, none⟩)), .pointer (some ⟨mb, off, none⟩), .int .i64 512, .func (.func 22) #[] #[]] w (RetLs PE w g B mb cur t off (passList encC (0, 0, 0) (passPt encC) 512 l lst)) := by
  have hml := blk_lt hV
  have hgl := h.lt
  have hll := hl.1
  have c1 : w.cell? ⟨mb, off, none⟩ = some (.slice A n c) := by rw [cell_of_row _ _ _ _ _ _ hV]; exact c0
  obtain ⟨w1, hw1⟩ : ∃ w1, w.alloc (.cells #[.int .i64 n] 3) = w1 := ⟨_, rfl⟩
  have hb1 : Below w.heap.size w w1 := by rw [← hw1]; exact below_al _ _
  have hs1 : w1.heap.size = w.heap.size + 1 := by rw [← hw1]; simp
  have VN := Lib.hid (show V w1 w.heap.size #[.int .i64 n] 3 by rw [← hw1]; exact alloc_new _ _)
  obtain ⟨r1, hr1⟩ : ∃ r, cntE l n 512 = r := ⟨_, rfl⟩
  have HH1 := Lib.hid (count_e w1 g B w.heap.size 0 #[.int .i64 n] 3 l n 512 (h.below hb1 (Nat.le_refl _)) VN.out rfl (by omega) (by decide) trivial (by omega) (by omega) (by omega))
  rw [hr1] at HH1
  have HQ1 := Lib.hid (show passList encC (0, 0, 0) (passPt encC) 512 l lst = bnd r1 lst fun s n => bnd (passL (passPt encC) s (fit (0, 0, 0) lst n)) lst fun s l' => (0, s, l') by rw [← hr1, ← hll]; rfl)
  have hrng := cntE_rng l n 512 (by omega)
  have hl1 := cntE_len l n 512
  rw [hr1] at hrng hl1
  have VM1 := Lib.hid (blk_below hb1 hV hml : V w1 mb cur t)
  have HLS := Lib.hid hl
  have HC1 := Lib.hid ((Chg.of_below hb1).mono (S' := FR w g B mb) (fun _ _ e => e.elim))
  have HB1 := Lib.hid hb1
  have HFIT := Lib.hid hfit
  have HLL := Lib.hid hll
  have HC0 := Lib.hid c0
  have HWA := Lib.hid hA
  clear h hV hr1 hl hb1 hfit hll c0 hA
  obtain ⟨er1, l1, a1⟩ := r1
  simp only at hrng hl1
  have hmf : ∀ (fn : Fn) (first cap : Array Value) (w : World), (Instr.makeFunc fn first cap).run Try.prog w = .ok (.func fn first cap) w := fun _ _ _ _ => rfl
  go_enter Try.func26, Try.ntmps26
  go_wp2_with (fail)
  refine HH1.out.mono ?_
  intro e w2 hr
  obtain ⟨hc, ⟨h0, rfl, hst, hVx⟩ | ⟨h0, rfl⟩⟩ := hr
  · simp only at h0 hst hVx
    subst h0
    obtain ⟨hr0, hr1⟩ := hrng rfl
    obtain ⟨N, rfl⟩ : ∃ N : Nat, a1 = (N : Int) := ⟨a1.toNat, by omega⟩
    have hN : N ≤ 512 := by omega
    have hVx2 : V w2 w.heap.size #[.int .i64 (N : Int)] 3 := hVx
    have hs2 := hc.size
    have ST2 := Lib.hid hst
    have HC2 := Lib.hid (fr_new HC1.out hc (Nat.le_refl _))
    have VM2 := Lib.hid (V.fr VM1.out hc hne (by omega) ht)
    have hbB2 : Below B0 w w2 := HC2.out.below (by omega) (fun k e => by rcases e with e | e | ⟨e, _⟩ <;> omega)
    have HL2 := Lib.hid (HLS.out.below hbB2 (Nat.le_refl _))
    have cn : w2.cell? ⟨w.heap.size, 0, none⟩ = some (.int .i64 (N : Int)) := by rw [cell_of_row _ _ _ _ _ _ hVx2]; rfl
    have hnl := blk_lt hVx2
    obtain ⟨i0, hi, hz0, hz1, hz2⟩ := info_of mg.infoP
    have hmk : (Instr.makeSlice 28 (.int .i64 (N : Int)) (.int .i64 (N : Int))).run Try.prog w2 = .ok (.slice (some ⟨w2.heap.size, 0, none⟩) N N) (w2.alloc (.cells (cs PE.enc (List.replicate N (0, 0, 0))).toArray 26)) := by
      have h1 := run_make (P := Try.prog) w2 28 26 i0 (.agg #[.int .i64 0, .int .u64 0, .int .u64 0]) Try.underlying28 hi hz0 .i64 .i64 N N (by omega) (by omega) (by rw [hz2]; omega) (by omega)
      rw [h1, hz1]
      simp only [Int.toNat_natCast]
      have h2 := made_cs PE.len PE.pos (0, 0, 0) N
      rw [show (Value.cells (.agg #[.int .i64 0, .int .u64 0, .int .u64 0])) = (PE.enc (0, 0, 0)).toArray from rfl]
      rw [show (PE.k) = 3 from rfl] at h2
      rw [h2]
    obtain ⟨w3, hw3⟩ : ∃ w3, w2.alloc (.cells (cs PE.enc (List.replicate N (0, 0, 0))).toArray 26) = w3 := ⟨_, rfl⟩
    have hb3 : Below w2.heap.size w2 w3 := by rw [← hw3]; exact below_al _ _
    have hs3 : w3.heap.size = w2.heap.size + 1 := by rw [← hw3]; simp
    have VI3 := Lib.hid (show V w3 w2.heap.size (cs PE.enc (List.replicate N (0, 0, 0))).toArray 26 by rw [← hw3]; exact alloc_new _ _)
    have VM3 := Lib.hid (blk_below hb3 VM2.out (blk_lt VM2.out) : V w3 mb cur t)
    have hL3 := HL2.out.below hb3 (by omega)
    have hcp : ∃ w4 M, (∀ ty, (Builtin.copy_ #[28, 28] ty #[.slice (some ⟨w2.heap.size, 0, none⟩) N N, .slice A n c]).run Try.prog w3 = .ok (.int .i64 (M : Nat)) w4) ∧ V w4 w2.heap.size (cs PE.enc (fit (0, 0, 0) lst (N : Int))).toArray 26 ∧ Chg (fun k => k = w2.heap.size) w3 w4 :=
      copy_ls PE (0, 0, 0) Try.underlying28 (by show (Try.prog.info? 26).map (·.size) = some 3; rw [hi]; simp [hz1]) VI3.out hL3 HWA.out
    obtain ⟨w4, M, hcpy, hV4, hc4⟩ := hcp
    have hs4 := hc4.size
    have hml3 := blk_lt VM3.out
    have c3 : w3.cell? ⟨mb, off, none⟩ = some (.slice A n c) := by rw [cell_of_row _ _ _ _ _ _ VM3.out]; exact HC0.out
    have HC4 := Lib.hid (show Chg (FR w g B mb) w w4 from (HC2.out.then_below hb3).trans hc4 (fun i hi e => by omega))
    have ST4 := Lib.hid (show StE w4 g B l1 from (ST2.out.below hb3 (Nat.le_refl _)).chg1 hc4 (by have := blk_lt VM2.out; have := ST2.out.lt; omega) VI3.out (by decide))
    have VM4 := Lib.hid (hc4.blk VM3.out (by have := blk_lt VM2.out; omega) : V w4 mb cur t)
    have HS24 := Lib.hid (show w2.heap.size < w4.heap.size from blk_lt hV4)
    obtain ⟨IT, hIT⟩ : ∃ IT, fit (0, 0, 0) lst (N : Int) = IT := ⟨_, rfl⟩
    have hITl : IT.length = N := by rw [← hIT]; exact fit_len _ _ _
    have HITO := Lib.hid (show ∀ x ∈ IT, PtOk x from fun x hx => by
      rw [← hIT] at hx
      rcases fit_mem hx with h | h
      · exact HFIT.out x h
      · subst h; exact ⟨⟨by decide, by decide⟩, ⟨by decide, by decide⟩⟩)
    rw [hIT] at hV4
    have VI4 := Lib.hid hV4
    have HQ2 := Lib.hid (show passList encC (0, 0, 0) (passPt encC) 512 l lst = bnd (passL (passPt encC) l1 IT) lst fun s l' => (0, s, l') by rw [HQ1.out, bnd_ok rfl]; simp only [hIT])
    have HITL := Lib.hid hITl
    have hib : B ≤ w2.heap.size := by omega
    have hgi : g < w2.heap.size := ST2.out.lt
    have hmi : mb < w2.heap.size := blk_lt VM2.out
    clear hc hst hVx hVx2 hbB2 hL3 hb3 hc4 hV4 hIT hITl hrng
    go_wp2_with (fail)
    clear hcpy hmk c3 cn
    go_loopg [10, 27] N (fun gg s10 s27 wr => ∃ (i : Nat) (s : By) (done : List Pt), s27 = .int .i64 i ∧ i ≤ N ∧ N - i ≤ gg ∧ s.length ≤ l1.length + 60 * i ∧ Aside (done.length = i) ∧ Aside (StE wr g B s) ∧ Aside (V wr w2.heap.size (cs PE.enc (done ++ IT.drop i)).toArray 26) ∧ Aside (Chg (FR w4 g B w2.heap.size) w4 wr) ∧ Aside (PL (passPt encC) l1 IT i s done))
    case atStart => exact ⟨0, l1, [], rfl, by omega, by omega, by omega, rfl, ST4.out, VI4.out, Chg.refl _ _, PL.zero _ _ _⟩
    case round =>
      obtain ⟨i, s, done, rfl, hi, hgk, hsl, HDL, HST, HVI, HCH, HPL⟩ := hrel
      obtain ⟨wv, hwv⟩ : ∃ wv, wv = wr := ⟨wr, rfl⟩
      obtain rfl := hwv
      have hsv := HCH.out.size
      by_cases hlt : i < N
      · have hltz : (i : Int) < (N : Int) := by omega
        have hi0 : (0 : Int) ≤ (i : Int) := by omega
        obtain ⟨x, hx⟩ : ∃ x, IT[i]? = some x := ⟨_, List.getElem?_eq_getElem (by rw [HITL.out]; exact hlt)⟩
        have hdr : IT.drop i = x :: IT.drop (i + 1) := by
          have := (List.getElem?_eq_some_iff.1 hx)
          obtain ⟨h1, h2⟩ := this
          rw [List.drop_eq_getElem_cons h1, h2]
        have hat : (done ++ IT.drop i)[i]? = some x := by rw [hdr, List.getElem?_append_right (by rw [HDL.out]; exact Nat.le_refl _), HDL.out]; simp
        have hcs : ∀ j, j < 3 → (cs PE.enc (done ++ IT.drop i)).toArray[i * 3 + j]? = (PE.enc x)[j]? := fun j hj => by
          have := cs_at PE.len (done ++ IT.drop i) i x hat j hj
          rw [show (PE.k) = 3 from rfl] at this
          simpa using this
        obtain ⟨r2, hr2⟩ : ∃ r, passPt encC s x = r := ⟨_, rfl⟩
        have hr2l := passPtE_len s x
        have HH2 := Lib.hid (passPt_e wv g B w2.heap.size (i * 3) (cs PE.enc (done ++ IT.drop i)).toArray 26 s x HST.out HVI.out (hcs 0 (by decide)) (hcs 1 (by decide)) (hcs 2 (by decide)) (HITO.out x (List.mem_of_getElem? hx)) (by omega) (by decide) trivial (by omega) (by omega))
        rw [hr2] at HH2 hr2l
        have HXX := Lib.hid hx
        have HR2 := Lib.hid hr2
        have HDR := Lib.hid hdr
        have hiv : w2.heap.size < wv.heap.size := by have := HS24.out; omega
        clear hr2 hx hdr hat hcs
        obtain ⟨er2, s2, x2⟩ := r2
        simp only at hr2l
        go_wp2_with (fail)
        refine HH2.out.mono ?_
        intro e w5 hr
        obtain ⟨hc, ⟨h0, rfl, hst, hVx⟩ | ⟨h0, rfl⟩⟩ := hr
        · simp only at h0 hst hVx
          subst h0
          have HC5 := Lib.hid (fr_trans HCH.out hc)
          have ST5 := Lib.hid hst
          have VI5 := Lib.hid (show V w5 w2.heap.size (cs PE.enc (done ++ x2 :: IT.drop (i + 1))).toArray 26 by
            rw [← put3_cs done (IT.drop (i + 1)) x x2 HDL.out, ← HDR.out]; exact hVx)
          have HP5 := Lib.hid (HPL.out.step HXX.out HR2.out)
          clear hc hst hVx HH2
          go_wp2_with (fail)
          go_roundg (N - (i + 1))
          case measure => omega
          case rel => exact ⟨i + 1, s2, done ++ [x2], by go_num, by omega, by omega, by omega, (show (done ++ [x2]).length = i + 1 by rw [List.length_append, HDL.out]; rfl), ST5.out, (show V w5 w2.heap.size (cs PE.enc ((done ++ [x2]) ++ IT.drop (i + 1))).toArray 26 by rw [List.append_assoc]; exact VI5.out), HC5.out, HP5.out⟩
        · have he := HPL.out.err HXX.out HR2.out h0
          have HE := Lib.hid (show RetLs PE w g B mb cur t off (passList encC (0, 0, 0) (passPt encC) 512 l lst) (.panicked (errC er2)) w5 from ⟨fr_new HC4.out (fr_trans HCH.out hc) (by omega), .inr ⟨by rw [HQ2.out, bnd_no (by rw [he]; exact h0), he]; exact h0, by rw [HQ2.out, bnd_no (by rw [he]; exact h0), he]⟩⟩)
          clear hc HH2 he
          go_wp2_with (fail)
          exact ⟨rfl, HE.out⟩
      · obtain rfl : i = N := by omega
        have hltz : ¬ (i : Int) < (i : Int) := by omega
        have VMv := Lib.hid (V.fr VM4.out HCH.out hne (by omega) ht)
        have cm : wv.cell? ⟨mb, off, none⟩ = some (.slice A n c) := by rw [cell_of_row _ _ _ _ _ _ VMv.out]; exact HC0.out
        have fm : wv.frozen? ⟨mb, off, none⟩ = false := frozen_of_row _ _ _ _ _ VMv.out
        have hmv := blk_lt VMv.out
        have HD := Lib.hid (HPL.out.fin HITL.out)
        have HCF := Lib.hid (fr_set (off := off) (fr_new HC4.out HCH.out (by omega)) (.slice (some ⟨w2.heap.size, 0, none⟩) i i))
        have HVF := Lib.hid (V.set VMv.out (off := off) (.slice (some ⟨w2.heap.size, 0, none⟩) i i))
        have HSF := Lib.hid (HST.out.setCell VMv.out hne ht (off := off) (.slice (some ⟨w2.heap.size, 0, none⟩) i i))
        have HVI2 := Lib.hid (show V wv w2.heap.size (cs PE.enc done).toArray 26 by
          have := HVI.out
          rw [List.drop_of_length_le (by rw [HITL.out]; exact Nat.le_refl _), List.append_nil] at this
          exact this)
        go_wp2_with (fail)
        go_end0
        refine ⟨HCF.out, .inl ⟨by rw [HQ2.out, HD.out, bnd_ok rfl], rfl, by rw [HQ2.out, HD.out, bnd_ok rfl]; exact HSF.out, some ⟨w2.heap.size, 0, none⟩, i, ?_, ?_⟩⟩
        · rw [HQ2.out, HD.out, bnd_ok rfl]
          simp only [HDL.out]
          exact HVF.out
        · rw [HQ2.out, HD.out, bnd_ok rfl]
          simp only [HDL.out]
          exact row_ow PE (by rw [HDL.out]) ((Below.heap_setCell wv ⟨mb, off, none⟩ _ w2.heap.size (show w2.heap.size ≠ mb by omega)).trans HVI2.out) (by omega) (by unfold maxLen; omega)
  · have HE := Lib.hid (show RetLs PE w g B mb cur t off (passList encC (0, 0, 0) (passPt encC) 512 l lst) (.panicked (errC er1)) w2 from ⟨fr_new HC1.out hc (Nat.le_refl _), .inr ⟨by rw [HQ1.out, bnd_no h0]; exact h0, by rw [HQ1.out, bnd_no h0]⟩⟩)
    clear hc HH1
    go_wp2_with (fail)
    exact ⟨rfl, HE.out⟩

set_option maxHeartbeats 4000000 in
set_option maxRecDepth 100000 in
theorem passLM_e (w : World) (g B mb off B0 : Nat) (cur : Array Value) (t : TypeId) (l : By) (lst : List Mt) (A : Option Addr) (n c : Nat) (h : StE w g B l) (hV : V w mb cur t) (c0 : cur[off]? = some (.slice A n c)) (hl : Ls ME w B0 A n lst) (hA : A = none → c = 0) (hfit : ∀ x ∈ lst, MtOk x)
    (hne : mb ≠ g) (ht : t ≠ 5) (hgB : B0 ≤ B) (hB : B ≤ w.heap.size) (h0g : B0 ≤ g) (h0m : B0 ≤ mb) (hn : l.length ≤ 1000000) (hln : n ≤ 1000000) :
    Calls Try.prog 24 #[.iface 50 (.pointer (some ⟨g, 0, none⟩)), .pointer (some ⟨mb, off, none⟩), .int .i64 8, .func (.func 25) #[] #[]] w (RetLs ME w g B mb cur t off (passList encC ([], 0, 0, 0) (passMt encC) 8 l lst)) := by
  have hml := blk_lt hV
  have hgl := h.lt
  have hll := hl.1
  have c1 : w.cell? ⟨mb, off, none⟩ = some (.slice A n c) := by rw [cell_of_row _ _ _ _ _ _ hV]; exact c0
  obtain ⟨w1, hw1⟩ : ∃ w1, w.alloc (.cells #[.int .i64 n] 3) = w1 := ⟨_, rfl⟩
  have hb1 : Below w.heap.size w w1 := by rw [← hw1]; exact below_al _ _
  have hs1 : w1.heap.size = w.heap.size + 1 := by rw [← hw1]; simp
  have VN := Lib.hid (show V w1 w.heap.size #[.int .i64 n] 3 by rw [← hw1]; exact alloc_new _ _)
  obtain ⟨r1, hr1⟩ : ∃ r, cntE l n 8 = r := ⟨_, rfl⟩
  have HH1 := Lib.hid (count_e w1 g B w.heap.size 0 #[.int .i64 n] 3 l n 8 (h.below hb1 (Nat.le_refl _)) VN.out rfl (by omega) (by decide) trivial (by omega) (by omega) (by omega))
  rw [hr1] at HH1
  have HQ1 := Lib.hid (show passList encC ([], 0, 0, 0) (passMt encC) 8 l lst = bnd r1 lst fun s n => bnd (passL (passMt encC) s (fit ([], 0, 0, 0) lst n)) lst fun s l' => (0, s, l') by rw [← hr1, ← hll]; rfl)
  have hrng := cntE_rng l n 8 (by omega)
  have hl1 := cntE_len l n 8
  rw [hr1] at hrng hl1
  have VM1 := Lib.hid (blk_below hb1 hV hml : V w1 mb cur t)
  have HLS := Lib.hid hl
  have HC1 := Lib.hid ((Chg.of_below hb1).mono (S' := FR w g B mb) (fun _ _ e => e.elim))
  have HB1 := Lib.hid hb1
  have HFIT := Lib.hid hfit
  have HLL := Lib.hid hll
  have HC0 := Lib.hid c0
  have HWA := Lib.hid hA
  clear h hV hr1 hl hb1 hfit hll c0 hA
  obtain ⟨er1, l1, a1⟩ := r1
  simp only at hrng hl1
  have hmf : ∀ (fn : Fn) (first cap : Array Value) (w : World), (Instr.makeFunc fn first cap).run Try.prog w = .ok (.func fn first cap) w := fun _ _ _ _ => rfl
  go_enter Try.func24, Try.ntmps24
  go_wp2_with (fail)
  refine HH1.out.mono ?_
  intro e w2 hr
  obtain ⟨hc, ⟨h0, rfl, hst, hVx⟩ | ⟨h0, rfl⟩⟩ := hr
  · simp only at h0 hst hVx
    subst h0
    obtain ⟨hr0, hr1⟩ := hrng rfl
    obtain ⟨N, rfl⟩ : ∃ N : Nat, a1 = (N : Int) := ⟨a1.toNat, by omega⟩
    have hN : N ≤ 8 := by omega
    have hVx2 : V w2 w.heap.size #[.int .i64 (N : Int)] 3 := hVx
    have hs2 := hc.size
    have ST2 := Lib.hid hst
    have HC2 := Lib.hid (fr_new HC1.out hc (Nat.le_refl _))
    have VM2 := Lib.hid (V.fr VM1.out hc hne (by omega) ht)
    have hbB2 : Below B0 w w2 := HC2.out.below (by omega) (fun k e => by rcases e with e | e | ⟨e, _⟩ <;> omega)
    have HL2 := Lib.hid (HLS.out.below hbB2 (Nat.le_refl _))
    have cn : w2.cell? ⟨w.heap.size, 0, none⟩ = some (.int .i64 (N : Int)) := by rw [cell_of_row _ _ _ _ _ _ hVx2]; rfl
    have hnl := blk_lt hVx2
    obtain ⟨i0, hi, hz0, hz1, hz2⟩ := info_of infoM
    have hmk : (Instr.makeSlice 29 (.int .i64 (N : Int)) (.int .i64 (N : Int))).run Try.prog w2 = .ok (.slice (some ⟨w2.heap.size, 0, none⟩) N N) (w2.alloc (.cells (cs ME.enc (List.replicate N ([], 0, 0, 0))).toArray 49)) := by
      have h1 := run_make (P := Try.prog) w2 29 49 i0 (.agg #[.string ByteArray.empty, .int .i64 0, .int .i64 0, .int .u32 0]) Try.underlying29 hi hz0 .i64 .i64 N N (by omega) (by omega) (by rw [hz2]; omega) (by omega)
      rw [h1, hz1]
      simp only [Int.toNat_natCast]
      have h2 := made_cs ME.len ME.pos ([], 0, 0, 0) N
      rw [show (Value.cells (.agg #[.string ByteArray.empty, .int .i64 0, .int .i64 0, .int .u32 0])) = (ME.enc ([], 0, 0, 0)).toArray from rfl]
      rw [show (ME.k) = 4 from rfl] at h2
      rw [h2]
    obtain ⟨w3, hw3⟩ : ∃ w3, w2.alloc (.cells (cs ME.enc (List.replicate N ([], 0, 0, 0))).toArray 49) = w3 := ⟨_, rfl⟩
    have hb3 : Below w2.heap.size w2 w3 := by rw [← hw3]; exact below_al _ _
    have hs3 : w3.heap.size = w2.heap.size + 1 := by rw [← hw3]; simp
    have VI3 := Lib.hid (show V w3 w2.heap.size (cs ME.enc (List.replicate N ([], 0, 0, 0))).toArray 49 by rw [← hw3]; exact alloc_new _ _)
    have VM3 := Lib.hid (blk_below hb3 VM2.out (blk_lt VM2.out) : V w3 mb cur t)
    have hL3 := HL2.out.below hb3 (by omega)
    have hcp : ∃ w4 M, (∀ ty, (Builtin.copy_ #[29, 29] ty #[.slice (some ⟨w2.heap.size, 0, none⟩) N N, .slice A n c]).run Try.prog w3 = .ok (.int .i64 (M : Nat)) w4) ∧ V w4 w2.heap.size (cs ME.enc (fit ([], 0, 0, 0) lst (N : Int))).toArray 49 ∧ Chg (fun k => k = w2.heap.size) w3 w4 :=
      copy_ls ME ([], 0, 0, 0) Try.underlying29 (by show (Try.prog.info? 49).map (·.size) = some 4; rw [hi]; simp [hz1]) VI3.out hL3 HWA.out
    obtain ⟨w4, M, hcpy, hV4, hc4⟩ := hcp
    have hs4 := hc4.size
    have hml3 := blk_lt VM3.out
    have c3 : w3.cell? ⟨mb, off, none⟩ = some (.slice A n c) := by rw [cell_of_row _ _ _ _ _ _ VM3.out]; exact HC0.out
    have HC4 := Lib.hid (show Chg (FR w g B mb) w w4 from (HC2.out.then_below hb3).trans hc4 (fun i hi e => by omega))
    have ST4 := Lib.hid (show StE w4 g B l1 from (ST2.out.below hb3 (Nat.le_refl _)).chg1 hc4 (by have := blk_lt VM2.out; have := ST2.out.lt; omega) VI3.out (by decide))
    have VM4 := Lib.hid (hc4.blk VM3.out (by have := blk_lt VM2.out; omega) : V w4 mb cur t)
    have HS24 := Lib.hid (show w2.heap.size < w4.heap.size from blk_lt hV4)
    obtain ⟨IT, hIT⟩ : ∃ IT, fit ([], 0, 0, 0) lst (N : Int) = IT := ⟨_, rfl⟩
    have hITl : IT.length = N := by rw [← hIT]; exact fit_len _ _ _
    have HITO := Lib.hid (show ∀ x ∈ IT, MtOk x from fun x hx => by
      rw [← hIT] at hx
      rcases fit_mem hx with h | h
      · exact HFIT.out x h
      · subst h; exact ⟨by decide, by decide, by decide⟩)
    rw [hIT] at hV4
    have VI4 := Lib.hid hV4
    have HQ2 := Lib.hid (show passList encC ([], 0, 0, 0) (passMt encC) 8 l lst = bnd (passL (passMt encC) l1 IT) lst fun s l' => (0, s, l') by rw [HQ1.out, bnd_ok rfl]; simp only [hIT])
    have HITL := Lib.hid hITl
    have hib : B ≤ w2.heap.size := by omega
    have hgi : g < w2.heap.size := ST2.out.lt
    have hmi : mb < w2.heap.size := blk_lt VM2.out
    clear hc hst hVx hVx2 hbB2 hL3 hb3 hc4 hV4 hIT hITl hrng
    go_wp2_with (fail)
    clear hcpy hmk c3 cn
    go_loopg [10, 27] N (fun gg s10 s27 wr => ∃ (i : Nat) (s : By) (done : List Mt), s27 = .int .i64 i ∧ i ≤ N ∧ N - i ≤ gg ∧ s.length ≤ l1.length + 60 * i ∧ Aside (done.length = i) ∧ Aside (StE wr g B s) ∧ Aside (V wr w2.heap.size (cs ME.enc (done ++ IT.drop i)).toArray 49) ∧ Aside (Chg (FR w4 g B w2.heap.size) w4 wr) ∧ Aside (PL (passMt encC) l1 IT i s done))
    case atStart => exact ⟨0, l1, [], rfl, by omega, by omega, by omega, rfl, ST4.out, VI4.out, Chg.refl _ _, PL.zero _ _ _⟩
    case round =>
      obtain ⟨i, s, done, rfl, hi, hgk, hsl, HDL, HST, HVI, HCH, HPL⟩ := hrel
      obtain ⟨wv, hwv⟩ : ∃ wv, wv = wr := ⟨wr, rfl⟩
      obtain rfl := hwv
      have hsv := HCH.out.size
      by_cases hlt : i < N
      · have hltz : (i : Int) < (N : Int) := by omega
        have hi0 : (0 : Int) ≤ (i : Int) := by omega
        obtain ⟨x, hx⟩ : ∃ x, IT[i]? = some x := ⟨_, List.getElem?_eq_getElem (by rw [HITL.out]; exact hlt)⟩
        have hdr : IT.drop i = x :: IT.drop (i + 1) := by
          have := (List.getElem?_eq_some_iff.1 hx)
          obtain ⟨h1, h2⟩ := this
          rw [List.drop_eq_getElem_cons h1, h2]
        have hat : (done ++ IT.drop i)[i]? = some x := by rw [hdr, List.getElem?_append_right (by rw [HDL.out]; exact Nat.le_refl _), HDL.out]; simp
        have hcs : ∀ j, j < 4 → (cs ME.enc (done ++ IT.drop i)).toArray[i * 4 + j]? = (ME.enc x)[j]? := fun j hj => by
          have := cs_at ME.len (done ++ IT.drop i) i x hat j hj
          rw [show (ME.k) = 4 from rfl] at this
          simpa using this
        obtain ⟨r2, hr2⟩ : ∃ r, passMt encC s x = r := ⟨_, rfl⟩
        have hr2l := passMtE_len s x
        have HH2 := Lib.hid (passMt_e wv g B w2.heap.size (i * 4) (cs ME.enc (done ++ IT.drop i)).toArray 49 s x HST.out HVI.out (hcs 0 (by decide)) (hcs 1 (by decide)) (hcs 2 (by decide)) (hcs 3 (by decide)) (HITO.out x (List.mem_of_getElem? hx)) (by omega) (by decide) trivial (by omega) (by omega))
        rw [hr2] at HH2 hr2l
        have HXX := Lib.hid hx
        have HR2 := Lib.hid hr2
        have HDR := Lib.hid hdr
        have hiv : w2.heap.size < wv.heap.size := by have := HS24.out; omega
        clear hr2 hx hdr hat hcs
        obtain ⟨er2, s2, x2⟩ := r2
        simp only at hr2l
        go_wp2_with (fail)
        refine HH2.out.mono ?_
        intro e w5 hr
        obtain ⟨hc, ⟨h0, rfl, hst, hVx⟩ | ⟨h0, rfl⟩⟩ := hr
        · simp only at h0 hst hVx
          subst h0
          have HC5 := Lib.hid (fr_trans HCH.out hc)
          have ST5 := Lib.hid hst
          have VI5 := Lib.hid (show V w5 w2.heap.size (cs ME.enc (done ++ x2 :: IT.drop (i + 1))).toArray 49 by
            rw [← put4_cs done (IT.drop (i + 1)) x x2 HDL.out, ← HDR.out]; exact hVx)
          have HP5 := Lib.hid (HPL.out.step HXX.out HR2.out)
          clear hc hst hVx HH2
          go_wp2_with (fail)
          go_roundg (N - (i + 1))
          case measure => omega
          case rel => exact ⟨i + 1, s2, done ++ [x2], by go_num, by omega, by omega, by omega, (show (done ++ [x2]).length = i + 1 by rw [List.length_append, HDL.out]; rfl), ST5.out, (show V w5 w2.heap.size (cs ME.enc ((done ++ [x2]) ++ IT.drop (i + 1))).toArray 49 by rw [List.append_assoc]; exact VI5.out), HC5.out, HP5.out⟩
        · have he := HPL.out.err HXX.out HR2.out h0
          have HE := Lib.hid (show RetLs ME w g B mb cur t off (passList encC ([], 0, 0, 0) (passMt encC) 8 l lst) (.panicked (errC er2)) w5 from ⟨fr_new HC4.out (fr_trans HCH.out hc) (by omega), .inr ⟨by rw [HQ2.out, bnd_no (by rw [he]; exact h0), he]; exact h0, by rw [HQ2.out, bnd_no (by rw [he]; exact h0), he]⟩⟩)
          clear hc HH2 he
          go_wp2_with (fail)
          exact ⟨rfl, HE.out⟩
      · obtain rfl : i = N := by omega
        have hltz : ¬ (i : Int) < (i : Int) := by omega
        have VMv := Lib.hid (V.fr VM4.out HCH.out hne (by omega) ht)
        have cm : wv.cell? ⟨mb, off, none⟩ = some (.slice A n c) := by rw [cell_of_row _ _ _ _ _ _ VMv.out]; exact HC0.out
        have fm : wv.frozen? ⟨mb, off, none⟩ = false := frozen_of_row _ _ _ _ _ VMv.out
        have hmv := blk_lt VMv.out
        have HD := Lib.hid (HPL.out.fin HITL.out)
        have HCF := Lib.hid (fr_set (off := off) (fr_new HC4.out HCH.out (by omega)) (.slice (some ⟨w2.heap.size, 0, none⟩) i i))
        have HVF := Lib.hid (V.set VMv.out (off := off) (.slice (some ⟨w2.heap.size, 0, none⟩) i i))
        have HSF := Lib.hid (HST.out.setCell VMv.out hne ht (off := off) (.slice (some ⟨w2.heap.size, 0, none⟩) i i))
        have HVI2 := Lib.hid (show V wv w2.heap.size (cs ME.enc done).toArray 49 by
          have := HVI.out
          rw [List.drop_of_length_le (by rw [HITL.out]; exact Nat.le_refl _), List.append_nil] at this
          exact this)
        go_wp2_with (fail)
        go_end0
        refine ⟨HCF.out, .inl ⟨by rw [HQ2.out, HD.out, bnd_ok rfl], rfl, by rw [HQ2.out, HD.out, bnd_ok rfl]; exact HSF.out, some ⟨w2.heap.size, 0, none⟩, i, ?_, ?_⟩⟩
        · rw [HQ2.out, HD.out, bnd_ok rfl]
          simp only [HDL.out]
          exact HVF.out
        · rw [HQ2.out, HD.out, bnd_ok rfl]
          simp only [HDL.out]
          exact row_ow ME (by rw [HDL.out]) ((Below.heap_setCell wv ⟨mb, off, none⟩ _ w2.heap.size (show w2.heap.size ≠ mb by omega)).trans HVI2.out) (by omega) (by unfold maxLen; omega)
  · have HE := Lib.hid (show RetLs ME w g B mb cur t off (passList encC ([], 0, 0, 0) (passMt encC) 8 l lst) (.panicked (errC er1)) w2 from ⟨fr_new HC1.out hc (Nat.le_refl _), .inr ⟨by rw [HQ1.out, bnd_no h0]; exact h0, by rw [HQ1.out, bnd_no h0]⟩⟩)
    clear hc HH1
    go_wp2_with (fail)
    exact ⟨rfl, HE.out⟩
end Go.Proofs.Ythkcnakodlbdpaa.wr
