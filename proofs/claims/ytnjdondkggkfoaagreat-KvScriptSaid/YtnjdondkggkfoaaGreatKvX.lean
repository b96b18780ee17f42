/-
  A placement as bytes, and bytes as a placement: mathematics. 'encP' is what a placement is written as; 'decP' reads numbers off a row, as long as there are such.
-/
import Derived.Test.YtnjdondkggkfoaaGreatUv
import Derived.Test.YtnjdondkggkfoaaGreatPmA
import Derived.Test.YtnjdondkggkfoaaGreatUvC
import Derived.Test.YtnjdondkggkfoaaGreatRow
import Derived.Test.YtnjdondkggkfoaaGreatPmC
import Derived.Test.YtnjdondkggkfoaaGreatPmDE
import Derived.Test.YtnjdondkggkfoaaGreatFree
namespace Go.Proofs.YtnjdondkggkfoaaGreat.kv
open uvs pm

/-- a number as bytes -/
def num (z : Int) : List UInt8 := uv z.toNat
def encO (o : O) : List UInt8 := num o.1 ++ (num o.2.1 ++ num (o.2.2 + 1))
def encOs (l : List O) : List UInt8 := l.flatMap encO
def encS (l : List O) : List UInt8 := num l.length ++ encOs l
def encSs (l : List (List O)) : List UInt8 := l.flatMap encS
def encN (l : List Int) : List UInt8 := l.flatMap num
def encP (p : Pl) : List UInt8 := num p.ver ++ (num p.nodes.length ++ (encN p.nodes ++ (num p.ss.length ++ encSs p.ss)))

/-- what is left, and whether all was well -/
abbrev St := List UInt8 × Bool
def rd (s : St) : Int × St := if (ru s.1 0 0).2 = 0 ∨ 1099511627776 < (ru s.1 0 0).1 then (0, (s.1, false)) else ((ru s.1 0 0).1, (s.1.drop (ru s.1 0 0).2, s.2))
def rdN : Nat → St → List Int × St
  | 0, s => ([], s)
  | n + 1, s => if s.2 then ((rd s).1 :: (rdN n (rd s).2).1, (rdN n (rd s).2).2) else ([], s)
def rdO (s : St) : O × St := (((rd s).1, (rd (rd s).2).1, (rd (rd (rd s).2).2).1 - 1), (rd (rd (rd s).2).2).2)
def rdOs : Nat → St → List O × St
  | 0, s => ([], s)
  | n + 1, s => if s.2 then ((rdO s).1 :: (rdOs n (rdO s).2).1, (rdOs n (rdO s).2).2) else ([], s)
def rdS (s : St) : List O × St := rdOs (rd s).1.toNat (rd s).2
def rdSs : Nat → St → List (List O) × St
  | 0, s => ([], s)
  | n + 1, s => if s.2 then ((rdS s).1 :: (rdSs n (rdS s).2).1, (rdSs n (rdS s).2).2) else ([], s)
/-- the steps of the reading, by name -/
def s1 (b : List UInt8) : St := (rd (b, true)).2
def s2 (b : List UInt8) : St := (rd (s1 b)).2
def nN (b : List UInt8) : Nat := (rd (s1 b)).1.toNat
def s3 (b : List UInt8) : St := (rdN (nN b) (s2 b)).2
def s4 (b : List UInt8) : St := (rd (s3 b)).2
def nS (b : List UInt8) : Nat := (rd (s3 b)).1.toNat
def s5 (b : List UInt8) : St := (rdSs (nS b) (s4 b)).2
def rdP (b : List UInt8) : Pl := ⟨(rd (b, true)).1, (rdN (nN b) (s2 b)).1, (rdSs (nS b) (s4 b)).1⟩
def zeroPl : Pl := ⟨0, [], []⟩

theorem rd_bad {s : St} (h : s.2 = false) : (rd s).2.2 = false := by unfold rd; split <;> simp [h]
theorem rd_range (s : St) : 0 ≤ (rd s).1 ∧ (rd s).1 ≤ 1099511627776 := by
  unfold rd; split
  · simp
  · rename_i h; simp only; omega
/-- what was read well is what was written -/
theorem rd_back {s : St} (h : (rd s).2.2 = true) : s.2 = true ∧ s.1 = num (rd s).1 ++ (rd s).2.1 := by
  unfold rd at h ⊢
  split at h
  · simp at h
  · rename_i hn
    rw [if_neg hn]
    refine ⟨h, ?_⟩
    have h2 : (ru s.1 0 0).2 ≠ 0 := fun e => hn (.inl e)
    obtain ⟨_, _, e⟩ := ru_back0 s.1 _ _ rfl h2
    simp only [num, Int.toNat_natCast]
    rw [← e, List.take_append_drop]
theorem rd_num (z : Int) (rest : List UInt8) (h0 : 0 ≤ z) (h1 : z ≤ 1099511627776) : rd (num z ++ rest, true) = (z, (rest, true)) := by
  have e := ru_uv z.toNat rest (by omega)
  have hl := (uv_len z.toNat).1
  unfold rd num
  simp only [e]
  rw [if_neg (by omega)]
  simp only [List.drop_left, Prod.mk.injEq, and_true, true_and]
  omega
theorem num_len (z : Int) : 1 ≤ (num z).length ∧ (num z).length ≤ 10 := uv_len _
theorem rdN_bad {n : Nat} {s : St} (h : s.2 = false) : rdN n s = ([], s) := by cases n <;> simp [rdN, h]
theorem rdOs_bad {n : Nat} {s : St} (h : s.2 = false) : rdOs n s = ([], s) := by cases n <;> simp [rdOs, h]
theorem rdSs_bad {n : Nat} {s : St} (h : s.2 = false) : rdSs n s = ([], s) := by cases n <;> simp [rdSs, h]
theorem rdN_back {n : Nat} : ∀ {s : St}, (rdN n s).2.2 = true → (rdN n s).1.length = n ∧ s.2 = true ∧ s.1 = encN (rdN n s).1 ++ (rdN n s).2.1 := by
  induction n with
  | zero => intro s h; exact ⟨rfl, h, rfl⟩
  | succ n ih =>
    intro s h
    cases hs : s.2 with
    | false => rw [rdN_bad hs] at h; rw [hs] at h; cases h
    | true =>
      simp only [rdN, hs, if_true] at h ⊢
      obtain ⟨h1, h2, h3⟩ := ih h
      obtain ⟨_, h4⟩ := rd_back h2
      refine ⟨by simp [h1], trivial, ?_⟩
      rw [h4, h3]
      simp [encN, List.append_assoc]
theorem rdO_back {s : St} (h : (rdO s).2.2 = true) : s.2 = true ∧ s.1 = encO (rdO s).1 ++ (rdO s).2.1 := by
  obtain ⟨h1, e1⟩ := rd_back h
  obtain ⟨h2, e2⟩ := rd_back h1
  obtain ⟨h3, e3⟩ := rd_back h2
  refine ⟨h3, ?_⟩
  rw [e3, e2, e1]
  simp [encO, rdO, List.append_assoc]
theorem rdOs_back {n : Nat} : ∀ {s : St}, (rdOs n s).2.2 = true → (rdOs n s).1.length = n ∧ s.2 = true ∧ s.1 = encOs (rdOs n s).1 ++ (rdOs n s).2.1 := by
  induction n with
  | zero => intro s h; exact ⟨rfl, h, rfl⟩
  | succ n ih =>
    intro s h
    cases hs : s.2 with
    | false => rw [rdOs_bad hs] at h; rw [hs] at h; cases h
    | true =>
      simp only [rdOs, hs, if_true] at h ⊢
      obtain ⟨h1, h2, h3⟩ := ih h
      obtain ⟨_, h4⟩ := rdO_back h2
      refine ⟨by simp [h1], trivial, ?_⟩
      rw [h4, h3]
      simp [encOs, List.append_assoc]
theorem rdS_back {s : St} (h : (rdS s).2.2 = true) : s.2 = true ∧ s.1 = encS (rdS s).1 ++ (rdS s).2.1 := by
  obtain ⟨h1, h2, h3⟩ := rdOs_back h
  obtain ⟨h4, h5⟩ := rd_back h2
  refine ⟨h4, ?_⟩
  have hr := rd_range s
  rw [h5, h3]
  unfold encS rdS
  rw [h1, List.append_assoc, show (((rd s).1.toNat : Nat) : Int) = (rd s).1 by omega]
theorem rdSs_back {n : Nat} : ∀ {s : St}, (rdSs n s).2.2 = true → (rdSs n s).1.length = n ∧ s.2 = true ∧ s.1 = encSs (rdSs n s).1 ++ (rdSs n s).2.1 := by
  induction n with
  | zero => intro s h; exact ⟨rfl, h, rfl⟩
  | succ n ih =>
    intro s h
    cases hs : s.2 with
    | false => rw [rdSs_bad hs] at h; rw [hs] at h; cases h
    | true =>
      simp only [rdSs, hs, if_true] at h ⊢
      obtain ⟨h1, h2, h3⟩ := ih h
      obtain ⟨_, h4⟩ := rdS_back h2
      refine ⟨by simp [h1], trivial, ?_⟩
      rw [h4, h3]
      simp [encSs, List.append_assoc]
/-- bytes that were read well to the end are the placement's -/
theorem rdP_back {b : List UInt8} (h : (s5 b).2 = true) : b = encP (rdP b) ++ (s5 b).1 := by
  obtain ⟨h1, h2, h3⟩ := rdSs_back (n := nS b) (s := s4 b) h
  obtain ⟨h4, h5⟩ := rd_back (s := s3 b) h2
  obtain ⟨h6, h7, h8⟩ := rdN_back (n := nN b) (s := s2 b) h4
  obtain ⟨h9, h10⟩ := rd_back (s := s1 b) h7
  obtain ⟨_, h11⟩ := rd_back (s := (b, true)) h9
  have r1 := rd_range (s1 b)
  have r3 := rd_range (s3 b)
  have e1 : (((rdN (nN b) (s2 b)).1.length : Nat) : Int) = (rd (s1 b)).1 := by rw [h6]; unfold nN; omega
  have e2 : (((rdSs (nS b) (s4 b)).1.length : Nat) : Int) = (rd (s3 b)).1 := by rw [h1]; unfold nS; omega
  calc b = num (rd (b, true)).1 ++ (s1 b).1 := h11
    _ = num (rd (b, true)).1 ++ (num (rd (s1 b)).1 ++ (s2 b).1) := by rw [h10]; rfl
    _ = num (rd (b, true)).1 ++ (num (rd (s1 b)).1 ++ (encN (rdN (nN b) (s2 b)).1 ++ (s3 b).1)) := by rw [h8]; rfl
    _ = num (rd (b, true)).1 ++ (num (rd (s1 b)).1 ++ (encN (rdN (nN b) (s2 b)).1 ++ (num (rd (s3 b)).1 ++ (s4 b).1))) := by rw [h5]; rfl
    _ = num (rd (b, true)).1 ++ (num (rd (s1 b)).1 ++ (encN (rdN (nN b) (s2 b)).1 ++ (num (rd (s3 b)).1 ++ (encSs (rdSs (nS b) (s4 b)).1 ++ (s5 b).1)))) := by rw [h3]; rfl
    _ = encP (rdP b) ++ (s5 b).1 := by
      unfold encP rdP
      simp only [e1, e2, List.append_assoc]
/-- .. and a placement that may be is read as it was written -/
structure Small (l : List Int) : Prop where
  each : ∀ z ∈ l, 0 ≤ z ∧ z ≤ 1099511627776
theorem rdN_enc (l : List Int) (rest : List UInt8) (h : ∀ z ∈ l, 0 ≤ z ∧ z ≤ 1099511627776) : rdN l.length (encN l ++ rest, true) = (l, (rest, true)) := by
  induction l with
  | nil => rfl
  | cons z l ih =>
    have hz := h z (by simp)
    have e : encN (z :: l) ++ rest = num z ++ (encN l ++ rest) := by simp [encN, List.append_assoc]
    rw [e]
    simp only [List.length_cons, rdN, if_true, rd_num z _ hz.1 hz.2]
    rw [ih fun y hy => h y (by simp [hy])]
def SmallO (o : O) : Prop := (0 ≤ o.1 ∧ o.1 ≤ 1099511627776) ∧ (0 ≤ o.2.1 ∧ o.2.1 ≤ 1099511627776) ∧ (-1 ≤ o.2.2 ∧ o.2.2 < 1099511627776)
theorem rdO_enc (o : O) (rest : List UInt8) (h : SmallO o) : rdO (encO o ++ rest, true) = (o, (rest, true)) := by
  obtain ⟨h1, h2, h3⟩ := h
  unfold rdO encO
  simp only [List.append_assoc]
  rw [rd_num _ _ h1.1 h1.2]
  simp only
  rw [rd_num _ _ h2.1 h2.2]
  simp only
  rw [rd_num _ _ (by omega) (by omega)]
  simp only [Prod.mk.injEq, and_true, true_and]
  ext <;> simp
theorem rdOs_enc (l : List O) (rest : List UInt8) (h : ∀ o ∈ l, SmallO o) : rdOs l.length (encOs l ++ rest, true) = (l, (rest, true)) := by
  induction l with
  | nil => rfl
  | cons z l ih =>
    have e : encOs (z :: l) ++ rest = encO z ++ (encOs l ++ rest) := by simp [encOs, List.append_assoc]
    rw [e]
    simp only [List.length_cons, rdOs, if_true, rdO_enc z _ (h z (by simp))]
    rw [ih fun y hy => h y (by simp [hy])]
theorem rdS_enc (l : List O) (rest : List UInt8) (hl : l.length ≤ 1099511627776) (h : ∀ o ∈ l, SmallO o) : rdS (encS l ++ rest, true) = (l, (rest, true)) := by
  unfold rdS encS
  rw [List.append_assoc, rd_num _ _ (by omega) (by omega)]
  simp only [Int.toNat_natCast]
  exact rdOs_enc l rest h
theorem rdSs_enc (l : List (List O)) (rest : List UInt8) (h : ∀ q ∈ l, q.length ≤ 1099511627776 ∧ ∀ o ∈ q, SmallO o) : rdSs l.length (encSs l ++ rest, true) = (l, (rest, true)) := by
  induction l with
  | nil => rfl
  | cons z l ih =>
    have e : encSs (z :: l) ++ rest = encS z ++ (encSs l ++ rest) := by simp [encSs, List.append_assoc]
    rw [e]
    have hz := h z (by simp)
    simp only [List.length_cons, rdSs, if_true, rdS_enc z _ hz.1 hz.2]
    rw [ih fun y hy => h y (by simp [hy])]
structure SmallP (p : Pl) : Prop where
  ver : 0 ≤ p.ver ∧ p.ver ≤ 1099511627776
  nl : p.nodes.length ≤ 1099511627776
  nodes : ∀ z ∈ p.nodes, 0 ≤ z ∧ z ≤ 1099511627776
  sl : p.ss.length ≤ 1099511627776
  each : ∀ q ∈ p.ss, q.length ≤ 1099511627776 ∧ ∀ o ∈ q, SmallO o
theorem rdP_enc {p : Pl} (h : SmallP p) : rdP (encP p) = p ∧ s5 (encP p) = ([], true) := by
  have e1 : rd (encP p, true) = (p.ver, (num p.nodes.length ++ (encN p.nodes ++ (num p.ss.length ++ encSs p.ss)), true)) := rd_num _ _ h.ver.1 h.ver.2
  have t1 : s1 (encP p) = (num p.nodes.length ++ (encN p.nodes ++ (num p.ss.length ++ encSs p.ss)), true) := by unfold s1; rw [e1]
  have e2 : rd (s1 (encP p)) = ((p.nodes.length : Int), (encN p.nodes ++ (num p.ss.length ++ encSs p.ss), true)) := by rw [t1]; exact rd_num _ _ (by omega) (by have := h.nl; omega)
  have t2 : s2 (encP p) = (encN p.nodes ++ (num p.ss.length ++ encSs p.ss), true) := by unfold s2; rw [e2]
  have n2 : nN (encP p) = p.nodes.length := by unfold nN; rw [e2]; simp
  have e3 : rdN (nN (encP p)) (s2 (encP p)) = (p.nodes, (num p.ss.length ++ encSs p.ss, true)) := by rw [n2, t2]; exact rdN_enc _ _ h.nodes
  have t3 : s3 (encP p) = (num p.ss.length ++ encSs p.ss, true) := by unfold s3; rw [e3]
  have e4 : rd (s3 (encP p)) = ((p.ss.length : Int), (encSs p.ss, true)) := by rw [t3]; exact rd_num _ _ (by omega) (by have := h.sl; omega)
  have t4 : s4 (encP p) = (encSs p.ss, true) := by unfold s4; rw [e4]
  have n4 : nS (encP p) = p.ss.length := by unfold nS; rw [e4]; simp
  have e5 : rdSs (nS (encP p)) (s4 (encP p)) = (p.ss, ([], true)) := by
    rw [n4, t4]
    have := rdSs_enc p.ss [] h.each
    rwa [List.append_nil] at this
  refine ⟨?_, by unfold s5; rw [e5]⟩
  unfold rdP
  rw [e1, e3, e5]
theorem rise_len8 {α : Type} {f : α → Int} : ∀ (l : List α) (a : Int), Rise f l → (∀ x ∈ l, a ≤ f x ∧ f x < 8) → a ≤ 8 → (l.length : Int) ≤ 8 - a
  | [], a, _, _, h => by simp; omega
  | x :: l, a, hr, hb, h => by
    have hp := List.pairwise_cons.1 hr
    have hx := hb x (by simp)
    have := rise_len8 l (f x + 1) hp.2 (fun y hy => ⟨by have := hp.1 y hy; omega, (hb y (by simp [hy])).2⟩) (by omega)
    simp only [List.length_cons]
    omega
theorem ok_nl {p : Pl} (h : PlOk p) : p.nodes.length ≤ 8 := by
  have := rise_len8 p.nodes 0 h.nodes.rise (fun x hx => h.nodes.each x hx) (by omega)
  omega
theorem ok_ll {val : List O → O → Prop} {nodes : List Int} {l : List O} (h : ShardBy val nodes l) : l.length ≤ 8 := by
  have h1 := rise_len8 l 0 h.rise (fun x hx => (h.each x hx).1) (by omega)
  omega
theorem small_ok {p : Pl} (h : PlOk p) : SmallP p := by
  have small : ∀ n, isNode n → 0 ≤ n ∧ n ≤ 1099511627776 := fun n hn => ⟨hn.1, by have := hn.2; omega⟩
  refine ⟨⟨by have := h.lo; omega, h.hi⟩, by have := ok_nl h; omega, fun z hz => small z (h.nodes.each z hz), by have := h.few; omega, fun q hq => ⟨by have := ok_ll (h.each q hq); omega, fun o ho => ?_⟩⟩
  obtain ⟨h1, h2, _⟩ := (h.each q hq).each o ho
  refine ⟨small _ h1, ?_⟩
  rcases h2 with ⟨a, b⟩ | ⟨a, x, b, _⟩ | ⟨a, b, _⟩
  · exact ⟨by omega, by omega⟩
  · obtain ⟨hx, e⟩ := (find_iff (h.each q hq).rise _ _).1 b
    have hn := ((h.each q hq).each x hx).1
    rw [e] at hn
    exact ⟨by omega, by have := hn.1; omega, by have := hn.2; omega⟩
  · exact ⟨by omega, by omega⟩
end Go.Proofs.YtnjdondkggkfoaaGreat.kv
/-
  A placement as bytes: the program's Encode.
-/
namespace Go.Proofs.YtnjdondkggkfoaaGreat.kv
open Go.ChangeShapes Go.WideShapes Go.ChangeAt Go.RowKit plain words ord mem uvs uvc pm

/-- a variable at block g that holds bytes in a row of its own, from block B on -/
def OutV (w : World) (g B : Nat) (l : List UInt8) : Prop :=
  ∃ A c, w.heap[g]? = some (.cells #[.slice A l.length c] 36 (0, 0)) ∧ w.ownsRow B 5 1 (.slice A l.length c) l.length (u8s l)
/-- what may change: the variable, and rows of bytes from B on -/
def TB (w : World) (g B k : Nat) : Prop := k = g ∨ (B ≤ k ∧ ∃ cur, w.heap[k]? = some (.cells cur 5 (0, 0)))
/-- bytes are added to the variable -/
def RetOut (w : World) (g B : Nat) (l : List UInt8) (e : Ending) (w' : World) : Prop := e = .returned (.tuple #[]) ∧ OutV w' g B l ∧ Chg (TB w g B) w w'
theorem own_fit {w : World} {B n : Nat} {v : Value} {l : List UInt8} (hl : l.length = n) (h : w.ownsRow B 5 1 v n (u8s l)) : ∃ A c, v = .slice A n c ∧ (A = none → c = 0) ∧ n ≤ c ∧ c ≤ 9223372036854775807 := by
  rcases own_form h with ⟨rfl, e0⟩ | ⟨g, cap, rfl, _, _, h1, h2⟩
  · exact ⟨none, 0, by rw [e0], fun _ => rfl, by omega, by omega⟩
  · unfold maxLen at h2
    exact ⟨_, cap, rfl, (fun e => by cases e), h1, h2⟩
theorem chg_set (w : World) (g o : Nat) (u : Value) : Chg (fun k => k = g) w (w.setCell ⟨g, o, none⟩ u) := Chg.setCell (S := fun k => k = g) (Chg.refl _ _) (p := ⟨g, o, none⟩) (fun _ => rfl) u
theorem out_put {w w2 : World} {g B n : Nat} {v0 v2 : Value} {l : List UInt8} (hg : w2.heap[g]? = some (.cells #[v0] 36 (0, 0))) (ho : w2.ownsRow B 5 1 v2 n (u8s l)) (hl : l.length = n) (hb : Chg (TB w g B) w w2) (hgB : g < B) :
    RetOut w g B l (.returned (.tuple #[])) (w2.setCell ⟨g, 0, none⟩ v2) := by
  subst hl
  obtain ⟨A, c, rfl, _⟩ := own_fit rfl ho
  refine ⟨rfl, ⟨A, c, ?_, own_chg ho (chg_set w2 g 0 _) (fun k hk e => by have := (ho.lt k hk).1; omega)⟩, hb.setCell (p := ⟨g, 0, none⟩) (fun _ => .inl rfl) _⟩
  have := heap_setCell_same w2 g 0 _ _ (.slice A l.length c) hg
  simpa using this
set_option maxHeartbeats 1000000 in
set_option maxRecDepth 100000 in
theorem num_c (w : World) (g B : Nat) (l : List UInt8) (z : Nat) (h : OutV w g B l) (hgB : g < B) (hB : B ≤ w.heap.size) (hn : l.length ≤ 1000000000) (hz : z ≤ 9223372036854775807) :
    Calls Tryz.prog 62 #[.int .i64 z, .pointer (some ⟨g, 0, none⟩)] w (RetOut w g B (l ++ uv z)) := by
  obtain ⟨i0, hi, hz0, hz1, hz2⟩ := info_parts mem.infoB
  obtain ⟨A, c, hg, ho⟩ := h
  have hgl := blk_lt hg
  have c0 : w.cell? ⟨g, 0, none⟩ = some (.slice A l.length c) := by rw [cell_of_row _ _ _ _ _ _ hg]; rfl
  have huv := uvarint_x w.drew 0 0 0 none [] z (Rd.nil _ _ _) (Nat.zero_le _) (by omega) (by omega)
  rw [List.nil_append] at huv
  have hul := uv_len z
  have hz' : (z : Int) % 18446744073709551616 = (z : Int) := by omega
  have HUV := Lib.hid huv
  have HUL := Lib.hid hul
  have HG := Lib.hid hg
  have HO := Lib.hid ho
  obtain ⟨L, hL⟩ : ∃ L, l.length = L := ⟨_, rfl⟩
  rw [hL] at HG HO c0 hn
  have HL := Lib.hid hL
  have z0 := Wb.at_ c0
  clear huv hul hg ho hL
  go_enter Tryz.func62, Tryz.ntmps62
  go_wp2_with (fail)
  refine wp_region_plan [([0, 1, 2], some (3, false)), ([], some (4, true)), ([], some (5, true)), ([], none)] (by kernel_rfl) (by kernel_rfl) ?_
  refine seg_act _ (by dsimp only [pick, ord.at_]) _ (by dsimp only [pick, ord.at_]) ?_
  repeat (go_big_quiet_step (fail))
  refine wpQuiet_nil ?_
  intro K1 h1 h2
  clear h1
  go_wp2_with (fail)
  refine HUV.out.mono ?_
  rintro e w1 ⟨A', c', rfl, hown, hb⟩
  have hrd := own_rd hown
  have hL2 := HUL.out
  have hs1 : w.heap.size ≤ w1.heap.size := hb.size
  have ho1 : w1.ownsRow B 5 1 (.slice A L c) L (u8s l) := own_keep HO.out (show Below w.heap.size w w1 from (Below.refl _ _).drew.trans hb) (Nat.le_refl _)
  have g1 : w1.heap[g]? = some (.cells #[.slice A L c] 36 (0, 0)) := blk_below hb HG.out hgl
  have HB1 := Lib.hid hb
  clear hb z0 c0
  go_wp2_with (fail)
  refine h2 _ _ (by exact (Below.refl _ _).drew.trans HB1.out) ?_
  refine seg_write _ (by dsimp only [pick, ord.at_]) _ (by dsimp only [pick, ord.at_]) ?_
  repeat (go_big_quiet_step (fail))
  refine wpQuiet_nil ?_
  intro K2 g2
  go_wp2_with (at_builtin; (refine wpList_append_rd rfl (.tmp 3) (.tmp 6) 36 rfl B 5 i0 (.int .u8 0) 1 1 Tryz.underlying36 hi hz0 hz1 hz2 rfl (by decide) (.slice A L c) L (u8s l) rfl ho1 w1.heap.size A' (uv z).length c' (fun e => by
      rcases own_form hown with ⟨e', _⟩ | ⟨g, cap, e', _⟩
      · injection e'
      · rw [e] at e'; injection e' with e'; cases e') (u8s (uv z)) rfl hrd (u8s_one _) (by unfold maxLen; omega) (by omega) (by omega) ?_; intro v2 w2 hown2 hg2 hnn2; have gb2 : w2.heap[g]? = some (.cells #[.slice A L c] 36 (0, 0)) := (hg2.block g (blk_lt g1) (fun e => by have := (ho1.lt g e.symm).1; omega)).trans g1; have hbg2 : Chg (TB w g B) w w2 := ((Chg.of_below (show Below w.heap.size w w1 from (Below.refl _ _).drew.trans HB1.out)).mono (fun _ _ e => e.elim)).grown hg2 (fun k hk _ => .inr ⟨(ho1.lt k hk).1, own_type HO.out hk⟩); have c2 : w2.cell? ⟨g, 0, none⟩ = some (.slice A L c) := (by rw [cell_of_row _ _ _ _ _ _ gb2]; rfl); have f2 := frozen_of_row w2 g 0 _ _ gb2))
  have hlen : (l ++ uv z).length = L + (uv z).length := by rw [List.length_append, HL.out]
  have HF := Lib.hid (out_put (w := w) (l := l ++ uv z) gb2 (by rw [u8s_append]; exact hown2) hlen hbg2 hgB)
  obtain ⟨A2, cc2, rfl, _⟩ := own_fit hlen (by rw [u8s_append]; exact hown2)
  clear hown2 hg2 hnn2 gb2 hbg2 hown hrd hlen ho1 g1
  refine seg_write _ (by dsimp only [pick, ord.at_]) _ (by dsimp only [pick, ord.at_]) ?_
  repeat (go_big_quiet_step (fail))
  refine wpQuiet_nil ?_
  intro K3 g3
  go_wp2_with (fail)
  refine seg_end _ (by dsimp only [pick, ord.at_]) ?_
  repeat (go_big_quiet_step (fail))
  refine wpQuiet_nil (NoPanic.normal ?_)
  go_wp2_with (fail)
  go_end0
  exact HF.out

theorem put_x (w : World) (g : Nat) (l : List UInt8) (z : Int) (h : OutV w g (g + 1) l) (hn : l.length ≤ 1000000000) (h0 : 0 ≤ z) (h1 : z ≤ 1099511627776) :
    Calls Tryz.prog 62 #[.int .i64 z, .pointer (some ⟨g, 0, none⟩)] w (RetOut w g (g + 1) (l ++ num z)) := by
  obtain ⟨A, c, hg, ho⟩ := h
  have := num_c w g (g + 1) l z.toNat ⟨A, c, hg, ho⟩ (by omega) (blk_lt hg) hn (by omega)
  rwa [Int.toNat_of_nonneg h0] at this
noncomputable def encE (p : Pl) : Int := if chk p = 0 then 0 else 50
noncomputable def encB (p : Pl) : List UInt8 := if chk p = 0 then encP p else []
def RetEnc (w : World) (p : Pl) (e : Ending) (w' : World) : Prop :=
  ∃ A c, e = .returned (.tuple #[.slice A (encB p).length c, .int .i64 (encE p)]) ∧ w'.ownsRow w.heap.size 5 1 (.slice A (encB p).length c) (encB p).length (u8s (encB p)) ∧ Below w.heap.size w w' ∧ (A = none → c = 0)
theorem ret_bad {w w' : World} {p : Pl} (h : chk p ≠ 0) (hb : Below w.heap.size w w') : RetEnc w p (.returned (.tuple #[.slice none 0 0, .int .i64 50])) w' := by
  have e1 : encB p = [] := by unfold encB; rw [if_neg h]
  have e2 : encE p = 50 := by unfold encE; rw [if_neg h]
  refine ⟨none, 0, by rw [e1, e2]; rfl, ?_, hb, fun _ => rfl⟩
  rw [e1]
  exact ⟨by simp [u8s], .inl ⟨rfl, rfl⟩⟩
theorem encN_len (l : List Int) : (encN l).length ≤ 10 * l.length := by
  induction l with
  | nil => simp [encN]
  | cons z l ih =>
    have e : encN (z :: l) = num z ++ encN l := by simp [encN]
    have := num_len z
    rw [e, List.length_append, List.length_cons]; omega
theorem encO_len (o : O) : (encO o).length ≤ 30 := by
  have h1 := num_len o.1; have h2 := num_len o.2.1; have h3 := num_len (o.2.2 + 1)
  unfold encO; simp only [List.length_append]; omega
theorem encOs_len (l : List O) : (encOs l).length ≤ 30 * l.length := by
  induction l with
  | nil => simp [encOs]
  | cons z l ih =>
    have e : encOs (z :: l) = encO z ++ encOs l := by simp [encOs]
    have := encO_len z
    rw [e, List.length_append, List.length_cons]; omega
theorem encSs_len (l : List (List O)) (h : ∀ q ∈ l, q.length ≤ 8) : (encSs l).length ≤ 250 * l.length := by
  induction l with
  | nil => simp [encSs]
  | cons z l ih =>
    have e : encSs (z :: l) = num z.length ++ encOs z ++ encSs l := by simp [encSs, encS]
    have h1 := num_len z.length
    have h2 := encOs_len z
    have h3 := h z (by simp)
    have := ih fun q hq => h q (by simp [hq])
    rw [e, List.length_append, List.length_append, List.length_cons]; omega
theorem encN_succ {l : List Int} {i : Nat} {z : Int} (h : l[i]? = some z) : encN (l.take (i + 1)) = encN (l.take i) ++ num z := by
  rw [List.take_add_one, h]; simp [encN]
theorem encOs_succ {l : List O} {i : Nat} {z : O} (h : l[i]? = some z) : encOs (l.take (i + 1)) = encOs (l.take i) ++ num z.1 ++ num z.2.1 ++ num (z.2.2 + 1) := by
  rw [List.take_add_one, h]; simp [encOs, encO]
theorem encSs_succ {l : List (List O)} {i : Nat} {z : List O} (h : l[i]? = some z) : encSs (l.take (i + 1)) = encSs (l.take i) ++ num z.length ++ encOs z := by
  rw [List.take_add_one, h]; simp [encSs, encS]
/-- the placement's copy, and the bytes so far -/
structure KE (w0 w : World) (v : PV) (g : Nat) (l : List UInt8) : Prop where
  row : pm.Boxed w w0.heap.size v
  out : OutV w g (g + 1) l
  bel : Below w0.heap.size w0 w
  lo : w0.heap.size < g
  sz : l.length ≤ 1000000
theorem KE.step {w0 w w' : World} {v : PV} {g : Nat} {l l' : List UInt8} (h : KE w0 w v g l) {e : Ending} (hr : RetOut w g (g + 1) l' e w') (hl : l'.length ≤ 1000000) : e = .returned (.tuple #[]) ∧ KE w0 w' v g l' ∧ (∀ b x y z, IsV3 68 w b x y z → IsV3 68 w' b x y z) := by
  obtain ⟨h1, h2, h3⟩ := hr
  have hs := h.bel.size
  have hlo := h.lo
  refine ⟨h1, ⟨h3.blk h.row (fun e => by rcases e with e | ⟨e, _⟩ <;> omega), h2, h.bel.trans (h3.below hs (fun k hk => ?_)), h.lo, hl⟩, fun b x y z hb => h3.blk hb (fun e => ?_)⟩
  · rcases hk with e | ⟨e, _⟩ <;> omega
  · obtain ⟨A, c, hg, _⟩ := h.out
    rcases e with rfl | ⟨_, cur, hc⟩
    · exact blk_type hb hg (by decide) rfl
    · exact blk_type hb hc (by decide) rfl
theorem KE.put {w0 w : World} {v : PV} {g : Nat} {l : List UInt8} (h : KE w0 w v g l) (z : Int) (h0 : 0 ≤ z) (h1 : z ≤ 1099511627776) (hl : l.length ≤ 999990) :
    Calls Tryz.prog 62 #[.int .i64 z, .pointer (some ⟨g, 0, none⟩)] w fun e w' => e = .returned (.tuple #[]) ∧ KE w0 w' v g (l ++ num z) ∧ (∀ b x y z, IsV3 68 w b x y z → IsV3 68 w' b x y z) :=
  (put_x w g l z h.out (by omega) h0 h1).mono fun e w' hr => h.step hr (by have := num_len z; rw [List.length_append]; omega)
theorem KE.alloc {w0 w : World} {v : PV} {g : Nat} {l : List UInt8} (h : KE w0 w v g l) (o : Obj) : KE w0 (w.alloc o) v g l := by
  obtain ⟨A, c, hg, ho⟩ := h.out
  exact ⟨alloc_old _ h.row, ⟨A, c, alloc_old _ hg, own_keep ho (below_al _ _) (Nat.le_refl _)⟩, h.bel.alloc h.bel.size _, h.lo, h.sz⟩
set_option maxHeartbeats 4000000 in
set_option maxRecDepth 100000 in
theorem encode_x (w : World) (B : Nat) (v : PV) (h : PVok w B v) (hB : B ≤ w.heap.size) :
    Calls Tryz.prog 34 #[v.val] w (RetEnc w v.pl) := by
  obtain ⟨wa, hwa⟩ : ∃ wa, w.alloc (boxO v) = wa := ⟨_, rfl⟩
  have hba : Below w.heap.size w wa := by rw [← hwa]; exact below_al _ _
  have gp : pm.Boxed wa w.heap.size v := by rw [← hwa]; exact alloc_new _ _
  have hsa := hba.size
  have hla : w.heap.size < wa.heap.size := blk_lt gp
  have HCK := Lib.hid (pcheck_x wa B v (h.below hba hB) (by omega))
  have HOK := Lib.hid (fun (u : World) (hu : Below w.heap.size w u) => h.below hu hB)
  obtain ⟨ck, hck⟩ : ∃ ck, chk v.pl = ck := ⟨_, rfl⟩
  rw [hck] at HCK
  have HCKE := Lib.hid hck
  have HBA := Lib.hid hba
  have GP := Lib.hid gp
  have HWA := Lib.hid hwa
  obtain ⟨⟨c0, c1, c2⟩, _⟩ := isv3_cells gp
  clear hck hba gp hwa h
  obtain ⟨p, hp⟩ : ∃ p, v.pl = p := ⟨_, rfl⟩
  rw [hp] at HCKE ⊢
  have HP := Lib.hid hp
  have hvl : v.rs.length = p.ss.length := by rw [← hp]; simp [PV.pl]
  have hvn : v.nodes = p.nodes := by rw [← hp]; rfl
  have HVL := Lib.hid hvl
  have HVN := Lib.hid hvn
  clear hp hvl hvn
  obtain ⟨v', hv'⟩ : ∃ v', v = v' := ⟨_, rfl⟩
  have HV := Lib.hid hv'
  obtain ⟨ver, nA, nc, nodes, sA, sc, rs⟩ := v
  simp only [PV.val, boxO] at HCK HWA c0 c1 c2 ⊢
  clear hv'
  have HBA2 := Lib.hid (fun (u : World) (hu : Below wa.heap.size wa u) => HBA.out.trans (hu.mono hsa))
  go_enter Tryz.func34, Tryz.ntmps34
  go_wp2_with (fail)
  rw [HWA.out]
  refine HCK.out.mono ?_
  rintro e wb ⟨rfl, hb⟩
  have HBB := Lib.hid (HBA2.out wb hb)
  have hsb := hb.size
  by_cases hk0 : ck = 0
  · subst hk0
    have hpok := chk_iff.1 HCKE.out
    have HPOK := Lib.hid hpok
    have HS := Lib.hid (small_ok hpok)
    obtain ⟨wc, hwc⟩ : ∃ wc, wb.alloc (.cells #[.slice none 0 0] 36) = wc := ⟨_, rfl⟩
    obtain ⟨g, hg⟩ : ∃ g, wb.heap.size = g := ⟨_, rfl⟩
    have KWC := Lib.hid (show KE w wc v' g [] by
      rw [← hwc, ← hg, ← HV.out]
      exact ⟨alloc_old _ (blk_below hb GP.out hla), ⟨none, 0, alloc_new _ _, by simp [u8s], .inl ⟨rfl, rfl⟩⟩, HBB.out.alloc HBB.out.size _, by omega, by simp⟩)
    obtain ⟨N, hN⟩ : ∃ N, nodes.length = N := ⟨_, rfl⟩
    have hnN : nodes = p.nodes := HVN.out
    have HN := Lib.hid hN
    obtain ⟨M, hM⟩ : ∃ M, rs.length = M := ⟨_, rfl⟩
    have HM := Lib.hid hM
    rw [hN] at c1
    rw [hM] at c2
    have hN8 : N ≤ 8 := by rw [← hN, hnN]; exact ok_nl hpok
    have hM8 : M ≤ 8 := by rw [← hM]; exact Nat.le_trans (Nat.le_of_eq HVL.out) hpok.few
    have HVC := Lib.hid (fun (l : List UInt8) (u : World) (hu : KE w u v' g l) => by
      have := hu.row
      rw [← HV.out] at this
      simpa only [hN, hM] using (isv3_cells this).1)
    have HNN := Lib.hid hnN
    have hvb := HS.out.ver
    rw [← HP.out] at hvb
    simp only [PV.pl] at hvb
    clear hpok hb hN hM c0 c1 c2 hnN
    have hgl : w.heap.size < g := KWC.out.lo
    have q1 := HVC.out _ _ KWC.out
    obtain ⟨c0, c1, c2⟩ := q1
    have hlc : w.heap.size < wc.heap.size := blk_lt KWC.out.row
    have HP1 := Lib.hid (KWC.out.put ver hvb.1 hvb.2 (by simp))
    go_wp2_with (fail)
    clear hwc hg
    refine HP1.out.mono ?_
    rintro e w1 ⟨rfl, hk, _⟩
    have K1 := Lib.hid hk
    have hl1 : w.heap.size < w1.heap.size := blk_lt hk.row
    clear hk c0 c1 c2
    obtain ⟨c0, c1, c2⟩ := HVC.out _ _ K1.out
    have HP2 := Lib.hid (K1.out.put (N : Int) (by omega) (by omega) (by have := num_len ver; simp; omega))
    go_wp2_with (fail)
    refine HP2.out.mono ?_
    rintro e w2 ⟨rfl, hk, _⟩
    have hl2 : w.heap.size < w2.heap.size := blk_lt hk.row
    obtain ⟨P, hP⟩ : ∃ P, [] ++ num ver ++ num (N : Int) = P := ⟨_, rfl⟩
    rw [hP] at hk
    have hPl : P.length ≤ 20 := by rw [← hP]; have := num_len ver; have := num_len (N : Int); simp; omega
    have HPP := Lib.hid hP
    have K2 := Lib.hid hk
    clear hk c0 c1 c2 hP
    obtain ⟨c0, c1, c2⟩ := HVC.out _ _ K2.out
    have K2' := Lib.hid (show KE w w2 v' g (P ++ encN (nodes.take 0)) by simpa [encN] using K2.out)
    go_wp2_with (fail)
    clear c0 c1 c2
    go_loopg [7, 28] N (fun gg s7 s28 wr => ∃ i : Nat, s28 = .int .i64 i ∧ i ≤ N ∧ N - i ≤ gg ∧ Aside (KE w wr v' g (P ++ encN (nodes.take i))))
    case atStart => exact ⟨0, rfl, by omega, by omega, K2'.out⟩
    case round =>
      obtain ⟨i, rfl, hi, hgg, HK⟩ := hrel
      have hlr : w.heap.size < wr.heap.size := blk_lt HK.out.row
      by_cases hlt : i < N
      · have hltz : (i : Int) < (N : Int) := by omega
        have i0 : (0 : Int) ≤ (i : Int) := by omega
        obtain ⟨x, hx⟩ : ∃ x, nodes[i]? = some x := ⟨_, List.getElem?_eq_getElem (by rw [HN.out]; exact hlt)⟩
        have hxs := HS.out.nodes x (by rw [← HNN.out]; exact List.mem_of_getElem? hx)
        have hok := HOK.out wr HK.out.bel
        obtain ⟨b, off, hA, hb, y0⟩ := num_at hok.n hx
        simp only at hA y0
        subst hA
        have hbw : b < wr.heap.size := by omega
        have hnl := encN_len (nodes.take i)
        have htl := List.length_take_le i nodes
        have HP3 := Lib.hid (HK.out.put x hxs.1 hxs.2 (by rw [List.length_append]; omega))
        have HES := Lib.hid (encN_succ hx)
        clear hok hx hxs hnl htl
        go_wp2_with (fail)
        refine HP3.out.mono ?_
        rintro e w3 ⟨rfl, hk, _⟩
        rw [List.append_assoc, ← HES.out] at hk
        have K3 := Lib.hid hk
        clear hk y0
        go_wp2_with (fail)
        go_roundg (N - (i + 1))
        case measure => omega
        case rel => exact ⟨i + 1, by go_num, by omega, by omega, K3.out⟩
      · obtain rfl : i = N := by omega
        have hltz : ¬ (i : Int) < (i : Int) := by omega
        obtain ⟨P2, hP2⟩ : ∃ P2, P ++ encN nodes = P2 := ⟨_, rfl⟩
        have HK4 := Lib.hid (show KE w wr v' g P2 by
          have := HK.out
          rw [show nodes.take i = nodes from List.take_of_length_le (by rw [HN.out]; exact Nat.le_refl _), hP2] at this
          exact this)
        have hP2l : P2.length ≤ 100 := by rw [← hP2, List.length_append]; have := encN_len nodes; rw [HN.out] at this; omega
        have HPP2 := Lib.hid hP2
        obtain ⟨c0, c1, c2⟩ := HVC.out _ _ HK4.out
        have HP3 := Lib.hid (HK4.out.put (M : Int) (by omega) (by omega) (by omega))
        clear HK hP2
        go_wp2_with (fail)
        refine HP3.out.mono ?_
        rintro e w4 ⟨rfl, hk, _⟩
        have hl4 : w.heap.size < w4.heap.size := blk_lt hk.row
        obtain ⟨P3, hP3⟩ : ∃ P3, P2 ++ num (M : Int) = P3 := ⟨_, rfl⟩
        rw [hP3] at hk
        have hP3l : P3.length ≤ 110 := by rw [← hP3, List.length_append]; have := num_len (M : Int); omega
        have HPP3 := Lib.hid hP3
        have K4 := Lib.hid hk
        clear hk c0 c1 c2 hP3
        obtain ⟨c0, c1, c2⟩ := HVC.out _ _ K4.out
        have K4' := Lib.hid (show KE w w4 v' g (P3 ++ encSs (p.ss.take 0)) by simpa [encSs] using K4.out)
        go_wp2_with (fail)
        clear c0 c1 c2
        go_loopg [9, 11, 44, 54] M (fun gg s9 s11 s44 s54 wr => ∃ i : Nat, s44 = .int .i64 i ∧ i ≤ M ∧ M - i ≤ gg ∧ Aside (KE w wr v' g (P3 ++ encSs (p.ss.take i))))
        case atStart => exact ⟨0, rfl, by omega, by omega, K4'.out⟩
        case round =>
          obtain ⟨i, rfl, hi, hgg, HK⟩ := hrel
          obtain ⟨wx, hwx⟩ : ∃ wx, wx = wr := ⟨wr, rfl⟩
          obtain rfl := hwx
          have hlr : w.heap.size < wx.heap.size := blk_lt HK.out.row
          by_cases hlt : i < M
          · have hltz : (i : Int) < (M : Int) := by omega
            have i0 : (0 : Int) ≤ (i : Int) := by omega
            obtain ⟨r, hr⟩ : ∃ r, rs[i]? = some r := ⟨_, List.getElem?_eq_getElem (by rw [HM.out]; exact hlt)⟩
            have hli : p.ss[i]? = some r.l := by rw [← HP.out]; simp [PV.pl, hr]
            have hll := ok_ll (HPOK.out.each r.l (List.mem_of_getElem? hli))
            have hsm := (HS.out.each r.l (List.mem_of_getElem? hli)).2
            have hok := HOK.out wx HK.out.bel
            obtain ⟨b, off, hA, hb, l0, ho⟩ := hok.s.at_ hr
            simp only at hA
            subst hA
            have HO := Lib.hid (fun (u : World) (hu : Below w.heap.size w u) => show Ls OE u B r.A r.l.length r.l by obtain ⟨_, _, _, _, _, ho⟩ := (HOK.out u hu).s.at_ hr; exact ho.ls)
            have hol := ho.len
            have hsl := encSs_len (p.ss.take i) (fun q hq => ok_ll (HPOK.out.each q (List.mem_of_mem_take hq)))
            have htl := List.length_take_le i p.ss
            obtain ⟨rA, rc, L⟩ := r
            obtain ⟨m, hm⟩ : ∃ m, L.length = m := ⟨_, rfl⟩
            simp only [Rw3.val, hm] at l0 HO hol hli hll hsm
            have HSS := Lib.hid (encSs_succ hli)
            rw [hm] at HSS
            have HMm := Lib.hid hm
            have HSM := Lib.hid hsm
            have hbw : b < wx.heap.size := by omega
            obtain ⟨Q, hQ⟩ : ∃ Q, P3 ++ encSs (p.ss.take i) = Q := ⟨_, rfl⟩
            have hQl : Q.length ≤ 2200 := by rw [← hQ, List.length_append]; omega
            have HQ := Lib.hid hQ
            have HP4 := Lib.hid ((show KE w wx v' g Q by rw [← hQ]; exact HK.out).put (m : Int) (by omega) (by omega) (by omega))
            clear HK hr hli hm hok ho hsm hQ hsl htl
            go_wp2_with (fail)
            refine HP4.out.mono ?_
            rintro e w5 ⟨rfl, hk, _⟩
            obtain ⟨Q2, hQ2⟩ : ∃ Q2, Q ++ num (m : Int) = Q2 := ⟨_, rfl⟩
            rw [hQ2] at hk
            have hQ2l : Q2.length ≤ 2210 := by rw [← hQ2, List.length_append]; have := num_len (m : Int); omega
            have HQ2 := Lib.hid hQ2
            have K5 := Lib.hid (show KE w w5 v' g (Q2 ++ encOs (L.take 0)) by simpa [encOs] using hk)
            clear hk l0 hQ2
            go_wp2_with (fail)
            go_loopg [11, 54] m (fun gg3 s11 s54 wr => ∃ k : Nat, s54 = .int .i64 k ∧ k ≤ m ∧ m - k ≤ gg3 ∧ Aside (KE w wr v' g (Q2 ++ encOs (L.take k))))
            case atStart => exact ⟨0, rfl, by omega, by omega, K5.out⟩
            case round =>
              obtain ⟨k, rfl, hk, hgg3, HK⟩ := hrel
              by_cases hlt3 : k < m
              · have hltz3 : (k : Int) < (m : Int) := by omega
                have k0 : (0 : Int) ≤ (k : Int) := by omega
                obtain ⟨x, hx⟩ : ∃ x, L[k]? = some x := ⟨_, List.getElem?_eq_getElem (by rw [HMm.out]; exact hlt3)⟩
                obtain ⟨b3, off3, hA3, hb3, y0, y1, y2⟩ := own_at (HO.out wr HK.out.bel) hx
                subst hA3
                have hxs := HSM.out x (List.mem_of_getElem? hx)
                have hol2 := encOs_len (L.take k)
                have htl := List.length_take_le k L
                have HES := Lib.hid (encOs_succ hx)
                obtain ⟨x1, x2, x3⟩ := x
                simp only at y0 y1 y2 HES
                obtain ⟨wy, hwy⟩ : ∃ wy, wr.alloc (.cells #[.int .i64 x1, .int .i64 x2, .int .i64 x3] 68) = wy := ⟨_, rfl⟩
                have KY := Lib.hid (show KE w wy v' g (Q2 ++ encOs (L.take k)) by rw [← hwy]; exact HK.out.alloc _)
                have GY := Lib.hid (show IsV3 68 wy wr.heap.size (.int .i64 x1) (.int .i64 x2) (.int .i64 x3) by rw [← hwy]; exact alloc_new _ _)
                have hyl : wr.heap.size < wy.heap.size := blk_lt GY.out
                have hgr : g < wr.heap.size := by obtain ⟨_, _, q, _⟩ := HK.out.out; exact blk_lt q
                obtain ⟨⟨z0, z1, z2⟩, _⟩ := isv3_cells GY.out
                have hb3w : b3 < wr.heap.size := by have := HK.out.bel.size; omega
                have w1b : (-1 : Int) ≤ x3 ∧ x3 < 1099511627776 := hxs.2.2
                have hwrp : IntKind.i64.wrap (x3 + 1) = x3 + 1 := by rw [IntWalk.i64_in _ (by omega)]
                have hwrp2 : wrap64 (x3 + 1) = x3 + 1 := by rw [IntWalk.wrap64_in _ (by omega)]
                have HP5 := Lib.hid (KY.out.put x1 hxs.1.1 hxs.1.2 (by rw [List.length_append]; omega))
                have hxs2 := hxs.2.1
                have hTl : (Q2 ++ encOs (L.take k)).length ≤ 2500 := by rw [List.length_append]; omega
                clear hx hxs hol2 htl
                go_wp2_with (fail)
                refine HP5.out.mono ?_
                rintro e w6 ⟨rfl, hk6, ho6⟩
                have G6 := Lib.hid (ho6 _ _ _ _ GY.out)
                have hyl6 : wr.heap.size < w6.heap.size := blk_lt G6.out
                clear ho6
                have n1 := num_len x1
                have HP6 := Lib.hid (hk6.put x2 hxs2.1 hxs2.2 (by rw [List.length_append]; omega))
                clear hk6 y0 y1 y2 z0 z1 z2
                obtain ⟨⟨z0, z1, z2⟩, _⟩ := isv3_cells G6.out
                go_wp2_with (fail)
                refine HP6.out.mono ?_
                rintro e w7 ⟨rfl, hk7, ho7⟩
                have G7 := Lib.hid (ho7 _ _ _ _ G6.out)
                have hyl7 : wr.heap.size < w7.heap.size := blk_lt G7.out
                clear ho7
                have n2 := num_len x2
                have HP7 := Lib.hid (hk7.put (x3 + 1) (by omega) (by omega) (by simp only [List.length_append] at hTl ⊢; omega))
                clear hk7 z0 z1 z2
                obtain ⟨⟨z0, z1, z2⟩, _⟩ := isv3_cells G7.out
                go_wp2_with (fail)
                refine HP7.out.mono ?_
                rintro e w8 ⟨rfl, hk8, _⟩
                have K8 := Lib.hid (show KE w w8 v' g (Q2 ++ encOs (L.take (k + 1))) by rw [HES.out]; simpa only [List.append_assoc] using hk8)
                clear hk8 z0 z1 z2
                go_wp2_with (fail)
                go_roundg (m - (k + 1))
                case measure => omega
                case rel => exact ⟨k + 1, by go_num, by omega, by omega, K8.out⟩
              · obtain rfl : k = m := by omega
                have hltz3 : ¬ (k : Int) < (k : Int) := by omega
                have K9 := Lib.hid (show KE w wr v' g (P3 ++ encSs (p.ss.take (i + 1))) by
                  have := HK.out
                  rw [show L.take k = L from List.take_of_length_le (by rw [HMm.out]; exact Nat.le_refl _), ← HQ2.out, ← HQ.out] at this
                  rw [HSS.out]
                  simpa only [List.append_assoc] using this)
                go_wp2_with (fail)
                go_roundg (M - (i + 1))
                case measure => omega
                case rel => exact ⟨i + 1, by go_num, by omega, by omega, K9.out⟩
          · obtain rfl : i = M := by omega
            have hltz : ¬ (i : Int) < (i : Int) := by omega
            have hfin : P3 ++ encSs (p.ss.take i) = encP p := by
              rw [show p.ss.take i = p.ss from List.take_of_length_le (by rw [← HVL.out, HM.out]; exact Nat.le_refl _), ← HPP3.out, ← HPP2.out, ← HPP.out, ← HM.out, ← HN.out, HVL.out, HNN.out]
              have hver : ver = p.ver := by rw [← HP.out]; rfl
              rw [hver]
              unfold encP
              simp only [List.append_assoc, List.nil_append]
            have HKF := HK.out
            rw [hfin] at HKF
            have HBF := Lib.hid HKF.bel
            obtain ⟨A, c, hgv, how⟩ := HKF.out
            have gc : wx.cell? ⟨g, 0, none⟩ = some (.slice A (encP p).length c) := by rw [cell_of_row _ _ _ _ _ _ hgv]; rfl
            have hgx := blk_lt hgv
            have HOW := Lib.hid how
            have e1 := Lib.hid (show encB p = encP p by unfold encB; rw [if_pos HCKE.out])
            have e2 := Lib.hid (show encE p = 0 by unfold encE; rw [if_pos HCKE.out])
            obtain ⟨T, hT⟩ : ∃ T, (encP p).length = T := ⟨_, rfl⟩
            rw [hT] at gc
            have HT := Lib.hid hT
            clear hfin HKF hgv how hT HK
            go_wp2_with (fail)
            go_ret2
            refine ⟨A, c, by rw [e1.out, e2.out, HT.out]; rfl, ?_, HBF.out, fun e => ?_⟩
            · rw [e1.out]; exact own_base HOW.out (by omega)
            · obtain ⟨A2, c2, h1, h2, _⟩ := own_fit rfl HOW.out
              injection h1 with h1 _ h3
              rw [h3]; exact h2 (by rw [← h1]; exact e)
  · have hez : (ck == 0) = false := by simp [hk0]
    have hr2 : (ck != 0) = true := by simp [hk0]
    have HNZ := Lib.hid hk0
    clear hk0
    go_wp2_with (fail)
    go_ret2
    exact ret_bad (by rw [HCKE.out]; exact HNZ.out) HBB.out
end Go.Proofs.YtnjdondkggkfoaaGreat.kv
/-
  Bytes as a placement: the program's Decode.
-/
namespace Go.Proofs.YtnjdondkggkfoaaGreat.kv
open Go.ChangeShapes Go.WideShapes Go.ChangeAt Go.RowKit plain words ord mem uvs uvc pm

/-- the two variables of the reader: what is left, and whether all was well -/
structure DS (w : World) (gb gk B : Nat) (s : St) : Prop where
  rest : ∃ A n c, w.heap[gb]? = some (.cells #[.slice A n c] 36 (0, 0)) ∧ Bs w B A n s.1 ∧ n ≤ c ∧ c ≤ 9223372036854775807 ∧ n ≤ 1099511627776 ∧ B ≤ gb
  ok : w.heap[gk]? = some (.cells #[.bool s.2] 4 (0, 0))
  lok : B ≤ gk
theorem DS.ne {w : World} {gb gk B : Nat} {s : St} (h : DS w gb gk B s) : gb ≠ gk := by
  obtain ⟨A, n, c, h1, _⟩ := h.rest
  exact blk_type h1 h.ok (by decide)
theorem bs_cut2 {w : World} {B n b off c k : Nat} {bs : List UInt8} (h : Bs w B (some ⟨b, off, none⟩) n bs) (hk : k ≤ n) (hc : n ≤ c) : Bs w B (if c = k then some ⟨b, off, none⟩ else some ⟨b, off + k, none⟩) (n - k) (bs.drop k) := bs_cut h hk hc
theorem rd_no {s : St} (h : (ru s.1 0 0).2 = 0 ∨ 1099511627776 < (ru s.1 0 0).1) : rd s = (0, (s.1, false)) := by unfold rd; rw [if_pos h]
theorem rd_yes {s : St} (h1 : (ru s.1 0 0).2 ≠ 0) (h2 : (ru s.1 0 0).1 ≤ 1099511627776) : rd s = (((ru s.1 0 0).1 : Int), (s.1.drop (ru s.1 0 0).2, s.2)) := by unfold rd; rw [if_neg (by omega)]
theorem cset (w : World) (g : Nat) (u : Value) : Chg (fun k => k = g) w (w.setCell ⟨g, 0, none⟩ u) := Chg.setCell (S := fun k => k = g) (Chg.refl _ _) (p := ⟨g, 0, none⟩) (fun _ => rfl) u
/-- the flag is laid down .. -/
theorem DS.flag {w : World} {gb gk B : Nat} {s : St} (h : DS w gb gk B s) (hB : B ≤ w.heap.size) (x : Bool) : DS (w.setCell ⟨gk, 0, none⟩ (.bool x)) gb gk B (s.1, x) ∧ Chg (fun k => k = gb ∨ k = gk) w (w.setCell ⟨gk, 0, none⟩ (.bool x)) := by
  have hne := h.ne
  obtain ⟨⟨A, n, c, hg, hb, h1, h2, h3, h4⟩, hk, h5⟩ := h
  have hc := cset w gk (.bool x)
  refine ⟨⟨⟨A, n, c, hc.blk hg hne, hb.below (hc.below hB (fun k e => by omega)) (Nat.le_refl _), h1, h2, h3, h4⟩, ?_, h5⟩, hc.mono (fun _ _ e => .inr e)⟩
  have := heap_setCell_same w gk 0 _ _ (.bool x) hk
  simpa using this
/-- .. and what is left -/
theorem DS.left {w : World} {gb gk B : Nat} {s : St} (h : DS w gb gk B s) (hB : B ≤ w.heap.size) {A : Option Addr} {n c : Nat} {r : List UInt8} (hb : Bs w B A n r) (h1 : n ≤ c) (h2 : c ≤ 9223372036854775807) (h3 : n ≤ 1099511627776) : DS (w.setCell ⟨gb, 0, none⟩ (.slice A n c)) gb gk B (r, s.2) ∧ Chg (fun k => k = gb ∨ k = gk) w (w.setCell ⟨gb, 0, none⟩ (.slice A n c)) := by
  have hne := h.ne
  obtain ⟨⟨A0, n0, c0, hg, _, _, _, _, h4⟩, hk, h5⟩ := h
  have hc := cset w gb (.slice A n c)
  refine ⟨⟨⟨A, n, c, ?_, hb.below (hc.below hB (fun k e => by omega)) (Nat.le_refl _), h1, h2, h3, h4⟩, hc.blk hk (fun e => hne e.symm), h5⟩, hc.mono (fun _ _ e => .inl e)⟩
  have := heap_setCell_same w gb 0 _ _ (.slice A n c) hg
  simpa using this
def RetRd (w : World) (gb gk B : Nat) (s : St) (e : Ending) (w' : World) : Prop := e = .returned (.int .i64 (rd s).1) ∧ DS w' gb gk B (rd s).2 ∧ Chg (fun k => k = gb ∨ k = gk) w w'
set_option maxHeartbeats 1000000 in
theorem next_x (w : World) (gb gk B : Nat) (s : St) (h : DS w gb gk B s) (hB : B ≤ w.heap.size) :
    Calls Tryz.prog 79 #[.pointer (some ⟨gb, 0, none⟩), .pointer (some ⟨gk, 0, none⟩)] w (RetRd w gb gk B s) := by
  have hne := h.ne
  have HDS := Lib.hid h
  obtain ⟨⟨A, n, c, hg, hb, hnc, hc, hn, hgB⟩, hk, hkB⟩ := h
  have c0 : w.cell? ⟨gb, 0, none⟩ = some (.slice A n c) := by rw [cell_of_row _ _ _ _ _ _ hg]; rfl
  have f0 := frozen_of_row w gb 0 _ _ hg
  have k0 : w.cell? ⟨gk, 0, none⟩ = some (.bool s.2) := by rw [cell_of_row _ _ _ _ _ _ hk]; rfl
  have kf := frozen_of_row w gk 0 _ _ hk
  have hgl := blk_lt hg
  have hkl := blk_lt hk
  have HR := Lib.hid (readuv_x w B n c A s.1 hb hn)
  obtain ⟨r, hr⟩ : ∃ r, ru s.1 0 0 = r := ⟨_, rfl⟩
  rw [hr] at HR
  have HRE := Lib.hid hr
  have HG := Lib.hid hg
  have HK := Lib.hid hk
  have HBS := Lib.hid hb
  obtain ⟨v, k⟩ := r
  simp only [RetNum] at HR
  clear hg hk hb hr
  by_cases h0 : k = 0
  · subst h0
    have HD := Lib.hid (rd_no (s := s) (.inl (by rw [HRE.out])))
    go_enter Tryz.func79, Tryz.ntmps79
    go_wp2_with (fail)
    refine HR.out.mono ?_
    rintro e w' ⟨rfl, rfl⟩
    go_wp2_with (fail)
    go_ret
    obtain ⟨t1, t2⟩ := HDS.out.flag hB false
    exact ⟨by rw [HD.out]; rfl, by rw [HD.out]; exact t1, t2⟩
  · by_cases hv : 1099511627776 < v
    · have HD := Lib.hid (rd_no (s := s) (.inr (by rw [HRE.out]; exact hv)))
      have hvi : (1099511627776 : Int) < (v : Int) := by omega
      have hki : ((k : Int) == 0) = false := by simp; omega
      go_enter Tryz.func79, Tryz.ntmps79
      go_wp2_with (fail)
      refine HR.out.mono ?_
      rintro e w' ⟨rfl, rfl⟩
      go_wp2_with (fail)
      go_ret
      obtain ⟨t1, t2⟩ := HDS.out.flag hB false
      exact ⟨by rw [HD.out]; rfl, by rw [HD.out]; exact t1, t2⟩
    · have HD := Lib.hid (rd_yes (s := s) (by rw [HRE.out]; exact h0) (by rw [HRE.out]; omega))
      have hvi : ¬ (1099511627776 : Int) < (v : Int) := by omega
      have hki : ((k : Int) == 0) = false := by simp; omega
      have hkn : k ≤ n := by
        obtain ⟨_, h2, _⟩ := ru_back0 s.1 v k HRE.out h0
        rw [HBS.out.len_] at h2
        exact h2
      obtain ⟨b, off, hA, hbB⟩ := Rd.some_of HBS.out (n := 0) (by omega)
      subst hA
      go_enter Tryz.func79, Tryz.ntmps79
      go_wp2_with (fail)
      refine HR.out.mono ?_
      rintro e w' ⟨rfl, rfl⟩
      go_wp2_with (fail)
      · go_ret
        obtain ⟨t1, t2⟩ := HDS.out.left hB (A := some ⟨b, off, none⟩) (n := n - k) (c := 0) (by have := bs_cut2 HBS.out hkn hnc; rwa [if_pos (by assumption)] at this) (by omega) (by omega) (by omega)
        exact ⟨by rw [HD.out, HRE.out]; rfl, by rw [HD.out, HRE.out]; exact t1, t2⟩
      · go_ret
        obtain ⟨t1, t2⟩ := HDS.out.left hB (A := some ⟨b, off + k, none⟩) (n := n - k) (c := c - k) (by have := bs_cut2 HBS.out hkn hnc; rwa [if_neg (by assumption)] at this) (by omega) (by omega) (by omega)
        exact ⟨by rw [HD.out, HRE.out]; rfl, by rw [HD.out, HRE.out]; exact t1, t2⟩
end Go.Proofs.YtnjdondkggkfoaaGreat.kv
/-
  Bytes as a placement: the program's Decode, its loops.
-/
namespace Go.Proofs.YtnjdondkggkfoaaGreat.kv
open Go.ChangeShapes Go.WideShapes Go.ChangeAt Go.RowKit Go.Shelf plain words ord mem uvs uvc pm

/-- a new row laid behind the others -/
theorem _root_.Go.Proofs.YtnjdondkggkfoaaGreat.pm.WD.push2 {wr wx w7 : World} {B pb c2 : Nat} {v : PV} {r' : Rw3} {A' : Option Addr} (h : WD wr B pb v) (hx : WD wx B pb v) (hr : Ow OE wx wr.heap.size r'.val r'.l.length r'.l)
    (hs : Ow SE w7 B (.slice A' (v.rs.length + 1) c2) (v.rs.length + 1) (v.rs ++ [r'])) (hg : wx.grownBy w7 (Value.slice v.sA v.rs.length v.sc).ownBlock) :
    WD (w7.setCell ⟨pb, 2, none⟩ (.slice A' (v.rs.length + 1) c2)) B pb { v with sA := A', sc := c2, rs := v.rs ++ [r'] } := by
  have hc : Chg (fun k => (Value.slice v.sA v.rs.length v.sc).ownBlock = some k) wx w7 := (Chg.refl _ wx).grown hg (fun k hk _ => hk)
  have hvar : pm.Boxed w7 pb v := hc.blk hx.wp.var fun e => by
    obtain ⟨c, hcur⟩ := hx.wp.s.type e
    exact blk_type hcur hx.wp.var (by decide) rfl
  have hc2 : Chg (fun b => b = pb) w7 (w7.setCell ⟨pb, 2, none⟩ (.slice A' (v.rs.length + 1) c2)) := chg_set1 _
  refine ⟨⟨h.wp.le, ?_, ow_other (ow_grown hx.wp.n hx.wp.s hg (by decide)) hc2 hvar (by decide), ?_, fun q hq => ?_⟩, ?_⟩
  · have := heap_setCell_same w7 pb 2 _ _ (.slice A' (v.rs.length + 1) c2) hvar
    simpa [pm.Boxed, IsV3] using this
  · have := ow_other hs hc2 hvar (by decide)
    simpa using this
  · rcases List.mem_append.1 hq with hq | hq
    · exact ow_other (ow_grown (hx.wp.each q hq) hx.wp.s hg (by decide)) hc2 hvar (by decide)
    · rw [List.mem_singleton] at hq
      subst hq
      exact ow_other (ow_grown (hr.base (by have := h.wp.le; have := h.wp.lt; omega)) hx.wp.s hg (by decide)) hc2 hvar (by decide)
  · have old : ∀ r ∈ v.rs, r.A = r'.A → r.A = none := fun r hq e => by
      rcases addr_of (h.wp.each r hq) with h0 | ⟨g, h1, _, h2⟩
      · exact h0
      · rcases addr_of hr with k0 | ⟨g', k1, k2, _⟩
        · rw [e, k0]
        · rw [h1, k1] at e; cases e; omega
    intro i j x y hij hxx hyy he
    simp only at hxx hyy
    rcases Nat.lt_or_ge i v.rs.length with h1 | h1
    · rw [List.getElem?_append_left h1] at hxx
      rcases Nat.lt_or_ge j v.rs.length with h2 | h2
      · rw [List.getElem?_append_left h2] at hyy
        exact h.apart i j x y hij hxx hyy he
      · rw [List.getElem?_append_right h2] at hyy
        have : y = r' := by
          rcases hj : j - v.rs.length with _ | k
          · rw [hj] at hyy; simpa using hyy.symm
          · rw [hj] at hyy; simp at hyy
        subst this
        exact old x (List.mem_of_getElem? hxx) he
    · rw [List.getElem?_append_right h1] at hxx
      have hxr : x = r' ∧ i = v.rs.length := by
        rcases hj : i - v.rs.length with _ | k
        · rw [hj] at hxx; exact ⟨by simpa using hxx.symm, by omega⟩
        · rw [hj] at hxx; simp at hxx
      obtain ⟨rfl, hi⟩ := hxr
      rcases Nat.lt_or_ge j v.rs.length with h2 | h2
      · rw [List.getElem?_append_left h2] at hyy
        have := old y (List.mem_of_getElem? hyy) he.symm
        rw [he, this]
      · rw [List.getElem?_append_right h2] at hyy
        rcases hj : j - v.rs.length with _ | k
        · omega
        · rw [hj] at hyy; simp at hyy

theorem wd_chg {S : Nat → Prop} {w w' : World} {B pb : Nat} {v : PV} (h : WD w B pb v) (hc : Chg S w w') (hS : ∀ k, S k → k < B) : WD w' B pb v := by
  have no : ∀ k, B ≤ k → ¬ S k := fun k hk hs => by have := hS k hs; omega
  exact ⟨⟨h.wp.le, hc.blk h.wp.var (no _ h.wp.le), h.wp.n.chg hc (fun g hg => no g (h.wp.n.lt g hg).1), h.wp.s.chg hc (fun g hg => no g (h.wp.s.lt g hg).1), fun r hr => (h.wp.each r hr).chg hc (fun g hg => no g ((h.wp.each r hr).lt g hg).1)⟩, h.apart⟩
theorem ow_grownN {α : Type} {E : El α} {w w' : World} {B C n m : Nat} {v vs : Value} {l : List α} {rs : List Int} (h : Ow E w B v n l) (hs : Ow NE w C vs m rs) (hg : w.grownBy w' vs.ownBlock) (hne : E.e ≠ 3) : Ow E w' B v n l := by
  have hc : Chg (fun k => vs.ownBlock = some k) w w' := (Chg.refl _ w).grown hg (fun k hk _ => hk)
  refine h.chg hc fun k hk he => ?_
  obtain ⟨c1, h1⟩ := h.type hk
  obtain ⟨c2, h2⟩ := hs.type he
  exact blk_type h1 h2 hne rfl
/-- a node laid behind the others -/
theorem wd_appN {w w' : World} {B pb m c : Nat} {A : Option Addr} {v : PV} {l : List Int} (h : WD w B pb v) (hg : w.grownBy w' (Value.slice v.nA v.nodes.length v.nc).ownBlock)
    (hr : Ow NE w' B (.slice A m c) m l) : WD (w'.setCell ⟨pb, 1, none⟩ (.slice A m c)) B pb { v with nA := A, nc := c, nodes := l } ∧ pm.Boxed w' pb v ∧ Chg (fun k => B ≤ k) w (w'.setCell ⟨pb, 1, none⟩ (.slice A m c)) := by
  have hc : Chg (fun k => (Value.slice v.nA v.nodes.length v.nc).ownBlock = some k) w w' := (Chg.refl _ w).grown hg (fun k hk _ => hk)
  have hvar : pm.Boxed w' pb v := hc.blk h.wp.var fun e => by
    obtain ⟨c, hcur⟩ := h.wp.n.type e
    exact blk_type hcur h.wp.var (by decide) rfl
  have hc2 : Chg (fun b => b = pb) w' (w'.setCell ⟨pb, 1, none⟩ (.slice A m c)) := chg_set1 _
  have hm := hr.1
  refine ⟨⟨⟨h.wp.le, ?_, ?_, ow_other (ow_grownN h.wp.s h.wp.n hg (by decide)) hc2 hvar (by decide), fun q hq => ow_other (ow_grownN (h.wp.each q hq) h.wp.n hg (by decide)) hc2 hvar (by decide)⟩, h.apart⟩, hvar, ?_⟩
  · have := heap_setCell_same w' pb 1 _ _ (.slice A m c) hvar
    simpa [pm.Boxed, IsV3, hm] using this
  · simp only [hm]
    exact ow_other hr hc2 hvar (by decide)
  · exact (hc.mono (S' := fun k => B ≤ k) (fun k _ e => (h.wp.n.lt k e).1)).trans (hc2.mono (S' := fun k => B ≤ k) (fun k _ e => by rw [e]; exact h.wp.le)) (fun _ _ e => e)
theorem DS.chg {S : Nat → Prop} {w w' : World} {gb gk B : Nat} {s : St} (h : DS w gb gk B s) (hc : Chg S w w') (hB : B ≤ w.heap.size) (h1 : ¬ S gb) (h2 : ¬ S gk) (h3 : ∀ k, S k → B ≤ k) : DS w' gb gk B s := by
  obtain ⟨⟨A, n, c, hg, hb, k1, k2, k3, k4⟩, hk, k5⟩ := h
  exact ⟨⟨A, n, c, hc.blk hg h1, hb.below (hc.below hB h3) (Nat.le_refl _), k1, k2, k3, k4⟩, hc.blk hk h2, k5⟩
/-- the reader's variables, and the placement that is made in the variable pb -/
structure DI (w4 w : World) (gb gk B0 D pb : Nat) (s : St) (v : PV) : Prop where
  ds : DS w gb gk B0 s
  wd : WD w D pb v
  ch : Chg (fun k => k = gb ∨ k = gk ∨ D ≤ k) w4 w
  lb : gb < D
  lk : gk < D
  b0 : B0 ≤ w4.heap.size
  ll : B0 ≤ gb ∧ B0 ≤ gk
section
variable {w4 w w' : World} {gb gk B0 D pb : Nat} {s : St} {v : PV}
theorem DI.b1 (h : DI w4 w gb gk B0 D pb s v) : B0 ≤ w.heap.size := Nat.le_trans h.b0 h.ch.size
theorem DI.step {v' : PV} (h : DI w4 w gb gk B0 D pb s v) (hc : Chg (fun k => D ≤ k) w w') (hw : WD w' D pb v') : DI w4 w' gb gk B0 D pb s v' := by
  have h1 := h.lb; have h2 := h.lk; have h3 := h.ll
  exact ⟨h.ds.chg hc h.b1 (by omega) (by omega) (fun k hk => by omega), hw, h.ch.trans hc (fun _ _ e => .inr (.inr e)), h.lb, h.lk, h.b0, h.ll⟩
theorem DI.below (h : DI w4 w gb gk B0 D pb s v) (hb : Below w.heap.size w w') : DI w4 w' gb gk B0 D pb s v :=
  h.step ((Chg.of_below hb).mono (fun _ _ e => e.elim)) (h.wd.below hb (Nat.le_refl _))
theorem DI.drew (h : DI w4 w gb gk B0 D pb s v) : DI w4 w.drew gb gk B0 D pb s v := h.below (Below.refl _ _).drew
theorem DI.next (h : DI w4 w gb gk B0 D pb s v) : Calls Tryz.prog 79 #[.pointer (some ⟨gb, 0, none⟩), .pointer (some ⟨gk, 0, none⟩)] w fun e w' => e = .returned (.int .i64 (rd s).1) ∧ DI w4 w' gb gk B0 D pb (rd s).2 v ∧ Chg (fun k => k = gb ∨ k = gk) w w' := by
  refine (next_x w gb gk B0 s h.ds h.b1).mono fun e w' hr => ?_
  obtain ⟨h1, h2, h3⟩ := hr
  have hb := h.lb; have hk := h.lk
  exact ⟨h1, ⟨h2, wd_chg h.wd h3 (fun k e => by rcases e with e | e <;> omega), h.ch.trans h3 (fun k _ e => e.elim .inl (fun e => .inr (.inl e))), h.lb, h.lk, h.b0, h.ll⟩, h3⟩
theorem DI.flag (h : DI w4 w gb gk B0 D pb s v) : w.cell? ⟨gk, 0, none⟩ = some (.bool s.2) := by rw [cell_of_row _ _ _ _ _ _ h.ds.ok]; rfl
end
theorem rd_nat (s : St) : (rd s).1 = (((rd s).1.toNat : Nat) : Int) := by have := rd_range s; omega
end Go.Proofs.YtnjdondkggkfoaaGreat.kv
/-
  Bytes as a placement: the program's Decode.
-/
namespace Go.Proofs.YtnjdondkggkfoaaGreat.kv
open Go.ChangeShapes Go.WideShapes Go.ChangeAt Go.RowKit Go.Shelf plain words ord mem uvs uvc pm

def GoodB (b : List UInt8) : Prop := (s5 b).2 = true ∧ (s5 b).1 = [] ∧ chk (rdP b) = 0
open Classical in
noncomputable def decE (b : List UInt8) : Int := if GoodB b then 0 else 50
open Classical in
noncomputable def decP (b : List UInt8) : Pl := if GoodB b then rdP b else zeroPl
def RetDec (w : World) (b : List UInt8) (e : Ending) (w' : World) : Prop := ∃ v : PV, e = .returned (.tuple #[v.val, .int .i64 (decE b)]) ∧ v.pl = decP b ∧ OD w' w.heap.size v ∧ Below w.heap.size w w'
/-- the loops, step by step -/
structure LN (N : Nat) (s0 : St) (i : Nat) (s : St) (l : List Int) : Prop where
  eq : rdN N s0 = (l ++ (rdN (N - i) s).1, (rdN (N - i) s).2)
  len : l.length = i
  le : i ≤ N
theorem LN.zero (N : Nat) (s0 : St) : LN N s0 0 s0 [] := ⟨by simp, rfl, Nat.zero_le _⟩
theorem LN.succ {N i : Nat} {s0 : St} {r : List UInt8} {l : List Int} (h : LN N s0 i (r, true) l) (hi : i < N) : LN N s0 (i + 1) (rd (r, true)).2 (l ++ [(rd (r, true)).1]) := by
  refine ⟨?_, by simp [h.len], hi⟩
  have e : N - i = (N - (i + 1)) + 1 := by omega
  have h1 := h.eq
  rw [e] at h1
  simp only [rdN, if_true] at h1
  rw [h1]; simp
theorem LN.done {N i : Nat} {s0 s : St} {l : List Int} (h : LN N s0 i s l) (hd : s.2 = false ∨ ¬ i < N) : rdN N s0 = (l, s) := by
  have h1 := h.eq
  have h2 := h.le
  rcases hd with hd | hd
  · rw [rdN_bad hd] at h1; simpa using h1
  · rw [show N - i = 0 by omega] at h1; simpa [rdN] using h1
structure LO (N : Nat) (s0 : St) (i : Nat) (s : St) (l : List O) : Prop where
  eq : rdOs N s0 = (l ++ (rdOs (N - i) s).1, (rdOs (N - i) s).2)
  len : l.length = i
  le : i ≤ N
theorem LO.zero (N : Nat) (s0 : St) : LO N s0 0 s0 [] := ⟨by simp, rfl, Nat.zero_le _⟩
theorem LO.succ {N i : Nat} {s0 : St} {r : List UInt8} {l : List O} (h : LO N s0 i (r, true) l) (hi : i < N) : LO N s0 (i + 1) (rdO (r, true)).2 (l ++ [(rdO (r, true)).1]) := by
  refine ⟨?_, by simp [h.len], hi⟩
  have e : N - i = (N - (i + 1)) + 1 := by omega
  have h1 := h.eq
  rw [e] at h1
  simp only [rdOs, if_true] at h1
  rw [h1]; simp
theorem LO.done {N i : Nat} {s0 s : St} {l : List O} (h : LO N s0 i s l) (hd : s.2 = false ∨ ¬ i < N) : rdOs N s0 = (l, s) := by
  have h1 := h.eq
  have h2 := h.le
  rcases hd with hd | hd
  · rw [rdOs_bad hd] at h1; simpa using h1
  · rw [show N - i = 0 by omega] at h1; simpa [rdOs] using h1
structure LS (N : Nat) (s0 : St) (i : Nat) (s : St) (l : List (List O)) : Prop where
  eq : rdSs N s0 = (l ++ (rdSs (N - i) s).1, (rdSs (N - i) s).2)
  len : l.length = i
  le : i ≤ N
theorem LS.zero (N : Nat) (s0 : St) : LS N s0 0 s0 [] := ⟨by simp, rfl, Nat.zero_le _⟩
theorem LS.succ {N i : Nat} {s0 : St} {r : List UInt8} {l : List (List O)} {q : List O} {s' : St} (h : LS N s0 i (r, true) l) (hi : i < N) (hq : rdS (r, true) = (q, s')) : LS N s0 (i + 1) s' (l ++ [q]) := by
  refine ⟨?_, by simp [h.len], hi⟩
  have e : N - i = (N - (i + 1)) + 1 := by omega
  have h1 := h.eq
  rw [e] at h1
  simp only [rdSs, if_true, hq] at h1
  rw [h1]; simp
theorem LS.done {N i : Nat} {s0 s : St} {l : List (List O)} (h : LS N s0 i s l) (hd : s.2 = false ∨ ¬ i < N) : rdSs N s0 = (l, s) := by
  have h1 := h.eq
  have h2 := h.le
  rcases hd with hd | hd
  · rw [rdSs_bad hd] at h1; simpa using h1
  · rw [show N - i = 0 by omega] at h1; simpa [rdSs] using h1
/-- within a round: the reader's variables; what lay when the round began stays, but for them -/
structure DJ (wx w : World) (gb gk B0 : Nat) (s : St) : Prop where
  ds : DS w gb gk B0 s
  ch : Chg (fun k => k = gb ∨ k = gk ∨ wx.heap.size ≤ k) wx w
  lb : gb < wx.heap.size
  lk : gk < wx.heap.size
  b0 : B0 ≤ wx.heap.size
  ll : B0 ≤ gb ∧ B0 ≤ gk
section
variable {w4 wx w w' : World} {gb gk B0 D pb : Nat} {s : St} {v : PV}
theorem DJ.b1 (h : DJ wx w gb gk B0 s) : B0 ≤ w.heap.size := Nat.le_trans h.b0 h.ch.size
theorem DI.dj (h : DI w4 w gb gk B0 D pb s v) : DJ w w gb gk B0 s := by
  have h1 := h.lb; have h2 := h.lk; have h3 := h.wd.wp.le; have h4 := h.wd.wp.lt
  exact ⟨h.ds, Chg.refl _ _, by omega, by omega, h.b1, h.ll⟩
theorem DJ.step (h : DJ wx w gb gk B0 s) (hc : Chg (fun k => wx.heap.size ≤ k) w w') : DJ wx w' gb gk B0 s := by
  have h1 := h.lb; have h2 := h.lk; have h3 := h.b0
  exact ⟨h.ds.chg hc h.b1 (by omega) (by omega) (fun k hk => by omega), h.ch.trans hc (fun _ _ e => .inr (.inr e)), h.lb, h.lk, h.b0, h.ll⟩
theorem DJ.below (h : DJ wx w gb gk B0 s) (hb : Below w.heap.size w w') : DJ wx w' gb gk B0 s := h.step ((Chg.of_below hb).mono (fun _ _ e => e.elim))
theorem DJ.next (h : DJ wx w gb gk B0 s) : Calls Tryz.prog 79 #[.pointer (some ⟨gb, 0, none⟩), .pointer (some ⟨gk, 0, none⟩)] w fun e w' => e = .returned (.int .i64 (rd s).1) ∧ DJ wx w' gb gk B0 (rd s).2 ∧ Chg (fun k => k = gb ∨ k = gk) w w' := by
  refine (next_x w gb gk B0 s h.ds h.b1).mono fun e w' hr => ?_
  obtain ⟨h1, h2, h3⟩ := hr
  exact ⟨h1, ⟨h2, h.ch.trans h3 (fun k _ e => e.elim .inl (fun e => .inr (.inl e))), h.lb, h.lk, h.b0, h.ll⟩, h3⟩
theorem DJ.flag (h : DJ wx w gb gk B0 s) : w.cell? ⟨gk, 0, none⟩ = some (.bool s.2) := by rw [cell_of_row _ _ _ _ _ _ h.ds.ok]; rfl
/-- what was made ahead of the round stays -/
theorem DJ.wd (h : DJ wx w gb gk B0 s) (hw : WD wx D pb v) (h1 : gb < D) (h2 : gk < D) : WD w D pb v := by
  have no : ∀ k, D ≤ k → k < wx.heap.size → ¬ (k = gb ∨ k = gk ∨ wx.heap.size ≤ k) := fun k hk hs e => by omega
  have hc := h.ch
  exact ⟨⟨hw.wp.le, hc.blk hw.wp.var (no _ hw.wp.le hw.wp.lt), hw.wp.n.chg hc (fun g hg => no g (hw.wp.n.lt g hg).1 (hw.wp.n.lt g hg).2), hw.wp.s.chg hc (fun g hg => no g (hw.wp.s.lt g hg).1 (hw.wp.s.lt g hg).2), fun r hr => (hw.wp.each r hr).chg hc (fun g hg => no g ((hw.wp.each r hr).lt g hg).1 ((hw.wp.each r hr).lt g hg).2)⟩, hw.apart⟩
theorem DJ.di {s0 : St} (h : DJ wx w gb gk B0 s) (hi : DI w4 wx gb gk B0 D pb s0 v) : DI w4 w gb gk B0 D pb s v := by
  have h1 := hi.lb; have h2 := hi.lk; have h3 := hi.wd.wp.le; have h4 := hi.wd.wp.lt
  exact ⟨h.ds, h.wd hi.wd hi.lb hi.lk, hi.ch.trans h.ch (fun k _ e => by omega), hi.lb, hi.lk, hi.b0, hi.ll⟩
/-- a row laid behind the others -/
theorem DJ.push {s0 : St} {r' : Rw3} {A' : Option Addr} {c2 : Nat} (h : DJ wx w gb gk B0 s) (hi : DI w4 wx gb gk B0 D pb s0 v) (hr : Ow OE w wx.heap.size r'.val r'.l.length r'.l)
    (hs : Ow SE w' D (.slice A' (v.rs.length + 1) c2) (v.rs.length + 1) (v.rs ++ [r'])) (hg : w.grownBy w' (Value.slice v.sA v.rs.length v.sc).ownBlock) :
    DI w4 (w'.setCell ⟨pb, 2, none⟩ (.slice A' (v.rs.length + 1) c2)) gb gk B0 D pb s { v with sA := A', sc := c2, rs := v.rs ++ [r'] } := by
  have hd := h.di hi
  have hw := WD.push2 hi.wd hd.wd hr hs hg
  have hvar : pm.Boxed w' pb v := var_grown hd.wd hg
  have hc : Chg (fun k => D ≤ k) w w' := (Chg.refl _ w).grown hg (fun k hk _ => (hd.wd.wp.s.lt k hk).1)
  have hc2 : Chg (fun k => D ≤ k) w (w'.setCell ⟨pb, 2, none⟩ (.slice A' (v.rs.length + 1) c2)) := hc.setCell (p := ⟨pb, 2, none⟩) (fun _ => hd.wd.wp.le) _
  exact hd.step hc2 hw
end
theorem ret_bad_dec {w w' : World} {b : List UInt8} (h : ¬ GoodB b) (hb : Below w.heap.size w w') : RetDec w b (.returned (.tuple #[.agg #[.int .i64 0, .slice none 0 0, .slice none 0 0], .int .i64 50])) w' := by
  have e1 : decE b = 50 := by unfold decE; rw [if_neg h]
  have e2 : decP b = zeroPl := by unfold decP; rw [if_neg h]
  exact ⟨noPV, by rw [e1]; rfl, by rw [e2]; rfl, noPV_od _ _, hb⟩
theorem bad3 {b : List UInt8} (h : (s3 b).2 = false) : ¬ GoodB b := fun hg => by
  have h4 : (s4 b).2 = false := rd_bad h
  have h5 : s5 b = s4 b := by unfold s5; rw [rdSs_bad h4]
  have := hg.1
  rw [h5, h4] at this; cases this
theorem wd_new {w : World} {B : Nat} (z : Int) (hB : B ≤ w.heap.size) : WD (w.alloc (.cells #[.int .i64 z, .slice none 0 0, .slice none 0 0] 25)) B w.heap.size ⟨z, none, 0, [], none, 0, []⟩ :=
  ⟨⟨hB, alloc_new _ _, Ow.nil _ _, Ow.nil _ _, fun r hr => by simp at hr⟩, fun i j r s _ hr => by simp at hr⟩
set_option maxHeartbeats 4000000 in
set_option maxRecDepth 100000 in
theorem decode_x (w : World) (B n c : Nat) (A : Option Addr) (b : List UInt8) (h : Bs w B A n b) (hB : B ≤ w.heap.size) (hnc : n ≤ c) (hc : c ≤ 9223372036854775807) (hn : n ≤ 1099511627776) :
    Calls Tryz.prog 44 #[.slice A n c] w (RetDec w b) := by
  obtain ⟨w3, hw3⟩ : ∃ w3, ((w.alloc (.cells #[.slice A n c] 36)).alloc (.cells #[.int .i64 0, .slice none 0 0, .slice none 0 0] 25)).alloc (.cells #[.bool true] 4) = w3 := ⟨_, rfl⟩
  have hsz3 : w3.heap.size = w.heap.size + 3 := by rw [← hw3]; simp
  have hb3 : Below w.heap.size w w3 := by rw [← hw3]; exact ((below_al _ _).alloc (by simp) _).alloc (by simp; omega) _
  have gb3 : w3.heap[w.heap.size]? = some (.cells #[.slice A n c] 36 (0, 0)) := by rw [← hw3]; exact alloc_old _ (alloc_old _ (alloc_new _ _))
  have gr3 : IsV3 25 w3 (w.heap.size + 1) (.int .i64 0) (.slice none 0 0) (.slice none 0 0) := by
    rw [← hw3]
    have := alloc_new (w.alloc (.cells #[.slice A n c] 36)) (.cells #[.int .i64 0, .slice none 0 0, .slice none 0 0] 25)
    rw [World.size_alloc] at this
    exact alloc_old _ this
  have gk3 : w3.heap[w.heap.size + 1 + 1]? = some (.cells #[.bool true] 4 (0, 0)) := by
    rw [← hw3]
    have := alloc_new ((w.alloc (.cells #[.slice A n c] 36)).alloc (.cells #[.int .i64 0, .slice none 0 0, .slice none 0 0] 25)) (.cells #[.bool true] 4)
    rwa [World.size_alloc, World.size_alloc] at this
  have hds : DS w3 w.heap.size (w.heap.size + 1 + 1) B (b, true) := ⟨⟨A, n, c, gb3, h.below hb3 hB, hnc, hc, hn, hB⟩, gk3, by omega⟩
  have HN0 := Lib.hid (next_x w3 w.heap.size (w.heap.size + 1 + 1) B (b, true) hds (by omega))
  have HB3 := Lib.hid hb3
  have GR3 := Lib.hid gr3
  have HW3 := Lib.hid hw3
  have HFIN := Lib.hid (fun (u : World) (hu : Chg (fun k => k = w.heap.size ∨ k = w.heap.size + 1 + 1 ∨ w.heap.size + 3 ≤ k) w3 u) => And.intro (hb3.trans (hu.below (B := w.heap.size) (by omega) (fun k e => by omega))) (hu.blk gr3 (by omega)))
  clear hw3 hb3 gb3 gr3 gk3 hds h
  go_enter Tryz.func44, Tryz.ntmps44
  go_wp2_with (fail)
  rw [HW3.out]
  refine HN0.out.mono ?_
  rintro e w4 ⟨rfl, hd4, hc4⟩
  obtain ⟨z0, hz0⟩ : ∃ z0, (rd (b, true)).1 = z0 := ⟨_, rfl⟩
  rw [hz0]
  have hs4 := hc4.size
  obtain ⟨w5, hw5⟩ : ∃ w5, w4.alloc (.cells #[.int .i64 z0, .slice none 0 0, .slice none 0 0] 25) = w5 := ⟨_, rfl⟩
  obtain ⟨pb, hpb⟩ : ∃ pb, w4.heap.size = pb := ⟨_, rfl⟩
  have hpb3 : w.heap.size + 3 ≤ pb := by omega
  have K5 := Lib.hid (show DI w3 w5 w.heap.size (w.heap.size + 1 + 1) B (w.heap.size + 3) pb (s1 b) ⟨z0, none, 0, [], none, 0, []⟩ by
    have hwd := wd_new (w := w4) (B := w.heap.size + 3) z0 (by omega)
    rw [hw5, hpb] at hwd
    have hal : Below w4.heap.size w4 w5 := by rw [← hw5]; exact below_al _ _
    refine ⟨hd4.chg (Chg.of_below hal) (by omega) (fun e => e) (fun e => e) (fun k e => e.elim), hwd, ?_, by omega, by omega, by omega, by omega⟩
    exact (hc4.mono (S' := fun k => k = w.heap.size ∨ k = w.heap.size + 1 + 1 ∨ w.heap.size + 3 ≤ k) (fun k _ e => e.elim .inl (fun e => .inr (.inl e)))).trans (Chg.of_below hal) (fun _ _ e => e.elim))
  have HZ0 := Lib.hid hz0
  have HP1 := Lib.hid K5.out.next
  have HPB := Lib.hid hpb
  have HW5 := Lib.hid hw5
  clear hd4 hc4 hz0 hpb hw5
  go_wp2_with (fail)
  rw [HW5.out]
  simp only [HPB.out]
  refine HP1.out.mono ?_
  rintro e w6 ⟨rfl, hk6, _⟩
  have K6 := Lib.hid (show DI w3 w6 w.heap.size (w.heap.size + 1 + 1) B (w.heap.size + 3) pb (s2 b) ⟨z0, none, 0, [], none, 0, []⟩ from hk6)
  clear hk6
  have hr2 := rd_range (s1 b)
  obtain ⟨N1, hN1⟩ : ∃ N1 : Nat, nN b = N1 := ⟨_, rfl⟩
  have he2 : (rd (s1 b)).1 = (N1 : Int) := by rw [← hN1]; exact rd_nat _
  have hN1b : N1 ≤ 1099511627776 := by omega
  rw [he2]
  have HN1 := Lib.hid hN1
  clear he2 hr2 hN1
  go_wp2_with (fail)
  go_loopg [7] N1 (fun gg s7 wr => ∃ (i : Nat) (s : St) (l : List Int) (A : Option Addr) (c : Nat), s7 = .int .i64 i ∧ N1 - i ≤ gg ∧ i ≤ N1 ∧ Aside (LN N1 (s2 b) i s l) ∧ Aside (DI w3 wr w.heap.size (w.heap.size + 1 + 1) B (w.heap.size + 3) pb s ⟨z0, A, c, l, none, 0, []⟩))
  case atStart => exact ⟨0, _, [], none, 0, rfl, by omega, by omega, LN.zero _ _, K6.out⟩
  case round =>
    obtain ⟨i, s, l, A1, c1, rfl, hg, hi, HL, HK⟩ := hrel
    obtain ⟨r, ok⟩ := s
    have k0 := HK.out.flag
    have hkr : w.heap.size + 1 + 1 < wr.heap.size := World.block_lt_of_cell? wr _ k0
    simp only at k0
    by_cases hgo : ok = true ∧ i < N1
    · obtain ⟨rfl, hlt⟩ := hgo
      have hltz : (i : Int) < (N1 : Int) := by omega
      have hli := HL.out.len
      have hwd := HK.out.wd
      obtain ⟨⟨_, d1, _⟩, _, f1, _⟩ := isv3_cells hwd.wp.var
      have hpl := hwd.wp.lt
      simp only [hli] at d1
      have HLI := Lib.hid hli
      obtain ⟨z, hz⟩ : ∃ z, (rd (r, true)).1 = z := ⟨_, rfl⟩
      have HS := Lib.hid (HL.out.succ hlt)
      rw [hz] at HS
      have HP2 := Lib.hid (HK.out.drew.next)
      rw [hz] at HP2
      have q0 := Wf.at_ (F := fun k => k = w.heap.size ∨ k = w.heap.size + 1 + 1) d1 (fun e => by simp only at e; omega)
      clear hwd hli hz
      go_wp2_with (fail)
      refine fr.wp_region_tree (F := fun k => k = w.heap.size ∨ k = w.heap.size + 1 + 1) (.reads [0, 1, 2] (.one 3 false (.one 4 false (.one 5 true (.reads [6] (.one 7 true .stop)))))) (by kernel_rfl) (by kernel_rfl) ?_
      refine fr.tr_reads _ (by dsimp only [pick, ord.at_]) ?_
      repeat (go_big_quiet_step (fail))
      refine wpQuiet_nil ?_
      refine fr.tr_one _ (by dsimp only [pick, ord.at_]) ?_
      intro K1 g1 g2
      clear g1
      go_wp2_with (fail)
      refine HP2.out.mono ?_
      rintro e w7 ⟨rfl, hk7, hc7⟩
      have hc7' : Chg (fun k => k = w.heap.size ∨ k = w.heap.size + 1 + 1) wr w7 := (Chg.refl _ wr).drew.trans hc7 (fun _ _ e => e)
      have hs7 := hc7'.size
      have HC7 := Lib.hid hc7'
      have K7 := Lib.hid hk7
      clear hk7 hc7 hc7' q0 d1 f1 k0
      go_wp2_with (fail)
      refine g2 _ _ HC7.out ?_
      clear g2
      refine fr.tr_one _ (by dsimp only [pick, ord.at_]) ?_
      intro K1 g1 g2
      clear g1
      go_wp2_with (fail)
      obtain ⟨w8, hw8⟩ : ∃ w8, w7.alloc (.cells #[.int .i64 z] 3) = w8 := ⟨_, rfl⟩
      have hb8 : Below w7.heap.size w7 w8 := by rw [← hw8]; exact below_al _ _
      have HL8 := Lib.hid (show Ls NE w8 (w7.heap.size + 1) (some ⟨w7.heap.size, 0, none⟩) 1 [z] by rw [← hw8]; exact ls_new (E := NE) (w := w7) 3 z)
      have K8 := Lib.hid (K7.out.below hb8)
      have hs8 := hb8.size
      rw [hw8]
      refine g2 _ _ ((Chg.of_below hb8).mono (fun _ _ e => e.elim)) ?_
      clear g2 hw8
      have HB8 := Lib.hid hb8
      clear hb8
      have hO8 := K8.out.wd.wp.n
      simp only [HLI.out] at hO8
      refine fr.tr_write _ (by dsimp only [pick, ord.at_]) ?_
      intro K2 g3
      go_wp2_with (at_builtin; refine app_n rfl (.tmp 29) (.tmp 32) rfl (w.heap.size + 3) _ i l rfl hO8 (w7.heap.size + 1) (some ⟨w7.heap.size, 0, none⟩) 1 1 (fun e => by cases e) [z] (by rfl) HL8.out (by omega) (by omega) ?_; intro A9 c9 w9 hown9 hg9 _ h9a h9b hs9; have HO9 := Lib.hid hown9; have HG9 := Lib.hid hg9; clear hown9 hg9)
      obtain ⟨hwd9, hvar9, hch9⟩ := wd_appN (w' := w9) (A := A9) (m := i + 1) (c := c9) (l := l ++ [z]) K8.out.wd (by simp only [HLI.out]; exact HG9.out) HO9.out
      have K9 := Lib.hid (K8.out.step hch9 hwd9)
      obtain ⟨⟨_, e1, _⟩, _, e1f, _⟩ := isv3_cells hvar9
      simp only [HLI.out] at e1
      have hpl9 : pb < w9.heap.size := blk_lt hvar9
      clear hO8 hwd9 hvar9 hch9
      refine fr.tr_reads _ (by dsimp only [pick, ord.at_]) ?_
      repeat (go_big_quiet_step (fail))
      refine wpQuiet_nil ?_
      refine fr.tr_write _ (by dsimp only [pick, ord.at_]) ?_
      intro K3 g4
      go_wp2_with (fail)
      refine fr.tr_stop ?_
      refine NoPanic.normal ?_
      clear e1 e1f
      go_wp2_with (fail)
      go_roundg (N1 - (i + 1))
      case measure => omega
      case rel => exact ⟨i + 1, _, l ++ [z], A9, c9, by go_num, by omega, by omega, HS.out, K9.out⟩
    · have hdone := Lib.hid (HL.out.done (by rcases Classical.em (ok = true) with h | h; exact .inr (fun e => hgo ⟨h, e⟩); exact .inl (by simpa using h)))
      have HND := Lib.hid (show rdN (nN b) (s2 b) = (l, (r, ok)) by rw [HN1.out]; exact hdone.out)
      have K10 := Lib.hid (show DI w3 wr w.heap.size (w.heap.size + 1 + 1) B (w.heap.size + 3) pb (s3 b) ⟨z0, A1, c1, l, none, 0, []⟩ by unfold s3; rw [HND.out]; exact HK.out)
      have HP2 := Lib.hid K10.out.next
      obtain ⟨N2, hN2⟩ : ∃ N2 : Nat, nS b = N2 := ⟨_, rfl⟩
      have hr4 := rd_range (s3 b)
      have he4 : (rd (s3 b)).1 = (N2 : Int) := by rw [← hN2]; exact rd_nat _
      have hN2b : N2 ≤ 1099511627776 := by omega
      rw [he4] at HP2
      have HN2 := Lib.hid hN2
      obtain ⟨wy, hwy⟩ : ∃ wy, wy = wr := ⟨wr, rfl⟩
      obtain rfl := hwy
      clear hr4 he4 hN2 HL HK hdone
      by_cases hok : ok = true
      · subst hok
        have hltz : ¬ (i : Int) < (N1 : Int) := by have : ¬ i < N1 := fun e => hgo ⟨rfl, e⟩; omega
        clear hgo
        go_wp2_with (fail)
        refine HP2.out.mono ?_
        rintro e w11 ⟨rfl, hk11, _⟩
        have K11 := Lib.hid (show DI w3 w11 w.heap.size (w.heap.size + 1 + 1) B (w.heap.size + 3) pb (s4 b) ⟨z0, A1, c1, l, none, 0, []⟩ from hk11)
        clear hk11 k0
        go_wp2_with (fail)
        go_loopg [9, 11, 12, 13] N2 (fun gg s9 s11 s12 s13 wr => ∃ (i : Nat) (s : St) (L : List (List O)) (X : List Rw3) (A' : Option Addr) (c' : Nat), s9 = .int .i64 i ∧ N2 - i ≤ gg ∧ i ≤ N2 ∧ Aside (LS N2 (s4 b) i s L) ∧ Aside (X.map (·.l) = L) ∧ Aside (DI w3 wr w.heap.size (w.heap.size + 1 + 1) B (w.heap.size + 3) pb s ⟨z0, A1, c1, l, A', c', X⟩))
        case atStart => exact ⟨0, _, [], [], none, 0, rfl, by omega, by omega, LS.zero _ _, rfl, K11.out⟩
        case round =>
          obtain ⟨i, s, L, X, A2, c2, rfl, hg2, hi2, HLS, HXL, HK⟩ := hrel
          obtain ⟨wx, hwx⟩ : ∃ wx, wx = wr := ⟨wr, rfl⟩
          obtain rfl := hwx
          obtain ⟨r2, ok2⟩ := s
          have k0 := HK.out.flag
          have hkr2 : w.heap.size + 1 + 1 < wx.heap.size := World.block_lt_of_cell? wx _ k0
          have hplx := HK.out.wd.wp.lt
          simp only at k0
          by_cases hgo2 : ok2 = true ∧ i < N2
          · obtain ⟨rfl, hlt2⟩ := hgo2
            have hltz2 : (i : Int) < (N2 : Int) := by omega
            have HJ0 := Lib.hid HK.out.dj
            have HP3 := Lib.hid HJ0.out.next
            obtain ⟨N3, hN3⟩ : ∃ N3 : Nat, (rd (r2, true)).1.toNat = N3 := ⟨_, rfl⟩
            have hr6 := rd_range (r2, true)
            have he6 : (rd (r2, true)).1 = (N3 : Int) := by rw [← hN3]; exact rd_nat _
            have hN3b : N3 ≤ 1099511627776 := by omega
            rw [he6] at HP3
            have HN3 := Lib.hid hN3
            clear hr6 he6 hN3
            go_wp2_with (fail)
            refine HP3.out.mono ?_
            rintro e w12 ⟨rfl, hj12, _⟩
            have J12 := Lib.hid hj12
            clear hj12 k0
            go_wp2_with (fail)
            go_loopg [11, 12] N3 (fun gg3 s11 s12 wr => ∃ (j : Nat) (s : St) (q : List O) (A : Option Addr) (c : Nat), s12 = .int .i64 j ∧ s11 = .slice A j c ∧ N3 - j ≤ gg3 ∧ j ≤ N3 ∧ Aside (LO N3 (rd (r2, true)).2 j s q) ∧ Aside (DJ wx wr w.heap.size (w.heap.size + 1 + 1) B s) ∧ Aside (Ow OE wr wx.heap.size (.slice A j c) j q))
            case atStart => exact ⟨0, _, [], none, 0, rfl, rfl, by omega, by omega, LO.zero _ _, J12.out, Ow.nil _ _⟩
            case round =>
              obtain ⟨j, s, q, A3, c3, rfl, rfl, hg3, hj3, HLO, HJ, HO⟩ := hrel
              obtain ⟨wz, hwz⟩ : ∃ wz, wz = wr := ⟨wr, rfl⟩
              obtain rfl := hwz
              obtain ⟨r3, ok3⟩ := s
              have k0 := HJ.out.flag
              have hkz : w.heap.size + 1 + 1 < wz.heap.size := World.block_lt_of_cell? wz _ k0
              have hxz := HJ.out.ch.size
              simp only at k0
              by_cases hgo3 : ok3 = true ∧ j < N3
              · obtain ⟨rfl, hlt3⟩ := hgo3
                have hltz3 : (j : Int) < (N3 : Int) := by omega
                have HLO2 := Lib.hid (HLO.out.succ hlt3)
                obtain ⟨x1, hx1⟩ : ∃ x1, (rd (r3, true)).1 = x1 := ⟨_, rfl⟩
                obtain ⟨x2, hx2⟩ : ∃ x2, (rd (rd (r3, true)).2).1 = x2 := ⟨_, rfl⟩
                obtain ⟨x3, hx3⟩ : ∃ x3, (rd (rd (rd (r3, true)).2).2).1 = x3 := ⟨_, rfl⟩
                have hb3 := rd_range (rd (rd (r3, true)).2).2
                rw [hx3] at hb3
                have w1 : IntKind.i64.wrap (x3 - 1) = x3 - 1 := by rw [IntWalk.i64_in _ (by omega)]
                have w2 : wrap64 (x3 - 1) = x3 - 1 := by rw [IntWalk.wrap64_in _ (by omega)]
                have hOe : (rdO (r3, true)).1 = (x1, x2, x3 - 1) := by unfold rdO; rw [hx1, hx2, hx3]
                rw [hOe] at HLO2
                have HP4 := Lib.hid (HJ.out.next)
                rw [hx1] at HP4
                have HX2 := Lib.hid hx2
                have HX3 := Lib.hid hx3
                clear hx1 hx2 hx3 hOe
                go_wp2_with (fail)
                refine HP4.out.mono ?_
                rintro e wA ⟨rfl, hjA, hcA⟩
                have HOA := Lib.hid (HO.out.chg hcA (fun g hg e => by have := (HO.out.lt g hg).1; omega))
                have HP5 := Lib.hid hjA.next
                rw [HX2.out] at HP5
                clear hjA hcA k0
                go_wp2_with (fail)
                refine HP5.out.mono ?_
                rintro e wB ⟨rfl, hjB, hcB⟩
                have HOB := Lib.hid (HOA.out.chg hcB (fun g hg e => by have := (HOA.out.lt g hg).1; omega))
                have HP6 := Lib.hid hjB.next
                rw [HX3.out] at HP6
                clear hjB hcB
                go_wp2_with (fail)
                refine HP6.out.mono ?_
                rintro e wC ⟨rfl, hjC, hcC⟩
                have HOC := Lib.hid (HOB.out.chg hcC (fun g hg e => by have := (HOB.out.lt g hg).1; omega))
                have JC := Lib.hid hjC
                clear hjC hcC
                obtain ⟨w16, hw16⟩ : ∃ w16, wC.alloc (.cells #[.int .i64 x1, .int .i64 x2, .int .i64 (x3 - 1)] 68) = w16 := ⟨_, rfl⟩
                have hb16 : Below wC.heap.size wC w16 := by rw [← hw16]; exact below_al _ _
                have hs16 := hb16.size
                have hsC := JC.out.ch.size
                have HL16 := Lib.hid (show Ls OE w16 (wC.heap.size + 1) (some ⟨wC.heap.size, 0, none⟩) 1 [((x1, x2, x3 - 1) : O)] by rw [← hw16]; exact ls_new (E := OE) (w := wC) 68 ((x1, x2, x3 - 1) : O))
                have HO16 := Lib.hid (HOC.out.below hb16 (Nat.le_refl _))
                have J16 := Lib.hid (JC.out.below hb16)
                clear hb16
                go_wp2_with (at_builtin; refine app_o rfl (.tmp 55) (.tmp 64) rfl wx.heap.size _ j q rfl HO16.out (wC.heap.size + 1) (some ⟨wC.heap.size, 0, none⟩) 1 1 (fun e => by cases e) [((x1, x2, x3 - 1) : O)] (by rfl) HL16.out (by omega) (by omega) ?_; intro A9 c9 w17 hown9 hg9 _ h9a h9b hs9; have HO17 := Lib.hid hown9; have J17 := Lib.hid (J16.out.step ((Chg.refl _ _).grown hg9 (fun k hk _ => (HO16.out.lt k hk).1))); clear hown9 hg9)
                go_roundg (N3 - (j + 1))
                case measure => omega
                case rel => exact ⟨j + 1, _, q ++ [(x1, x2, x3 - 1)], A9, c9, by go_num, rfl, by omega, by omega, HLO2.out, J17.out, HO17.out⟩
              · have hdone := HLO.out.done (by rcases Classical.em (ok3 = true) with h | h; exact .inr (fun e => hgo3 ⟨h, e⟩); exact .inl (by simpa using h))
                have hrs : rdS (r2, true) = (q, (r3, ok3)) := by unfold rdS; rw [HN3.out]; exact hdone
                have HLS2 := Lib.hid (HLS.out.succ hlt2 hrs)
                clear hdone hrs
                by_cases hok3 : ok3 = true
                · subst hok3
                  have hltz3 : ¬ (j : Int) < (N3 : Int) := by have : ¬ j < N3 := fun e => hgo3 ⟨rfl, e⟩; omega
                  clear hgo3
                  have hjq := HLO.out.len
                  have hwz := HJ.out.wd HK.out.wd (by omega) (by omega)
                  obtain ⟨⟨_, _, d2⟩, _, _, f2⟩ := isv3_cells hwz.wp.var
                  have hXi : X.length = i := by have h1 := HXL.out; have h2 := HLS.out.len; rw [← h1, List.length_map] at h2; exact h2
                  simp only [hXi] at d2
                  have HXI := Lib.hid hXi
                  have hplz := hwz.wp.lt
                  obtain ⟨w18, hw18⟩ : ∃ w18, wz.alloc (.cells #[.slice A3 j c3] 64) = w18 := ⟨_, rfl⟩
                  have hb18 : Below wz.heap.size wz w18 := by rw [← hw18]; exact below_al _ _
                  have hs18 := hb18.size
                  have HL18 := Lib.hid (show Ls SE w18 (wz.heap.size + 1) (some ⟨wz.heap.size, 0, none⟩) 1 [(⟨A3, c3, q⟩ : Rw3)] by
                    rw [← hw18, ← hjq]; exact ls_new (E := SE) (w := wz) 64 (⟨A3, c3, q⟩ : Rw3))
                  have J18 := Lib.hid (HJ.out.below hb18)
                  have HO18 := Lib.hid (show Ow OE w18 wx.heap.size (⟨A3, c3, q⟩ : Rw3).val (⟨A3, c3, q⟩ : Rw3).l.length (⟨A3, c3, q⟩ : Rw3).l by
                    have := HO.out.below hb18 (Nat.le_refl _)
                    simpa only [Rw3.val, hjq] using this)
                  have hS18 := (hwz.below hb18 (Nat.le_refl _)).wp.s
                  simp only [hXi] at hS18
                  have HS18 := Lib.hid hS18
                  have hdx : w.heap.size + 3 ≤ w18.heap.size := by have := J18.out.ch.size; omega
                  clear hwz hb18 hS18 hXi hjq
                  go_wp2_with (at_builtin; refine app_s rfl (.tmp 67) (.tmp 69) rfl (w.heap.size + 3) _ i X rfl HS18.out (wz.heap.size + 1) (some ⟨wz.heap.size, 0, none⟩) 1 1 (fun e => by cases e) [(⟨A3, c3, q⟩ : Rw3)] (by rfl) HL18.out (by omega) (by omega) ?_; intro A9 c9 w19 hown9 hg9 _ h9a h9b hs9; have HO19 := Lib.hid hown9; have HG19 := Lib.hid hg9; clear hown9 hg9; have K19 := Lib.hid (J18.out.push (r' := (⟨A3, c3, q⟩ : Rw3)) (A' := A9) (c2 := c9) HK.out HO18.out (by simp only [HXI.out]; exact HO19.out) (by simp only [HXI.out]; exact HG19.out)); have hv19 := var_grown (J18.out.di HK.out).wd (w7 := w19) (by simp only [HXI.out]; exact HG19.out); have hl19 := blk_lt hv19; have hcc := isv3_cells hv19; simp only [HXI.out] at hcc; have e2 := hcc.1.2.2; have e2f := hcc.2.2.2; clear hcc hv19 d2 f2)
                  go_roundg (N2 - (i + 1))
                  case measure => omega
                  case rel =>
                    have := K19.out
                    simp only [HXI.out] at this
                    exact ⟨i + 1, (r3, true), L ++ [q], X ++ [(⟨A3, c3, q⟩ : Rw3)], A9, c9, by go_num, by omega, by omega, HLS2.out, by rw [List.map_append, HXL.out]; rfl, this⟩
                · have hok' : ok3 = false := by simpa using hok3
                  subst hok'
                  clear hgo3 hok3
                  have hjq := HLO.out.len
                  have hwz := HJ.out.wd HK.out.wd (by omega) (by omega)
                  obtain ⟨⟨_, _, d2⟩, _, _, f2⟩ := isv3_cells hwz.wp.var
                  have hXi : X.length = i := by have h1 := HXL.out; have h2 := HLS.out.len; rw [← h1, List.length_map] at h2; exact h2
                  simp only [hXi] at d2
                  have HXI := Lib.hid hXi
                  have hplz := hwz.wp.lt
                  obtain ⟨w18, hw18⟩ : ∃ w18, wz.alloc (.cells #[.slice A3 j c3] 64) = w18 := ⟨_, rfl⟩
                  have hb18 : Below wz.heap.size wz w18 := by rw [← hw18]; exact below_al _ _
                  have hs18 := hb18.size
                  have HL18 := Lib.hid (show Ls SE w18 (wz.heap.size + 1) (some ⟨wz.heap.size, 0, none⟩) 1 [(⟨A3, c3, q⟩ : Rw3)] by
                    rw [← hw18, ← hjq]; exact ls_new (E := SE) (w := wz) 64 (⟨A3, c3, q⟩ : Rw3))
                  have J18 := Lib.hid (HJ.out.below hb18)
                  have HO18 := Lib.hid (show Ow OE w18 wx.heap.size (⟨A3, c3, q⟩ : Rw3).val (⟨A3, c3, q⟩ : Rw3).l.length (⟨A3, c3, q⟩ : Rw3).l by
                    have := HO.out.below hb18 (Nat.le_refl _)
                    simpa only [Rw3.val, hjq] using this)
                  have hS18 := (hwz.below hb18 (Nat.le_refl _)).wp.s
                  simp only [hXi] at hS18
                  have HS18 := Lib.hid hS18
                  have hdx : w.heap.size + 3 ≤ w18.heap.size := by have := J18.out.ch.size; omega
                  clear hwz hb18 hS18 hXi hjq
                  go_wp2_with (at_builtin; refine app_s rfl (.tmp 67) (.tmp 69) rfl (w.heap.size + 3) _ i X rfl HS18.out (wz.heap.size + 1) (some ⟨wz.heap.size, 0, none⟩) 1 1 (fun e => by cases e) [(⟨A3, c3, q⟩ : Rw3)] (by rfl) HL18.out (by omega) (by omega) ?_; intro A9 c9 w19 hown9 hg9 _ h9a h9b hs9; have HO19 := Lib.hid hown9; have HG19 := Lib.hid hg9; clear hown9 hg9; have K19 := Lib.hid (J18.out.push (r' := (⟨A3, c3, q⟩ : Rw3)) (A' := A9) (c2 := c9) HK.out HO18.out (by simp only [HXI.out]; exact HO19.out) (by simp only [HXI.out]; exact HG19.out)); have hv19 := var_grown (J18.out.di HK.out).wd (w7 := w19) (by simp only [HXI.out]; exact HG19.out); have hl19 := blk_lt hv19; have hcc := isv3_cells hv19; simp only [HXI.out] at hcc; have e2 := hcc.1.2.2; have e2f := hcc.2.2.2; clear hcc hv19 d2 f2)
                  go_roundg (N2 - (i + 1))
                  case measure => omega
                  case rel =>
                    have := K19.out
                    simp only [HXI.out] at this
                    exact ⟨i + 1, (r3, false), L ++ [q], X ++ [(⟨A3, c3, q⟩ : Rw3)], A9, c9, by go_num, by omega, by omega, HLS2.out, by rw [List.map_append, HXL.out]; rfl, this⟩
          · have hdone := HLS.out.done (by rcases Classical.em (ok2 = true) with h | h; exact .inr (fun e => hgo2 ⟨h, e⟩); exact .inl (by simpa using h))
            have HSD := Lib.hid (show rdSs (nS b) (s4 b) = (L, (r2, ok2)) by rw [HN2.out]; exact hdone)
            have HS5 := Lib.hid (show s5 b = (r2, ok2) by unfold s5; rw [HSD.out])
            clear hdone
            have hfin := HFIN.out wx HK.out.ch
            obtain ⟨hbf, hgr⟩ := hfin
            have HBF := Lib.hid hbf
            have HGR := Lib.hid hgr
            have hgrl := blk_lt hgr
            obtain ⟨⟨v0, v1, v2⟩, u0, u1, u2⟩ := isv3_cells hgr
            clear hbf hgr
            by_cases hok2 : ok2 = true
            · subst hok2
              have hltz2 : ¬ (i : Int) < (N2 : Int) := by have : ¬ i < N2 := fun e => hgo2 ⟨rfl, e⟩; omega
              clear hgo2
              obtain ⟨A0, n0, c0, hgb, hbs, _, _, _, _⟩ := HK.out.ds.rest
              have b0 : wx.cell? ⟨w.heap.size, 0, none⟩ = some (.slice A0 n0 c0) := by rw [cell_of_row _ _ _ _ _ _ hgb]; rfl
              have hgbl := blk_lt hgb
              have hlen := hbs.len_
              simp only at hlen
              have HLEN := Lib.hid hlen
              clear hgb hbs hlen
              by_cases hn0 : 0 < n0
              · have hn0z : (0 : Int) < (n0 : Int) := by omega
                have HBAD := Lib.hid (show ¬ GoodB b from fun hg => by have h1 := hg.2.1; rw [HS5.out] at h1; simp only at h1; rw [h1] at HLEN; have := HLEN.out; simp at this; omega)
                clear hn0
                go_wp2_with (fail)
                (try simp only [Exit.inBlock, Exit.then])
                refine bodyPost_ret (ret_cell rfl _ _ (w.heap.size + 1) 25 _ _ _ rfl (set3 HGR.out) Tryz.underlying25 rfl sizeP) rfl ?_
                exact ret_bad_dec HBAD.out (below_set3 HBF.out (by omega) _ _ _)
              · have hn0z : ¬ (0 : Int) < (n0 : Int) := by omega
                have hr2 : r2 = [] := List.eq_nil_of_length_eq_zero (by have := HLEN.out; omega)
                have HR2 := Lib.hid hr2
                have hple : (⟨z0, A1, c1, l, A2, c2, X⟩ : PV).pl = rdP b := by
                  unfold PV.pl rdP
                  rw [HZ0.out, HND.out, HSD.out, HXL.out]
                have HPLE := Lib.hid hple
                have HCK := Lib.hid (pcheck_x wx wx.heap.size (⟨z0, A1, c1, l, A2, c2, X⟩ : PV) HK.out.wd.wp.ok (Nat.le_refl _))
                obtain ⟨ck, hck⟩ : ∃ ck, chk (rdP b) = ck := ⟨_, rfl⟩
                rw [hple, hck] at HCK
                have HCKE := Lib.hid hck
                obtain ⟨⟨p0, p1, p2⟩, _⟩ := isv3_cells HK.out.wd.wp.var
                simp only [PV.val] at HCK
                clear hr2 hple hck hn0 v0 v1 v2 u0 u1 u2
                go_wp2_with (fail)
                refine HCK.out.mono ?_
                rintro e wy ⟨rfl, hby⟩
                have hsy := hby.size
                have HBY := Lib.hid hby
                have HGRY := Lib.hid (blk_below hby HGR.out hgrl)
                have HPVY := Lib.hid (blk_below hby HK.out.wd.wp.var hplx)
                have HBFY := Lib.hid (HBF.out.trans (hby.mono HBF.out.size))
                have hgry := blk_lt HGRY.out
                have hply := blk_lt HPVY.out
                have HODY := Lib.hid (HK.out.wd.od.below hby (Nat.le_refl _))
                obtain ⟨⟨v0, v1, v2⟩, u0, u1, u2⟩ := isv3_cells HGRY.out
                obtain ⟨⟨p0', p1', p2'⟩, _⟩ := isv3_cells HPVY.out
                clear hby p0 p1 p2
                by_cases hk0 : ck = 0
                · subst hk0
                  have HGD := Lib.hid (show GoodB b from ⟨by rw [HS5.out], by rw [HS5.out]; exact HR2.out, HCKE.out⟩)
                  go_wp2_with (fail)
                  (try simp only [Exit.inBlock, Exit.then])
                  refine bodyPost_ret (ret_cell rfl _ _ (w.heap.size + 1) 25 _ _ _ rfl (set3 HGRY.out) Tryz.underlying25 rfl sizeP) rfl ?_
                  refine ⟨⟨z0, A1, c1, l, A2, c2, X⟩, ?_, ?_, (HODY.out.other (chg_set3 _ _ _) HGRY.out).base (by omega), below_set3 HBFY.out (by omega) _ _ _⟩
                  · rw [show decE b = 0 by unfold decE; rw [if_pos HGD.out]]; rfl
                  · rw [show decP b = rdP b by unfold decP; rw [if_pos HGD.out]]; exact HPLE.out
                · have hkz : (ck != 0) = true := by simp [hk0]
                  have HBAD := Lib.hid (show ¬ GoodB b from fun hg => by have h1 := hg.2.2; rw [HCKE.out] at h1; exact hk0 h1)
                  clear hk0
                  go_wp2_with (fail)
                  (try simp only [Exit.inBlock, Exit.then])
                  refine bodyPost_ret (ret_cell rfl _ _ (w.heap.size + 1) 25 _ _ _ rfl (set3 HGRY.out) Tryz.underlying25 rfl sizeP) rfl ?_
                  exact ret_bad_dec HBAD.out (below_set3 HBFY.out (by omega) _ _ _)
            · have hok' : ok2 = false := by simpa using hok2
              subst hok'
              have HBAD := Lib.hid (show ¬ GoodB b from fun hg => by have h1 := hg.1; rw [HS5.out] at h1; cases h1)
              clear hgo2 hok2
              go_wp2_with (fail)
              (try simp only [Exit.inBlock, Exit.then])
              refine bodyPost_ret (ret_cell rfl _ _ (w.heap.size + 1) 25 _ _ _ rfl (set3 HGR.out) Tryz.underlying25 rfl sizeP) rfl ?_
              exact ret_bad_dec HBAD.out (below_set3 HBF.out (by omega) _ _ _)
      · have hok' : ok = false := by simpa using hok
        subst hok'
        clear hgo hok
        go_wp2_with (fail)
        refine HP2.out.mono ?_
        rintro e w11 ⟨rfl, hk11, _⟩
        have h3 : (s3 b).2 = false := by unfold s3; rw [HND.out]
        have HBAD := Lib.hid (bad3 h3)
        have h4 := rd_bad h3
        have H4 := Lib.hid h4
        have K11 := Lib.hid hk11
        clear hk11 k0 h3 h4
        go_wp2_with (fail)
        go_loopg [9, 11, 12, 13] 0 (fun gg s9 s11 s12 s13 wr => s9 = .int .i64 0 ∧ Aside (DI w3 wr w.heap.size (w.heap.size + 1 + 1) B (w.heap.size + 3) pb (rd (s3 b)).2 ⟨z0, A1, c1, l, none, 0, []⟩))
        case atStart => exact ⟨rfl, K11.out⟩
        case round =>
          obtain ⟨rfl, HK⟩ := hrel
          have k0 := HK.out.flag
          have hkr2 : w.heap.size + 1 + 1 < wr.heap.size := World.block_lt_of_cell? wr _ k0
          rw [H4.out] at k0
          have hfin := HFIN.out wr HK.out.ch
          obtain ⟨hbf, hgr⟩ := hfin
          have HBF := Lib.hid hbf
          have HGR := Lib.hid hgr
          have hgrl := blk_lt hgr
          obtain ⟨⟨v0, v1, v2⟩, u0, u1, u2⟩ := isv3_cells hgr
          clear hbf hgr
          go_wp2_with (fail)
          (try simp only [Exit.inBlock, Exit.then])
          refine bodyPost_ret (ret_cell rfl _ _ (w.heap.size + 1) 25 _ _ _ rfl (set3 HGR.out) Tryz.underlying25 rfl sizeP) rfl ?_
          exact ret_bad_dec HBAD.out (below_set3 HBF.out (by omega) _ _ _)
end Go.Proofs.YtnjdondkggkfoaaGreat.kv
