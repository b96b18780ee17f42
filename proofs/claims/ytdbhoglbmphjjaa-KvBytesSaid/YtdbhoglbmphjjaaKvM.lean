/-
  A placement as bytes, and bytes as a placement: mathematics. 'encP' is what a placement is written as; 'decP' reads numbers off a row, as long as there are such.
-/
import Derived.Test.YtdbhoglbmphjjaaUv
import Derived.Test.YtdbhoglbmphjjaaPmA
namespace Go.Proofs.Ytdbhoglbmphjjaa.kv
open uvs pm

/-- a number as bytes -/
def num (z : Int) : List UInt8 := uv z.toNat
def encO (o : O) : List UInt8 := num o.1 ++ (num o.2.1 ++ num (o.2.2 + 1))
def encOs (l : List O) : List UInt8 := l.flatMap encO
def encS (l : List O) : List UInt8 := num l.length ++ encOs l
def encSs (l : List (List O)) : List UInt8 := l.flatMap encS
def encN (l : List Int) : List UInt8 := l.flatMap num
def encP (p : Pl) : List UInt8 := num p.ver ++ (num p.nodes.length ++ (encN p.nodes ++ (num p.ss.length ++ encSs p.ss)))

/-- what is left, and whether all was well -/
abbrev St := List UInt8 × Bool
def rd (s : St) : Int × St := if (ru s.1 0 0).2 = 0 ∨ 1099511627776 < (ru s.1 0 0).1 then (0, (s.1, false)) else ((ru s.1 0 0).1, (s.1.drop (ru s.1 0 0).2, s.2))
def rdN : Nat → St → List Int × St
  | 0, s => ([], s)
  | n + 1, s => if s.2 then ((rd s).1 :: (rdN n (rd s).2).1, (rdN n (rd s).2).2) else ([], s)
def rdO (s : St) : O × St := (((rd s).1, (rd (rd s).2).1, (rd (rd (rd s).2).2).1 - 1), (rd (rd (rd s).2).2).2)
def rdOs : Nat → St → List O × St
  | 0, s => ([], s)
  | n + 1, s => if s.2 then ((rdO s).1 :: (rdOs n (rdO s).2).1, (rdOs n (rdO s).2).2) else ([], s)
def rdS (s : St) : List O × St := rdOs (rd s).1.toNat (rd s).2
def rdSs : Nat → St → List (List O) × St
  | 0, s => ([], s)
  | n + 1, s => if s.2 then ((rdS s).1 :: (rdSs n (rdS s).2).1, (rdSs n (rdS s).2).2) else ([], s)
/-- the steps of the reading, by name -/
def s1 (b : List UInt8) : St := (rd (b, true)).2
def s2 (b : List UInt8) : St := (rd (s1 b)).2
def nN (b : List UInt8) : Nat := (rd (s1 b)).1.toNat
def s3 (b : List UInt8) : St := (rdN (nN b) (s2 b)).2
def s4 (b : List UInt8) : St := (rd (s3 b)).2
def nS (b : List UInt8) : Nat := (rd (s3 b)).1.toNat
def s5 (b : List UInt8) : St := (rdSs (nS b) (s4 b)).2
def rdP (b : List UInt8) : Pl := ⟨(rd (b, true)).1, (rdN (nN b) (s2 b)).1, (rdSs (nS b) (s4 b)).1⟩
def zeroPl : Pl := ⟨0, [], []⟩

theorem rd_bad {s : St} (h : s.2 = false) : (rd s).2.2 = false := by unfold rd; split <;> simp [h]
theorem rd_range (s : St) : 0 ≤ (rd s).1 ∧ (rd s).1 ≤ 1099511627776 := by
  unfold rd; split
  · simp
  · rename_i h; simp only; omega
/-- what was read well is what was written -/
theorem rd_back {s : St} (h : (rd s).2.2 = true) : s.2 = true ∧ s.1 = num (rd s).1 ++ (rd s).2.1 := by
  unfold rd at h ⊢
  split at h
  · simp at h
  · rename_i hn
    rw [if_neg hn]
    refine ⟨h, ?_⟩
    have h2 : (ru s.1 0 0).2 ≠ 0 := fun e => hn (.inl e)
    obtain ⟨_, _, e⟩ := ru_back0 s.1 _ _ rfl h2
    simp only [num, Int.toNat_natCast]
    rw [← e, List.take_append_drop]
theorem rd_num (z : Int) (rest : List UInt8) (h0 : 0 ≤ z) (h1 : z ≤ 1099511627776) : rd (num z ++ rest, true) = (z, (rest, true)) := by
  have e := ru_uv z.toNat rest (by omega)
  have hl := (uv_len z.toNat).1
  unfold rd num
  simp only [e]
  rw [if_neg (by omega)]
  simp only [List.drop_left, Prod.mk.injEq, and_true, true_and]
  omega
theorem num_len (z : Int) : 1 ≤ (num z).length ∧ (num z).length ≤ 10 := uv_len _
theorem rd_len (s : St) : (rd s).2.1.length ≤ s.1.length ∧ ((rd s).2.2 = true → (rd s).2.1.length + 1 ≤ s.1.length) := by
  constructor
  · unfold rd; split
    · exact Nat.le_refl _
    · simp
  · intro h
    have e := congrArg List.length (rd_back h).2
    rw [List.length_append] at e
    have := (num_len (rd s).1).1
    omega
theorem rdN_bad {n : Nat} {s : St} (h : s.2 = false) : rdN n s = ([], s) := by cases n <;> simp [rdN, h]
theorem rdOs_bad {n : Nat} {s : St} (h : s.2 = false) : rdOs n s = ([], s) := by cases n <;> simp [rdOs, h]
theorem rdSs_bad {n : Nat} {s : St} (h : s.2 = false) : rdSs n s = ([], s) := by cases n <;> simp [rdSs, h]
theorem rdO_bad {s : St} (h : s.2 = false) : (rdO s).2.2 = false := rd_bad (rd_bad (rd_bad h))
theorem rdS_bad {s : St} (h : s.2 = false) : (rdS s).2.2 = false := by
  unfold rdS; rw [rdOs_bad (rd_bad h)]; exact rd_bad h
theorem rdN_back {n : Nat} : ∀ {s : St}, (rdN n s).2.2 = true → (rdN n s).1.length = n ∧ s.2 = true ∧ s.1 = encN (rdN n s).1 ++ (rdN n s).2.1 := by
  induction n with
  | zero => intro s h; exact ⟨rfl, h, rfl⟩
  | succ n ih =>
    intro s h
    cases hs : s.2 with
    | false => rw [rdN_bad hs] at h; rw [hs] at h; cases h
    | true =>
      simp only [rdN, hs, if_true] at h ⊢
      obtain ⟨h1, h2, h3⟩ := ih h
      obtain ⟨_, h4⟩ := rd_back h2
      refine ⟨by simp [h1], trivial, ?_⟩
      rw [h4, h3]
      simp [encN, List.append_assoc]
theorem rdO_back {s : St} (h : (rdO s).2.2 = true) : s.2 = true ∧ s.1 = encO (rdO s).1 ++ (rdO s).2.1 := by
  obtain ⟨h1, e1⟩ := rd_back h
  obtain ⟨h2, e2⟩ := rd_back h1
  obtain ⟨h3, e3⟩ := rd_back h2
  refine ⟨h3, ?_⟩
  rw [e3, e2, e1]
  simp [encO, rdO, List.append_assoc]
theorem rdOs_back {n : Nat} : ∀ {s : St}, (rdOs n s).2.2 = true → (rdOs n s).1.length = n ∧ s.2 = true ∧ s.1 = encOs (rdOs n s).1 ++ (rdOs n s).2.1 := by
  induction n with
  | zero => intro s h; exact ⟨rfl, h, rfl⟩
  | succ n ih =>
    intro s h
    cases hs : s.2 with
    | false => rw [rdOs_bad hs] at h; rw [hs] at h; cases h
    | true =>
      simp only [rdOs, hs, if_true] at h ⊢
      obtain ⟨h1, h2, h3⟩ := ih h
      obtain ⟨_, h4⟩ := rdO_back h2
      refine ⟨by simp [h1], trivial, ?_⟩
      rw [h4, h3]
      simp [encOs, List.append_assoc]
theorem rdS_back {s : St} (h : (rdS s).2.2 = true) : s.2 = true ∧ s.1 = encS (rdS s).1 ++ (rdS s).2.1 := by
  obtain ⟨h1, h2, h3⟩ := rdOs_back h
  obtain ⟨h4, h5⟩ := rd_back h2
  refine ⟨h4, ?_⟩
  have hr := rd_range s
  rw [h5, h3]
  unfold encS rdS
  rw [h1, List.append_assoc, show (((rd s).1.toNat : Nat) : Int) = (rd s).1 by omega]
theorem rdSs_back {n : Nat} : ∀ {s : St}, (rdSs n s).2.2 = true → (rdSs n s).1.length = n ∧ s.2 = true ∧ s.1 = encSs (rdSs n s).1 ++ (rdSs n s).2.1 := by
  induction n with
  | zero => intro s h; exact ⟨rfl, h, rfl⟩
  | succ n ih =>
    intro s h
    cases hs : s.2 with
    | false => rw [rdSs_bad hs] at h; rw [hs] at h; cases h
    | true =>
      simp only [rdSs, hs, if_true] at h ⊢
      obtain ⟨h1, h2, h3⟩ := ih h
      obtain ⟨_, h4⟩ := rdS_back h2
      refine ⟨by simp [h1], trivial, ?_⟩
      rw [h4, h3]
      simp [encSs, List.append_assoc]
/-- bytes that were read well to the end are the placement's -/
theorem rdP_back {b : List UInt8} (h : (s5 b).2 = true) : b = encP (rdP b) ++ (s5 b).1 := by
  obtain ⟨h1, h2, h3⟩ := rdSs_back (n := nS b) (s := s4 b) h
  obtain ⟨h4, h5⟩ := rd_back (s := s3 b) h2
  obtain ⟨h6, h7, h8⟩ := rdN_back (n := nN b) (s := s2 b) h4
  obtain ⟨h9, h10⟩ := rd_back (s := s1 b) h7
  obtain ⟨_, h11⟩ := rd_back (s := (b, true)) h9
  have r1 := rd_range (s1 b)
  have r3 := rd_range (s3 b)
  have e1 : (((rdN (nN b) (s2 b)).1.length : Nat) : Int) = (rd (s1 b)).1 := by rw [h6]; unfold nN; omega
  have e2 : (((rdSs (nS b) (s4 b)).1.length : Nat) : Int) = (rd (s3 b)).1 := by rw [h1]; unfold nS; omega
  calc b = num (rd (b, true)).1 ++ (s1 b).1 := h11
    _ = num (rd (b, true)).1 ++ (num (rd (s1 b)).1 ++ (s2 b).1) := by rw [h10]; rfl
    _ = num (rd (b, true)).1 ++ (num (rd (s1 b)).1 ++ (encN (rdN (nN b) (s2 b)).1 ++ (s3 b).1)) := by rw [h8]; rfl
    _ = num (rd (b, true)).1 ++ (num (rd (s1 b)).1 ++ (encN (rdN (nN b) (s2 b)).1 ++ (num (rd (s3 b)).1 ++ (s4 b).1))) := by rw [h5]; rfl
    _ = num (rd (b, true)).1 ++ (num (rd (s1 b)).1 ++ (encN (rdN (nN b) (s2 b)).1 ++ (num (rd (s3 b)).1 ++ (encSs (rdSs (nS b) (s4 b)).1 ++ (s5 b).1)))) := by rw [h3]; rfl
    _ = encP (rdP b) ++ (s5 b).1 := by
      unfold encP rdP
      simp only [e1, e2, List.append_assoc]
/-- .. and a placement that may be is read as it was written -/
structure Small (l : List Int) : Prop where
  each : ∀ z ∈ l, 0 ≤ z ∧ z ≤ 1099511627776
theorem rdN_enc (l : List Int) (rest : List UInt8) (h : ∀ z ∈ l, 0 ≤ z ∧ z ≤ 1099511627776) : rdN l.length (encN l ++ rest, true) = (l, (rest, true)) := by
  induction l with
  | nil => rfl
  | cons z l ih =>
    have hz := h z (by simp)
    have e : encN (z :: l) ++ rest = num z ++ (encN l ++ rest) := by simp [encN, List.append_assoc]
    rw [e]
    simp only [List.length_cons, rdN, if_true, rd_num z _ hz.1 hz.2]
    rw [ih fun y hy => h y (by simp [hy])]
def SmallO (o : O) : Prop := (0 ≤ o.1 ∧ o.1 ≤ 1099511627776) ∧ (0 ≤ o.2.1 ∧ o.2.1 ≤ 1099511627776) ∧ (-1 ≤ o.2.2 ∧ o.2.2 < 1099511627776)
theorem rdO_enc (o : O) (rest : List UInt8) (h : SmallO o) : rdO (encO o ++ rest, true) = (o, (rest, true)) := by
  obtain ⟨h1, h2, h3⟩ := h
  unfold rdO encO
  simp only [List.append_assoc]
  rw [rd_num _ _ h1.1 h1.2]
  simp only
  rw [rd_num _ _ h2.1 h2.2]
  simp only
  rw [rd_num _ _ (by omega) (by omega)]
  simp only [Prod.mk.injEq, and_true, true_and]
  ext <;> simp
theorem rdOs_enc (l : List O) (rest : List UInt8) (h : ∀ o ∈ l, SmallO o) : rdOs l.length (encOs l ++ rest, true) = (l, (rest, true)) := by
  induction l with
  | nil => rfl
  | cons z l ih =>
    have e : encOs (z :: l) ++ rest = encO z ++ (encOs l ++ rest) := by simp [encOs, List.append_assoc]
    rw [e]
    simp only [List.length_cons, rdOs, if_true, rdO_enc z _ (h z (by simp))]
    rw [ih fun y hy => h y (by simp [hy])]
theorem rdS_enc (l : List O) (rest : List UInt8) (hl : l.length ≤ 1099511627776) (h : ∀ o ∈ l, SmallO o) : rdS (encS l ++ rest, true) = (l, (rest, true)) := by
  unfold rdS encS
  rw [List.append_assoc, rd_num _ _ (by omega) (by omega)]
  simp only [Int.toNat_natCast]
  exact rdOs_enc l rest h
theorem rdSs_enc (l : List (List O)) (rest : List UInt8) (h : ∀ q ∈ l, q.length ≤ 1099511627776 ∧ ∀ o ∈ q, SmallO o) : rdSs l.length (encSs l ++ rest, true) = (l, (rest, true)) := by
  induction l with
  | nil => rfl
  | cons z l ih =>
    have e : encSs (z :: l) ++ rest = encS z ++ (encSs l ++ rest) := by simp [encSs, List.append_assoc]
    rw [e]
    have hz := h z (by simp)
    simp only [List.length_cons, rdSs, if_true, rdS_enc z _ hz.1 hz.2]
    rw [ih fun y hy => h y (by simp [hy])]
structure SmallP (p : Pl) : Prop where
  ver : 0 ≤ p.ver ∧ p.ver ≤ 1099511627776
  nl : p.nodes.length ≤ 1099511627776
  nodes : ∀ z ∈ p.nodes, 0 ≤ z ∧ z ≤ 1099511627776
  sl : p.ss.length ≤ 1099511627776
  each : ∀ q ∈ p.ss, q.length ≤ 1099511627776 ∧ ∀ o ∈ q, SmallO o
theorem rdP_enc {p : Pl} (h : SmallP p) : rdP (encP p) = p ∧ s5 (encP p) = ([], true) := by
  have e1 : rd (encP p, true) = (p.ver, (num p.nodes.length ++ (encN p.nodes ++ (num p.ss.length ++ encSs p.ss)), true)) := rd_num _ _ h.ver.1 h.ver.2
  have t1 : s1 (encP p) = (num p.nodes.length ++ (encN p.nodes ++ (num p.ss.length ++ encSs p.ss)), true) := by unfold s1; rw [e1]
  have e2 : rd (s1 (encP p)) = ((p.nodes.length : Int), (encN p.nodes ++ (num p.ss.length ++ encSs p.ss), true)) := by rw [t1]; exact rd_num _ _ (by omega) (by have := h.nl; omega)
  have t2 : s2 (encP p) = (encN p.nodes ++ (num p.ss.length ++ encSs p.ss), true) := by unfold s2; rw [e2]
  have n2 : nN (encP p) = p.nodes.length := by unfold nN; rw [e2]; simp
  have e3 : rdN (nN (encP p)) (s2 (encP p)) = (p.nodes, (num p.ss.length ++ encSs p.ss, true)) := by rw [n2, t2]; exact rdN_enc _ _ h.nodes
  have t3 : s3 (encP p) = (num p.ss.length ++ encSs p.ss, true) := by unfold s3; rw [e3]
  have e4 : rd (s3 (encP p)) = ((p.ss.length : Int), (encSs p.ss, true)) := by rw [t3]; exact rd_num _ _ (by omega) (by have := h.sl; omega)
  have t4 : s4 (encP p) = (encSs p.ss, true) := by unfold s4; rw [e4]
  have n4 : nS (encP p) = p.ss.length := by unfold nS; rw [e4]; simp
  have e5 : rdSs (nS (encP p)) (s4 (encP p)) = (p.ss, ([], true)) := by
    rw [n4, t4]
    have := rdSs_enc p.ss [] h.each
    rwa [List.append_nil] at this
  refine ⟨?_, by unfold s5; rw [e5]⟩
  unfold rdP
  rw [e1, e3, e5]
theorem rise_len8 {α : Type} {f : α → Int} : ∀ (l : List α) (a : Int), Rise f l → (∀ x ∈ l, a ≤ f x ∧ f x < 8) → a ≤ 8 → (l.length : Int) ≤ 8 - a
  | [], a, _, _, h => by simp; omega
  | x :: l, a, hr, hb, h => by
    have hp := List.pairwise_cons.1 hr
    have hx := hb x (by simp)
    have := rise_len8 l (f x + 1) hp.2 (fun y hy => ⟨by have := hp.1 y hy; omega, (hb y (by simp [hy])).2⟩) (by omega)
    simp only [List.length_cons]
    omega
theorem ok_nl {p : Pl} (h : PlOk p) : p.nodes.length ≤ 8 := by
  have := rise_len8 p.nodes 0 h.nodes.rise (fun x hx => h.nodes.each x hx) (by omega)
  omega
theorem ok_ll {val : List O → O → Prop} {nodes : List Int} {l : List O} (h : ShardBy val nodes l) : l.length ≤ 8 := by
  have h1 := rise_len8 l 0 h.rise (fun x hx => (h.each x hx).1) (by omega)
  omega
theorem small_ok {p : Pl} (h : PlOk p) : SmallP p := by
  have small : ∀ n, isNode n → 0 ≤ n ∧ n ≤ 1099511627776 := fun n hn => ⟨hn.1, by have := hn.2; omega⟩
  refine ⟨⟨by have := h.lo; omega, h.hi⟩, by have := ok_nl h; omega, fun z hz => small z (h.nodes.each z hz), by have := h.few; omega, fun q hq => ⟨by have := ok_ll (h.each q hq); omega, fun o ho => ?_⟩⟩
  obtain ⟨h1, h2, _⟩ := (h.each q hq).each o ho
  refine ⟨small _ h1, ?_⟩
  rcases h2 with ⟨a, b⟩ | ⟨a, x, b, _⟩ | ⟨a, b, _⟩
  · exact ⟨by omega, by omega⟩
  · obtain ⟨hx, e⟩ := (find_iff (h.each q hq).rise _ _).1 b
    have hn := ((h.each q hq).each x hx).1
    rw [e] at hn
    exact ⟨by omega, by have := hn.1; omega, by have := hn.2; omega⟩
  · exact ⟨by omega, by omega⟩
end Go.Proofs.Ytdbhoglbmphjjaa.kv
