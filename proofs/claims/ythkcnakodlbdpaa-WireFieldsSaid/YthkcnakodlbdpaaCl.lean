/-
  Records of the commit log as bytes: mathematics, nothing of the program.
-/
import Derived.Test.YthkcnakodlbdpaaUv
import Derived.Test.YthkcnakodlbdpaaAdler
namespace Go.Proofs.Ythkcnakodlbdpaa.cl
open uvs

abbrev By := List UInt8
/-- the k lowest bytes of v, the highest first -/
def be : Nat → Nat → By
  | 0, _ => []
  | k + 1, v => be k (v / 256) ++ [UInt8.ofNat (v % 256)]
def fix (l : By) : Nat := l.foldl (fun a c => a * 256 + c.toNat) 0
theorem be_len (k v : Nat) : (be k v).length = k := by
  induction k generalizing v with
  | zero => rfl
  | succ k ih => simp [be, ih]
theorem fix_snoc (l : By) (c : UInt8) : fix (l ++ [c]) = fix l * 256 + c.toNat := by simp [fix]
theorem fix_lt (l : By) : fix l < 256 ^ l.length := by
  have h : ∀ (n : Nat) (l : By), l.length = n → fix l < 256 ^ n := by
    intro n
    induction n with
    | zero => intro l hl; obtain rfl := List.eq_nil_of_length_eq_zero hl; decide
    | succ n ih =>
      intro l hl
      obtain ⟨m, c, rfl⟩ : ∃ m c, l = m ++ [c] := ⟨l.dropLast, l.getLast (by intro e; rw [e] at hl; cases hl), (List.dropLast_concat_getLast _).symm⟩
      rw [fix_snoc]
      have h1 := ih m (by simpa using hl)
      have h2 := c.toNat_lt
      rw [Nat.pow_succ]
      omega
  exact h _ l rfl
theorem fix_be (k v : Nat) (h : v < 256 ^ k) : fix (be k v) = v := by
  induction k generalizing v with
  | zero => simp at h; subst h; rfl
  | succ k ih =>
    rw [Nat.pow_succ] at h
    rw [be, fix_snoc, ih _ (by omega), ofNat_lt _ (by omega)]
    omega
theorem be_fix (l : By) : be l.length (fix l) = l := by
  have h : ∀ (n : Nat) (l : By), l.length = n → be n (fix l) = l := by
    intro n
    induction n with
    | zero => intro l hl; obtain rfl := List.eq_nil_of_length_eq_zero hl; rfl
    | succ n ih =>
      intro l hl
      obtain ⟨m, c, rfl⟩ : ∃ m c, l = m ++ [c] := ⟨l.dropLast, l.getLast (by intro e; rw [e] at hl; cases hl), (List.dropLast_concat_getLast _).symm⟩
      rw [fix_snoc, be]
      have h2 := c.toNat_lt
      rw [show (fix m * 256 + c.toNat) / 256 = fix m by omega, show (fix m * 256 + c.toNat) % 256 = c.toNat by omega, ih m (by simpa using hl), UInt8.ofNat_toNat]
  exact h _ l rfl
/-- one more of the bytes, from the highest on -/
theorem be_more (s j v : Nat) (h : j < s) : be (j + 1) (v / 256 ^ (s - (j + 1))) = be j (v / 256 ^ (s - j)) ++ [UInt8.ofNat (v / 256 ^ (s - (j + 1)) % 256)] := by
  rw [be, Nat.div_div_eq_div_mul, ← Nat.pow_succ, show (s - (j + 1)).succ = s - j by omega]
theorem fix_take (l : By) (j : Nat) {c : UInt8} (h : l[j]? = some c) : fix (l.take (j + 1)) = fix (l.take j) * 256 + c.toNat := by
  rw [← fix_snoc, List.take_add_one, h]; rfl

structure Rec where
  sp : Int
  id : By
  t : Int
  v : Int
  s : Int
def body (r : Rec) : By := uv r.sp.toNat ++ (uv r.id.length ++ (r.id ++ (uv r.t.toNat ++ (be 8 r.v.toNat ++ be 8 r.s.toNat))))
def enc (r : Rec) : By := uv (body r).length ++ (be 4 (adler.sum (body r)).toNat ++ body r)
/-- the error of a record -/
def err (r : Rec) : Int := if r.sp < 0 ∨ 4 ≤ r.sp ∨ r.t < 0 ∨ 1099511627776 < r.t then 1 else if r.id.length < 1 ∨ 16 < r.id.length then 80 else 0
/-- numbers that a machine has -/
def Num (r : Rec) : Prop := 0 ≤ r.v ∧ r.v < 18446744073709551616 ∧ 0 ≤ r.s ∧ r.s < 18446744073709551616
structure Good (r : Rec) : Prop where
  sp0 : 0 ≤ r.sp
  sp1 : r.sp < 4
  t0 : 0 ≤ r.t
  t1 : r.t ≤ 1099511627776
  i0 : 1 ≤ r.id.length
  i1 : r.id.length ≤ 16
theorem good_of {r : Rec} (h : err r = 0) : Good r := by
  unfold err at h
  split at h
  · cases h
  · split at h
    · cases h
    · exact ⟨by omega, by omega, by omega, by omega, by omega, by omega⟩
theorem err_good {r : Rec} (h : Good r) : err r = 0 := by
  obtain ⟨h1, h2, h3, h4, h5, h6⟩ := h
  unfold err
  rw [if_neg (by omega), if_neg (by omega)]
def num (most : Nat) (b : By) : Option (Nat × By) := if (ru b 0 0).2 = 0 ∨ most < (ru b 0 0).1 then none else some ((ru b 0 0).1, b.drop (ru b 0 0).2)
theorem num_uv {most v : Nat} (h : v ≤ most) (hv : v < 18446744073709551616) (rest : By) : num most (uv v ++ rest) = some (v, rest) := by
  unfold num
  rw [ru_uv v rest hv, if_neg (by have := (uv_len v).1; simp only; omega), List.drop_left]
theorem num_back {most v : Nat} {b c : By} (h : num most b = some (v, c)) : v ≤ most ∧ v < 18446744073709551616 ∧ b = uv v ++ c := by
  unfold num at h
  split at h
  · cases h
  · rename_i hh
    injection h with h
    injection h with h1 h2
    obtain ⟨e1, e2, e3⟩ := ru_back0 b (ru b 0 0).1 (ru b 0 0).2 rfl (by omega)
    rw [h1] at e1 e3 hh
    exact ⟨by omega, e1, by rw [← e3, ← h2, List.take_append_drop]⟩
def parse2 (sp n : Nat) (b : By) : Option Rec := if n < 1 ∨ b.length < n then none else match num 1099511627776 (b.drop n) with
  | none => none
  | some (t, c) => if c.length = 16 then some ⟨sp, b.take n, t, fix (c.take 8), fix (c.drop 8)⟩ else none
def parse (b : By) : Option Rec := match num 3 b with
  | none => none
  | some (sp, b1) => match num 16 b1 with
    | none => none
    | some (n, b2) => parse2 sp n b2
theorem fix_nn {l : By} (h : l.length = 8) : Num ⟨0, [], 0, fix l, fix l⟩ := by
  have := fix_lt l
  rw [h] at this
  have e : (256 : Nat) ^ 8 = 18446744073709551616 := by decide
  rw [e] at this
  exact ⟨by simp only; omega, by simp only; omega, by simp only; omega, by simp only; omega⟩
theorem parse_back {b : By} {r : Rec} (h : parse b = some r) : Good r ∧ Num r ∧ b = body r := by
  unfold parse at h
  split at h
  · cases h
  · rename_i sp b1 h1
    split at h
    · cases h
    · rename_i n b2 h2
      unfold parse2 at h
      split at h
      · cases h
      · rename_i hn
        split at h
        · cases h
        · rename_i t c h3
          split at h
          · rename_i hc
            injection h with h
            obtain ⟨a1, a2, a3⟩ := num_back h1
            obtain ⟨c1, c2, c3⟩ := num_back h2
            obtain ⟨d1, d2, d3⟩ := num_back h3
            have f1 := fix_nn (l := c.take 8) (by rw [List.length_take]; omega)
            have f2 := fix_nn (l := c.drop 8) (by rw [List.length_drop]; omega)
            have e8 : be 8 (fix (c.take 8)) = c.take 8 := by have := be_fix (c.take 8); rwa [show (c.take 8).length = 8 by rw [List.length_take]; omega] at this
            have e9 : be 8 (fix (c.drop 8)) = c.drop 8 := by have := be_fix (c.drop 8); rwa [show (c.drop 8).length = 8 by rw [List.length_drop]; omega] at this
            have hl : (b2.take n).length = n := by rw [List.length_take]; omega
            subst h
            refine ⟨⟨by simp only; omega, by simp only; omega, by simp only; omega, by simp only; omega, by simp only [hl]; omega, by simp only [hl]; omega⟩, ⟨f1.1, f1.2.1, f2.1, f2.2.1⟩, ?_⟩
            unfold body
            simp only [Int.toNat_natCast, hl, e8, e9, List.take_append_drop]
            rw [← d3, List.take_append_drop, ← c3]
            exact a3
          · cases h
theorem parse_body {r : Rec} (h : Good r) (hn : Num r) : parse (body r) = some r := by
  obtain ⟨h1, h2, h3, h4, h5, h6⟩ := h
  obtain ⟨n1, n2, n3, n4⟩ := hn
  obtain ⟨sp, id, t, v, s⟩ := r
  simp only at h1 h2 h3 h4 h5 h6 n1 n2 n3 n4
  unfold body parse
  simp only
  rw [num_uv (by omega) (by omega)]
  simp only
  rw [num_uv (by omega) (by omega)]
  simp only
  unfold parse2
  rw [if_neg (by rw [List.length_append]; omega), List.drop_left, num_uv (by omega) (by omega)]
  simp only
  have e : (256 : Nat) ^ 8 = 18446744073709551616 := by decide
  rw [if_pos (by rw [List.length_append, be_len, be_len]), List.take_left, List.take_left' (be_len 8 _), List.drop_left' (be_len 8 _), fix_be _ _ (by rw [e]; omega), fix_be _ _ (by rw [e]; omega)]
  congr 2 <;> omega
/-- the record that b begins with -/
def dec1 (b : By) : Option (Rec × Nat) :=
  if (ru b 0 0).2 = 0 ∨ (b.drop (ru b 0 0).2).length < 4 ∨ (b.drop (ru b 0 0).2).length - 4 < (ru b 0 0).1 then none else
  match parse (((b.drop (ru b 0 0).2).drop 4).take (ru b 0 0).1) with
  | none => none
  | some r => if (adler.sum (((b.drop (ru b 0 0).2).drop 4).take (ru b 0 0).1)).toNat = fix ((b.drop (ru b 0 0).2).take 4) then some (r, (ru b 0 0).2 + 4 + (ru b 0 0).1) else none
theorem body_len {r : Rec} (h : Good r) : 16 ≤ (body r).length ∧ (body r).length ≤ 64 := by
  unfold body
  have a := uv_len r.sp.toNat
  have b := uv_len r.id.length
  have c := uv_len r.t.toNat
  have := h.i1
  simp only [List.length_append, be_len]
  omega
theorem sum_lt (l : By) : 0 ≤ adler.sum l ∧ (adler.sum l).toNat < 4294967296 := by
  have := adler.adl_bd l
  unfold adler.sum
  omega
theorem dec1_enc {r : Rec} (h : Good r) (hn : Num r) (rest : By) : dec1 (enc r ++ rest) = some (r, (enc r).length) := by
  have hb := body_len h
  have hu := uv_len (body r).length
  have e4 : (256 : Nat) ^ 4 = 4294967296 := by decide
  have hs := sum_lt (body r)
  have hru : ru (enc r ++ rest) 0 0 = ((body r).length, (uv (body r).length).length) := by
    unfold enc
    rw [List.append_assoc]
    exact ru_uv _ _ (by omega)
  have hd : (enc r ++ rest).drop (uv (body r).length).length = be 4 (adler.sum (body r)).toNat ++ (body r ++ rest) := by
    unfold enc
    rw [List.append_assoc, List.drop_left, List.append_assoc]
  unfold dec1
  rw [hru]
  simp only
  rw [hd, if_neg (by simp only [List.length_append, be_len]; omega), List.drop_left' (be_len 4 _), List.take_left, parse_body h hn]
  simp only
  rw [List.take_left' (be_len 4 _), fix_be _ _ (by rw [e4]; exact hs.2), if_pos rfl]
  unfold enc
  simp only [List.length_append, be_len]
  congr 2
  omega
theorem dec1_back {b : By} {r : Rec} {n : Nat} (h : dec1 b = some (r, n)) : Good r ∧ Num r ∧ n = (enc r).length ∧ n ≤ b.length ∧ b = enc r ++ b.drop n := by
  unfold dec1 at h
  split at h
  · cases h
  · rename_i hc
    split at h
    · cases h
    · rename_i r' hp
      split at h
      · rename_i ha
        injection h with h
        injection h with h1 h2
        subst h1
        obtain ⟨g, hn, hb⟩ := parse_back hp
        obtain ⟨e1, e2, e3⟩ := ru_back0 b (ru b 0 0).1 (ru b 0 0).2 rfl (by omega)
        generalize (ru b 0 0).1 = v at hc hp ha h2 hb e1 e3
        generalize (ru b 0 0).2 = k at hc hp ha h2 hb e2 e3
        rw [List.length_drop] at hc
        have hlen : (body r').length = v := by rw [← hb, List.length_take, List.length_drop, List.length_drop]; omega
        have hku : k = (uv v).length := by rw [← e3, List.length_take]; omega
        have h4 : (b.drop k).take 4 = be 4 (adler.sum (body r')).toNat := by
          rw [← hb, ha]
          have := be_fix ((b.drop k).take 4)
          rw [show ((b.drop k).take 4).length = 4 by rw [List.length_take, List.length_drop]; omega] at this
          exact this.symm
        have henc : enc r' = b.take (k + 4 + v) := by
          unfold enc
          rw [hlen, ← e3, ← h4, ← hb, List.take_add, List.take_add, List.drop_drop, List.append_assoc]
        refine ⟨g, hn, ?_, by omega, ?_⟩
        · rw [henc, List.length_take]; omega
        · rw [henc, ← h2, List.take_append_drop]
      · cases h
theorem dec1_pos {b : By} {r : Rec} {n : Nat} (h : dec1 b = some (r, n)) : 0 < n := by
  obtain ⟨_, _, h3, _, _⟩ := dec1_back h
  rw [h3]
  unfold enc
  have := uv_len (body r).length
  rw [List.length_append]
  omega
/-- all records at the beginning, and their bytes -/
def decF : Nat → By → List Rec × Nat
  | 0, _ => ([], 0)
  | f + 1, b => match dec1 b with
    | none => ([], 0)
    | some (r, n) => (r :: (decF f (b.drop n)).1, n + (decF f (b.drop n)).2)
def dec (b : By) : List Rec × Nat := decF (b.length + 1) b
theorem decF_more : ∀ (f g : Nat) (b : By), b.length < f → b.length < g → decF f b = decF g b
  | 0, _, _, h, _ => by omega
  | _, 0, _, _, h => by omega
  | f + 1, g + 1, b, hf, hg => by
    unfold decF
    cases h : dec1 b with
    | none => rfl
    | some p =>
      obtain ⟨r, n⟩ := p
      have h1 := dec1_pos h
      have h2 := (dec1_back h).2.2.2.1
      simp only
      rw [decF_more f g (b.drop n) (by rw [List.length_drop]; omega) (by rw [List.length_drop]; omega)]
theorem dec_none {b : By} (h : dec1 b = none) : dec b = ([], 0) := by unfold dec decF; rw [h]
theorem dec_some {b : By} {r : Rec} {n : Nat} (h : dec1 b = some (r, n)) : dec b = (r :: (dec (b.drop n)).1, n + (dec (b.drop n)).2) := by
  have h1 := dec1_pos h
  have h2 := (dec1_back h).2.2.2.1
  unfold dec
  rw [decF]
  rw [h]
  simp only
  rw [decF_more b.length ((b.drop n).length + 1) (b.drop n) (by rw [List.length_drop]; omega) (by omega)]
def encs (l : List Rec) : By := (l.map enc).flatten
theorem dec_form : ∀ (n : Nat) (b : By), b.length ≤ n → (dec b).2 ≤ b.length ∧ b.take (dec b).2 = encs (dec b).1 ∧ (∀ r ∈ (dec b).1, Good r ∧ Num r) ∧ dec1 (b.drop (dec b).2) = none
  | n, b, hb => by
    cases h : dec1 b with
    | none => rw [dec_none h]; exact ⟨Nat.zero_le _, rfl, fun r hr => by simp at hr, by simpa using h⟩
    | some p =>
      obtain ⟨r, k⟩ := p
      have h1 := dec1_pos h
      obtain ⟨g1, g2, g3, g4, g5⟩ := dec1_back h
      match n, hb with
      | 0, hb => omega
      | n + 1, hb =>
        obtain ⟨i1, i2, i3, i4⟩ := dec_form n (b.drop k) (by rw [List.length_drop]; omega)
        rw [dec_some h]
        simp only
        rw [List.length_drop] at i1
        refine ⟨by omega, ?_, ?_, ?_⟩
        · rw [List.take_add, i2, show b.take k = enc r by rw [g5, g3, List.take_left]]
          simp [encs]
        · intro r' hr'
          rcases List.mem_cons.1 hr' with rfl | hr'
          · exact ⟨g1, g2⟩
          · exact i3 r' hr'
        · rw [← List.drop_drop]; exact i4
theorem encs_cons (r : Rec) (l : List Rec) : encs (r :: l) = enc r ++ encs l := by simp [encs]
theorem encs_append (l m : List Rec) : encs (l ++ m) = encs l ++ encs m := by simp [encs]
/-- records in front of anything -/
theorem dec_encs (l : List Rec) (hl : ∀ r ∈ l, Good r ∧ Num r) (b : By) : dec (encs l ++ b) = (l ++ (dec b).1, (encs l).length + (dec b).2) := by
  induction l with
  | nil => simp [encs]
  | cons r l ih =>
    obtain ⟨g, hn⟩ := hl r (List.mem_cons_self ..)
    rw [encs_cons, List.append_assoc, dec_some (dec1_enc g hn _), List.drop_left, ih (fun r hr => hl r (List.mem_cons_of_mem _ hr)), List.length_append]
    simp only [List.cons_append]
    congr 1
    omega
/-- a record that is cut off is none -/
theorem dec1_cut {r : Rec} (g : Good r) (hn : Num r) {k : Nat} (hk : k < (enc r).length) : dec1 ((enc r).take k) = none := by
  cases h : dec1 ((enc r).take k) with
  | none => rfl
  | some p =>
    obtain ⟨r', n⟩ := p
    obtain ⟨g1, g2, g3, g4, g5⟩ := dec1_back h
    have e1 : dec1 (enc r ++ []) = some (r, (enc r).length) := dec1_enc g hn []
    have e2 : enc r = enc r' ++ (((enc r).take k).drop n ++ (enc r).drop k) := by
      rw [← List.append_assoc, ← g5, List.take_append_drop]
    rw [List.append_nil, e2, dec1_enc g1 g2] at e1
    injection e1 with e1
    injection e1 with e3 e4
    rw [List.length_take] at g4
    rw [← e2, ← g3] at e4
    omega
end Go.Proofs.Ythkcnakodlbdpaa.cl
