/-
  Slices of the call's own: what append leaves, whatever the source; nothing of the program.
-/
import Derived.Test.YtheanpcbjjogfaaWords
import Derived.Laws.AppendOwnNone
import Derived.OwnWalk
import Derived.Laws.IdiomStrings
import Derived.Laws.BytesArg
namespace Go.Proofs.Ytheanpcbjjogfaa.words
open Go Go.RowKit

theorem rd_cells {w : World} {B n : Nat} {ad : Addr} {vs : List Value} (h : Rd w B (some ad) n vs) : ∀ j u, vs[j]? = some u → w.cell? (ad.add j) = some u := by
  intro j u hu
  have hj : j < n := by
    rw [← h.len]
    rcases Nat.lt_or_ge j vs.length with h | h
    · exact h
    · rw [List.getElem?_eq_none h] at hu; cases hu
  obtain ⟨b, off, v, e, _, hv, hc⟩ := h.at_ j hj
  cases e
  rw [hu] at hv
  cases hv
  have e : (⟨b, off, none⟩ : Addr).add j = ⟨b, off + j, none⟩ := by
    unfold Addr.add
    by_cases hj0 : j = 0
    · simp [hj0]
    · simp [hj0]
  rw [e]; exact hc

theorem own_form {w : World} {base size n : Nat} {e : TypeId} {v : Value} {xs : List Value} (h : w.ownsRow base e size v n xs) :
    (v = .slice none 0 0 ∧ n = 0) ∨ ∃ g cap, v = .slice (some ⟨g, 0, none⟩) n cap ∧ base ≤ g ∧ g < w.heap.size ∧ n ≤ cap ∧ cap ≤ maxLen := by
  rcases h.2 with ⟨rfl, rfl⟩ | ⟨g, cap, cur, rfl, hb, hg, hnc, hcm, _⟩
  · exact .inl ⟨rfl, rfl⟩
  · refine .inr ⟨g, cap, rfl, hb, ?_, hnc, hcm⟩
    rcases Nat.lt_or_ge g w.heap.size with hlt | hge
    · exact hlt
    · rw [Array.getElem?_eq_none hge] at hg; cases hg
theorem own_rd {w : World} {base size n cap : Nat} {e : TypeId} {A : Option Addr} {xs : List Value} (h : w.ownsRow base e size (.slice A n cap) n xs) : Rd w w.heap.size A (n * size) xs := by
  refine ⟨h.1, fun j hj => ?_⟩
  rcases own_form h with ⟨e1, rfl⟩ | ⟨g, c, e1, _, hg, _, _⟩
  · simp at hj
  · cases e1
    have hc := h.cellAt j hj
    have hx : j < xs.length := by rw [h.1]; exact hj
    rw [List.getElem?_eq_getElem hx] at hc
    exact ⟨g, 0, xs[j], rfl, hg, List.getElem?_eq_getElem hx, by rw [Nat.zero_add]; exact hc⟩

/-- 'append(v, x...)', v the call's own, x whatever is read *-/
theorem wpList_append_rd {P : Program} {w : World} {ops : Array Oper} {rest : List Oper} {o : Oper} {a : Act} {Q : Exit → Act → World → Prop} (hgd : o.guard = none) (s x : Operand) (t : TypeId)
    (ho : o.op = .call { callee := .builtin .append, args := #[s, x], argTypes := #[t, t] })
    (base : Nat) (e : TypeId) (i : TypeInfo) (z : Value) (size bytes : Nat) (ht : P.underlying t = some (.slice e)) (hi : P.info? e = some i) (hz : i.zero = some z)
    (hsize : i.size = size) (hby : i.bytes = bytes) (hzs : z.cells.size = size) (hsz : 0 < size)
    (v : Value) (n : Nat) (xs : List Value) (hs : a.eval s = v) (hown : w.ownsRow base e size v n xs)
    (B : Nat) (A : Option Addr) (m c : Nat) (hA : A = none → c = 0) (news : List Value) (hx : a.eval x = .slice A m c) (hr : Rd w B A (m * size) news) (h1 : ∀ u ∈ news, u.oneCell' = true)
    (h63 : n + m ≤ maxLen) (hbytes : (n + m) * bytes ≤ 140737488355328) (hbase : base ≤ w.heap.size)
    (h : ∀ v' w', w'.ownsRow base e size v' (n + m) (xs ++ news) → w.grownBy w' v.ownBlock → (v' = .slice none 0 0 ↔ v = .slice none 0 0 ∧ m = 0) → wpList P ops Q rest (a.put o.dst v') w') : wpList P ops Q (o :: rest) a w := by
  cases A with
  | some ad => exact wpList_append_own w hgd s x t ho base e i z size bytes ht hi hz hsize hby hzs hsz v n xs hs hown ad m c news hx hr.len (rd_cells hr) h1 h63 hbytes hbase h
  | none =>
    have hm : m = 0 := by
      rcases Nat.eq_zero_or_pos m with h0 | h0
      · exact h0
      · obtain ⟨_, _, _, e, _⟩ := hr.at_ 0 (Nat.mul_pos h0 hsz)
        cases e
    subst hm
    have hn : news = [] := List.eq_nil_of_length_eq_zero (by simpa using hr.len)
    subst hn
    obtain rfl := hA rfl
    exact wpList_append_own_none hgd s x t ho base e i size ht hi v n xs hs hown hx (h v w (by simpa using hown) (World.grownBy.refl w _) (by simp))
theorem own_below {w w' : World} {base : Nat} {v : Value} {size n : Nat} {e : TypeId} {xs : List Value} {w0 : World} (hb : Below base w0 w) (hown : w.ownsRow base e size v n xs) (hB : base ≤ w.heap.size) (hg : w.grownBy w' v.ownBlock) : Below base w0 w' :=
  hb.grown hg hB fun k hk => (hown.lt k hk).1
theorem u8s_one (bs : List UInt8) : ∀ u ∈ u8s bs, u.oneCell' = true := by
  intro v hv
  simp only [u8s, List.mem_map] at hv
  obtain ⟨_, _, rfl⟩ := hv
  rfl
theorem u8s_set (bs : List UInt8) (k : Nat) (c : UInt8) : (u8s bs).set k (.int .u8 (c.toNat : Int)) = u8s (bs.set k c) := by
  unfold u8s
  rw [List.map_set]
  rfl
/-- a byte out of a number *-/
theorem byte_of (z : Int) : ∃ c : UInt8, (c.toNat : Int) = z % 256 := by
  refine ⟨UInt8.ofNat (z % 256).toNat, ?_⟩
  rw [UInt8.toNat_ofNat']
  omega
/-- Go's way to bring any number into 0 .. n-1 *-/
theorem at_mod (a : Int) (n : Nat) (hn : 1 ≤ n) (hn' : n ≤ 4611686018427387904) : (-(n : Int) < a.tmod n ∧ a.tmod n < n) ∧ ∃ k : Nat, k < n ∧ (a.tmod n + n).tmod n = (k : Int) := by
  have h1 : a.tmod n < n := Int.tmod_lt_of_pos a (by omega)
  have h2 : -(n : Int) < a.tmod n := by
    have := Int.tmod_lt_of_pos (-a) (show (0 : Int) < n by omega)
    rw [Int.neg_tmod] at this
    omega
  refine ⟨⟨h2, h1⟩, ((a.tmod n + n).tmod n).toNat, ?_, ?_⟩
  · have h3 : (a.tmod n + n).tmod n < n := Int.tmod_lt_of_pos _ (by omega)
    have h4 : 0 ≤ (a.tmod n + n).tmod n := Int.tmod_nonneg _ (by omega)
    omega
  · have h4 : 0 ≤ (a.tmod n + n).tmod n := Int.tmod_nonneg _ (by omega)
    omega
theorem add_plain (b off j : Nat) : (⟨b, off, none⟩ : Addr).add j = ⟨b, off + j, none⟩ := by
  unfold Addr.add
  by_cases hj0 : j = 0
  · simp [hj0]
  · simp [hj0]
/-- 'string(b)' *-/
theorem conv_string {P : Program} {w : World} {B n c : Nat} {A : Option Addr} {bs : List UInt8} (h : Bs w B A n bs) (src dst e : TypeId) (hs : P.underlying src = some (.slice e)) (hd : P.underlying dst = some .string) (he : P.underlying e = some (.int .u8)) :
    (convert src dst (.slice A n c)).run P w = .ok (.string ⟨bs.toArray⟩) w := by
  have hl := h.len_
  cases A with
  | none =>
    have hn : n = 0 := by
      rcases Nat.eq_zero_or_pos n with h0 | h0
      · exact h0
      · obtain ⟨_, _, _, e, _⟩ := h.at_ 0 h0
        cases e
    subst hn
    obtain rfl := List.eq_nil_of_length_eq_zero hl
    exact run_convert_bytes_nil w src e hs he 0 c dst hd
  | some ad =>
    subst hl
    refine run_convert_bytes_back w src dst e ad c bs hs he hd fun j hj => ?_
    obtain ⟨b, off, ch, e1, _, hg, hc⟩ := Bs.get h hj
    cases e1
    rw [add_plain, hc]
    rw [List.getElem?_eq_getElem hj] at hg
    cases hg
    rfl
theorem own_some {w : World} {base size n m : Nat} {e : TypeId} {v v' : Value} {xs : List Value} (h : w.ownsRow base e size v' n xs) {g0 l0 c0 : Nat} (hv : v = .slice (some ⟨g0, 0, none⟩) l0 c0) (hnn : v' = .slice none 0 0 ↔ v = .slice none 0 0 ∧ m = 0) :
    ∃ g cap, v' = .slice (some ⟨g, 0, none⟩) n cap ∧ base ≤ g ∧ g < w.heap.size ∧ n ≤ cap ∧ cap ≤ maxLen := by
  rcases own_form h with ⟨e, _⟩ | h
  · have := (hnn.1 e).1
    rw [hv] at this
    cases this
  · exact h
theorem cells_new {w : World} {t : TypeId} {H : Nat} (hH : w.heap.size = H) (cs : List Value) : ∀ j u, cs[j]? = some u → (w.alloc (.cells cs.toArray t)).cell? ((⟨H, 0, none⟩ : Addr).add j) = some u := by
  intro j u hu
  subst hH
  rw [add_plain, Nat.zero_add, World.cell?_alloc_new w cs.toArray t j]
  simpa using hu
theorem below_step {w w1 w2 : World} (h : Below w.heap.size w w1) (h2 : Below w1.heap.size w1 w2) : Below w.heap.size w w2 := h.trans (h2.mono h.size)
theorem left_ {p q : Prop} (h : p ∧ q) : p := h.1
theorem own_bs {w : World} {base n cap : Nat} {e : TypeId} {A : Option Addr} {bs : List UInt8} (h : w.ownsRow base e 1 (.slice A n cap) n (u8s bs)) : Bs w w.heap.size A n bs := by
  have := own_rd h
  rwa [Nat.mul_one] at this
/-- a row stays while the world changes from block B on *-/
theorem own_keep {w w' : World} {base size n B : Nat} {e : TypeId} {v : Value} {xs : List Value} (h : w.ownsRow base e size v n xs) (hb : Below B w w') (hB : w.heap.size ≤ B) : w'.ownsRow base e size v n xs := by
  obtain ⟨h1, h2⟩ := h
  refine ⟨h1, ?_⟩
  rcases h2 with h2 | ⟨g, cap, cur, e1, e2, e3, e4⟩
  · exact .inl h2
  · refine .inr ⟨g, cap, cur, e1, e2, ?_, e4⟩
    rw [hb.block g ?_]; exact e3
    rcases Nat.lt_or_ge g w.heap.size with hlt | hge
    · omega
    · rw [Array.getElem?_eq_none hge] at e3; cases e3
theorem own_base {w : World} {base base' size n : Nat} {e : TypeId} {v : Value} {xs : List Value} (h : w.ownsRow base e size v n xs) (hB : base' ≤ base) : w.ownsRow base' e size v n xs := by
  obtain ⟨h1, h2⟩ := h
  refine ⟨h1, ?_⟩
  rcases h2 with h2 | ⟨g, cap, cur, e1, e2, e3⟩
  · exact .inl h2
  · exact .inr ⟨g, cap, cur, e1, by omega, e3⟩
theorem own_pos {w : World} {base size n cap : Nat} {e : TypeId} {A : Option Addr} {xs : List Value} (h : w.ownsRow base e size (.slice A n cap) n xs) (hn : 0 < n) : ∃ g, A = some ⟨g, 0, none⟩ ∧ base ≤ g ∧ g < w.heap.size ∧ n ≤ cap ∧ cap ≤ maxLen := by
  rcases own_form h with ⟨_, e⟩ | ⟨g, c, e, h1, h2, h3, h4⟩
  · omega
  · cases e; exact ⟨g, rfl, h1, h2, h3, h4⟩
theorem own_cap {w : World} {base size n cap : Nat} {e : TypeId} {A : Option Addr} {xs : List Value} (h : w.ownsRow base e size (.slice A n cap) n xs) : n ≤ cap ∧ cap ≤ 9223372036854775807 := by
  rcases own_form h with ⟨e, rfl⟩ | ⟨g, c, e, h1, h2, h3, h4⟩
  · cases e; omega
  · cases e; unfold maxLen at h4; omega
/-- 's[k:]' *-/
theorem rd_dropped {w : World} {B n b off k : Nat} {vs : List Value} (h : Rd w B (some ⟨b, off, none⟩) n vs) (hk : k ≤ n) : Rd w B (some ⟨b, off + k, none⟩) (n - k) (vs.drop k) :=
  ⟨by rw [List.length_drop, h.len], fun j hj => by
    obtain ⟨b', off', v, e, hb, hv, hc⟩ := h.at_ (k + j) (by omega)
    cases e
    exact ⟨_, _, v, rfl, hb, by rw [List.getElem?_drop]; exact hv, by rw [show off + k + j = off + (k + j) from by omega]; exact hc⟩⟩
theorem bs_dropped {w : World} {B n b off k : Nat} {bs : List UInt8} (h : Bs w B (some ⟨b, off, none⟩) n bs) (hk : k ≤ n) : Bs w B (some ⟨b, off + k, none⟩) (n - k) (bs.drop k) := by
  have := rd_dropped h hk
  rwa [show (u8s bs).drop k = u8s (bs.drop k) from by simp [u8s, List.map_drop]] at this
/-- 's[k:]' as the walk writes it *-/
theorem bs_cut {w : World} {B n b off k cap : Nat} {bs : List UInt8} (h : Bs w B (some ⟨b, off, none⟩) n bs) (hk : k ≤ n) (hc : n ≤ cap) : Bs w B (if cap = k then some ⟨b, off, none⟩ else some ⟨b, off + k, none⟩) (n - k) (bs.drop k) := by
  by_cases e : cap = k
  · rw [if_pos e]
    have hn : n - k = 0 := by omega
    have hl := h.len_
    rw [hn, List.drop_of_length_le (by omega)]
    exact Rd.nil _ _ _
  · rw [if_neg e]; exact bs_dropped h hk
end Go.Proofs.Ytheanpcbjjogfaa.words
