/-
  Two disks side by side.
-/
import Derived.Test.YtmnliieiiaedeaaDkNew
namespace Go.Proofs.Ytmnliieiiaedeaa.dk
open Go.ChangeShapes Go.WideShapes Go.ChangeAt Go.RowKit Go.Maps Go.Sort Go.Shelf plain words ord mem al

/-- two disks apart from one another, and from X -/
def Two (X : Nat → Prop) (w0 w : World) (pd pc : Nat) (sd sc : St) : Prop :=
  ∃ Fd Fc, Dk w pd Fd sd ∧ Dk w pc Fc sc ∧ (∀ k, Fd k → ¬ Fc k) ∧ (∀ k, Fd k ∨ Fc k → w0.heap.size ≤ k ∧ ¬ X k) ∧ Below w0.heap.size w0 w ∧ ∀ k, X k → k < w.heap.size
section
variable {X : Nat → Prop} {w0 w w' : World} {pd pc : Nat} {sd sc st' : St}
theorem Two.swap (h : Two X w0 w pd pc sd sc) : Two X w0 w pc pd sc sd := by
  obtain ⟨Fd, Fc, h1, h2, h3, h4, h5, h6⟩ := h
  exact ⟨Fc, Fd, h2, h1, fun k hk e => h3 k e hk, fun k hk => h4 k hk.symm, h5, h6⟩
theorem Two.below (h : Two X w0 w pd pc sd sc) : Below w0.heap.size w0 w := by
  obtain ⟨Fd, Fc, h1, h2, h3, h4, h5, h6⟩ := h
  exact h5
theorem Two.quiet (h : Two X w0 w pd pc sd sc) (hb : Below w.heap.size w w') : Two X w0 w' pd pc sd sc := by
  obtain ⟨Fd, Fc, h1, h2, h3, h4, h5, h6⟩ := h
  exact ⟨Fd, Fc, h1.chg (Chg.of_below hb) (fun _ _ e => e), h2.chg (Chg.of_below hb) (fun _ _ e => e), h3, h4, h5.trans (hb.mono h5.size), fun k hk => Nat.lt_of_lt_of_le (h6 k hk) hb.size⟩
theorem Two.mark (h : Two X w0 w pd pc sd sc) (hb : Below w.heap.size w w') {Y : Nat → Prop} (hY : ∀ k, Y k → X k ∨ w.heap.size ≤ k) (hYl : ∀ k, Y k → k < w'.heap.size) : Two Y w0 w' pd pc sd sc := by
  obtain ⟨Fd, Fc, h1, h2, h3, h4, h5, h6⟩ := h
  refine ⟨Fd, Fc, h1.chg (Chg.of_below hb) (fun _ _ e => e), h2.chg (Chg.of_below hb) (fun _ _ e => e), h3, fun k hk => ⟨(h4 k hk).1, fun e => ?_⟩, h5.trans (hb.mono h5.size), hYl⟩
  rcases hY k e with e2 | e2
  · exact (h4 k hk).2 e2
  · rcases hk with e3 | e3
    · have := h1.lt k e3; omega
    · have := h2.lt k e3; omega
def RetTwo (X : Nat → Prop) (w0 w : World) (pd pc : Nat) (sd sc : St) (r : Value) (e : Ending) (w' : World) : Prop :=
  e = .returned r ∧ Two X w0 w' pd pc sd sc ∧ Chg (fun k => ¬ X k) w w'
theorem Two.onD (h : Two X w0 w pd pc sd sc) {f : FuncId} {args : Array Value} {r : Value} (hc : ∀ F, Dk w pd F sd → Calls Try.prog f args w (RetDk w pd F st' r)) : Calls Try.prog f args w (RetTwo X w0 w pd pc st' sc r) := by
  obtain ⟨Fd, Fc, h1, h2, h3, h4, h5, h6⟩ := h
  refine (hc Fd h1).mono ?_
  rintro e w' ⟨rfl, hd, hch⟩
  have hs := hch.size
  have hs0 := h5.size
  refine ⟨rfl, ⟨Ext Fd w w', Fc, hd, h2.chg hch (fun k hk e => h3 k e hk), fun k hk e => ?_, fun k hk => ?_, h5.trans (hch.below hs0 (fun k hk => (h4 k (.inl hk)).1)), fun k hk => Nat.lt_of_lt_of_le (h6 k hk) hs⟩, hch.mono fun k _ e => (h4 k (.inl e)).2⟩
  · rcases hk with e2 | e2
    · exact h3 k e2 e
    · have := h2.lt k e; omega
  · rcases hk with e2 | e2
    · rcases e2 with e3 | e3
      · exact h4 k (.inl e3)
      · exact ⟨by omega, fun e => by have := h6 k e; omega⟩
    · exact h4 k (.inr e2)
theorem Two.onC (h : Two X w0 w pd pc sd sc) {f : FuncId} {args : Array Value} {r : Value} (hc : ∀ F, Dk w pc F sc → Calls Try.prog f args w (RetDk w pc F st' r)) : Calls Try.prog f args w (RetTwo X w0 w pd pc sd st' r) :=
  (h.swap.onD hc).mono fun _ _ ⟨he, ht, hch⟩ => ⟨he, ht.swap, hch⟩
theorem Two.d (h : Two X w0 w pd pc sd sc) : ∃ F, Dk w pd F sd := by
  obtain ⟨Fd, Fc, h1, h2, h3, h4, h5, h6⟩ := h
  exact ⟨Fd, h1⟩
end
/-- a disk whose power is on, and to which nothing is ordered, appends -/
theorem app_alive {room : Int} {ls : AL Nm} {pd : List Chn} {ops : Int} {a b : Nm} (ha : okn a = true) (hf : (fsum (fold ls pd) : Int) + (b.length : Int) ≤ room) :
    appSt ⟨room, ls, pd, none, false, ops⟩ a b = (⟨room, ls, pd ++ [.app a b], none, false, ops + 1⟩, 0) := by
  unfold appSt
  rw [if_neg (by rw [ha]; simp), if_neg (by simp only [St.shown]; omega)]
  rfl
theorem bs_extract (b : Nm) (M : Nat) : (bs b).extract 0 M = bs (b.take M) := by
  obtain ⟨a, ha⟩ := ba_bs ((bs b).extract 0 M)
  have h1 : ((bs b).extract 0 M).data.toList = b.take M := by simp [bs]
  rw [ha, bs_list] at h1
  rw [ha, h1]
theorem sumc_snoc (l : List Chn) (c : Chn) : sumc (l ++ [c]) = sumc l + chlen c := by simp [sumc]
end Go.Proofs.Ytmnliieiiaedeaa.dk
