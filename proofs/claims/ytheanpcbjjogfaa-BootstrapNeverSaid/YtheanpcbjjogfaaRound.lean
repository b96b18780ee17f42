/-
  A region that draws its order, inside a round of a loop over a function: what holds by a plan holds in the round, too; marks at a function's end.
-/
import Derived.Test.YtheanpcbjjogfaaOrd
import Derived.Test.YtheanpcbjjogfaaMem
import Derived.RangeFuncNested
import Derived.RangeFuncBound
import Derived.RangeFuncCalls
import Derived.RangeFuncLeaves
import Derived.Shelf.Abstract
import Derived.WalkKit
import Derived.OwnWalkIn
import Derived.TacticsInMore
import Derived.LoopNIn
import Derived.LoopIn
import Derived.OrdersIn
namespace Go.Proofs.Ytheanpcbjjogfaa.ord
open Go Go.RowKit words mem

theorem only_normal {Q : Exit → Act → World → Prop} : ∀ e a w, e ≠ .normal → ¬ (fun e a w => e = Exit.normal ∧ Q .normal a w) e a w := fun _ _ _ h k => h k.1
/-- only the way on -/
def OnN (Q : Act → World → Prop) : Exit → Act → World → Prop := fun e a w => e = .normal ∧ Q a w
theorem onN_lets {Q : Act → World → Prop} : ¬ LetsOut (OnN Q) := fun ⟨_, _, h⟩ => by cases h.1
def noDefer (l : List Oper) : Bool := l.all fun o => match o.op with | .defer _ => false | _ => true
theorem RowsIn.inRound {F : Fence} {n : Nat} {P : Program} {row : String} {args : Array Value} {w : World} {R : Value → World → Prop} (l : Nat) (h : RowsIn F n P row args w R) : RowsIn (F.inRound l) n P row args w R := h
theorem rowsIn_wide {n : Nat} {P : Program} {row : String} {args : Array Value} {w : World} {R : Value → World → Prop} (h : Rows P row args w R) : RowsIn Fence.wide n P row args w R :=
  fun c cs _ => let ⟨v, w', r, s⟩ := h c cs; ⟨v, w', r, stepsIn_wide.2 s⟩
theorem oper_in {o : Oper} {lp n : Nat} {P : Program} {a : Act} {w : World} {K K' : Act → World → Prop} {Q Q' : Exit → Act → World → Prop} (hd : ∀ c, o.op ≠ .defer c) (hK : ∀ a w, K a w → K' a w) (hQ : ∀ c a w, Q (.panic c) a w → Q' (.panic c) a w) (hl : ¬ LetsOut Q)
    (h : o.wp P a w K Q ∨ (o.asks P a w ∧ LetsOut Q)) : o.wpIn (Fence.wide.inRound lp) n P a w K' Q' := by
  rcases h with h | ⟨_, h⟩
  · refine ⟨fun _ _ => trivial, ?_⟩
    unfold Oper.wp at h
    rw [Fence.inRound_round, Oper.semAt_some lp a.eval o hd]
    generalize (execOp a.eval o).run P w = r at h ⊢
    cases r with
    | ok x w' =>
      cases x <;> simp only [Oper.upon, Oper.uponIn] at h ⊢ <;>
        first
          | exact hK _ _ h
          | exact ⟨fun e => (by cases e), CallsIn.inRound lp (callsIn_wide.2 (Calls.mono h (fun e w'' he => by cases e <;> first | exact hK _ _ he | exact hQ _ _ _ he | exact (hl he).elim)))⟩
          | exact ⟨fun e => (by cases e), RowsIn.inRound lp (rowsIn_wide (Rows.mono h (fun _ _ he => hK _ _ he)))⟩
    | halt x w' => cases x <;> simp only [Oper.upon, Oper.uponIn] at h ⊢ <;> exact hQ _ _ _ h
  · exact (hl h).elim
theorem anyIn_of {l : List Oper} {lp n : Nat} {P : Program} {md : Region.Mode} {Q Q' : Exit → Act → World → Prop} (hd : noDefer l = true) (hq : ∀ a w, Q .normal a w → Q' .normal a w) (hQ : ∀ c a w, Q (.panic c) a w → Q' (.panic c) a w) (hl : ¬ LetsOut Q) :
    ∀ (fuel : Nat) (listed : Array Bool) (a : Act) (w : World), wpAny P md l.toArray Q fuel listed a w → wpAnyIn (Fence.wide.inRound lp) n P md l.toArray Q' fuel listed a w := by
  intro fuel
  induction fuel with
  | zero => intro listed a w h; exact ⟨h.1, hq _ _ h.2⟩
  | succ fuel ih =>
    intro listed a w h
    refine ⟨fun e => hq _ _ (h.1 e), fun i hi => ?_⟩
    have h1 := h.2 i hi
    unfold wpOp at h1
    unfold wpOpIn
    split
    · rename_i ho
      simp only [ho] at h1
      exact ih _ _ _ h1
    · rename_i o ho
      simp only [ho] at h1
      split
      · rename_i hw
        simp only [hw, if_true] at h1
        refine oper_in (fun c e => ?_) (fun a w => ih _ _ _) hQ hl h1
        have hm : o ∈ l := by
          rw [List.getElem?_toArray] at ho
          exact List.mem_of_getElem? ho
        have := List.all_eq_true.1 hd o hm
        rw [e] at this
        cases this
      · rename_i hw
        simp only [hw] at h1
        exact ⟨fun _ _ => trivial, ih _ _ _ (by simpa using h1)⟩
/-- a region by a plan, in a round -/
theorem wpIn_region_plan {P : Program} {id lp n : Nat} {Q : Exit → Act → World → Prop} {a : Act} {w : World} {l : List Oper} (p : Plan) (hm : P.follows .mixedOrders = true) (hd : noDefer l = true) (hB : planB l p = true)
    (h : wpSeg P l (OnN (Q .normal)) p w a w.drew) : (Code.region id l.toArray true).wpIn (Fence.wide.inRound lp) n P Q a w := by
  simp only [planB, Bool.and_eq_true] at hB
  obtain ⟨⟨⟨hs, hin⟩, hlen⟩, hord⟩ := hB
  have hlen' : (flat p).length = l.length := by simpa using hlen
  refine wpIn_region_any hm ?_
  have := ord_any (md := .any) (Q := OnN (Q .normal)) hs (fun _ _ _ _ h => by cases h.1) (flat p) (Array.replicate l.length false) w a w.drew (fun j oj hj => ?_) (Below.refl _ _).drew hord (seg_ord p w a w.drew hin h)
  · have h2 := wpAny_of_E _ _ _ _ this
    rw [hlen'] at h2
    exact anyIn_of (Q := OnN (Q .normal)) hd (fun _ _ h => h.2) (fun _ _ _ h => by cases h.1) onN_lets _ _ _ _ (by simpa using h2)
  · exfalso
    rcases Nat.lt_or_ge j l.length with h | h
    · simp [h] at hj
    · simp [Array.getElem?_eq_none, h] at hj
/-- the marks that loops over functions have left at a function's end -/
def mark_ (D : Nat) : Deferred := { target := .collected D, args := #[] }
theorem leaves_marks {F : Fence} {n : Nat} {P : Program} {fn : Func} {tmps : Array Value} {R : Ending → World → Prop} : ∀ (Ds : List Nat) (w : World), Ds.Nodup → (∀ D ∈ Ds, w.heap[D]? = some (.deferred (some []))) →
    (∀ w', Chg (fun b => b ∈ Ds) w w' → LeavesIn F n P fn tmps R [] .returning w') → LeavesInM F n P fn tmps R (Ds.map mark_) .returning w
  | [], w, _, _, h => h w (Chg.refl _ _)
  | D :: Ds, w, hn, hD, h => by
    have h0 := hD D (List.mem_cons_self ..)
    obtain ⟨hn1, hn2⟩ := List.nodup_cons.1 hn
    refine ⟨by simp, .inl ⟨D, _, rfl, run_takeDeferred h0, leaves_marks Ds _ hn2 (fun D' h' => ?_) (fun w' hc => h w' ?_)⟩⟩
    · rw [World.putObj_heap_other (fun e => by subst e; exact hn1 h')]
      exact hD D' (List.mem_cons_of_mem _ h')
    · have h1 : Chg (fun b => b ∈ D :: Ds) w (w.putObj D (.deferred none)) := ⟨rfl, rfl, rfl, by simp, fun k _ hk => World.putObj_heap_other (fun e => hk (by rw [e]; exact List.mem_cons_self ..))⟩
      exact h1.trans hc (fun i _ hi => List.mem_cons_of_mem _ hi)
end Go.Proofs.Ytheanpcbjjogfaa.ord
