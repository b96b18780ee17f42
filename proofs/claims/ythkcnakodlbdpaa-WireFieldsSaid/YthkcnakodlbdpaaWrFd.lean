/-
  Messages: what the answer of Encode depends on.
-/
import Derived.Test.YthkcnakodlbdpaaWrS
namespace Go.Proofs.Ythkcnakodlbdpaa.wr
open Go.ChangeShapes Go.WideShapes Go.ChangeAt Go.RowKit plain words ord mem uvs uvc

/-- error and state -/
def pr {α : Type} (r : R α) : Int × By := (r.1, r.2.1)
theorem pr_bnd {α β γ : Type} {r : R α} {d : β} {d' : γ} {k : By → α → R β} {k' : By → α → R γ} (h : ∀ s v, pr (k s v) = pr (k' s v)) : pr (bnd r d k) = pr (bnd r d' k') := by
  by_cases h1 : r.1 = 0
  · rw [bnd_ok h1, bnd_ok h1]; exact h _ _
  · rw [bnd_no h1, bnd_no h1]; rfl
theorem pr_pass {C : Cd} {s : By} {x y : Msg} (h1 : x.seq = y.seq) (h2 : x.epoch = y.epoch) (h : ∀ s a b, pr (rest C s x ({ x with seq := a, epoch := b } : Msg)) = pr (rest C s y ({ y with seq := a, epoch := b } : Msg))) : pr (pass C s x) = pr (pass C s y) := by
  show pr (bnd (C.num s x.seq 1099511627776) x fun s a => bnd (C.num s x.epoch 1099511627776) x fun s b => rest C s x ({ x with seq := a, epoch := b } : Msg)) = pr (bnd (C.num s y.seq 1099511627776) y fun s a => bnd (C.num s y.epoch 1099511627776) y fun s b => rest C s y ({ y with seq := a, epoch := b } : Msg))
  rw [h1, h2]
  exact pr_bnd fun s a => pr_bnd fun s b => h s a b
theorem encM_of {x y : Msg} (hk : x.kind = y.kind) (h : ∀ s, pr (pass encC s x) = pr (pass encC s y)) : encM x = encM y := by
  have h0 := h [UInt8.ofNat y.kind.toNat]
  unfold pr at h0
  injection h0 with h1 h2
  unfold encM
  rw [hk, h1, h2]
theorem encM_2 {x y : Msg} (hk : x.kind = y.kind) (hk2 : y.kind = 2) (h1 : x.seq = y.seq) (h2 : x.epoch = y.epoch) (h3 : x.err = y.err) : encM x = encM y :=
  encM_of hk fun s => pr_pass h1 h2 fun s a b => by
    rw [rest_0 (by simp only; omega), rest_0 (by simp only; omega)]
    simp only
    rw [h3]
    exact pr_bnd fun s v => rfl
theorem encM_7 {x y : Msg} (hk : x.kind = y.kind) (hk2 : y.kind = 7) (h1 : x.seq = y.seq) (h2 : x.epoch = y.epoch) (h3 : x.space = y.space) (h4 : x.shard = y.shard) (h5 : x.block = y.block) (h6 : x.id = y.id) : encM x = encM y :=
  encM_of hk fun s => pr_pass h1 h2 fun s a b => by
    rw [rest_7 (by simp only; omega), rest_7 (by simp only; omega)]
    simp only
    rw [h3, h4, h5, h6]
    exact pr_bnd fun s v => pr_bnd fun s v => pr_bnd fun s v => pr_bnd fun s v => rfl
theorem encM_1 {x y : Msg} (hk : x.kind = y.kind) (hk2 : y.kind = 1) (h1 : x.seq = y.seq) (h2 : x.epoch = y.epoch) (h3 : x.space = y.space) (h4 : x.id = y.id) (h5 : x.p = y.p) : encM x = encM y :=
  encM_of hk fun s => pr_pass h1 h2 fun s a b => by
    rw [rest_1 (by simp only; omega), rest_1 (by simp only; omega)]
    simp only
    rw [h3, h4, h5]
    exact pr_bnd fun s v => pr_bnd fun s v => pr_bnd fun s v => rfl
end Go.Proofs.Ythkcnakodlbdpaa.wr
