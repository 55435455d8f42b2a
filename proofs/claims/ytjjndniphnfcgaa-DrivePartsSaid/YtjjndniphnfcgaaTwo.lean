/- A region in which a call and an allocation race: either may come up first. -/
import Derived.Test.YtjjndniphnfcgaaHeldZ
namespace Go.Proofs.Ytjjndniphnfcgaa.Zreg
open Go Go.RowKit
set_option linter.unusedVariables false
set_option maxRecDepth 100000
section
variable {P : Program} {ops : Array Oper} {Q : Exit → Act → World → Prop} {md : Region.Mode} {S : World → Prop} {zs : List Nat}
/-- either of two may come up now -/
theorem two (i j : Nat) {o o' : Oper} {n : Nat} {listed : Array Bool} {a : Act} {w : World} (hr : Region.ready md ops listed = [i, j]) (hi : ops[i]? = some o) (hj : ops[j]? = some o') (hg : o.guard = none) (hg' : o'.guard = none)
    (h : ∀ K : Act → World → Prop, Hid (∀ b v, (past zs (listed.setIfInBounds i true) = true ∨ S v) → ((past zs (listed.setIfInBounds i true) = true ∨ S v) → After P md ops Q S zs n (listed.setIfInBounds i true) b v) → K b v) → Oper.wp P o a w K Q)
    (h' : ∀ K : Act → World → Prop, Hid (∀ b v, (past zs (listed.setIfInBounds j true) = true ∨ S v) → ((past zs (listed.setIfInBounds j true) = true ∨ S v) → After P md ops Q S zs n (listed.setIfInBounds j true) b v) → K b v) → Oper.wp P o' a w K Q) : After P md ops Q S zs (n + 1) listed a w := by
  refine ⟨(fun h0 => (by rw [hr] at h0; cases h0)), fun k hk => ?_⟩
  rw [hr] at hk
  have hk' : k = i ∨ k = j := by simpa using hk
  rcases hk' with hk' | hk'
  · subst hk'
    unfold wpOp
    rw [hi]
    have hw : Region.wanted o (yielded ops a.tmps) = true := by simp [Region.wanted, hg]
    simp only [hw, if_true]
    exact .inl (h _ (Lib.hid fun b v hS hh => ⟨hS, hh hS⟩))
  · subst hk'
    unfold wpOp
    rw [hj]
    have hw : Region.wanted o' (yielded ops a.tmps) = true := by simp [Region.wanted, hg']
    simp only [hw, if_true]
    exact .inl (h' _ (Lib.hid fun b v hS hh => ⟨hS, hh hS⟩))
end
end Go.Proofs.Ytjjndniphnfcgaa.Zreg
