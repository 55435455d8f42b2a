/- A region that draws its order, whose last operations write what others of it have read: a condition on the world that is asked no more once one of those has come up that wait for all readers. -/
import Derived.Test.YtjgbgjkjnlaloaaRow
import Derived.Test.YtjgbgjkjnlaloaaOrd
import Derived.StillTail
import Derived.OrdersHeld
namespace Go.Proofs.Ytjgbgjkjnlaloaa.Zreg
open Go Go.RowKit
set_option linter.unusedVariables false
set_option maxRecDepth 100000
section
variable {P : Program} {ops : Array Oper} {Q : Exit → Act → World → Prop} {md : Region.Mode} {S : World → Prop} {zs : List Nat}

/-- one of zs has come up -/
def past (zs : List Nat) (listed : Array Bool) : Bool := zs.any fun z => listed.getD z false
theorem past_set {j : Nat} {listed : Array Bool} (h : past zs listed = false) (hj : j ∉ zs) : past zs (listed.setIfInBounds j true) = false := by
  unfold past at *
  rw [List.any_eq_false] at *
  intro z hz
  have hne : j ≠ z := fun e => hj (e ▸ hz)
  rw [getD_set_ne false hne]
  exact h z hz
theorem past_of_set {i : Nat} {listed : Array Bool} (hi : i ∉ zs) (h : past zs (listed.setIfInBounds i true) = true) : past zs listed = true := by
  cases hp : past zs listed
  · rw [past_set hp hi] at h; cases h
  · rfl
theorem past_mono {i : Nat} {listed : Array Bool} (h : past zs listed = true) : past zs (listed.setIfInBounds i true) = true := by
  unfold past at *
  rw [List.any_eq_true] at *
  obtain ⟨z, hz, hl⟩ := h
  exact ⟨z, hz, getD_set_true hl⟩

/-- whatever comes up: behind it S holds, or one of zs has come up -/
def After (P : Program) (md : Region.Mode) (ops : Array Oper) (Q : Exit → Act → World → Prop) (S : World → Prop) (zs : List Nat) : Nat → Array Bool → Act → World → Prop
  | 0 => fun listed a w => Region.ready md ops listed = [] ∧ Q .normal a w
  | n + 1 => fun listed a w => (Region.ready md ops listed = [] → Q .normal a w) ∧
      ∀ j, j ∈ Region.ready md ops listed → wpOp P ops Q j (fun b v => (past zs (listed.setIfInBounds j true) = true ∨ S v) ∧ After P md ops Q S zs n (listed.setIfInBounds j true) b v) a w

theorem After.any : ∀ (n : Nat) (listed : Array Bool) (a : Act) (w : World), After P md ops Q S zs n listed a w → wpAny P md ops Q n listed a w
  | 0, _, _, _, h => h
  | n + 1, _, _, _, h => ⟨h.1, fun j hj => wpOp_mono (fun b v hh => After.any n _ b v hh.2) (h.2 j hj)⟩

/-- who is ready ahead of number i doesn't wait for it -/
theorem not_waits {i j : Nat} {listed : Array Bool} {oj : Oper} (hr : i ∈ Region.ready md ops listed) (hoj : ops[j]? = some oj) (hall : ∀ e ∈ oj.after, Region.binds md e = true → listed.getD e.on false = true) :
    ∀ e ∈ oj.after, Region.binds md e = true → e.on ≠ i := fun e he hb heq => by
  have h1 := hall e he hb
  have h0 := (mem_ready.1 hr).1
  rw [heq] at h1
  rw [Array.getD_eq_getD_getElem?] at h0 h1
  rcases hx : listed[i]? with _ | y
  · rw [hx] at h1; cases h1
  · rw [hx] at h0 h1
    simp only [Option.getD_some] at h0 h1
    rw [h0] at h1; cases h1

/-- one that yields its value wherever S' holds may be taken first: S' is S, and zs wait for it; or S' is whatever -/
theorem After.first {S' : World → Prop} {i : Nat} {o : Oper} {x : Value} (hi : ops[i]? = some o) (hiz : i ∉ zs) (hsel : Region.noSelect ops = true) (hQ : ∀ c a w, Q (.panic c) (a.put o.dst x) w → Q (.panic c) a w) :
    ∀ (n : Nat) (listed : Array Bool) (a : Act) (w : World),
      ((∀ v, S' v) ∨ (∀ v, S v → S' v) ∧ past zs listed = false ∧ ∀ z ∈ zs, Region.waitsFor md ops z i = true) →
      (∀ j oj, ops[j]? = some oj → j ≠ i → listed.getD j true = false → (∀ e ∈ oj.after, Region.binds md e = true → e.on ≠ i) → o.apart ops oj = true) →
      i ∈ Region.ready md ops listed → YieldsIf P ops S' o x a → S' w → (past zs listed = true ∨ S w) → After P md ops Q S zs n (listed.setIfInBounds i true) (a.put o.dst x) w → After P md ops Q S zs (n + 1) listed a w
  | n, listed, a, w, hz, hfree, hr, hy, hS', hS, h => by
    refine ⟨(fun h0 => (by rw [h0] at hr; cases hr)), fun j hj => ?_⟩
    by_cases hji : j = i
    · subst hji
      exact hy.wpOp hi hS' ⟨hS.imp_left past_mono, h⟩
    · obtain ⟨hun, oj, hoj, hall⟩ := mem_ready.1 hj
      have hno := not_waits hr hoj hall
      match n, h with
      | 0, h =>
        have := ready_mono hj hji
        rw [h.1] at this
        cases this
      | n + 1, h =>
        have h1 := h.2 j (ready_mono hj hji)
        have h2 := wpOp_putIf hoj (hfree j oj hoj hji hun hno) (fun cs b => Region.noSelect_spec hsel i o cs b hi) (fun cs b => Region.noSelect_spec hsel j oj cs b hoj) hQ hy h1
        refine wpOp_mono (fun b v h3 => ?_) h2
        have hSv : past zs (listed.setIfInBounds j true) = true ∨ S v := by
          have h4 := h3.2.1
          rw [Array.setIfInBounds_comm _ _ (Ne.symm hji)] at h4
          exact h4.imp_left (past_of_set hiz)
        have hz' : (∀ v, S' v) ∨ (∀ v, S v → S' v) ∧ past zs (listed.setIfInBounds j true) = false ∧ ∀ z ∈ zs, Region.waitsFor md ops z i = true := by
          rcases hz with hz | ⟨hz1, hz2, hz3⟩
          · exact .inl hz
          · refine .inr ⟨hz1, past_set hz2 (fun hjz => ?_), hz3⟩
            obtain ⟨oj', hoj', e, he, hb, heq⟩ := Region.waitsFor_spec (hz3 j hjz)
            rw [hoj] at hoj'
            injection hoj' with hoj'
            subst hoj'
            exact hno e he hb heq
        have hS'v : S' v := by
          rcases hz' with hz | ⟨hz1, hz2, _⟩
          · exact hz v
          · exact hz1 v (hSv.resolve_left (by rw [hz2]; decide))
        refine ⟨hSv, After.first hi hiz hsel hQ n (listed.setIfInBounds j true) b v hz' (fun k ok hk hki hku hkn => ?_) (ready_mono hr (Ne.symm hji)) h3.1 hS'v hSv ?_⟩
        · refine hfree k ok hk hki ?_ hkn
          by_cases hjk : j = k
          · subst hjk; exact hun
          · rw [getD_set_ne true hjk] at hku; exact hku
        · rw [Array.setIfInBounds_comm _ _ hji]
          exact h3.2.2

theorem begin_ {id : Nat} {a : Act} {w : World} (hm : P.follows .mixedOrders = true) (h : After P .any ops Q S zs ops.size (Array.replicate ops.size false) a w.drew) : (Code.region id ops true).wp P Q a w :=
  wp_region_any hm (After.any _ _ _ _ h)
/-- take number i first, which reads what S tells; its slot is d -/
theorem takeS (i d : Nat) {o : Oper} {x : Value} {n : Nat} {listed : Array Bool} {tmps : Array Value} {w : World}
    (hi : ops[i]? = some o) (hd : o.dst = some d) (hs : Region.noSelect ops = true) (hf : Region.free md ops listed i = true) (hr : (Region.ready md ops listed).contains i = true) (hiz : zs.contains i = false) (hz : zs.all (fun z => Region.waitsFor md ops z i) = true) (hp : past zs listed = false)
    (hQ : ∀ c a w, Q (.panic c) (a.put o.dst x) w → Q (.panic c) a w) (hS : past zs listed = true ∨ S w) (hy : YieldsIf P ops S o x ⟨tmps, []⟩)
    (h : After P md ops Q S zs n (listed.setIfInBounds i true) ⟨tmps.setIfInBounds d x, []⟩ w) : After P md ops Q S zs (n + 1) listed ⟨tmps, []⟩ w := by
  refine After.first (S' := S) hi (by simpa using hiz) hs hQ n listed _ w (.inr ⟨fun _ h => h, hp, fun z hz' => List.all_eq_true.1 hz z hz'⟩) (fun j oj hj hne hun hno => Region.free_spec hi hf j oj hj hne hun hno) (by simpa using hr) hy (hS.resolve_left (by rw [hp]; decide)) hS ?_
  rw [hd]
  exact h
/-- take number i first, which reads nothing of the world; its slot is d -/
theorem takeP (i d : Nat) {o : Oper} {x : Value} {n : Nat} {listed : Array Bool} {tmps : Array Value} {w : World}
    (hi : ops[i]? = some o) (hd : o.dst = some d) (hs : Region.noSelect ops = true) (hf : Region.free md ops listed i = true) (hr : (Region.ready md ops listed).contains i = true) (hiz : zs.contains i = false)
    (hQ : ∀ c a w, Q (.panic c) (a.put o.dst x) w → Q (.panic c) a w) (hS : past zs listed = true ∨ S w) (hy : YieldsIf P ops (fun _ => True) o x ⟨tmps, []⟩)
    (h : After P md ops Q S zs n (listed.setIfInBounds i true) ⟨tmps.setIfInBounds d x, []⟩ w) : After P md ops Q S zs (n + 1) listed ⟨tmps, []⟩ w := by
  refine After.first (S' := fun _ => True) hi (by simpa using hiz) hs hQ n listed _ w (.inl fun _ => trivial) (fun j oj hj hne hun hno => Region.free_spec hi hf j oj hj hne hun hno) (by simpa using hr) hy trivial hS ?_
  rw [hd]
  exact h
/-- one alone may come up now -/
theorem one (i : Nat) {o : Oper} {n : Nat} {listed : Array Bool} {a : Act} {w : World} (hr : Region.ready md ops listed = [i]) (hi : ops[i]? = some o) (hg : o.guard = none)
    (h : ∀ K : Act → World → Prop, Hid (∀ b v, (past zs (listed.setIfInBounds i true) = true ∨ S v) → ((past zs (listed.setIfInBounds i true) = true ∨ S v) → After P md ops Q S zs n (listed.setIfInBounds i true) b v) → K b v) → Oper.wp P o a w K Q) : After P md ops Q S zs (n + 1) listed a w := by
  refine ⟨(fun h0 => (by rw [hr] at h0; cases h0)), fun j hj => ?_⟩
  rw [hr] at hj
  obtain rfl : j = i := by simpa using hj
  unfold wpOp
  rw [hi]
  have hw : Region.wanted o (yielded ops a.tmps) = true := by simp [Region.wanted, hg]
  simp only [hw, if_true]
  exact .inl (h _ (Lib.hid fun b v hS hh => ⟨hS, hh hS⟩))
/-- all have come up -/
theorem done {listed : Array Bool} {a : Act} {w : World} (hr : Region.ready md ops listed = []) (h : Q .normal a w) : ∀ n, After P md ops Q S zs n listed a w
  | 0 => ⟨hr, h⟩
  | _ + 1 => ⟨fun _ => h, by rw [hr]; simp⟩
end
end Go.Proofs.Ytjgbgjkjnlaloaa.Zreg
