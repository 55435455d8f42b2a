/- What a run's steps and calls are, as mathematics: its steps are replayed to its words, each is of a thread that was picked, a call is the one step. -/
import Derived.Test.YtjgbgjkjnlaloaaDrvI
import Derived.Test.YtjgbgjkjnlaloaaOpenL
namespace Go.Proofs.Ytjgbgjkjnlaloaa.Drivec
open Go.RowKit Go.Proofs.Ytjgbgjkjnlaloaa.Memc Go.Proofs.Ytjgbgjkjnlaloaa.Procc Go.Proofs.Ytjgbgjkjnlaloaa.Storec Go.Proofs.Ytjgbgjkjnlaloaa.Newc
set_option linter.unusedVariables false
set_option maxRecDepth 100000

structure Good (m0 : Memc.M) (ths : List Int) (s : D) : Prop where
  rep : replay m0 s.steps = some s.m
  len : s.calls.length = s.steps.length
  call : ∀ (i : Nat) (x : St), s.steps[i]? = some x → ∃ z, s.calls[i]? = some ⟨x.th, i, z⟩
  sub : (s.steps.map St.th).Sublist ths
  mok : s.m.ok
  lok : ∀ l ∈ s.left, ∀ a ∈ l, Acc.ok a
  sok : ∀ x ∈ s.steps, St.ok x
theorem Good.wider {m0 : Memc.M} {ths : List Int} {s : D} (h : Good m0 ths s) (t : Int) : Good m0 (ths ++ [t]) s :=
  ⟨h.rep, h.len, h.call, h.sub.trans (List.sublist_append_left _ _), h.mok, h.lok, h.sok⟩
theorem good_turn {m0 : Memc.M} {ths : List Int} {s : D} (h : Good m0 ths s) (t : Int) : Good m0 (ths ++ [t]) (turn s t) := by
  unfold turn
  split
  · rename_i ht
    split
    · rename_i a l hl
      have hmem : (a :: l) ∈ s.left := List.mem_of_getElem? hl
      have ha : a.ok := h.lok _ hmem a (List.mem_cons_self ..)
      refine ⟨?_, ?_, ?_, ?_, acc_ok h.mok ha, ?_, ?_⟩
      · show replay m0 (s.steps ++ [_]) = some _
        rw [replay_append, h.rep]
        simp [replay, fits]
      · simp [h.len]
      · intro i x hx
        rcases Nat.lt_or_ge i s.steps.length with hi | hi
        · rw [List.getElem?_append_left hi] at hx
          obtain ⟨z, hz⟩ := h.call i x hx
          exact ⟨z, by rw [List.getElem?_append_left (by rw [h.len]; exact hi)]; exact hz⟩
        · rw [List.getElem?_append_right hi] at hx
          have hi0 : i = s.steps.length := by
            have := (List.getElem?_eq_some_iff.1 hx).1
            simp only [List.length_singleton] at this
            omega
          subst hi0
          rw [Nat.sub_self] at hx
          injection hx with hx
          subst hx
          refine ⟨num (acc s.m a).2.2, ?_⟩
          rw [List.getElem?_append_right (by rw [h.len]; exact Nat.le_refl _), h.len, Nat.sub_self]
          rfl
      · rw [List.map_append]
        exact h.sub.append (List.Sublist.refl _)
      · intro l' hl' a' ha'
        rcases List.mem_or_eq_of_mem_set hl' with h1 | h1
        · exact h.lok l' h1 a' ha'
        · subst h1
          exact h.lok _ hmem a' (List.mem_cons_of_mem _ ha')
      · intro x hx
        rcases List.mem_append.1 hx with h1 | h1
        · exact h.sok x h1
        · rw [List.mem_singleton.1 h1]
          exact ⟨ha, acc_was s.m h.mok a⟩
    · exact h.wider t
  · exact h.wider t
theorem good_runs {m0 : Memc.M} : ∀ (ps : List (Int × Int)) (ths : List Int) (s : D), Good m0 ths s → Good m0 (ths ++ ps.map Prod.fst) (runs s ps)
  | [], ths, s, h => by simpa [runs] using h
  | p :: ps, ths, s, h => by
    have h2 := good_runs ps (ths ++ [p.1]) (turn s p.1) (good_turn h p.1)
    rw [List.append_assoc] at h2
    exact h2
theorem good_run (k : Int) (K T M : Nat) (m2 : M ≤ 64) (m1 : 2 ≤ M) (ls : List (List Acc)) (hl : ∀ l ∈ ls, ∀ a ∈ l, Acc.ok a) (hm : (newM k K T M).ok) (ps : List (Int × Int)) : Good (newM k K T M) (ps.map Prod.fst) (runs ⟨newM k K T M, ls, [], []⟩ ps) := by
  have := good_runs ps [] ⟨newM k K T M, ls, [], []⟩ ⟨rfl, rfl, (fun i x h => by cases h), List.Sublist.refl _, hm, hl, fun x h => by cases h⟩
  simpa using this
/-- the next thread isn't the one: go on -/
theorem sub_skip {x y : Int} {xs ys : List Int} (h : (x :: xs).Sublist (y :: ys)) (hne : ¬ y = x) : (x :: xs).Sublist ys := by
  cases h with
  | cons _ h => exact h
  | cons_cons _ h => exact absurd rfl hne
theorem sub_take {x : Int} {xs ys : List Int} (h : (x :: xs).Sublist (x :: ys)) : xs.Sublist ys := by
  cases h with
  | cons _ h => exact (List.sublist_cons_self x xs).trans h
  | cons_cons _ h => exact h
theorem sub_none {x : Int} {xs : List Int} : ¬ (x :: xs).Sublist ([] : List Int) := by
  intro h; cases h
theorem flatS_get : ∀ (l : List St) (i : Nat) (x : St) (j : Nat) (v : Value), l[i]? = some x → x.cells[j]? = some v → (flatS l)[i * 8 + j]? = some v
  | [], i, x, j, v, h, _ => by simp at h
  | y :: l, 0, x, j, v, h, hv => by
    injection h with h
    subst h
    have hj : j < y.cells.length := (List.getElem?_eq_some_iff.1 hv).1
    show (y.cells ++ flatS l)[0 * 8 + j]? = some v
    rw [Nat.zero_mul, Nat.zero_add, List.getElem?_append_left hj]
    exact hv
  | y :: l, i + 1, x, j, v, h, hv => by
    have := flatS_get l i x j v h hv
    show (y.cells ++ flatS l)[(i + 1) * 8 + j]? = some v
    have h8 : y.cells.length = 8 := rfl
    rw [List.getElem?_append_right (by omega), h8, show (i + 1) * 8 + j - 8 = i * 8 + j by omega]
    exact this
theorem flatC_get : ∀ (l : List Cl) (i : Nat) (x : Cl) (j : Nat) (v : Value), l[i]? = some x → x.cells[j]? = some v → (flatC l)[i * 7 + j]? = some v
  | [], i, x, j, v, h, _ => by simp at h
  | y :: l, 0, x, j, v, h, hv => by
    injection h with h
    subst h
    have hj : j < y.cells.length := (List.getElem?_eq_some_iff.1 hv).1
    show (y.cells ++ flatC l)[0 * 7 + j]? = some v
    rw [Nat.zero_mul, Nat.zero_add, List.getElem?_append_left hj]
    exact hv
  | y :: l, i + 1, x, j, v, h, hv => by
    have := flatC_get l i x j v h hv
    show (y.cells ++ flatC l)[(i + 1) * 7 + j]? = some v
    have h7 : y.cells.length = 7 := rfl
    rw [List.getElem?_append_right (by omega), h7, show (i + 1) * 7 + j - 7 = i * 7 + j by omega]
    exact this
theorem row_rds {w : World} {base : Nat} {s : Sl} {l : List St} (h : Row w base 65 8 s l.length (flatS l)) (hok : ∀ x ∈ l, St.ok x) : RdS w w.heap.size s l := by
  refine ⟨h.n_.1, h.n_.2.1, h.n_.2.2.1, hok, fun hn => ?_⟩
  obtain ⟨g, hA, _, hlt, hc, _⟩ := h.at_ (by have := h.n_.1; omega)
  refine ⟨g, 0, hA, hlt, fun i x hx j v hj => ?_⟩
  have hi : i < l.length := (List.getElem?_eq_some_iff.1 hx).1
  have hj8 : j < 8 := (List.getElem?_eq_some_iff.1 hj).1
  have h1 := hc (i * 8 + j) (by omega)
  rw [flatS_get l i x j v hx hj] at h1
  rw [Nat.zero_add]
  exact h1
end Go.Proofs.Ytjgbgjkjnlaloaa.Drivec
