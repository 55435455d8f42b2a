/- Appending a list of 64-bit words, nil or not, to a row of the call's own: at an operation, in a plain list of operations, and at a step of a region that draws its order. -/
import Derived.Test.YtjgbgjkjnlaloaaHold
import Derived.Test.YtjgbgjkjnlaloaaRows
import Derived.WalkKit
import Derived.RegionTactic
namespace Go.Proofs.Ytjgbgjkjnlaloaa.Memc
open Go.RowKit
set_option linter.unusedVariables false
set_option maxRecDepth 100000

theorem u64_cell : (Try.prog.info? 22).map (fun i => (i.zero, i.size, i.bytes)) = some (some (.int .u64 0), 1, 8) := by kernel_rfl

/-- a row from base on, whatever its value is written like -/
theorem own_of_row {w : World} {base : Nat} {v : Value} {n : Nat} {xs : List Int} (hu : u64s xs) (hn : n = xs.length) (h : w.ownsRow base 22 1 v n (xs.map (Value.int .u64))) :
    ∃ s : Sl, v = .slice s.A s.n s.c ∧ Own w base s xs := by
  subst hn
  rcases h.2 with ⟨hv, _⟩ | ⟨g, cap, cur, hv, _⟩
  · exact ⟨⟨none, 0, 0⟩, hv, hu, by rw [hv] at h; exact h⟩
  · exact ⟨⟨some ⟨g, 0, none⟩, xs.length, cap⟩, hv, hu, by rw [hv] at h; exact h⟩

theorem run_app (w : World) (ty : TypeId) (base B : Nat) (s0 s : Sl) (xs ys : List Int) (h0 : Own w base s0 xs) (h : Rd w B s ys) (hl : xs.length + ys.length ≤ 2000000) (hb : base ≤ w.heap.size) :
    ∃ s' w', (Builtin.append_ #[23, 23] ty #[.slice s0.A s0.n s0.c, .slice s.A s.n s.c]).run Try.prog w = .ok (.slice s'.A s'.n s'.c) w' ∧ Own w' base s' (xs ++ ys) ∧ Below base w w' := by
  obtain ⟨i0, hi0, hz0, hz1, hz2⟩ := info_parts u64_cell
  obtain ⟨A, n, c⟩ := s
  have hu : u64s (xs ++ ys) := fun x hx => (List.mem_append.1 hx).elim (h0.1 x) (h.2.2.2.1 x)
  rcases A with _ | ad
  · have hc : c = 0 := h.2.2.2.2.1 rfl
    have hn : n = 0 := by have := h.2.1; simp only at this; omega
    subst hc
    subst hn
    have hy : ys = [] := List.eq_nil_of_length_eq_zero h.1.symm
    subst hy
    refine ⟨s0, w, ?_, by simpa using h0, Below.refl _ _⟩
    exact run_append_owned_none (P := Try.prog) (w := w) base 23 ty 22 i0 1 Try.underlying23 hi0 _ _ _ h0.2
  · have hn : n = ys.length := h.1
    subst hn
    have hnews : ∀ (j : Nat) (u : Value), (ys.map (Value.int .u64))[j]? = some u → w.cell? (ad.add j) = some u := by
      intro j u hj
      rw [List.getElem?_map] at hj
      rcases hx : ys[j]? with _ | x
      · rw [hx] at hj; cases hj
      · rw [hx] at hj
        obtain ⟨ad', e, _, hc⟩ := h.2.2.2.2.2 (by show 0 < ys.length; have := (List.getElem?_eq_some_iff.1 hx).1; omega)
        injection e with e
        subst e
        rw [hc j x hx]; exact hj
    obtain ⟨v', w', hr, h2, h3, _⟩ := run_append_own (P := Try.prog) w base 23 ty 22 i0 _ 1 8 Try.underlying23 hi0 hz0 hz1 hz2 rfl (by omega) _ _ _ h0.2 ad ys.length c (ys.map (Value.int .u64)) (by simp) hnews
      (by intro u hu'; obtain ⟨x, _, rfl⟩ := List.mem_map.1 hu'; rfl) (by unfold maxLen; omega) (by omega) hb
    rw [← List.map_append] at h2
    obtain ⟨s', rfl, hs'⟩ := own_of_row hu (by simp) h2
    have hn0 : s0.n = xs.length := h0.n_.1
    have hgb : Below base w w' := (Below.refl _ _).grown h3 hb (fun k hk => (h0.2.lt k (by rw [← hk])).1)
    exact ⟨s', w', hr, hs', hgb⟩

theorem wp_app {w : World} {o : Oper} {a : Act} {K : Act → World → Prop} {Q : Exit → Act → World → Prop} (x y : Operand) (ho : o.op = .call { callee := .builtin .append, args := #[x, y], argTypes := #[23, 23] })
    (base B : Nat) (s0 s : Sl) (xs ys : List Int) (hx : a.eval x = .slice s0.A s0.n s0.c) (hy : a.eval y = .slice s.A s.n s.c) (h0 : Own w base s0 xs) (h : Rd w B s ys) (hl : xs.length + ys.length ≤ 2000000) (hb : base ≤ w.heap.size)
    (hk : ∀ s' w', Own w' base s' (xs ++ ys) → Below base w w' → K (a.put o.dst (.slice s'.A s'.n s'.c)) w') : o.wp Try.prog a w K Q := by
  obtain ⟨s', w', hr, h2, h3⟩ := run_app w o.type base B s0 s xs ys h0 h hl hb
  unfold Oper.wp execOp
  simp only [ho, resolve, invoke, builtin, Sem.run_bind, Sem.run_pure, Result.andThen_ok, List.map_toArray, List.map_cons, List.map_nil, hx, hy, hr]
  exact hk s' w' h2 h3

theorem wpList_app {w : World} {ops : Array Oper} {rest : List Oper} {o : Oper} {a : Act} {Q : Exit → Act → World → Prop} (hgd : o.guard = none) (x y : Operand) (ho : o.op = .call { callee := .builtin .append, args := #[x, y], argTypes := #[23, 23] })
    (base B : Nat) (s0 s : Sl) (xs ys : List Int) (hx : a.eval x = .slice s0.A s0.n s0.c) (hy : a.eval y = .slice s.A s.n s.c) (h0 : Own w base s0 xs) (h : Rd w B s ys) (hl : xs.length + ys.length ≤ 2000000) (hb : base ≤ w.heap.size)
    (hk : ∀ s' w', Own w' base s' (xs ++ ys) → Below base w w' → wpList Try.prog ops Q rest (a.put o.dst (.slice s'.A s'.n s'.c)) w') : wpList Try.prog ops Q (o :: rest) a w :=
  wpList_plain hgd fun _ hK => wp_app x y ho base B s0 s xs ys hx hy h0 h hl hb fun s' w' h2 h3 => hK _ _ (hk s' w' h2 h3)

theorem step_app {w : World} {ops : Array Oper} {o : Oper} {a : Act} {K : Act → World → Prop} {Q : Exit → Act → World → Prop} {E : Prop} (hgd : o.guard = none) (x y : Operand) (ho : o.op = .call { callee := .builtin .append, args := #[x, y], argTypes := #[23, 23] })
    (base B : Nat) (s0 s : Sl) (xs ys : List Int) (hx : a.eval x = .slice s0.A s0.n s0.c) (hy : a.eval y = .slice s.A s.n s.c) (h0 : Own w base s0 xs) (h : Rd w B s ys) (hl : xs.length + ys.length ≤ 2000000) (hb : base ≤ w.heap.size)
    (hk : ∀ s' w', Own w' base s' (xs ++ ys) → Below base w w' → K (a.put o.dst (.slice s'.A s'.n s'.c)) w') : if Region.wanted o (yielded ops a.tmps) = true then Oper.wp Try.prog o a w K Q else E := by
  have hw : Region.wanted o (yielded ops a.tmps) = true := by simp [Region.wanted, hgd]
  rw [if_pos hw]
  exact wp_app x y ho base B s0 s xs ys hx hy h0 h hl hb hk
end Go.Proofs.Ytjgbgjkjnlaloaa.Memc
