/- Rows of structs of the call's own: read, stored into, one more element appended. -/
import Derived.Test.YtjgbgjkjnlaloaaProcA
import Derived.Deep.RegionLaw
namespace Go.Proofs.Ytjgbgjkjnlaloaa.Memc
open Go.RowKit
set_option linter.unusedVariables false
set_option maxRecDepth 100000

/-- the slice s owns its row of n elements of the type E, size cells each, which reads as the cells xs and lies from base on -/
def Row (w : World) (base : Nat) (E : TypeId) (size : Nat) (s : Sl) (n : Nat) (xs : List Value) : Prop := w.ownsRow base E size (.slice s.A s.n s.c) n xs
/-- the block of a slice -/
def bl (s : Sl) (g : Nat) : Prop := ∃ ad, s.A = some ad ∧ g = ad.block
section
variable {w w' : World} {base : Nat} {E : TypeId} {size : Nat} {s : Sl} {n : Nat} {xs : List Value}
theorem Row.n_ (h : Row w base E size s n xs) : s.n = n ∧ s.n ≤ s.c ∧ s.c ≤ maxLen ∧ xs.length = n * size := by
  rcases h.2 with ⟨hv, hn⟩ | ⟨g, cap, cur, hv, hb, hg, hnc, hcm, hsz, htk⟩
  · injection hv with h1 h2 h3
    exact ⟨by omega, by omega, by rw [h3]; exact Nat.zero_le _, h.1⟩
  · injection hv with h1 h2 h3
    exact ⟨h2, by omega, by omega, h.1⟩
theorem Row.lt (h : Row w base E size s n xs) {g : Nat} (hg : bl s g) : base ≤ g ∧ g < w.heap.size := by
  obtain ⟨ad, ha, rfl⟩ := hg
  exact World.ownsRow.lt h ad.block (by rw [ha]; rfl)
theorem Row.blk (h : Row w base E size s n xs) {g : Nat} (hg : bl s g) : ∃ cs, Blk w g E cs := by
  obtain ⟨ad, ha, rfl⟩ := hg
  rcases h.2 with ⟨hv, hn⟩ | ⟨g, cap, cur, hv, hb, hg, hr⟩
  · injection hv with h1
    rw [h1] at ha; cases ha
  · injection hv with h1
    rw [h1] at ha
    injection ha with ha
    subst ha
    exact ⟨cur, hg⟩
theorem Row.kept (h : Row w base E size s n xs) (hk : ∀ g, bl s g → w'.heap[g]? = w.heap[g]?) : Row w' base E size s n xs := by
  refine ⟨h.1, ?_⟩
  rcases h.2 with h1 | ⟨g, cap, cur, hv, hb, hg, hr⟩
  · exact .inl h1
  · refine .inr ⟨g, cap, cur, hv, hb, ?_, hr⟩
    injection hv with h1
    exact (hk g ⟨_, h1, rfl⟩).trans hg
theorem Row.alloc (h : Row w base E size s n xs) (o : Obj) : Row (w.alloc o) base E size s n xs := World.ownsRow.alloc h o
theorem Row.drew (h : Row w base E size s n xs) : Row w.drew base E size s n xs := h
theorem Row.drewN (h : Row w base E size s n xs) (k : Nat) : Row (w.drewN k) base E size s n xs := h
theorem Row.only {P : Nat → Prop} (h : Row w base E size s n xs) (ho : Only P w w') (hp : ∀ g, bl s g → ¬ P g) : Row w' base E size s n xs :=
  h.kept fun g hg => ho.block g (h.lt hg).2 (hp g hg)
theorem Row.below {B : Nat} (h : Row w base E size s n xs) (hb : Below B w w') (hB : w.heap.size ≤ B) : Row w' base E size s n xs :=
  h.kept fun g hg => hb.block g (by have := (h.lt hg).2; omega)
/-- a block of another type is none of the row's -/
theorem Row.ne (h : Row w base E size s n xs) {k : Nat} {t : TypeId} {cs : Array Value} (hk : Blk w k t cs) (hne : E ≠ t) : ∀ g, bl s g → g ≠ k := fun g hg => by
  obtain ⟨ds, hd⟩ := h.blk hg
  exact Blk.ne hd hk hne
theorem Row.ne_row {base' : Nat} {E' : TypeId} {size' : Nat} {s' : Sl} {n' : Nat} {xs' : List Value} (h : Row w base E size s n xs) (h' : Row w base' E' size' s' n' xs') (hne : E ≠ E') : ∀ g, bl s g → ∀ k, bl s' k → g ≠ k := fun g hg k hk => by
  obtain ⟨ds, hd⟩ := h'.blk hk
  exact h.ne hd hne g hg
theorem Row.at_ (h : Row w base E size s n xs) (hn : 0 < n) : ∃ g : Nat, s.A = some ⟨g, 0, none⟩ ∧ base ≤ g ∧ g < w.heap.size ∧ (∀ j, j < n * size → w.cell? ⟨g, j, none⟩ = xs[j]?) ∧ (∀ j, w.frozen? ⟨g, j, none⟩ = false) := by
  rcases h.2 with ⟨hv, h0⟩ | ⟨g, cap, cur, hv, hb, hg, hnc, hcm, hsz, htk⟩
  · omega
  · have ho : w.ownsRow base E size (.slice (some ⟨g, 0, none⟩) n cap) n xs := by rw [← hv]; exact h
    injection hv with h1 h2 h3
    exact ⟨g, h1, hb, (h.lt ⟨_, h1, rfl⟩).2, fun j hj => World.ownsRow.cellAt ho j hj, fun j => frozen_of_row w g j cur _ hg⟩
theorem Row.set_ (h : Row w base E size s n xs) {g : Nat} (hg : s.A = some ⟨g, 0, none⟩) (j : Nat) (v : Value) : Row (w.setCell ⟨g, j, none⟩ v) base E size s n (xs.set j v) := by
  have hn := h.n_.1
  have ho : w.ownsRow base E size (.slice (some ⟨g, 0, none⟩) n s.c) n xs := by
    have h' : w.ownsRow base E size (.slice s.A s.n s.c) n xs := h
    rw [hg, hn] at h'; exact h'
  have := (World.ownsRow.stored ho j v).1
  show World.ownsRow _ _ _ _ _ _ _
  rw [hg, hn]
  exact this
theorem row_sl {v : Value} (h : w.ownsRow base E size v n xs) : ∃ s : Sl, v = .slice s.A s.n s.c ∧ Row w base E size s n xs := by
  rcases h.2 with ⟨hv, _⟩ | ⟨g, cap, cur, hv, _⟩
  · exact ⟨⟨none, 0, 0⟩, hv, by rw [hv] at h; exact h⟩
  · exact ⟨⟨some ⟨g, 0, none⟩, n, cap⟩, hv, by rw [hv] at h; exact h⟩
theorem row_nil (w : World) (base : Nat) (E : TypeId) (size : Nat) : Row w base E size ⟨none, 0, 0⟩ 0 [] := World.ownsRow_nil w base E size
theorem Only.grown {P : Nat → Prop} {w0 : World} (h : Only P w0 w) (hg : w.grownBy w' (Value.slice s.A s.n s.c).ownBlock) (hp : ∀ g, bl s g → P g ∨ w0.heap.size ≤ g) : Only P w0 w' :=
  ⟨hg.os.trans h.os, hg.tape.trans h.tape, hg.output.trans h.output, Nat.le_trans h.size hg.size, fun k hk hn => by
    refine (hg.block k (Nat.lt_of_lt_of_le hk h.size) (fun e => ?_)).trans (h.block k hk hn)
    obtain ⟨A, m, c⟩ := s
    rcases A with _ | ad
    · cases e
    · injection e with e
      rcases hp k ⟨ad, rfl, e⟩ with hq | hq
      · exact hn hq
      · omega⟩
theorem only_grown (hg : w.grownBy w' (Value.slice s.A s.n s.c).ownBlock) : Only (bl s) w w' := (Only.refl _ _).grown hg fun g h => .inl h
end

/-- one more element -/
theorem wp_app1 {w : World} {o : Oper} {a : Act} {K : Act → World → Prop} {Q : Exit → Act → World → Prop} (x y : Operand) (t : TypeId) (ho : o.op = .call { callee := .builtin .append, args := #[x, y], argTypes := #[t, t] })
    (base : Nat) (E : TypeId) (i : TypeInfo) (z : Value) (size bytes : Nat) (ht : Try.prog.underlying t = some (.slice E)) (hi : Try.prog.info? E = some i) (hz : i.zero = some z) (hsize : i.size = size) (hby : i.bytes = bytes) (hzs : z.cells.size = size) (hsz : 0 < size)
    (s : Sl) (n : Nat) (xs : List Value) (hx : a.eval x = .slice s.A s.n s.c) (hown : Row w base E size s n xs) (gy : Nat) (news : List Value) (hy : a.eval y = .slice (some ⟨gy, 0, none⟩) 1 1) (hl : news.length = size)
    (hnews : ∀ j u, news[j]? = some u → w.cell? ⟨gy, j, none⟩ = some u) (h1 : ∀ u ∈ news, u.oneCell' = true) (h63 : n < 1000000) (hb1 : bytes ≤ 1000) (hb : base ≤ w.heap.size)
    (hk : ∀ s' w', Row w' base E size s' (n + 1) (xs ++ news) → Only (bl s) w w' → K (a.put o.dst (.slice s'.A s'.n s'.c)) w') : o.wp Try.prog a w K Q := by
  have hbb : (n + 1) * bytes ≤ 140737488355328 := Nat.le_trans (Nat.mul_le_mul (show n + 1 ≤ 1000000 by omega) hb1) (by omega)
  refine wp_append_own w x y t ho base E i z size bytes ht hi hz hsize hby hzs hsz _ n xs hx hown ⟨gy, 0, none⟩ 1 1 news hy (by omega) (fun j u hj => ?_) h1 (by unfold maxLen; omega) hbb hb fun v' w' h2 h3 _ => ?_
  · rw [Addr.add_lit]
    simpa using hnews j u hj
  · obtain ⟨s', rfl, hs'⟩ := row_sl h2
    exact hk s' w' hs' (only_grown h3)
theorem wpList_app1 {w : World} {ops : Array Oper} {rest : List Oper} {o : Oper} {a : Act} {Q : Exit → Act → World → Prop} (hgd : o.guard = none) (x y : Operand) (t : TypeId) (ho : o.op = .call { callee := .builtin .append, args := #[x, y], argTypes := #[t, t] })
    (base : Nat) (E : TypeId) (i : TypeInfo) (z : Value) (size bytes : Nat) (ht : Try.prog.underlying t = some (.slice E)) (hi : Try.prog.info? E = some i) (hz : i.zero = some z) (hsize : i.size = size) (hby : i.bytes = bytes) (hzs : z.cells.size = size) (hsz : 0 < size)
    (s : Sl) (n : Nat) (xs : List Value) (hx : a.eval x = .slice s.A s.n s.c) (hown : Row w base E size s n xs) (gy : Nat) (news : List Value) (hy : a.eval y = .slice (some ⟨gy, 0, none⟩) 1 1) (hl : news.length = size)
    (hnews : ∀ j u, news[j]? = some u → w.cell? ⟨gy, j, none⟩ = some u) (h1 : ∀ u ∈ news, u.oneCell' = true) (h63 : n < 1000000) (hb1 : bytes ≤ 1000) (hb : base ≤ w.heap.size)
    (hk : ∀ s' w', Row w' base E size s' (n + 1) (xs ++ news) → Only (bl s) w w' → wpList Try.prog ops Q rest (a.put o.dst (.slice s'.A s'.n s'.c)) w') : wpList Try.prog ops Q (o :: rest) a w :=
  wpList_plain hgd fun _ hK => wp_app1 x y t ho base E i z size bytes ht hi hz hsize hby hzs hsz s n xs hx hown gy news hy hl hnews h1 h63 hb1 hb fun s' w' h2 h3 => hK _ _ (hk s' w' h2 h3)
theorem step_app1 {w : World} {ops : Array Oper} {o : Oper} {a : Act} {K : Act → World → Prop} {Q : Exit → Act → World → Prop} {F : Prop} (hgd : o.guard = none) (x y : Operand) (t : TypeId) (ho : o.op = .call { callee := .builtin .append, args := #[x, y], argTypes := #[t, t] })
    (base : Nat) (E : TypeId) (i : TypeInfo) (z : Value) (size bytes : Nat) (ht : Try.prog.underlying t = some (.slice E)) (hi : Try.prog.info? E = some i) (hz : i.zero = some z) (hsize : i.size = size) (hby : i.bytes = bytes) (hzs : z.cells.size = size) (hsz : 0 < size)
    (s : Sl) (n : Nat) (xs : List Value) (hx : a.eval x = .slice s.A s.n s.c) (hown : Row w base E size s n xs) (gy : Nat) (news : List Value) (hy : a.eval y = .slice (some ⟨gy, 0, none⟩) 1 1) (hl : news.length = size)
    (hnews : ∀ j u, news[j]? = some u → w.cell? ⟨gy, j, none⟩ = some u) (h1 : ∀ u ∈ news, u.oneCell' = true) (h63 : n < 1000000) (hb1 : bytes ≤ 1000) (hb : base ≤ w.heap.size)
    (hk : ∀ s' w', Row w' base E size s' (n + 1) (xs ++ news) → Only (bl s) w w' → K (a.put o.dst (.slice s'.A s'.n s'.c)) w') : if Region.wanted o (yielded ops a.tmps) = true then Oper.wp Try.prog o a w K Q else F := by
  have hw : Region.wanted o (yielded ops a.tmps) = true := by simp [Region.wanted, hgd]
  rw [if_pos hw]
  exact wp_app1 x y t ho base E i z size bytes ht hi hz hsize hby hzs hsz s n xs hx hown gy news hy hl hnews h1 h63 hb1 hb hk
theorem finding_cell : (Try.prog.info? 203).map (fun i => (i.zero, i.size, i.bytes)) = some (some (.agg #[.int .u64 0, .bool false]), 2, 16) := by kernel_rfl
end Go.Proofs.Ytjgbgjkjnlaloaa.Memc
