/- Some elements more of a slice that the call made. · After threads one by one, alone, hold, retire each a segment of its own, and drop: how far the lists of calls and of picks are, and what the run must come to. · EpochWaits as mathematics: what holds behind the first thread's three turns, of any run. -/
import Derived.Test.YtffppdcpiieapaaQ5
import Derived.Test.YtffppdcpiieapaaQ15
import Derived.Test.YtffppdcpiieapaaQ17
namespace Go.Proofs.Ytffppdcpiieapaa.Memc
open Go.RowKit
set_option linter.unusedVariables false
set_option maxRecDepth 100000

theorem append_whereN {P : Program} (w : World) (base : Nat) (t ty e : TypeId) (i : TypeInfo) (z : Value) (size bytes : Nat) (ht : P.underlying t = some (.slice e)) (hi : P.info? e = some i) (hz : i.zero = some z)
    (hsize : i.size = size) (hby : i.bytes = bytes) (hzs : z.cells.size = size) (hsz : 0 < size)
    (v : Value) (n : Nat) (xs : List Value) (hown : w.ownsRow base e size v n xs)
    (a : Addr) (m c : Nat) (hm : 0 < m) (news : List Value) (hl : news.length = m * size) (hnews : ∀ j u, news[j]? = some u → w.cell? (a.add j) = some u) (h1 : ∀ u ∈ news, u.oneCell' = true)
    (h63 : n + m ≤ maxLen) (hbytes : (n + m) * bytes ≤ 140737488355328) {v' : Value} {w' : World}
    (hr : (Builtin.append_ #[t, t] ty #[v, .slice (some a) m c]).run P w = .ok v' w') : ∀ g, v'.ownBlock = some g → v.ownBlock = some g ∨ g = w.heap.size := by
  subst hsize
  subst hby
  have hsmall : n + m ≤ 9223372036854775807 := by simp only [maxLen] at h63; omega
  rcases hown.2 with ⟨rfl, rfl⟩ | ⟨g, cap, cur, rfl, hbg, hg, hnc, hcm, hcs, htake⟩
  · have hq := run_append_nil (P := P) w t ty e i z ht hi hz a m c news hl hnews (by omega) (by omega) (by have hb := hbytes; simp only [Nat.zero_add] at hb; omega)
    rw [hq] at hr
    injection hr with hv hw
    subst hv
    intro g hg
    simp only [Value.ownBlock] at hg
    injection hg with hg
    exact .inr hg.symm
  · by_cases hroom : n + m ≤ cap
    · have hfit : n * i.size + news.length ≤ cur.size := by rw [hl, hcs, ← Nat.add_mul]; exact Nat.mul_le_mul_right _ hroom
      have hq := run_append_room (P := P) w t ty e i ht hi g n cap cur hg a m c news hl hnews h1 hroom hfit
      rw [hq] at hr
      injection hr with hv hw
      subst hv
      intro g' hg'
      exact .inl hg'
    · have holds : ∀ j u, xs[j]? = some u → w.cell? ((⟨g, 0, none⟩ : Addr).add j) = some u := hown.cells (g := g) rfl
      have hq := run_append_grow (P := P) w t ty e i z ht hi hz ⟨g, 0, none⟩ n cap xs hown.1 holds a m c news hl hnews (by omega) (by omega) (growslice_fits (by omega) hbytes)
      rw [hq] at hr
      injection hr with hv hw
      subst hv
      intro g' hg'
      simp only [Value.ownBlock] at hg'
      injection hg' with hg'
      exact .inr hg'.symm

/-- one more element -/
theorem wp_appN {w : World} {o : Oper} {a : Act} {K : Act → World → Prop} {Q : Exit → Act → World → Prop} (x y : Operand) (t : TypeId) (ho : o.op = .call { callee := .builtin .append, args := #[x, y], argTypes := #[t, t] })
    (base : Nat) (E : TypeId) (i : TypeInfo) (z : Value) (size bytes : Nat) (ht : Try.prog.underlying t = some (.slice E)) (hi : Try.prog.info? E = some i) (hz : i.zero = some z) (hsize : i.size = size) (hby : i.bytes = bytes) (hzs : z.cells.size = size) (hsz : 0 < size)
    (s : Sl) (n : Nat) (xs : List Value) (hx : a.eval x = .slice s.A s.n s.c) (hown : Row w base E size s n xs) (gy m cy : Nat) (hm : 0 < m) (news : List Value) (hy : a.eval y = .slice (some ⟨gy, 0, none⟩) m cy) (hl : news.length = m * size)
    (hnews : ∀ j u, news[j]? = some u → w.cell? ⟨gy, j, none⟩ = some u) (h1 : ∀ u ∈ news, u.oneCell' = true) (h63 : n + m ≤ 1000000) (hb1 : bytes ≤ 1000) (hb : base ≤ w.heap.size)
    (hk : ∀ s' w', Row w' base E size s' (n + m) (xs ++ news) → Only (bl s) w w' → (∀ g, bl s' g → bl s g ∨ g = w.heap.size) → K (a.put o.dst (.slice s'.A s'.n s'.c)) w') : o.wp Try.prog a w K Q := by
  have hbb : (n + m) * bytes ≤ 140737488355328 := Nat.le_trans (Nat.mul_le_mul (h63) hb1) (by omega)
  have hm63 : n + m ≤ maxLen := by unfold maxLen; omega
  have hnw : ∀ j u, news[j]? = some u → w.cell? ((⟨gy, 0, none⟩ : Addr).add j) = some u := fun j u hj => by
    rw [Addr.add_lit]
    simpa using hnews j u hj
  obtain ⟨v', w', hr, h2, h3, h4⟩ := run_append_own (P := Try.prog) w base t o.type E i z size bytes ht hi hz hsize hby hzs hsz _ n xs hown ⟨gy, 0, none⟩ m cy news hl hnw h1 hm63 hbb hb
  have hwh := append_whereN (P := Try.prog) w base t o.type E i z size bytes ht hi hz hsize hby hzs hsz _ n xs hown ⟨gy, 0, none⟩ m cy hm news hl hnw h1 hm63 hbb hr
  unfold Oper.wp execOp
  simp only [ho, resolve, invoke, builtin, Sem.run_bind, Sem.run_pure, Result.andThen_ok, List.map_toArray, List.map_cons, List.map_nil, hx, hy, hr]
  obtain ⟨s', rfl, hs'⟩ := row_sl h2
  exact hk s' w' hs' (only_grown h3) (fun g hg => (hwh g (bl_own.1 hg)).imp_left bl_own.2)
end Go.Proofs.Ytffppdcpiieapaa.Memc

namespace Go.Proofs.Ytffppdcpiieapaa.Machc
open Go.RowKit Go.Proofs.Ytffppdcpiieapaa.Memc Go.Proofs.Ytffppdcpiieapaa.Newc Go.Proofs.Ytffppdcpiieapaa.Drivec Go.Proofs.Ytffppdcpiieapaa.Procc Go.Proofs.Ytffppdcpiieapaa.Arenac
set_option linter.unusedVariables false
set_option maxRecDepth 100000

/-- the rows of two types lie apart -/
theorem row_apart {w : World} {b b' : Nat} {E E' : TypeId} {z z' n n' : Nat} {s s' : Sl} {xs xs' : List Value} (h : Row w b E z s n xs) (h' : Row w b' E' z' s' n' xs') (hE : E ≠ E') : ∀ g, bl s g → ¬ bl s' g := fun g hg hg' => by
  obtain ⟨cs, hc⟩ := h'.blk hg'
  exact h.ne hc hE g hg rfl
theorem wpList_appN {w : World} {ops : Array Oper} {rest : List Oper} {o : Oper} {a : Act} {Q : Exit → Act → World → Prop} (hgd : o.guard = none) (x y : Operand) (t : TypeId) (ho : o.op = .call { callee := .builtin .append, args := #[x, y], argTypes := #[t, t] })
    (base : Nat) (E : TypeId) (i : TypeInfo) (z : Value) (size bytes : Nat) (ht : Try.prog.underlying t = some (.slice E)) (hi : Try.prog.info? E = some i) (hz : i.zero = some z) (hsize : i.size = size) (hby : i.bytes = bytes) (hzs : z.cells.size = size) (hsz : 0 < size)
    (s : Sl) (n : Nat) (xs : List Value) (hx : a.eval x = .slice s.A s.n s.c) (hown : Row w base E size s n xs) (gy m cy : Nat) (hm : 0 < m) (news : List Value) (hy : a.eval y = .slice (some ⟨gy, 0, none⟩) m cy) (hl : news.length = m * size)
    (hnews : ∀ j u, news[j]? = some u → w.cell? ⟨gy, j, none⟩ = some u) (h1 : ∀ u ∈ news, u.oneCell' = true) (h63 : n + m ≤ 1000000) (hb1 : bytes ≤ 1000) (hb : base ≤ w.heap.size)
    (hk : ∀ s' w', Row w' base E size s' (n + m) (xs ++ news) → Only (bl s) w w' → (∀ g, bl s' g → bl s g ∨ g = w.heap.size) → wpList Try.prog ops Q rest (a.put o.dst (.slice s'.A s'.n s'.c)) w') : wpList Try.prog ops Q (o :: rest) a w :=
  wpList_plain hgd fun _ hK => wp_appN x y t ho base E i z size bytes ht hi hz hsize hby hzs hsz s n xs hx hown gy m cy hm news hy hl hnews h1 h63 hb1 hb fun s' w' h2 h3 h4 => hK _ _ (hk s' w' h2 h3 h4)
theorem ops_cell : (Try.prog.info? 61).map (fun i => (i.zero, i.size, i.bytes)) = some (some (.slice none 0 0), 1, 24) := by kernel_rfl
theorem op_cell : (Try.prog.info? 63).map (fun i => (i.zero, i.size, i.bytes)) = some (some (.agg #[.int .i64 0, .int .u32 0]), 2, 16) := by kernel_rfl
/-- a thread's calls, its picks -/
def opsT (t : Nat) : List (Int × Int) := [(6, 0), (8, (t : Int)), (7, 0)]
def picksT : Nat → List (Int × Int)
  | 0 => []
  | t + 1 => picksT t ++ List.replicate 8 ((t : Int), 0)
theorem picksT_len (t : Nat) : (picksT t).length = 8 * t := by
  induction t with
  | zero => rfl
  | succ t ih => rw [picksT, List.length_append, ih, List.length_replicate]; omega
theorem flatP_one : ∀ (l : List (Int × Int)) (u : Value), u ∈ flatP l → u.oneCell' = true
  | [], u, h => by simp [flatP] at h
  | x :: l, u, h => by
    have h' : u ∈ Drivec.pcells x ++ flatP l := h
    rcases List.mem_append.1 h' with h1 | h1
    · simp only [Drivec.pcells, List.mem_cons, List.not_mem_nil, or_false] at h1
      rcases h1 with rfl | rfl <;> rfl
    · exact flatP_one l u h1
theorem picked_8 (w : World) (t : Int) (t0 : -9223372036854775808 ≤ t) (t1 : t ≤ 9223372036854775807) : Calls Try.prog 22 #[.int .i64 t, .int .i64 8] w fun e w' => ∃ (g c : Nat), e = .returned (.slice (some ⟨g, 0, none⟩) 8 c) ∧ (∀ j u, (flatP (List.replicate 8 (t, 0)))[j]? = some u → w'.cell? ⟨g, j, none⟩ = some u) ∧ Below w.heap.size w w' :=
  (picked_c w t 8 t0 t1 (by omega)).mono fun e w' ⟨q, he, hr, hb⟩ => by
    obtain ⟨g, hA, _, _, hc, _⟩ := hr.at_ (by decide)
    obtain ⟨qA, qn, qc⟩ := q
    have hn := hr.n_
    simp only at hA hn
    obtain ⟨hn, _, _, hl⟩ := hn
    subst hA hn
    exact ⟨g, qc, he, fun j u hj => (hc j (by have := (List.getElem?_eq_some_iff.1 hj).1; omega)).trans hj, hb⟩
theorem picked_400 (w : World) : Calls Try.prog 22 #[.int .i64 0, .int .i64 400] w fun e w' => ∃ (g c : Nat), e = .returned (.slice (some ⟨g, 0, none⟩) 400 c) ∧ (∀ j u, (flatP (List.replicate 400 (0, 0)))[j]? = some u → w'.cell? ⟨g, j, none⟩ = some u) ∧ Below w.heap.size w w' :=
  (picked_c w 0 400 (by omega) (by omega) (by omega)).mono fun e w' ⟨q, he, hr, hb⟩ => by
    obtain ⟨g, hA, _, _, hc, _⟩ := hr.at_ (by decide)
    obtain ⟨qA, qn, qc⟩ := q
    have hn := hr.n_
    simp only at hA hn
    obtain ⟨hn, _, _, hl⟩ := hn
    subst hA hn
    exact ⟨g, qc, he, fun j u hj => (hc j (by have := (List.getElem?_eq_some_iff.1 hj).1; omega)).trans hj, hb⟩
theorem flatP_len2 (n : Nat) (t : Int) : (flatP (List.replicate n (t, 0))).length = n * 2 := by rw [flatP_len, List.length_replicate]
theorem flatP_app (a b : List (Int × Int)) : flatP (a ++ b) = flatP a ++ flatP b := by simp [flatP]
/-- how far the lists of calls are, and the picks -/
structure FrI (V : World) (t n : Nat) (q p : Sl) (gs : List Nat) (K T M : Nat) (w : World) : Prop where
  len : gs.length = t
  l : Row V (w.heap.size + 1) 61 1 q t (gs.map fun g => .slice (some ⟨g, 0, none⟩) 3 3)
  o : ∀ i g, gs[i]? = some g → Row V g 63 2 ⟨some ⟨g, 0, none⟩, 3, 3⟩ 3 (flatP (opsT i))
  p : Row V (w.heap.size + 1) 65 2 p (8 * n) (flatP (picksT n))
  c : Blk V w.heap.size 23 #[.int .i64 2, .int .i64 K, .int .i64 T, .int .i64 M]
  b : Below w.heap.size w V
  up : gs.Pairwise (· < ·)
  low : ∀ g, g ∈ gs → w.heap.size ≤ g
section
variable {V V' w : World} {t n K T M : Nat} {q p q2 : Sl} {gs : List Nat}
theorem FrI.below (h : FrI V t n q p gs K T M w) (o : Below V.heap.size V V') : FrI V' t n q p gs K T M w :=
  ⟨h.len, h.l.below o (Nat.le_refl _), fun i g hg => (h.o i g hg).below o (Nat.le_refl _), h.p.below o (Nat.le_refl _), h.c.below o h.c.lt, h.b.trans (o.mono h.b.size), h.up, h.low⟩
theorem FrI.alloc (h : FrI V t n q p gs K T M w) (o : Obj) : FrI (V.alloc o) t n q p gs K T M w := h.below ((Below.refl _ _).alloc (Nat.le_refl _) _)
theorem FrI.lt (h : FrI V t n q p gs K T M w) {g : Nat} (hg : g ∈ gs) : g < V.heap.size := by
  obtain ⟨i, hi, rfl⟩ := List.getElem_of_mem hg
  exact ((h.o i _ (List.getElem?_eq_getElem hi)).lt ⟨_, rfl, rfl⟩).2
theorem FrI.addp (h : FrI V t n q p gs K T M w) (hr : Row V' (w.heap.size + 1) 65 2 q2 (8 * (n + 1)) (flatP (picksT (n + 1)))) (o : Only (bl p) V V') : FrI V' t (n + 1) q q2 gs K T M w :=
  ⟨h.len, h.l.only o (row_apart h.l h.p (by decide)), fun i g hg => (h.o i g hg).only o (row_apart (h.o i g hg) h.p (by decide)), hr, h.c.only o (fun hb => by have := (h.p.lt hb).1; omega), h.b.trans (o.below h.b.size (fun g hg => by have := (h.p.lt hg).1; omega)), h.up, h.low⟩
theorem FrI.addl (h : FrI V t n q p gs K T M w) (hr : Row V' (w.heap.size + 1) 61 1 q2 (t + 1) ((gs.map fun g => .slice (some ⟨g, 0, none⟩) 3 3) ++ [.slice (some ⟨V.heap.size, 0, none⟩) 3 3])) (o : Only (bl q) ((V.alloc (.cells (flatP (opsT t)).toArray 63)).alloc (.cells #[.slice (some ⟨V.heap.size, 0, none⟩) 3 3] 61)) V') : FrI V' (t + 1) n q2 p (gs ++ [V.heap.size]) K T M w := by
  have h1 := (h.alloc (.cells (flatP (opsT t)).toArray 63)).alloc (.cells #[.slice (some ⟨V.heap.size, 0, none⟩) 3 3] 61)
  have hn : Row ((V.alloc (.cells (flatP (opsT t)).toArray 63)).alloc (.cells #[.slice (some ⟨V.heap.size, 0, none⟩) 3 3] 61)) V.heap.size 63 2 ⟨some ⟨V.heap.size, 0, none⟩, 3, 3⟩ 3 (flatP (opsT t)) :=
    Row.alloc (s := ⟨some ⟨V.heap.size, 0, none⟩, 3, 3⟩) (World.ownsRow_lit (e := 63) (size := 2) V (flatP (opsT t)).toArray 3 (Nat.le_refl _) (by unfold maxLen; decide) rfl) _
  refine ⟨by rw [List.length_append, h.len]; rfl, by rw [List.map_append]; exact hr, fun i g hg => ?_, h1.p.only o (row_apart h1.p h1.l (by decide)), h1.c.only o (fun hb => by have := (h1.l.lt hb).1; omega), h1.b.trans (o.below h1.b.size (fun g hg => by have := (h1.l.lt hg).1; omega)), ?_, fun g hg => ?_⟩
  · by_cases hi : i < t
    · rw [List.getElem?_append_left (by rw [h.len]; exact hi)] at hg
      exact (h1.o i g hg).only o (row_apart (h1.o i g hg) h1.l (by decide))
    · have hil : i < (gs ++ [V.heap.size]).length := (List.getElem?_eq_some_iff.1 hg).1
      rw [List.length_append, h.len] at hil
      have hit : i = t := by simp only [List.length_cons, List.length_nil] at hil; omega
      subst hit
      rw [List.getElem?_append_right (by rw [h.len]; exact Nat.le_refl _), h.len, Nat.sub_self] at hg
      injection hg with hg
      subst hg
      exact hn.only o (row_apart hn h1.l (by decide))
  · refine List.pairwise_append.2 ⟨h.up, List.pairwise_singleton _ _, fun a ha b hb => ?_⟩
    rw [List.mem_singleton.1 hb]
    exact h.lt ha
  · rcases List.mem_append.1 hg with hg | hg
    · exact h.low g hg
    · rw [List.mem_singleton.1 hg]; exact h.b.size
end
/-- a thread's calls, all -/
def callsT (i : Nat) : List (Int × Int) := opsT i ++ (if i = 0 then [(3, 0), (3, 0), (3, 0)] else [])
theorem callsT_pos {i : Nat} (h : ¬ i = 0) : callsT i = opsT i := by unfold callsT; rw [if_neg h, List.append_nil]
theorem callsT_len (T : Nat) : ∀ x ∈ (List.range T).map callsT, x.length ≤ 1000 := fun x hx => by
  obtain ⟨i, _, rfl⟩ := List.mem_map.1 hx
  unfold callsT opsT
  split <;> simp
theorem callsT_fgn (T : Nat) : ∀ l ∈ (List.range T).map callsT, l.any fgnE = false := fun x hx => by
  obtain ⟨i, _, rfl⟩ := List.mem_map.1 hx
  unfold callsT opsT
  split <;> simp [fgnE]
theorem callsT_val (T : Nat) (t2 : T ≤ 8) : ∀ l ∈ (List.range T).map callsT, ∀ o ∈ l, 0 ≤ o.2 ∧ o.2 ≤ 4294967295 := fun x hx o ho => by
  obtain ⟨i, hi, rfl⟩ := List.mem_map.1 hx
  have := List.mem_range.1 hi
  unfold callsT opsT at ho
  split at ho <;> simp at ho
  · rcases ho with rfl | rfl | rfl | rfl <;> simp <;> omega
  · rcases ho with rfl | rfl | rfl <;> simp <;> omega
theorem picksT_in (T : Nat) : ∀ x ∈ picksT T, 0 ≤ x.1 ∧ x.1 < T := by
  induction T with
  | zero => intro x hx; cases hx
  | succ t ih =>
    intro x hx
    rcases List.mem_append.1 hx with h | h
    · have := ih x h; omega
    · have := List.eq_of_mem_replicate h
      subst this
      simp only
      omega
theorem picksT_b (T : Nat) (t2 : T ≤ 8) : ∀ x ∈ picksT T ++ List.replicate 400 (0, 0), -9223372036854775808 ≤ x.1 ∧ x.1 ≤ 9223372036854775807 := fun x hx => by
  rcases List.mem_append.1 hx with h | h
  · have := picksT_in T x h; omega
  · have := List.eq_of_mem_replicate h
    subst this
    simp
theorem own_cells {w : World} {base : Nat} {s : Sl} {xs : List Int} (h : Own w base s xs) (hn : 0 < xs.length) : ∃ g : Nat, s.A = some ⟨g, 0, none⟩ ∧ g < w.heap.size ∧ ∀ j x, xs[j]? = some x → w.cell? ⟨g, j, none⟩ = some (.int .u64 x) := by
  obtain ⟨g, hA, _, hlt, _, _⟩ := h.at_ hn
  refine ⟨g, hA, hlt, fun j x hx => ?_⟩
  have hj : j < xs.length := (List.getElem?_eq_some_iff.1 hx).1
  obtain ⟨g', hA', _, _, hc, _⟩ := h.at_ hj
  rw [hA] at hA'
  injection hA' with e
  injection e with e
  subst e
  rw [hc, List.getD_eq_getElem?_getD, hx]
  rfl
theorem tmod_lo {x : Int} (h0 : 0 ≤ x) (h : lo x = 0) : (x.tmod 4294967296 != 0) = false := by
  unfold lo at h
  rw [Int.tmod_eq_emod_of_nonneg h0, h]
  rfl
/-- what the document's machine comes to: the last call has ended, nothing waits, all segments are free -/
structure FrEnd (s : RS) (T : Nat) : Prop where
  lst : ∃ nC, s.calls.length = nC + 1 ∧ ∃ x, s.calls[nC]? = some x ∧ 0 ≤ x.to
  lim : ∃ a b c, s.m.li = [a, b, c] ∧ lo a = 0 ∧ lo b = 0 ∧ lo c = 0
  fre : (listN 99 s.m.lk (lo s.m.f)).length = T
/-- the lists of calls are laid; so many picks are -/
structure FrJ (V : World) (gl T : Nat) (p : Sl) (ps : List (Int × Int)) (K M : Nat) (w : World) : Prop where
  l : ∀ i, i < T → ∃ (so : Sl) (b : Nat), V.cell? ⟨gl, i, none⟩ = some (.slice so.A so.n so.c) ∧ Row V b 63 2 so (callsT i).length (flatP (callsT i))
  g : ∃ cs, Blk V gl 61 cs
  p : Row V (w.heap.size + 1) 65 2 p ps.length (flatP ps)
  c : Blk V w.heap.size 23 #[.int .i64 2, .int .i64 K, .int .i64 T, .int .i64 M]
  b : Below w.heap.size w V
section
variable {V V' w : World} {gl T K M : Nat} {p q2 : Sl} {ps qs : List (Int × Int)}
theorem FrJ.below (h : FrJ V gl T p ps K M w) (o : Below V.heap.size V V') : FrJ V' gl T p ps K M w := by
  obtain ⟨cs, hg⟩ := h.g
  refine ⟨fun i hi => ?_, ⟨cs, hg.below o hg.lt⟩, h.p.below o (Nat.le_refl _), h.c.below o h.c.lt, h.b.trans (o.mono h.b.size)⟩
  obtain ⟨so, b, h1, h2⟩ := h.l i hi
  exact ⟨so, b, (o.cell (p := ⟨gl, i, none⟩) hg.lt).trans h1, h2.below o (Nat.le_refl _)⟩
theorem FrJ.addp (h : FrJ V gl T p ps K M w) (hr : Row V' (w.heap.size + 1) 65 2 q2 (ps ++ qs).length (flatP (ps ++ qs))) (o : Only (bl p) V V') : FrJ V' gl T q2 (ps ++ qs) K M w := by
  obtain ⟨cs, hg⟩ := h.g
  have hgp : ¬ bl p gl := fun hb => h.p.ne hg (by decide) gl hb rfl
  refine ⟨fun i hi => ?_, ⟨cs, hg.only o hgp⟩, hr, h.c.only o (fun hb => by have := (h.p.lt hb).1; omega), h.b.trans (o.below h.b.size (fun g hg => by have := (h.p.lt hg).1; omega))⟩
  obtain ⟨so, b, h1, h2⟩ := h.l i hi
  exact ⟨so, b, (o.cell hg.lt hgp).trans h1, h2.only o (row_apart h2 h.p (by decide))⟩
theorem FrJ.lists (h : FrJ V gl T p ps K M w) (cq : Nat) (hc : T ≤ cq ∧ cq ≤ maxLen) : RdLO V V.heap.size ⟨some ⟨gl, 0, none⟩, T, cq⟩ ((List.range T).map callsT) := by
  obtain ⟨cs, hg⟩ := h.g
  refine ⟨by simp, hc.1, hc.2, fun _ => ⟨gl, 0, rfl, hg.lt, fun i x hx => ?_⟩⟩
  have hi : i < T := by have := (List.getElem?_eq_some_iff.1 hx).1; simpa using this
  rw [List.getElem?_map, List.getElem?_range hi] at hx
  injection hx with hx
  subst hx
  obtain ⟨so, b, h1, h2⟩ := h.l i hi
  exact ⟨so, by rw [Nat.zero_add]; exact h1, row_rdo h2⟩
/-- the first list gets three calls more -/
theorem FrI.close {q p s2 : Sl} {gs : List Nat} {g0 cq : Nat} {V1 V7 : World} (h : FrI V T T q p gs K T M w) (hq : q = ⟨some ⟨gl, 0, none⟩, T, cq⟩) (hT : 0 < T) (h0 : gs[0]? = some g0)
    (hb : Below V.heap.size V V1) (hr : Row V7 g0 63 2 s2 6 (flatP (opsT 0) ++ flatP [(3, 0), (3, 0), (3, 0)])) (o : Only (bl ⟨some ⟨g0, 0, none⟩, 3, 3⟩) V1 V7) : FrJ (V7.setCell ⟨gl, 0, none⟩ (.slice s2.A s2.n s2.c)) gl T p (picksT T) K M w := by
  have h1 := h.below hb
  subst hq
  have hgl : bl ⟨some ⟨gl, 0, none⟩, T, cq⟩ gl := ⟨_, rfl, rfl⟩
  have hl7 := h1.l.only o (row_apart h1.l (h1.o 0 g0 h0) (by decide))
  obtain ⟨cs, hg7⟩ := hl7.blk hgl
  have hp7 := h1.p.only o (row_apart h1.p (h1.o 0 g0 h0) (by decide))
  have hc7 := h1.c.only o (fun hb => by
    obtain ⟨ad, ha, hb⟩ := hb
    injection ha with ha
    subst ha
    exact absurd hb (fun e => by
      have e' : w.heap.size = g0 := e
      obtain ⟨cs', hx⟩ := (h1.o 0 g0 h0).blk ⟨_, rfl, rfl⟩
      subst e'
      exact Blk.ne h1.c hx (by decide) rfl))
  have hb7 : Below w.heap.size w V7 := h1.b.trans (o.below h1.b.size (fun g hg => by
    obtain ⟨ad, ha, hb⟩ := hg
    injection ha with ha
    subst ha
    have e' : g = g0 := hb
    subst e'
    exact h1.low _ (List.mem_of_getElem? h0)))
  generalize hv : Value.slice s2.A s2.n s2.c = v
  have ho7 : Only (fun g => g = gl) V7 (V7.setCell ⟨gl, 0, none⟩ v) := Only.set_ (Only.refl (fun g => g = gl) V7) (p := ⟨gl, 0, none⟩) (.inl rfl) v
  obtain ⟨gl', hA7, _, _, hc7', _⟩ := hl7.at_ hT
  injection hA7 with hA7
  injection hA7 with hA7
  subst hA7
  have hj7 : ∀ j, V7.cell? ⟨gl, j, none⟩ = cs[j]? := fun j => Blk.cell hg7 j
  have hg8 := hg7.set_ 0 v
  have hj8 : ∀ j, (V7.setCell ⟨gl, 0, none⟩ v).cell? ⟨gl, j, none⟩ = (cs.setIfInBounds 0 v)[j]? := fun j => Blk.cell hg8 j
  have hlen := h.len
  refine ⟨fun i hi => ?_, ⟨_, hg8⟩, by rw [picksT_len]; exact hp7.only ho7 (fun g hg e => hp7.ne hg7 (by decide) g hg e), hc7.only ho7 (fun e => Blk.ne hc7 hg7 (by decide) e), Below.setCell hb7 (p := ⟨gl, 0, none⟩) (show w.heap.size ≤ gl by have := (hl7.lt hgl).1; omega) v⟩
  have hci : cs[i]? = (gs.map fun g => (Value.slice (some ⟨g, 0, none⟩) 3 3))[i]? := by
    rw [← hj7]
    exact hc7' i (by omega)
  obtain ⟨gi, hgi⟩ : ∃ gi, gs[i]? = some gi := ⟨_, List.getElem?_eq_getElem (by omega)⟩
  rw [List.getElem?_map, hgi] at hci
  have hcn : i < cs.size := (Array.getElem?_eq_some_iff.1 hci).1
  rcases Nat.eq_zero_or_pos i with rfl | hp
  · refine ⟨s2, g0, ?_, (?_ : Row _ g0 _ 2 s2 6 _)⟩
    · rw [hj8, Array.getElem?_setIfInBounds_self_of_lt hcn, hv]
    · exact (hr.only ho7 (fun g hg e => hr.ne hg7 (by decide) g hg e))
  · refine ⟨⟨some ⟨gi, 0, none⟩, 3, 3⟩, gi, ?_, ?_⟩
    · rw [hj8, Array.getElem?_setIfInBounds_ne (by omega), hci]; rfl
    · rw [callsT_pos (by omega)]
      have hx := h1.o i gi hgi
      have hne : ∀ g, bl (⟨some ⟨gi, 0, none⟩, 3, 3⟩ : Sl) g → ¬ bl (⟨some ⟨g0, 0, none⟩, 3, 3⟩ : Sl) g := fun g hb hb' => by
        obtain ⟨ad, ha, hb⟩ := hb
        injection ha with ha
        subst ha
        obtain ⟨ad, ha, hb'⟩ := hb'
        injection ha with ha
        subst ha
        have e1 : g = gi := hb
        have e2 : g = g0 := hb'
        have := List.pairwise_iff_getElem.1 h.up 0 i (by omega) (by omega) hp
        rw [List.getElem?_eq_getElem (by omega)] at h0 hgi
        injection h0 with h0
        injection hgi with hgi
        omega
      have hx7 := hx.only o hne
      exact hx7.only ho7 (fun g hg e => hx7.ne hg7 (by decide) g hg e)
/-- the row's first cell, behind what is laid to the first list -/
theorem FrI.at0 {q p : Sl} {gs : List Nat} {g0 cq : Nat} {V1 V7 : World} (h : FrI V T T q p gs K T M w) (hq : q = ⟨some ⟨gl, 0, none⟩, T, cq⟩) (hT : 0 < T) (h0 : gs[0]? = some g0)
    (hb : Below V.heap.size V V1) (o : Only (bl ⟨some ⟨g0, 0, none⟩, 3, 3⟩) V1 V7) : V7.cell? ⟨gl, 0, none⟩ = some (.slice (some ⟨g0, 0, none⟩) 3 3) ∧ V7.frozen? ⟨gl, 0, none⟩ = false := by
  have h1 := h.below hb
  subst hq
  have hl7 := h1.l.only o (row_apart h1.l (h1.o 0 g0 h0) (by decide))
  obtain ⟨cs, hg7⟩ := hl7.blk ⟨_, rfl, rfl⟩
  obtain ⟨gl', hA7, _, _, hc7', _⟩ := hl7.at_ hT
  injection hA7 with hA7
  injection hA7 with hA7
  subst hA7
  exact ⟨(hc7' 0 (by omega)).trans (by rw [List.getElem?_map, h0] <;> rfl), hg7.frozen 0⟩
end
end Go.Proofs.Ytffppdcpiieapaa.Machc

set_option maxRecDepth 100000
namespace Go.Proofs.Ytffppdcpiieapaa.Machc
open Go.Proofs.Ytffppdcpiieapaa.Memc Go.Proofs.Ytffppdcpiieapaa.Newc Go.Proofs.Ytffppdcpiieapaa.Drivec Go.Proofs.Ytffppdcpiieapaa.Procc Go.Proofs.Ytffppdcpiieapaa.Arenac
set_option linter.unusedVariables false

theorem getD_set_self {α : Type} {l : List α} {i : Nat} {x d : α} (h : i < l.length) : (l.set i x).getD i d = x := by
  rw [List.getD_eq_getElem?_getD, List.getElem?_set_self h]; rfl
theorem getD_set_ne {α : Type} {l : List α} {i j : Nat} {x d : α} (h : i ≠ j) : (l.set i x).getD j d = l.getD j d := by
  rw [List.getD_eq_getElem?_getD, List.getElem?_set_ne h, List.getD_eq_getElem?_getD]
/-- what holds of a run whichever way its turns go -/
theorem turnM_ind {Z : Mac} {ls : List (List (Int × Int))} {s : RS} {P : RS → Prop} (hs : P s)
    (hb : ∀ (i : Nat) (l : List (Int × Int)) (o : Int × Int) (d : Int), ls[i]? = some l → l[(s.at_.getD i 0).toNat]? = some o → s.call.getD i (-1) < 0 → P (goR Z.ask Z.tell (begR s i (Z.bg i o.1 o.2 d) o.1 o.2) i))
    (ho : ∀ i : Nat, i < ls.length → ¬ s.call.getD i (-1) < 0 → P (goR Z.ask Z.tell s i)) (t d : Int) : P (turnM Z ls s t d) := by
  unfold turnM
  split
  · exact hs
  · rename_i ht
    obtain ⟨i, rfl⟩ : ∃ i : Nat, t = i := ⟨t.toNat, by omega⟩
    have hi : i < ls.length := by omega
    have hl : ls[i]? = some (ls[i]) := List.getElem?_eq_getElem hi
    have hd : ls.getD i [] = ls[i] := by rw [List.getD_eq_getElem?_getD, hl]; rfl
    split
    · rename_i hc
      split
      · exact hs
      · rename_i o ho2
        rw [Int.toNat_natCast] at ho2 hc ⊢
        rw [hd] at ho2
        exact hb i _ o d hl ho2 hc
    · rename_i hc
      rw [Int.toNat_natCast] at hc ⊢
      exact ho i hi hc
theorem runM_ind {Z : Mac} {ls : List (List (Int × Int))} {P : RS → Prop} (h : ∀ s t d, P s → P (turnM Z ls s t d)) : ∀ (ps : List (Int × Int)) (s : RS), P s → P (runM Z ls s ps)
  | [], s, hs => hs
  | p :: ps, s, hs => runM_ind h ps (turnM Z ls s p.1 p.2) (h s p.1 p.2 hs)
theorem acc_read (m : M) (a i o n : Int) : acc m ⟨1, a, i, o, n⟩ = (m, if there m a i then get m a i else 0, false) := by
  unfold acc
  by_cases h : there m a i
  · simp [h]
  · simp [h]
theorem acc_write (m : M) (a i o n : Int) : (acc m ⟨2, a, i, o, n⟩).1 = if there m a i then set m a i n else m := by
  unfold acc
  by_cases h : there m a i
  · simp [h]
  · simp [h]
theorem acc_swap (m : M) (a i o n : Int) : (acc m ⟨3, a, i, o, n⟩).1 = (if there m a i ∧ get m a i = o then set m a i n else m) ∧ (acc m ⟨3, a, i, o, n⟩).2.1 = (if there m a i then get m a i else 0) ∧ (acc m ⟨3, a, i, o, n⟩).2.2 = decide (there m a i ∧ get m a i = o) := by
  unfold acc
  by_cases h : there m a i
  · by_cases h2 : get m a i = o
    · simp [h, h2]
    · simp [h, h2]
  · simp [h]

/-! ### EpochWaits: a thread is pinned all the time -/
/-- the words: the epoch is 0 or 1, nothing is free, thread 0 is pinned in 0, the limbo lists are marked with their numbers -/
structure WaitM (m : M) : Prop where
  e : m.e = 0 ∨ m.e = 1
  f : m.f = 0
  p : ∃ r, m.pi = 1 :: r
  l : ∃ a b, m.li = [a, b, 0] ∧ (lo a = 0 ∨ hi a = 0) ∧ (lo b = 0 ∨ hi b = 1)
/-- a call of a thread that isn't the first -/
def WaitF (i : Nat) (f : FS) : Prop :=
  f.t = i ∧ ((f.kd = 6 ∧ (f.pc = 1 ∨ f.pc = 2 ∨ f.pc = 3)) ∨ f.pc = 4 ∨ f.pc = 30 ∨ (f.pc = 31 ∧ 0 ≤ f.pos ∧ (f.g = 0 ∨ f.g = 1) ∧ (f.pos = 0 ∨ f.g = 0)) ∨ (f.pc = 32 ∧ f.g = 0) ∨ f.pc = 33 ∨ (f.pc = 34 ∧ (f.g = 0 ∨ f.g = 1))
    ∨ (f.kd = 8 ∧ (f.pc = 80 ∨ (f.pc = 81 ∧ (f.g = 0 ∨ f.g = 1)) ∨ (f.pc = 83 ∧ (f.g = 0 ∨ f.g = 1)) ∨ (f.pc = 84 ∧ (f.g = 0 ∨ f.g = 1)))))
theorem get1 (m : M) : (if there m 1 0 then get m 1 0 else 0) = m.e := rfl
theorem WaitM.pins {m : M} (h : WaitM m) (i : Nat) (hi : 0 < i) (v : Int) : WaitM (if there m 4 i then set m 4 i v else m) := by
  split
  · obtain ⟨r, hr⟩ := h.p
    refine ⟨h.e, h.f, ?_, h.l⟩
    show ∃ r', m.pi.set (i : Int).toNat v = 1 :: r'
    obtain ⟨j, rfl⟩ : ∃ j, i = j + 1 := ⟨i - 1, by omega⟩
    rw [hr, Int.toNat_natCast]
    exact ⟨_, rfl⟩
  · exact h
theorem hi_pk {g x : Int} : hi (pk g (lo x)) = g := by unfold hi pk lo; omega
theorem wait_step {m : M} {f : FS} {i K T M : Nat} (hm : WaitM m) (hi0 : 0 < i) (hf : WaitF i f) :
    WaitM (acc m (docAsk 2 K M f)).1 ∧ ((docTell 2 K T M f (acc m (docAsk 2 K M f)).2.1 (acc m (docAsk 2 K M f)).2.2).pc = 0 ∨ WaitF i (docTell 2 K T M f (acc m (docAsk 2 K M f)).2.1 (acc m (docAsk 2 K M f)).2.2)) := by
  obtain ⟨ht, hp⟩ := hf
  rcases hp with ⟨hk, hp | hp | hp⟩ | hp | hp | ⟨hp, h0, hg, hq⟩ | ⟨hp, hg⟩ | hp | ⟨hp, hg⟩ | ⟨hk, hp | ⟨hp, hg⟩ | ⟨hp, hg⟩ | ⟨hp, hg⟩⟩
  · rw [ask1 hp, acc_read, tell1 _ _ hp]
    exact ⟨hm, .inr ⟨ht, .inl ⟨hk, .inr (.inl rfl)⟩⟩⟩
  · rw [ask2 hp, tell2 _ _ hp, acc_write]
    exact ⟨by rw [ht]; exact hm.pins i hi0 _, .inr ⟨ht, .inl ⟨hk, .inr (.inr rfl)⟩⟩⟩
  · rw [ask3 hp, acc_read, tell3 _ _ hp]
    refine ⟨hm, ?_⟩
    generalize (m, (if there m 1 0 then get m 1 0 else 0), false).2.1 = v
    by_cases hv : ¬ v = f.g
    · rw [if_pos hv]; exact .inr ⟨ht, .inl ⟨hk, .inr (.inl rfl)⟩⟩
    · rw [if_neg hv, if_pos hk]; exact .inl rfl
  · rw [ask4 hp, tell4 _ _ hp, acc_write]
    exact ⟨by rw [ht]; exact hm.pins i hi0 _, .inl rfl⟩
  · rw [ask30 hp, acc_read, tell30 _ _ hp]
    exact ⟨hm, .inr ⟨ht, .inr (.inr (.inr (.inl ⟨rfl, Int.le_refl 0, hm.e, .inl rfl⟩)))⟩⟩
  · rw [ask31 hp, acc_read, tell31 _ _ hp]
    refine ⟨hm, .inr ?_⟩
    by_cases hn : (¬ (m, (if there m 4 f.pos then get m 4 f.pos else 0), false).2.1 = 0 ∧ ¬ (m, (if there m 4 f.pos then get m 4 f.pos else 0), false).2.1 = w64 (f.g + 1))
    · rw [if_pos hn]; exact ⟨ht, .inr (.inr (.inr (.inr (.inr (.inl rfl)))))⟩
    · rw [if_neg hn]
      have hg0 : f.g = 0 := by
        rcases hq with hq | hq
        · obtain ⟨r, hr⟩ := hm.p
          rw [hq] at hn
          have e1 : (if there m 4 0 then get m 4 0 else 0) = 1 := by
            have : there m 4 0 := by
              refine ⟨Int.le_refl 0, ?_⟩
              show (0 : Int) < m.pi.length
              rw [hr, List.length_cons]; omega
            rw [if_pos this]
            show m.pi.getD 0 0 = 1
            rw [hr]; rfl
          dsimp only at hn
          rw [e1] at hn
          rcases hg with hg | hg
          · exact hg
          · exact absurd ⟨by decide, by rw [hg]; decide⟩ hn
        · exact hq
      by_cases hT : f.pos + 1 = T
      · simp only [hT, if_true]
        exact ⟨ht, .inr (.inr (.inr (.inr (.inl ⟨rfl, hg0⟩))))⟩
      · simp only [hT, if_false]
        exact ⟨ht, .inr (.inr (.inr (.inl ⟨rfl, by show 0 ≤ f.pos + 1; omega, hg, .inr hg0⟩)))⟩
  · rw [ask32 hp, tell32 _ _ hp, (acc_swap _ _ _ _ _).1]
    refine ⟨?_, .inr ⟨ht, .inr (.inr (.inr (.inr (.inr (.inl rfl)))))⟩⟩
    split
    · exact ⟨.inr (by rw [hg]; rfl), hm.f, hm.p, hm.l⟩
    · exact hm
  · rw [ask33 hp, acc_read, tell33 _ _ hp]
    exact ⟨hm, .inr ⟨ht, .inr (.inr (.inr (.inr (.inr (.inr (.inl ⟨rfl, hm.e⟩))))))⟩⟩
  · rw [ask34 hp, acc_read, tell34 _ _ hp]
    refine ⟨hm, .inl ?_⟩
    obtain ⟨a, b, hl, ha, hb⟩ := hm.l
    show (if _ then (0 : Int) else 35) = 0
    rw [if_pos]
    rcases hg with hg | hg
    · have e1 : (if there m 3 (w64 (f.g + 1) % 3) then get m 3 (w64 (f.g + 1) % 3) else 0) = b := by
        rw [hg, if_pos]
        · show m.li.getD 1 0 = b
          rw [hl]; rfl
        · refine ⟨by decide, ?_⟩
          show (_ : Int) < m.li.length
          rw [hl]; simp; try decide
      rw [e1, hg]
      rcases hb with hb | hb
      · exact .inl hb
      · exact .inr (by rw [hb]; decide)
    · have e1 : (if there m 3 (w64 (f.g + 1) % 3) then get m 3 (w64 (f.g + 1) % 3) else 0) = 0 := by
        rw [hg, if_pos]
        · show m.li.getD 2 0 = 0
          rw [hl]; rfl
        · refine ⟨by decide, ?_⟩
          show (_ : Int) < m.li.length
          rw [hl]; simp; try decide
      exact .inl (by dsimp only; rw [e1]; decide)
  · rw [ask80 hp, acc_read, tell80 _ _ hp]
    exact ⟨hm, .inr ⟨ht, .inr (.inr (.inr (.inr (.inr (.inr (.inr ⟨hk, .inr (.inl ⟨rfl, hm.e⟩)⟩))))))⟩⟩
  · rw [ask81 hp, acc_read, tell81 _ _ hp]
    refine ⟨hm, .inr ?_⟩
    obtain ⟨a, b, hl, ha, hb⟩ := hm.l
    rw [if_neg]
    · exact ⟨ht, .inr (.inr (.inr (.inr (.inr (.inr (.inr ⟨hk, .inr (.inr (.inl ⟨rfl, hg⟩))⟩))))))⟩
    · rcases hg with hg | hg
      · have e1 : (if there m 3 (f.g % 3) then get m 3 (f.g % 3) else 0) = a := by
          rw [hg, if_pos]
          · show m.li.getD 0 0 = a
            rw [hl]; rfl
          · refine ⟨by decide, ?_⟩
            show (_ : Int) < m.li.length
            rw [hl]; simp; try decide
        rw [e1, hg]
        rcases ha with ha | ha
        · exact fun h => h.1 ha
        · exact fun h => h.2 (by rw [ha]; rfl)
      · have e1 : (if there m 3 (f.g % 3) then get m 3 (f.g % 3) else 0) = b := by
          rw [hg, if_pos]
          · show m.li.getD 1 0 = b
            rw [hl]; rfl
          · refine ⟨by decide, ?_⟩
            show (_ : Int) < m.li.length
            rw [hl]; simp; try decide
        rw [e1, hg]
        rcases hb with hb | hb
        · exact fun h => h.1 hb
        · exact fun h => h.2 (by rw [hb]; rfl)
  · rw [ask83 hp, tell83 _ _ hp, acc_write]
    refine ⟨?_, .inr ⟨ht, .inr (.inr (.inr (.inr (.inr (.inr (.inr ⟨hk, .inr (.inr (.inr ⟨rfl, hg⟩))⟩))))))⟩⟩
    split
    · exact ⟨hm.e, hm.f, hm.p, hm.l⟩
    · exact hm
  · rw [ask84 hp, tell84 _ _ hp, (acc_swap _ _ _ _ _).1]
    constructor
    · split
      · refine ⟨hm.e, hm.f, hm.p, ?_⟩
        obtain ⟨a, b, hl, ha, hb⟩ := hm.l
        show ∃ a' b', m.li.set (f.g % 3).toNat (pk (lo f.g) (lo f.s)) = [a', b', 0] ∧ _
        rcases hg with hg | hg
        · rw [hg, hl]
          exact ⟨_, _, rfl, .inr hi_pk, hb⟩
        · rw [hg, hl]
          exact ⟨_, _, rfl, ha, .inr hi_pk⟩
      · exact hm
    · generalize (acc m ⟨3, 3, f.g % 3, f.w, pk (lo f.g) (lo f.s)⟩).2.2 = v
      cases v
      · exact .inr ⟨ht, .inr (.inr (.inr (.inr (.inr (.inr (.inr ⟨hk, .inr (.inl ⟨rfl, hg⟩)⟩))))))⟩
      · rw [if_pos rfl, if_pos hk]; exact .inl rfl
/-- the run, behind the first thread's three turns -/
structure WaitsR (T : Nat) (s : RS) : Prop where
  m : WaitM s.m
  lon : s.on.length = T
  lcall : s.call.length = T
  c0 : s.call.getD 0 (-1) < 0
  a0 : s.at_.getD 0 0 = 1
  on : ∀ i, 0 < i → i < T → ¬ s.call.getD i (-1) < 0 → WaitF i (s.on.getD i FS.none)
theorem WaitsR.go {T K M : Nat} {s : RS} (hm : WaitM s.m) (lon : s.on.length = T) (lcall : s.call.length = T) (c0 : s.call.getD 0 (-1) < 0) (a0 : s.at_.getD 0 0 = 1) {i : Nat} (hi0 : 0 < i) (hi : i < T) (hf : WaitF i (s.on.getD i FS.none))
    (on : ∀ j, 0 < j → j < T → j ≠ i → ¬ s.call.getD j (-1) < 0 → WaitF j (s.on.getD j FS.none)) : WaitsR T (goR (docAsk 2 K M) (docTell 2 K T M) s i) := by
  have hs := wait_step (K := K) (T := T) (M := M) hm hi0 hf
  unfold goR
  simp only
  generalize s.on.getD i FS.none = f at hs hf ⊢
  generalize acc s.m (docAsk 2 K M f) = x at hs ⊢
  generalize docTell 2 K T M f x.2.1 x.2.2 = f' at hs ⊢
  refine ⟨hs.1, by rw [List.length_set]; exact lon, ?_, ?_, a0, fun j j0 jT hj => ?_⟩
  · show (if f'.pc = 0 then s.call.set i (-1) else s.call).length = T
    split
    · rw [List.length_set]; exact lcall
    · exact lcall
  · show (if f'.pc = 0 then s.call.set i (-1) else s.call).getD 0 (-1) < 0
    split
    · rw [getD_set_ne (by omega)]; exact c0
    · exact c0
  · change ¬ (if f'.pc = 0 then s.call.set i (-1) else s.call).getD j (-1) < 0 at hj
    show WaitF j ((s.on.set i f').getD j FS.none)
    by_cases hij : i = j
    · subst hij
      rw [getD_set_self (by omega)]
      rcases hs.2 with h0 | h0
      · rw [if_pos h0, getD_set_self (by omega)] at hj
        exact absurd (by decide) hj
      · exact h0
    · rw [getD_set_ne hij]
      refine on j j0 jT (fun e => hij e.symm) ?_
      split at hj
      · rwa [getD_set_ne hij] at hj
      · exact hj
/-- the calls of EpochWaits -/
def WaitLs (T : Nat) (ls : List (List (Int × Int))) : Prop :=
  ls.length = T ∧ ls[0]? = some [(6, 0)] ∧ ∀ (i : Nat) (l : List (Int × Int)) (o : Int × Int), ls[i]? = some l → o ∈ l → o.1 = 6 ∨ o.1 = 8 ∨ o.1 = 7 ∨ o.1 = 3
theorem wait_bg {K M i : Nat} {kd vl d : Int} (h : kd = 6 ∨ kd = 8 ∨ kd = 7 ∨ kd = 3) : WaitF i (docBg 2 K M i kd vl d) := by
  rcases h with rfl | rfl | rfl | rfl
  · exact ⟨rfl, .inl ⟨rfl, .inl rfl⟩⟩
  · exact ⟨rfl, .inr (.inr (.inr (.inr (.inr (.inr (.inr ⟨rfl, .inl rfl⟩))))))⟩
  · exact ⟨rfl, .inr (.inl rfl)⟩
  · exact ⟨rfl, .inr (.inr (.inl rfl))⟩
theorem waits_turn {T K M : Nat} {ls : List (List (Int × Int))} (hl : WaitLs T ls) (s : RS) (t d : Int) (h : WaitsR T s) : WaitsR T (turnM (docZ 2 K T M) ls s t d) := by
  obtain ⟨h1, h2, h3⟩ := hl
  refine turnM_ind h (fun i l o d hl ho hc => ?_) (fun i hi hc => ?_) t d
  · have hiT : i < T := by rw [← h1]; exact (List.getElem?_eq_some_iff.1 hl).1
    rcases Nat.eq_zero_or_pos i with rfl | hi0
    · rw [h2] at hl
      injection hl with hl
      subst hl
      rw [h.a0] at ho
      exact absurd ho (by simp)
    · refine WaitsR.go (s := begR s i _ o.1 o.2) h.m (by show (s.on.set i _).length = T; rw [List.length_set]; exact h.lon) (by show (s.call.set i _).length = T; rw [List.length_set]; exact h.lcall) (by show (s.call.set i _).getD 0 (-1) < 0; rw [getD_set_ne (by omega)]; exact h.c0)
        (by show (s.at_.set i _).getD 0 0 = 1; rw [getD_set_ne (by omega)]; exact h.a0) hi0 hiT ?_ fun j j0 jT hji hj => ?_
      · show WaitF i ((s.on.set i _).getD i FS.none)
        rw [getD_set_self (by rw [h.lon]; exact hiT)]
        exact wait_bg (h3 i l o hl (List.mem_of_getElem? ho))
      · change ¬ (s.call.set i _).getD j (-1) < 0 at hj
        show WaitF j ((s.on.set i _).getD j FS.none)
        rw [getD_set_ne (fun e => hji e.symm)] at hj ⊢
        exact h.on j j0 jT hj
  · rcases Nat.eq_zero_or_pos i with rfl | hi0
    · exact absurd h.c0 hc
    · have hiT : i < T := by omega
      exact WaitsR.go h.m h.lon h.lcall h.c0 h.a0 hi0 hiT (h.on i hi0 hiT hc) fun j j0 jT _ hj => h.on j j0 jT hj
/-- the first thread's three turns -/
theorem waits_first {T K M : Nat} {ls : List (List (Int × Int))} (hl : WaitLs T ls) (hT : 1 ≤ T) : WaitsR T (runM (docZ 2 K T M) ls (RS.first (newM 2 K T M) T) (List.replicate 3 (0, 0))) := by
  obtain ⟨h1, h2, h3⟩ := hl
  obtain ⟨T', rfl⟩ : ∃ T', T = T' + 1 := ⟨T - 1, by omega⟩
  obtain ⟨l0, ls', rfl⟩ : ∃ a b, ls = a :: b := by
    cases ls with
    | nil => cases h2
    | cons a b => exact ⟨a, b, rfl⟩
  have h0 : l0 = [(6, 0)] := Option.some.inj h2
  subst h0
  have hn : ∀ (s : RS) (n : Nat), s.call.getD 0 (-1) = n → turnM (docZ 2 K (T' + 1) M) ([(6, 0)] :: ls') s 0 0 = goR (docAsk 2 K M) (docTell 2 K (T' + 1) M) s 0 := fun s n hs => by
    unfold turnM
    rw [if_neg (by rw [List.length_cons]; omega), if_neg (by rw [show (0 : Int).toNat = 0 from rfl, hs]; omega)]
    rfl
  obtain ⟨m0, hm0⟩ : ∃ m0 : Memc.M, m0 = newM 2 K (T' + 1) M := ⟨_, rfl⟩
  have m0e : m0.e = 0 := by rw [hm0]; rfl
  have m0f : m0.f = 0 := by rw [hm0]; rfl
  have m0l : m0.li = [0, 0, 0] := by rw [hm0]; rfl
  have m0p : m0.pi = 0 :: List.replicate T' 0 := by rw [hm0]; rfl
  have e1 : turnM (docZ 2 K (T' + 1) M) ([(6, 0)] :: ls') (RS.first m0 (T' + 1)) 0 0 =
      ⟨m0, { docBg 2 K M 0 6 0 0 with g := 0, pc := 2 } :: List.replicate T' FS.none, 0 :: List.replicate T' (-1), 1 :: List.replicate T' 0, [⟨0, ⟨1, 1, 0, 0, 0⟩, 0, false⟩], [⟨0, 6, 0, 0, -1, 0, 0⟩]⟩ := by
    unfold turnM
    rw [if_neg (by rw [List.length_cons]; omega), if_pos (by show (-1 : Int) < 0; decide)]
    show goR (docAsk 2 K M) (docTell 2 K (T' + 1) M) (begR (RS.first m0 (T' + 1)) 0 (docBg 2 K M 0 6 0 0) 6 0) 0 = _
    unfold goR
    have h1 : (begR (RS.first m0 (T' + 1)) 0 (docBg 2 K M 0 6 0 0) 6 0).on.getD 0 FS.none = docBg 2 K M 0 6 0 0 := rfl
    have h2 : docAsk 2 K M (docBg 2 K M 0 6 0 0) = ⟨1, 1, 0, 0, 0⟩ := rfl
    have h3 : acc (begR (RS.first m0 (T' + 1)) 0 (docBg 2 K M 0 6 0 0) 6 0).m ⟨1, 1, 0, 0, 0⟩ = (m0, 0, false) := by rw [acc_read, get1]; show (_, m0.e, false) = _; rw [m0e]; rfl
    simp only [h1, h2, h3, tell1 (k := 2) (K := K) (T := T' + 1) (M := M) (f := docBg 2 K M 0 6 0 0) 0 false rfl]
    rfl
  have e2 : turnM (docZ 2 K (T' + 1) M) ([(6, 0)] :: ls') ⟨m0, { docBg 2 K M 0 6 0 0 with g := 0, pc := 2 } :: List.replicate T' FS.none, 0 :: List.replicate T' (-1), 1 :: List.replicate T' 0, [⟨0, ⟨1, 1, 0, 0, 0⟩, 0, false⟩], [⟨0, 6, 0, 0, -1, 0, 0⟩]⟩ 0 0 =
      ⟨{ m0 with pi := 1 :: List.replicate T' 0 }, { docBg 2 K M 0 6 0 0 with g := 0, pc := 3 } :: List.replicate T' FS.none, 0 :: List.replicate T' (-1), 1 :: List.replicate T' 0, [⟨0, ⟨1, 1, 0, 0, 0⟩, 0, false⟩, ⟨0, ⟨2, 4, 0, 0, 1⟩, 0, true⟩], [⟨0, 6, 0, 0, -1, 0, 0⟩]⟩ := by
    rw [hn _ 0 rfl]
    unfold goR
    have h2 : docAsk 2 K M { docBg 2 K M 0 6 0 0 with g := 0, pc := 2 } = ⟨2, 4, 0, 0, 1⟩ := rfl
    have h3 : acc m0 ⟨2, 4, 0, 0, 1⟩ = ({ m0 with pi := 1 :: List.replicate T' 0 }, 0, true) := by
      have h4 : there m0 4 0 := by
        refine ⟨Int.le_refl 0, ?_⟩
        show (0 : Int) < m0.pi.length
        rw [m0p, List.length_cons]; omega
      unfold acc
      rw [if_pos ⟨h4, by decide, by decide⟩, if_neg (by simp)]
      have h5 : get m0 4 0 = 0 := by show m0.pi.getD 0 0 = 0; rw [m0p]; rfl
      have h6 : set m0 4 0 1 = { m0 with pi := 1 :: List.replicate T' 0 } := by show { m0 with pi := m0.pi.set 0 1 } = _; rw [m0p]; rfl
      rw [h5, h6]
    simp only [List.getD_cons_zero, h2, h3]
    rw [tell2 _ _ rfl]
    rfl
  have e3 : turnM (docZ 2 K (T' + 1) M) ([(6, 0)] :: ls') ⟨{ m0 with pi := 1 :: List.replicate T' 0 }, { docBg 2 K M 0 6 0 0 with g := 0, pc := 3 } :: List.replicate T' FS.none, 0 :: List.replicate T' (-1), 1 :: List.replicate T' 0, [⟨0, ⟨1, 1, 0, 0, 0⟩, 0, false⟩, ⟨0, ⟨2, 4, 0, 0, 1⟩, 0, true⟩], [⟨0, 6, 0, 0, -1, 0, 0⟩]⟩ 0 0 =
      ⟨{ m0 with pi := 1 :: List.replicate T' 0 }, { docBg 2 K M 0 6 0 0 with g := 0, pc := 0 } :: List.replicate T' FS.none, -1 :: List.replicate T' (-1), 1 :: List.replicate T' 0, [⟨0, ⟨1, 1, 0, 0, 0⟩, 0, false⟩, ⟨0, ⟨2, 4, 0, 0, 1⟩, 0, true⟩, ⟨0, ⟨1, 1, 0, 0, 0⟩, 0, false⟩], [⟨0, 6, 0, 0, 2, 0, 0⟩]⟩ := by
    rw [hn _ 0 rfl]
    unfold goR
    have h2 : docAsk 2 K M { docBg 2 K M 0 6 0 0 with g := 0, pc := 3 } = ⟨1, 1, 0, 0, 0⟩ := rfl
    have h3 : acc { m0 with pi := 1 :: List.replicate T' 0 } ⟨1, 1, 0, 0, 0⟩ = ({ m0 with pi := 1 :: List.replicate T' 0 }, 0, false) := by rw [acc_read, get1]; show (_, m0.e, false) = _; rw [m0e]
    simp only [List.getD_cons_zero, h2, h3]
    rw [tell3 _ _ rfl, if_neg (fun h => h rfl)]
    rfl
  have e4 : runM (docZ 2 K (T' + 1) M) ([(6, 0)] :: ls') (RS.first (newM 2 K (T' + 1) M) (T' + 1)) (List.replicate 3 (0, 0)) = turnM (docZ 2 K (T' + 1) M) ([(6, 0)] :: ls') (turnM (docZ 2 K (T' + 1) M) ([(6, 0)] :: ls') (turnM (docZ 2 K (T' + 1) M) ([(6, 0)] :: ls') (RS.first m0 (T' + 1)) 0 0) 0 0) 0 0 := by rw [hm0]; rfl
  rw [e4, e1, e2, e3]
  refine ⟨⟨.inl m0e, m0f, ⟨_, rfl⟩, 0, 0, m0l, .inl rfl, .inl rfl⟩, by simp, by simp, by show (-1 : Int) < 0; decide, rfl, fun i i0 iT hi => ?_⟩
  obtain ⟨j, rfl⟩ : ∃ j, i = j + 1 := ⟨i - 1, by omega⟩
  refine absurd ?_ hi
  show (List.replicate T' (-1 : Int)).getD j (-1) < 0
  rw [List.getD_eq_getElem?_getD, List.getElem?_replicate]
  split <;> decide
theorem runM_app (Z : Mac) (ls : List (List (Int × Int))) (s : RS) (a b : List (Int × Int)) : runM Z ls s (a ++ b) = runM Z ls (runM Z ls s a) b := List.foldl_append
/-- what EpochWaits asks: the epoch is at most 1, nothing is free, the third limbo list is empty -/
theorem waits_end {T K M : Nat} {ls : List (List (Int × Int))} (hl : WaitLs T ls) (hT : 1 ≤ T) (ps : List (Int × Int)) :
    WaitM (runM (docZ 2 K T M) ls (RS.first (newM 2 K T M) T) (List.replicate 3 (0, 0) ++ ps)).m := by
  rw [runM_app]
  exact (runM_ind (P := WaitsR T) (fun s t d h => waits_turn hl s t d h) ps _ (waits_first hl hT)).m
end Go.Proofs.Ytffppdcpiieapaa.Machc
