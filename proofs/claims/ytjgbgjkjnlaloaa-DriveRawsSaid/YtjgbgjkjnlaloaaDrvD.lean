/- A run of accesses: as mathematics, as it is held in memory, and a turn of it. -/
import Derived.Test.YtjgbgjkjnlaloaaDrvC
namespace Go.Proofs.Ytjgbgjkjnlaloaa.Drivec
open Go.RowKit Go.Proofs.Ytjgbgjkjnlaloaa.Memc Go.Proofs.Ytjgbgjkjnlaloaa.Procc Go.Proofs.Ytjgbgjkjnlaloaa.Storec
set_option linter.unusedVariables false
set_option maxRecDepth 100000

/-! ### as mathematics -/
/-- a call of one access that is over -/
structure Cl where
  th : Int
  fr : Nat
  out : Int
def Cl.cells (c : Cl) : List Value := [.int .i64 c.th, .int .i64 0, .int .u32 0, .int .i64 c.fr, .int .i64 c.fr, .int .i64 0, .int .u32 c.out]
/-- a run of accesses -/
structure D where
  m : Memc.M
  left : List (List Acc)
  steps : List St
  calls : List Cl
/-- what a pick picks -/
def turn (s : D) (t : Int) : D :=
  if 0 ≤ t then
    match s.left[t.toNat]? with
    | some (a :: l) => ⟨(acc s.m a).1, s.left.set t.toNat l, s.steps ++ [⟨t, a, (acc s.m a).2.1, (acc s.m a).2.2⟩], s.calls ++ [⟨t, s.steps.length, num (acc s.m a).2.2⟩]⟩
    | _ => s
  else s
def flatS (l : List St) : List Value := (l.map St.cells).flatten
def flatC (l : List Cl) : List Value := (l.map Cl.cells).flatten
theorem flatS_len (l : List St) : (flatS l).length = l.length * 8 := by
  induction l with
  | nil => rfl
  | cons x l ih => simp only [flatS, List.map_cons, List.flatten_cons, List.length_append] at *; rw [ih]; simp [St.cells]; omega
theorem flatC_len (l : List Cl) : (flatC l).length = l.length * 7 := by
  induction l with
  | nil => rfl
  | cons x l ih => simp only [flatC, List.map_cons, List.flatten_cons, List.length_append] at *; rw [ih]; simp [Cl.cells]; omega
theorem flatS_snoc (l : List St) (x : St) : flatS (l ++ [x]) = flatS l ++ x.cells := by simp [flatS]
theorem flatC_snoc (l : List Cl) (x : Cl) : flatC (l ++ [x]) = flatC l ++ x.cells := by simp [flatC]
/-- a call that was begun, and is over now -/
theorem flatC_end (l : List Cl) (t o z : Int) (n f : Nat) (hn : l.length = n) (hf : (f : Int) = o) (z' : Int) :
    ((((flatC l ++ ([.int .i64 t, .int .i64 0, .int .u32 0, .int .i64 (f : Int), .int .i64 (-1), .int .i64 0, .int .u32 0] : List Value)).set (n * 7 + 4) (.int .i64 o)).set (n * 7 + 5) (.int .i64 0)).set (n * 7 + 6) (.int .u32 z)) = flatC (l ++ [⟨t, f, z⟩]) := by
  subst hn
  subst hf
  have hl := flatC_len l
  rw [flatC_snoc]
  rw [List.set_append_right _ _ (by omega), List.set_append_right _ _ (by omega), List.set_append_right _ _ (by omega)]
  rw [show l.length * 7 + 4 - (flatC l).length = 4 by omega, show l.length * 7 + 5 - (flatC l).length = 5 by omega, show l.length * 7 + 6 - (flatC l).length = 6 by omega]
  rfl
theorem turn_none {s : D} {t : Int} (h : t < 0 ∨ (s.left.length : Int) ≤ t ∨ s.left[t.toNat]? = some []) : turn s t = s := by
  unfold turn
  rcases h with h | h | h
  · rw [if_neg (by omega)]
  · by_cases h0 : 0 ≤ t
    · rw [if_pos h0, List.getElem?_eq_none (by omega)]
    · rw [if_neg h0]
  · by_cases h0 : 0 ≤ t
    · rw [if_pos h0, h]
    · rw [if_neg h0]
theorem turn_some {s : D} {t : Nat} {a : Acc} {l : List Acc} (h : s.left[t]? = some (a :: l)) : turn s t = ⟨(acc s.m a).1, s.left.set t l, s.steps ++ [⟨t, a, (acc s.m a).2.1, (acc s.m a).2.2⟩], s.calls ++ [⟨t, s.steps.length, num (acc s.m a).2.2⟩]⟩ := by
  unfold turn
  rw [if_pos (by omega), Int.toNat_natCast, h]

/-! ### in memory -/
/-- the slice s reads as the accesses l, in memory below B -/
def RdA (w : World) (B : Nat) (s : Sl) (l : List Acc) : Prop :=
  s.n = l.length ∧ s.n ≤ s.c ∧ s.c ≤ maxLen ∧ (∀ x ∈ l, x.ok) ∧
  (0 < s.n → ∃ b off, s.A = some ⟨b, off, none⟩ ∧ b < B ∧ ∀ (i : Nat) (x : Acc), l[i]? = some x →
    w.cell? ⟨b, off + i * 5, none⟩ = some (.int .i64 x.d) ∧ w.cell? ⟨b, off + i * 5 + 1, none⟩ = some (.int .i64 x.ar) ∧ w.cell? ⟨b, off + i * 5 + 2, none⟩ = some (.int .i64 x.at_) ∧ w.cell? ⟨b, off + i * 5 + 3, none⟩ = some (.int .u64 x.old) ∧ w.cell? ⟨b, off + i * 5 + 4, none⟩ = some (.int .u64 x.new))
theorem RdA.below {w w' : World} {B : Nat} {s : Sl} {l : List Acc} (h : RdA w B s l) (hb : Below B w w') : RdA w' B s l :=
  ⟨h.1, h.2.1, h.2.2.1, h.2.2.2.1, fun hn => by
    obtain ⟨b, off, e, hlt, hc⟩ := h.2.2.2.2 hn
    refine ⟨b, off, e, hlt, fun i x hx => ?_⟩
    have h5 := hc i x hx
    exact ⟨(hb.cell (p := ⟨b, _, none⟩) hlt).trans h5.1, (hb.cell (p := ⟨b, _, none⟩) hlt).trans h5.2.1, (hb.cell (p := ⟨b, _, none⟩) hlt).trans h5.2.2.1, (hb.cell (p := ⟨b, _, none⟩) hlt).trans h5.2.2.2.1, (hb.cell (p := ⟨b, _, none⟩) hlt).trans h5.2.2.2.2⟩⟩
theorem RdA.tail {w : World} {B b off n c : Nat} {a : Acc} {l : List Acc} (h : RdA w B ⟨some ⟨b, off, none⟩, n, c⟩ (a :: l)) : RdA w B ⟨tailA b off c, n - 1, c - 1⟩ l := by
  obtain ⟨h1, h2, h3, h4, h5⟩ := h
  simp only [List.length_cons] at h1 h2 h3
  refine ⟨by show n - 1 = _; omega, by show n - 1 ≤ c - 1; omega, by show c - 1 ≤ _; omega, fun x hx => h4 x (List.mem_cons_of_mem _ hx), fun hn => ?_⟩
  have hn' : 0 < n - 1 := hn
  obtain ⟨b', off', e, hlt, hc⟩ := h5 (by show 0 < n; omega)
  injection e with e
  injection e with e1 e2
  subst e1
  subst e2
  refine ⟨b, off + 5, by show tailA b off c = _; unfold tailA; rw [if_neg (by omega)], hlt, fun i x hx => ?_⟩
  have h6 := hc (i + 1) x (by simpa using hx)
  rw [show off + (i + 1) * 5 = off + 5 + i * 5 by omega] at h6
  exact h6
/-- the slice s has n calls, of no kind and no value -/
def OpsAt (w : World) (s : Sl) (n : Nat) : Prop :=
  s.n = n ∧ s.n ≤ s.c ∧ s.c ≤ maxLen ∧ (0 < n → ∃ (b off : Nat) (co : Array Value), s.A = some ⟨b, off, none⟩ ∧ Blk w b 81 co ∧ ∀ j, j < n → co[off + j * 2]? = some (.int .i64 0) ∧ co[off + j * 2 + 1]? = some (.int .u32 0))
theorem OpsAt.only {w w' : World} {s : Sl} {n : Nat} {P : Nat → Prop} (h : OpsAt w s n) (ho : Only P w w') (hp : ∀ k cs, Blk w k 81 cs → ¬ P k) : OpsAt w' s n :=
  ⟨h.1, h.2.1, h.2.2.1, fun hn => by
    obtain ⟨b, off, co, e, hb, hc⟩ := h.2.2.2 hn
    exact ⟨b, off, co, e, hb.only ho (hp b co hb), hc⟩⟩
theorem OpsAt.tail {w : World} {b off n c : Nat} (h : OpsAt w ⟨some ⟨b, off, none⟩, n + 1, c⟩ (n + 1)) : OpsAt w ⟨tailO b off c, n, c - 1⟩ n := by
  obtain ⟨h1, h2, h3, h4⟩ := h
  simp only at h2 h3
  refine ⟨rfl, by show n ≤ c - 1; omega, by show c - 1 ≤ _; omega, fun hn => ?_⟩
  obtain ⟨b', off', co, e, hb, hc⟩ := h4 (by omega)
  injection e with e
  injection e with e1 e2
  subst e1
  subst e2
  refine ⟨b, off + 2, co, by show tailO b off c = _; unfold tailO; rw [if_neg (by omega)], hb, fun j hj => ?_⟩
  have h6 := hc (j + 1) (by omega)
  rw [show off + (j + 1) * 2 = off + 2 + j * 2 by omega] at h6
  exact h6
/-- a thread's nine cells, no call being on -/
def Idle (ct : Array Value) (o : Nat) (s : Sl) : Prop :=
  ct[o]? = some (.slice s.A s.n s.c) ∧ ct[o + 1]? = some .nilIface ∧ (∃ c : Int, ct[o + 2]? = some (.int .i64 c)) ∧ ct[o + 3]? = some (.int .i64 0) ∧ ct[o + 4]? = some (.int .i64 0) ∧ ct[o + 5]? = some (.int .i64 0) ∧ ct[o + 6]? = some (.int .u64 0) ∧ ct[o + 7]? = some (.int .u64 0) ∧ ct[o + 8]? = some (.bool false)

/-- a run, as it is held: the blocks of the course and of the threads, and the variable of what is left -/
structure Inv (w : World) (B base gC gT gL gLL T : Nat) (s : D) : Prop where
  ex : ∃ (r : R) (sS sK : Sl) (ct cs : Array Value) (lc : Nat), (let th : Sl := ⟨some ⟨gT, 0, none⟩, T, T⟩; Blk w gC 132 #[.func (.func 52) #[] #[.pointer (some ⟨gL, 0, none⟩)], .slice th.A th.n th.c, .slice sS.A sS.n sS.c, .slice sK.A sK.n sK.c, .int .u64 r.e, .int .u64 r.f, .slice r.L.A r.L.n r.L.c, .slice r.P.A r.P.n r.P.c, .int .u64 r.h, .int .u64 r.t, .slice r.K.A r.K.n r.K.c, .slice r.X.A r.X.n r.X.c, .slice r.S.A r.S.n r.S.c]) ∧ Blk w gT 134 ct ∧ Endw w base r s.m ∧
    Row w base 65 8 sS s.steps.length (flatS s.steps) ∧ Row w base 67 7 sK s.calls.length (flatC s.calls) ∧
    Blk w gL 49 #[.slice (some ⟨gLL, 0, none⟩) T lc] ∧ Blk w gLL 51 cs ∧
    (∀ i, i < T → ∃ so : Sl, Idle ct (i * 9) so ∧ OpsAt w so (s.left.getD i []).length) ∧
    (∀ i, i < T → ∃ sa : Sl, cs[i]? = some (.slice sa.A sa.n sa.c) ∧ RdA w B sa (s.left.getD i []))
  len : s.left.length = T
  calls : s.calls.length = s.steps.length
  few : ∀ a, (s.m.area a).length ≤ 1000000
  low : B ≤ base ∧ base ≤ w.heap.size ∧ B ≤ gC ∧ B ≤ gT ∧ B ≤ gLL ∧ base ≤ gC ∧ base ≤ gT
/-- what a turn may touch: blocks of these types -/
def Tch (w : World) (B : Nat) (g : Nat) : Prop := B ≤ g ∧ ∃ t cs, Blk w g t cs ∧ (t = 132 ∨ t = 134 ∨ t = 65 ∨ t = 67 ∨ t = 51)

theorem ended_size (ct : Array Value) (o : Nat) : (ended ct o).size = ct.size := by unfold ended; simp only [Array.size_setIfInBounds]
theorem begun_size (ct : Array Value) (o ob oo ln lcp sn P : Nat) (a : Acc) : (begun ct o ob oo ln lcp sn P a).size = ct.size := by unfold begun; simp only [Array.size_setIfInBounds]
theorem idle_lt {ct : Array Value} {o : Nat} {s : Sl} (h : Idle ct o s) : o + 8 < ct.size := (Array.getElem?_eq_some_iff.1 h.2.2.2.2.2.2.2.2).1
theorem begun_at {ct : Array Value} {o : Nat} (ho : o + 8 < ct.size) (ob oo ln lcp sn P : Nat) (a : Acc) :
    (begun ct o ob oo ln lcp sn P a)[o + 1]? = some (.iface 145 (.pointer (some ⟨P, 0, none⟩))) ∧ (begun ct o ob oo ln lcp sn P a)[o + 2]? = some (.int .i64 sn) ∧ (begun ct o ob oo ln lcp sn P a)[o + 3]? = some (.int .i64 a.d) ∧ (begun ct o ob oo ln lcp sn P a)[o + 4]? = some (.int .i64 a.ar) ∧
    (begun ct o ob oo ln lcp sn P a)[o + 5]? = some (.int .i64 a.at_) ∧ (begun ct o ob oo ln lcp sn P a)[o + 6]? = some (.int .u64 a.old) ∧ (begun ct o ob oo ln lcp sn P a)[o + 7]? = some (.int .u64 a.new) ∧ (begun ct o ob oo ln lcp sn P a)[o + 8]? = some (.bool true) := by
  refine ⟨?_, ?_, ?_, ?_, ?_, ?_, ?_, ?_⟩
  all_goals
    unfold begun
    repeat rw [Array.getElem?_setIfInBounds_ne (by omega)]
    exact Array.getElem?_setIfInBounds_self_of_lt (by (try simp only [Array.size_setIfInBounds]); omega)
theorem idle_self {ct : Array Value} {o : Nat} (ho : o + 8 < ct.size) (ob oo ln lcp sn P : Nat) (a : Acc) : Idle (ended (begun ct o ob oo ln lcp sn P a) o) o ⟨tailO ob oo lcp, ln - 1, lcp - 1⟩ := by
  refine ⟨?_, ?_, ⟨sn, ?_⟩, ?_, ?_, ?_, ?_, ?_, ?_⟩
  all_goals
    unfold ended begun
    repeat rw [Array.getElem?_setIfInBounds_ne (by omega)]
    exact Array.getElem?_setIfInBounds_self_of_lt (by (try simp only [Array.size_setIfInBounds]); omega)
theorem idle_other {ct : Array Value} {o o' : Nat} {s : Sl} (h : Idle ct o' s) (hoo : o' + 9 ≤ o ∨ o + 9 ≤ o') (ob oo ln lcp sn P : Nat) (a : Acc) : Idle (ended (begun ct o ob oo ln lcp sn P a) o) o' s := by
  obtain ⟨h0, h1, ⟨c, h2⟩, h3, h4, h5, h6, h7, h8⟩ := h
  refine ⟨?_, ?_, ⟨c, ?_⟩, ?_, ?_, ?_, ?_, ?_, ?_⟩
  all_goals
    unfold ended begun
    repeat rw [Array.getElem?_setIfInBounds_ne (by omega)]
    assumption
/-- what is touched is of the run's own kinds -/
theorem Inv.only {w w' : World} {B base gC gT gL gLL T : Nat} {s : D} (h : Inv w B base gC gT gL gLL T s) (hb : Below w.heap.size w w') : Inv w' B base gC gT gL gLL T s := by
  obtain ⟨⟨r, sS, sK, ct, cs, lc, hC, hT, hE, hS, hK, hL, hLL, ho, ha⟩, h2, h3, h4, h5⟩ := h
  refine ⟨⟨r, sS, sK, ct, cs, lc, hC.below hb hC.lt, hT.below hb hT.lt, hE.kept fun ar hl ad had => hb.block _ (hE.lt ar hl ad had).2, hS.below hb (Nat.le_refl _), hK.below hb (Nat.le_refl _), hL.below hb hL.lt, hLL.below hb hLL.lt, fun i hi => ?_, fun i hi => ?_⟩, h2, h3, h4, h5.1, Nat.le_trans h5.2.1 hb.size, h5.2.2⟩
  · obtain ⟨so, h1, h2⟩ := ho i hi
    exact ⟨so, h1, h2.only (Only.of_below (P := fun _ => False) hb (Nat.le_refl _)) fun _ _ _ h => h⟩
  · obtain ⟨sa, h1, h2⟩ := ha i hi
    exact ⟨sa, h1, h2.below (hb.mono (Nat.le_trans h5.1 h5.2.1))⟩
end Go.Proofs.Ytjgbgjkjnlaloaa.Drivec
