/- The small functions of the document's machines, by contract. · A run by the document's answer as it is made: its threads are laid one by one. · A run by the document's answer begins: by contract. · The document's run of accesses, as mathematics: it goes as the program's. · What a call of one access asks for, by the document's answer. · What a call of one access is behind it, by the document's answer. · May a run be, by the document's answer: by contract. · A run of accesses by the document's answer that may not be. -/
import Derived.Test.YtjgbgjkjnlaloaaIrU
import Derived.WalkKit
import Derived.Test.YtjgbgjkjnlaloaaTwo
import Derived.Test.YtjgbgjkjnlaloaaRefNew
import Derived.Deep.DeepCutAuto
import Derived.StillTailTactics
import Derived.Test.YtjgbgjkjnlaloaaPartM
import Derived.Test.YtjgbgjkjnlaloaaStep
import Derived.Test.YtjgbgjkjnlaloaaNewA
import Derived.Test.YtjgbgjkjnlaloaaDrvG
namespace Go.Proofs.Ytjgbgjkjnlaloaa.Machc
open Go.RowKit Go.Proofs.Ytjgbgjkjnlaloaa.Memc Go.Proofs.Ytjgbgjkjnlaloaa.Refc
set_option linter.unusedVariables false
set_option maxRecDepth 100000

theorem either_c (w : World) (b : Bool) (x y : Int) : Calls Try.prog 119 #[.bool b, .int .i64 x, .int .i64 y] w fun e w' => e = .returned (.int .i64 (if b then x else y)) ∧ Below w.heap.size w w' := by
  cases b
  all_goals
    go_enter Try.func119, Try.ntmps119
    go_wp2
    go_ret
    exact ⟨rfl, Below.refl _ _⟩

theorem high1_c (x : Int) (w : World) (x0 : 0 ≤ x) (x1 : x ≤ 18446744073709551615) : Calls Try.prog 135 #[.int .u64 x] w fun e w' => e = .returned (.int .u32 (x / 4294967296)) ∧ Below w.heap.size w w' := by
  go_enter Try.func135, Try.ntmps135
  go_wp2
  go_ret
  exact ⟨rfl, Below.refl _ _⟩
theorem high3_c (x : Int) (w : World) (x0 : 0 ≤ x) (x1 : x ≤ 18446744073709551615) : Calls Try.prog 117 #[.int .u64 x] w fun e w' => e = .returned (.int .u32 (x / 4294967296)) ∧ Below w.heap.size w w' := by
  go_enter Try.func117, Try.ntmps117
  go_wp2_with (go_at_call 135; refine (high1_c _ _ x0 x1).mono ?_; rintro e w1 ⟨rfl, hb⟩)
  go_ret
  exact ⟨rfl, hb⟩
theorem lap_c (w : World) (k K T : Int) (M : Nat) (x : Int) (x0 : 0 ≤ x) (x1 : x ≤ 18446744073709551615) (m1 : 2 ≤ M) (m2 : M ≤ 64) : Calls Try.prog 134 #[.agg #[.int .i64 k, .int .i64 K, .int .i64 T, .int .i64 M], .int .u64 x] w fun e w' => e = .returned (.int .u32 ((x / M) % 4294967296)) ∧ Below w.heap.size w w' := by
  have h1 : (M : Int) % 18446744073709551616 = M := by omega
  have h2 : ¬ (M : Int) = 0 := by omega
  have h3 : 0 ≤ x / (M : Int) := Int.ediv_nonneg x0 (by omega)
  have h4 : x / (M : Int) ≤ 18446744073709551615 := Int.le_trans (Int.ediv_le_self _ x0) x1
  go_enter Try.func134, Try.ntmps134
  go_wp2
  go_ret
  exact ⟨rfl, (Below.refl _ _).alloc (Nat.le_refl _) _⟩

def lifeM (k : Int) (M : Nat) (f : FS) : Int := if k = 2 then (f.s / M) % 4294967296 else f.s / 4294967296
theorem life_c (w : World) (k K T : Int) (M : Nat) (f : FS) (q : Sl) (x0 : 0 ≤ f.s) (x1 : f.s ≤ 18446744073709551615) (m1 : 2 ≤ M) (m2 : M ≤ 64) : Calls Try.prog 111 #[.agg (f.v q).toArray, .agg #[.int .i64 k, .int .i64 K, .int .i64 T, .int .i64 M]] w fun e w' => e = .returned (.int .u32 (lifeM k M f)) ∧ Below w.heap.size w w' := by
  have hv5 : (f.v q)[5]? = some (.int .u64 f.s) := rfl
  have B0 : Hid (Below w.heap.size w ((w.alloc (.cells (f.v q).toArray 109)).alloc (.cells #[.int .i64 k, .int .i64 K, .int .i64 T, .int .i64 M] 36))) := Lib.hid (((Below.refl _ _).alloc (Nat.le_refl _) _).alloc (by simp) _)
  by_cases hk : k = 2
  · subst hk
    have hl : lifeM 2 M f = (f.s / M) % 4294967296 := by unfold lifeM; rw [if_pos rfl]
    rw [hl]
    clear hl
    go_enter Try.func111, Try.ntmps111
    go_wp2_with (go_at_call 134; (with_reducible refine (lap_c _ 2 K T M f.s x0 x1 m1 m2).mono ?_); rintro e w1 ⟨rfl, hb⟩)
    go_ret
    exact ⟨rfl, B0.out.trans (hb.mono B0.out.size)⟩
  · have hkb : (k == 2) = false := by simp [hk]
    have hl : lifeM k M f = f.s / 4294967296 := by unfold lifeM; rw [if_neg hk]
    rw [hl]
    clear hl
    go_enter Try.func111, Try.ntmps111
    go_wp2_with (go_at_call 117; refine (high3_c _ _ x0 x1).mono ?_; rintro e w1 ⟨rfl, hb⟩)
    go_ret
    exact ⟨rfl, B0.out.trans (hb.mono B0.out.size)⟩

end Go.Proofs.Ytjgbgjkjnlaloaa.Machc

namespace Go.Proofs.Ytjgbgjkjnlaloaa.Machc
open Go.RowKit Go.Proofs.Ytjgbgjkjnlaloaa.Memc Go.Proofs.Ytjgbgjkjnlaloaa.Refc
set_option linter.unusedVariables false
set_option maxRecDepth 100000

/-- a thread that has no call on -/
def nilS : Sl := ⟨none, 0, 0⟩
def noneV : List Value := FS.none.v nilS
def flatN : Nat → List Value
  | 0 => []
  | n + 1 => flatN n ++ noneV
theorem flatN_len : ∀ n, (flatN n).length = n * 24
  | 0 => rfl
  | n + 1 => by show (flatN n ++ noneV).length = _; rw [List.length_append, flatN_len n, show noneV.length = 24 from rfl]; omega
theorem flatN_get : ∀ (n i j : Nat) (v : Value), i < n → noneV[j]? = some v → (flatN n)[i * 24 + j]? = some v
  | 0, i, j, v, h, _ => absurd h (Nat.not_lt_zero _)
  | n + 1, i, j, v, h, hv => by
    have hj : j < 24 := (List.getElem?_eq_some_iff.1 hv).1
    have hl := flatN_len n
    show (flatN n ++ noneV)[i * 24 + j]? = some v
    by_cases hi : i < n
    · rw [List.getElem?_append_left (by omega)]
      exact flatN_get n i j v hi hv
    · obtain rfl : i = n := by omega
      rw [List.getElem?_append_right (by omega), show i * 24 + j - (flatN i).length = j by omega]
      exact hv
structure Nr (w : World) (base gR : Nat) (k : Int) (K T M : Nat) (r : R) (m : Memc.M) (sO sC sA : Sl) (nO nC nA : Nat) : Prop where
  hR : Blk w gR 106 #[.int .i64 k, .int .i64 K, .int .i64 T, .int .i64 M, .int .u64 r.e, .int .u64 r.f, .slice r.L.A r.L.n r.L.c, .slice r.P.A r.P.n r.P.c, .int .u64 r.h, .int .u64 r.t, .slice r.K.A r.K.n r.K.c, .slice r.X.A r.X.n r.X.c, .slice r.S.A r.S.n r.S.c, .slice sO.A sO.n sO.c, .slice sC.A sC.n sC.c, .slice sA.A sA.n sA.c, .slice none 0 0, .slice none 0 0, .int .u64 0, .int .u64 0, .slice none 0 0, .slice none 0 0, .int .u64 0, .int .u64 0, .slice none 0 0, .slice none 0 0, .slice none 0 0]
  hO : Row w base 109 24 sO nO (flatN nO)
  hC : Row w base 3 1 sC nC (List.replicate nC (.int .i64 (-1)))
  hA : Row w base 3 1 sA nA (List.replicate nA (.int .i64 0))
  ne : ∀ g, bl sC g → ¬ bl sA g
  hm : Rm w w.heap.size r m
  off : ∀ b, (b = gR ∨ bl sO b ∨ bl sC b ∨ bl sA b) → Off r b
  offb : ∀ b, b < base → Off r b
  low : base ≤ w.heap.size ∧ base ≤ gR
theorem Nr.below {w w' : World} {base gR : Nat} {k : Int} {K T M : Nat} {r : R} {m : Memc.M} {sO sC sA : Sl} {nO nC nA : Nat} (h : Nr w base gR k K T M r m sO sC sA nO nC nA) (hb : Below w.heap.size w w') : Nr w' base gR k K T M r m sO sC sA nO nC nA where
  hR := h.hR.below hb h.hR.lt
  hO := h.hO.below hb (Nat.le_refl _)
  hC := h.hC.below hb (Nat.le_refl _)
  hA := h.hA.below hb (Nat.le_refl _)
  ne := h.ne
  hm := (h.hm.below hb).more hb.size
  off := h.off
  offb := h.offb
  low := ⟨Nat.le_trans h.low.1 hb.size, h.low.2⟩
theorem Nr.offs {w : World} {base gR : Nat} {k : Int} {K T M : Nat} {r : R} {m : Memc.M} {sO sC sA : Sl} {nO nC nA : Nat} (h : Nr w base gR k K T M r m sO sC sA nO nC nA) {P : Nat → Prop} (hP : ∀ b, P b → (b = gR ∨ bl sO b ∨ bl sC b ∨ bl sA b) ∨ w.heap.size ≤ b) : ∀ b, P b → Off r b := fun b hb => by
  rcases hP b hb with h1 | h1
  · exact h.off b h1
  · exact off_rm h.hm h1
theorem Nr.ond {w w' : World} {base gR : Nat} {k : Int} {K T M : Nat} {r : R} {m : Memc.M} {sO sC sA : Sl} {nO nC nA : Nat} (h : Nr w base gR k K T M r m sO sC sA nO nC nA) {sO' : Sl} (ho : Only (fun g => g = gR ∨ bl sO g) w w') (hR : Blk w' gR 106 #[.int .i64 k, .int .i64 K, .int .i64 T, .int .i64 M, .int .u64 r.e, .int .u64 r.f, .slice r.L.A r.L.n r.L.c, .slice r.P.A r.P.n r.P.c, .int .u64 r.h, .int .u64 r.t, .slice r.K.A r.K.n r.K.c, .slice r.X.A r.X.n r.X.c, .slice r.S.A r.S.n r.S.c, .slice sO'.A sO'.n sO'.c, .slice sC.A sC.n sC.c, .slice sA.A sA.n sA.c, .slice none 0 0, .slice none 0 0, .int .u64 0, .int .u64 0, .slice none 0 0, .slice none 0 0, .int .u64 0, .int .u64 0, .slice none 0 0, .slice none 0 0, .slice none 0 0]) (hO : Row w' base 109 24 sO' (nO + 1) (flatN nO ++ noneV)) (hw : ∀ g, bl sO' g → bl sO g ∨ w.heap.size ≤ g) : Nr w' base gR k K T M r m sO' sC sA (nO + 1) nC nA where
  hR := hR
  hO := hO
  hC := h.hC.only ho (fun g hg e => by
    rcases e with e | e
    · exact h.hC.ne h.hR (by decide) g hg e
    · exact h.hC.ne_row h.hO (by decide) g hg g e rfl)
  hA := h.hA.only ho (fun g hg e => by
    rcases e with e | e
    · exact h.hA.ne h.hR (by decide) g hg e
    · exact h.hA.ne_row h.hO (by decide) g hg g e rfl)
  ne := h.ne
  hm := Rm.only h.hm ho (Nat.le_refl _) (fun b hb => h.off b (by rcases hb with e | e; exact .inl e; exact .inr (.inl e)))
  off := h.offs (fun b hb => by
    rcases hb with e | e | e
    · exact .inl (.inl e)
    · exact (hw b e).imp_left (fun e => .inr (.inl e))
    · exact .inl (.inr (.inr e)))
  offb := h.offb
  low := ⟨Nat.le_trans h.low.1 ho.size, h.low.2⟩
theorem Nr.calld {w w' : World} {base gR : Nat} {k : Int} {K T M : Nat} {r : R} {m : Memc.M} {sO sC sA : Sl} {nO nC nA : Nat} (h : Nr w base gR k K T M r m sO sC sA nO nC nA) {sC' : Sl} (ho : Only (fun g => g = gR ∨ bl sC g) w w') (hR : Blk w' gR 106 #[.int .i64 k, .int .i64 K, .int .i64 T, .int .i64 M, .int .u64 r.e, .int .u64 r.f, .slice r.L.A r.L.n r.L.c, .slice r.P.A r.P.n r.P.c, .int .u64 r.h, .int .u64 r.t, .slice r.K.A r.K.n r.K.c, .slice r.X.A r.X.n r.X.c, .slice r.S.A r.S.n r.S.c, .slice sO.A sO.n sO.c, .slice sC'.A sC'.n sC'.c, .slice sA.A sA.n sA.c, .slice none 0 0, .slice none 0 0, .int .u64 0, .int .u64 0, .slice none 0 0, .slice none 0 0, .int .u64 0, .int .u64 0, .slice none 0 0, .slice none 0 0, .slice none 0 0]) (hC : Row w' base 3 1 sC' (nC + 1) (List.replicate nC (.int .i64 (-1)) ++ [.int .i64 (-1)])) (hw : ∀ g, bl sC' g → bl sC g ∨ w.heap.size ≤ g) : Nr w' base gR k K T M r m sO sC' sA nO (nC + 1) nA where
  hR := hR
  hO := h.hO.only ho (fun g hg e => by
    rcases e with e | e
    · exact h.hO.ne h.hR (by decide) g hg e
    · exact h.hO.ne_row h.hC (by decide) g hg g e rfl)
  hC := by rw [List.replicate_succ']; exact hC
  hA := h.hA.only ho (fun g hg e => by
    rcases e with e | e
    · exact h.hA.ne h.hR (by decide) g hg e
    · exact h.ne g e hg)
  ne := fun g hg => by
    rcases hw g hg with e | e
    · exact h.ne g e
    · exact fun h2 => absurd (h.hA.lt h2).2 (by omega)
  hm := Rm.only h.hm ho (Nat.le_refl _) (fun b hb => h.off b (by rcases hb with e | e; exact .inl e; exact .inr (.inr (.inl e))))
  off := h.offs (fun b hb => by
    rcases hb with e | e | e | e
    · exact .inl (.inl e)
    · exact .inl (.inr (.inl e))
    · exact (hw b e).imp_left (fun e => .inr (.inr (.inl e)))
    · exact .inl (.inr (.inr (.inr e))))
  offb := h.offb
  low := ⟨Nat.le_trans h.low.1 ho.size, h.low.2⟩
theorem Nr.atd {w w' : World} {base gR : Nat} {k : Int} {K T M : Nat} {r : R} {m : Memc.M} {sO sC sA : Sl} {nO nC nA : Nat} (h : Nr w base gR k K T M r m sO sC sA nO nC nA) {sA' : Sl} (ho : Only (fun g => g = gR ∨ bl sA g) w w') (hR : Blk w' gR 106 #[.int .i64 k, .int .i64 K, .int .i64 T, .int .i64 M, .int .u64 r.e, .int .u64 r.f, .slice r.L.A r.L.n r.L.c, .slice r.P.A r.P.n r.P.c, .int .u64 r.h, .int .u64 r.t, .slice r.K.A r.K.n r.K.c, .slice r.X.A r.X.n r.X.c, .slice r.S.A r.S.n r.S.c, .slice sO.A sO.n sO.c, .slice sC.A sC.n sC.c, .slice sA'.A sA'.n sA'.c, .slice none 0 0, .slice none 0 0, .int .u64 0, .int .u64 0, .slice none 0 0, .slice none 0 0, .int .u64 0, .int .u64 0, .slice none 0 0, .slice none 0 0, .slice none 0 0]) (hA : Row w' base 3 1 sA' (nA + 1) (List.replicate nA (.int .i64 0) ++ [.int .i64 0])) (hw : ∀ g, bl sA' g → bl sA g ∨ w.heap.size ≤ g) : Nr w' base gR k K T M r m sO sC sA' nO nC (nA + 1) where
  hR := hR
  hO := h.hO.only ho (fun g hg e => by
    rcases e with e | e
    · exact h.hO.ne h.hR (by decide) g hg e
    · exact h.hO.ne_row h.hA (by decide) g hg g e rfl)
  hC := h.hC.only ho (fun g hg e => by
    rcases e with e | e
    · exact h.hC.ne h.hR (by decide) g hg e
    · exact h.ne g hg e)
  hA := by rw [List.replicate_succ']; exact hA
  ne := fun g hg h2 => by
    rcases hw g h2 with e | e
    · exact h.ne g hg e
    · exact absurd (h.hC.lt hg).2 (by omega)
  hm := Rm.only h.hm ho (Nat.le_refl _) (fun b hb => h.off b (by rcases hb with e | e; exact .inl e; exact .inr (.inr (.inr e))))
  off := h.offs (fun b hb => by
    rcases hb with e | e | e | e
    · exact .inl (.inl e)
    · exact .inl (.inr (.inl e))
    · exact .inl (.inr (.inr (.inl e)))
    · exact (hw b e).imp_left (fun e => .inr (.inr (.inr e))))
  offb := h.offb
  low := ⟨Nat.le_trans h.low.1 ho.size, h.low.2⟩
/-- a run that begins -/
def RS.first (m : Memc.M) (T : Nat) : RS := ⟨m, List.replicate T FS.none, List.replicate T (-1), List.replicate T 0, [], []⟩
theorem row_cap {w : World} {base : Nat} {E : TypeId} {size n : Nat} {s : Sl} {xs : List Value} (h : Row w base E size s n xs) (hn : 0 < n) : ∃ (g : Nat) (cur : Array Value), s = ⟨some ⟨g, 0, none⟩, n, s.c⟩ ∧ base ≤ g ∧ Blk w g E cur ∧ n ≤ s.c ∧ s.c ≤ maxLen ∧ cur.size = s.c * size ∧ ∀ j, j < n * size → cur[j]? = xs[j]? := by
  obtain ⟨A, n', c⟩ := s
  rcases h.2 with ⟨hv, h0⟩ | ⟨g, cap, cur, hv, hb, hg, hnc, hcm, hsz, htk⟩
  · omega
  · injection hv with h1 h2 h3
    simp only at h1 h2 h3
    subst h1
    subst h2
    subst h3
    refine ⟨g, cur, rfl, hb, hg, hnc, hcm, hsz, fun j hj => ?_⟩
    have hx : w.cell? ⟨g, j, none⟩ = xs[j]? := World.ownsRow.cellAt h j hj
    rw [← hx]
    exact (Blk.cell hg j).symm
theorem Nr.ir {w : World} {base gR : Nat} {k : Int} {K T M : Nat} {r : R} {m : Memc.M} {sO sC sA : Sl} (h : Nr w base gR k K T M r m sO sC sA T T T) (t1 : 1 ≤ T) (t2 : T ≤ 8) (hf : Few m) :
    ∃ (gO gC gA : Nat) (co cc ca : Nat) (cO cC cA : Array Value), Ir w base gR gO gC gA co cc ca k K T M r nilS nilS cO cC cA (List.replicate T nilS) (RS.first m T) := by
  obtain ⟨gO, cO, eO, bO, kO, o1, o2, o3, o4⟩ := row_cap h.hO (by omega)
  obtain ⟨gC, cC, eC, bC, kC, c1, c2, c3, c4⟩ := row_cap h.hC (by omega)
  obtain ⟨gA, cA, eA, bA, kA, a1, a2, a3, a4⟩ := row_cap h.hA (by omega)
  have ne : gC ≠ gA := fun e => h.ne gC (by rw [eC]; exact ⟨_, rfl, rfl⟩) (by rw [eA]; exact ⟨_, rfl, e⟩)
  have hR := h.hR
  rw [eO, eC, eA] at hR
  have off : ∀ b, Mine gR gO gC gA nilS nilS b → Off r b := fun b hb => by
    rcases hb with e | e | e | e | e | e
    · exact h.off b (.inl e)
    · exact h.off b (.inr (.inl (by rw [eO]; exact ⟨_, rfl, e⟩)))
    · exact h.off b (.inr (.inr (.inl (by rw [eC]; exact ⟨_, rfl, e⟩))))
    · exact h.off b (.inr (.inr (.inr (by rw [eA]; exact ⟨_, rfl, e⟩))))
    · obtain ⟨_, e, _⟩ := e; cases e
    · obtain ⟨_, e, _⟩ := e; cases e
  refine ⟨gO, gC, gA, sO.c, sC.c, sA.c, cO, cC, cA, hR, kO, kC, kA, h.hm, row_nil _ _ _ _, row_nil _ _ _ _, ?_, ?_, ?_, off, h.offb, ?_, ⟨List.length_replicate .., List.length_replicate .., List.length_replicate .., List.length_replicate .., by rw [o3]; exact Nat.mul_le_mul_right _ o1⟩, ⟨t1, t2, o1, o2, c1, c2, a1, a2⟩, ne, ⟨hf, Nat.zero_le _, Nat.zero_le _⟩, ⟨h.low.1, h.low.2, bO, bC, bA⟩⟩
  · intro i f q hi hq j v hv
    have hi' : i < T := by have := (List.getElem?_eq_some_iff.1 hq).1; rw [List.length_replicate] at this; exact this
    have e1 : FS.none = f := by
      have h1 : (RS.first m T).on[i]? = (List.replicate T FS.none)[i]? := rfl
      rw [h1, List.getElem?_replicate, if_pos hi'] at hi
      exact Option.some.inj hi
    have e2 : nilS = q := by
      rw [List.getElem?_replicate, if_pos hi'] at hq
      exact Option.some.inj hq
    subst e1
    subst e2
    have hj : j < 24 := (List.getElem?_eq_some_iff.1 hv).1
    rw [o4 _ (by omega)]
    exact flatN_get T i j v hi' hv
  · intro i x hx
    have h1 : (RS.first m T).call[i]? = (List.replicate T (-1 : Int))[i]? := rfl
    rw [h1] at hx
    have hi : i < T := by have := (List.getElem?_eq_some_iff.1 hx).1; rw [List.length_replicate] at this; exact this
    rw [List.getElem?_replicate, if_pos hi] at hx
    rw [c4 _ (by omega), List.getElem?_replicate, if_pos hi, ← Option.some.inj hx]
  · intro i x hx
    have h1 : (RS.first m T).at_[i]? = (List.replicate T (0 : Int))[i]? := rfl
    rw [h1] at hx
    have hi : i < T := by have := (List.getElem?_eq_some_iff.1 hx).1; rw [List.length_replicate] at this; exact this
    rw [List.getElem?_replicate, if_pos hi] at hx
    rw [a4 _ (by omega), List.getElem?_replicate, if_pos hi, ← Option.some.inj hx]
  · intro i f q hi hq
    have hi' : i < T := by have := (List.getElem?_eq_some_iff.1 hq).1; rw [List.length_replicate] at this; exact this
    have e1 : FS.none = f := by
      have h1 : (RS.first m T).on[i]? = (List.replicate T FS.none)[i]? := rfl
      rw [h1, List.getElem?_replicate, if_pos hi'] at hi
      exact Option.some.inj hi
    have e2 : nilS = q := by
      rw [List.getElem?_replicate, if_pos hi'] at hq
      exact Option.some.inj hq
    subst e1
    subst e2
    exact ⟨Rd.nil _ _ none, fun b _ ad hn _ => absurd hn (Nat.lt_irrefl 0)⟩

end Go.Proofs.Ytjgbgjkjnlaloaa.Machc

namespace Go.Proofs.Ytjgbgjkjnlaloaa.Machc
open Go.RowKit Go.Proofs.Ytjgbgjkjnlaloaa.Memc Go.Proofs.Ytjgbgjkjnlaloaa.Refc Go.Proofs.Ytjgbgjkjnlaloaa.Newc Go.Proofs.Ytjgbgjkjnlaloaa.Replr
set_option linter.unusedVariables false
set_option maxRecDepth 100000

theorem wpList_app2 {w : World} {ops : Array Oper} {rest : List Oper} {o : Oper} {a : Act} {Q : Exit → Act → World → Prop} (hgd : o.guard = none) (x y : Operand) (t : TypeId) (ho : o.op = .call { callee := .builtin .append, args := #[x, y], argTypes := #[t, t] })
    (base : Nat) (E : TypeId) (i : TypeInfo) (z : Value) (size bytes : Nat) (ht : Try.prog.underlying t = some (.slice E)) (hi : Try.prog.info? E = some i) (hz : i.zero = some z) (hsize : i.size = size) (hby : i.bytes = bytes) (hzs : z.cells.size = size) (hsz : 0 < size)
    (s : Sl) (n : Nat) (xs : List Value) (hx : a.eval x = .slice s.A s.n s.c) (hown : Row w base E size s n xs) (gy : Nat) (news : List Value) (hy : a.eval y = .slice (some ⟨gy, 0, none⟩) 1 1) (hl : news.length = size)
    (hnews : ∀ j u, news[j]? = some u → w.cell? ⟨gy, j, none⟩ = some u) (h1 : ∀ u ∈ news, u.oneCell' = true) (h63 : n < 1000000) (hb1 : bytes ≤ 1000) (hb : base ≤ w.heap.size)
    (hk : ∀ s' w', Row w' base E size s' (n + 1) (xs ++ news) → Only (bl s) w w' → (∀ g, bl s' g → bl s g ∨ g = w.heap.size) → wpList Try.prog ops Q rest (a.put o.dst (.slice s'.A s'.n s'.c)) w') : wpList Try.prog ops Q (o :: rest) a w :=
  wpList_plain hgd fun _ hK => wp_app2 x y t ho base E i z size bytes ht hi hz hsize hby hzs hsz s n xs hx hown gy news hy hl hnews h1 h63 hb1 hb fun s' w' h2 h3 h4 => hK _ _ (hk s' w' h2 h3 h4)
theorem f_cell : (Try.prog.info? 109).map (fun i => (i.zero, i.size, i.bytes)) = some (some (.agg #[.int .i64 0, .int .u32 0, .int .i64 0, .int .i64 0, .int .i64 0, .int .u64 0, .int .u64 0, .int .u64 0, .int .u64 0, .int .i64 0, .slice none 0 0, .bool false, .int .u64 0, .int .u64 0, .int .i64 0, .int .u32 0, .int .i64 0, .int .i64 0, .int .i64 0, .int .i64 0, .int .u64 0, .int .u64 0, .int .i64 0, .int .u32 0]), 24, 208) := by kernel_rfl
theorem int_cell : (Try.prog.info? 3).map (fun i => (i.zero, i.size, i.bytes)) = some (some (.int .i64 0), 1, 8) := by kernel_rfl
def New3 (w : World) (k : Int) (K T M : Nat) (e : Ending) (w' : World) : Prop :=
  ∃ (gR gO gC gA co cc ca : Nat) (r : R) (cO cC cA : Array Value), e = .returned (.pointer (some ⟨gR, 0, none⟩)) ∧ Ir w' w.heap.size gR gO gC gA co cc ca k K T M r nilS nilS cO cC cA (List.replicate T nilS) (RS.first (newM k K T M) T) ∧ Below w.heap.size w w'
set_option maxHeartbeats 4000000 in
theorem new3_c (w : World) (k : Int) (K T M : Nat) (k1 : 1 ≤ k) (k2 : k ≤ 3) (a1 : 1 ≤ K) (a2 : K ≤ 64) (t1 : 1 ≤ T) (t2 : T ≤ 8) (m1 : 2 ≤ M) (m2 : M ≤ 64) :
    Calls Try.prog 55 #[.agg #[.int .i64 k, .int .i64 K, .int .i64 T, .int .i64 M]] w (New3 w k K T M) := by
  have C0 : Hid (Blk (w.alloc (.cells #[.int .i64 k, .int .i64 K, .int .i64 T, .int .i64 M] 36)) w.heap.size 36 #[.int .i64 k, .int .i64 K, .int .i64 T, .int .i64 M]) := Lib.hid (Blk.new _ _ _)
  have B0 : Hid (Below w.heap.size w (w.alloc (.cells #[.int .i64 k, .int .i64 K, .int .i64 T, .int .i64 M] 36))) := Lib.hid ((Below.refl _ _).alloc (Nat.le_refl _) _)
  go_enter Try.func55, Try.ntmps55
  go_upto_region 1 with fail
  generalize (w.alloc (.cells #[.int .i64 k, .int .i64 K, .int .i64 T, .int .i64 M] 36)) = V at C0 B0 ⊢
  refine Zreg.begin_ (S := (fun w' => ∀ j, w'.cell? ⟨w.heap.size, j, none⟩ = (#[.int .i64 k, .int .i64 K, .int .i64 T, .int .i64 M] : Array Value)[j]?)) (zs := []) (by kernel_rfl) ?_
  show Zreg.After _ _ _ _ _ _ 6 #[false, false, false, false, false, false] _ _
  refine Zreg.takeS 0 5 (x := ?xn_0) rfl rfl (by kernel_rfl) (by kernel_rfl) (by kernel_rfl) (by kernel_rfl) (by kernel_rfl) (by kernel_rfl) (fun _ _ _ h => h) (.inr C0.out.drew.cell) (Or.inl ⟨by rfl, ?yn_0⟩) ?rn_0
  case yn_0 => (intro w hSw; (try dsimp only at hSw); go_simp <;> with_reducible rfl)
  simp only [List.setIfInBounds_toArray, List.set_cons_zero, List.set_cons_succ]
  refine Zreg.takeS 1 6 (x := ?xn_1) rfl rfl (by kernel_rfl) (by kernel_rfl) (by kernel_rfl) (by kernel_rfl) (by kernel_rfl) (by kernel_rfl) (fun _ _ _ h => h) (.inr C0.out.drew.cell) (Or.inl ⟨by rfl, ?yn_1⟩) ?rn_1
  case yn_1 => (intro w hSw; (try dsimp only at hSw); go_simp <;> with_reducible rfl)
  simp only [List.setIfInBounds_toArray, List.set_cons_zero, List.set_cons_succ]
  refine Zreg.one 2 (by kernel_rfl) rfl rfl fun K_ hK => ?_
  go_simp
  go_at_call 25
  (with_reducible refine (refnew_yes V.drew k K T M k1 k2 a1 a2 t1 t2 m1 m2).mono ?_)
  rintro e w6 ⟨r2, rfl, hs2, hm2, h52, hb2⟩
  have D6 : Hid (Below V.heap.size V w6) := Lib.hid ((Below.refl _ _).drew.trans hb2)
  have R6 := Lib.hid (h52.rm hs2 hm2)
  have O6 : Hid (∀ b, b < V.heap.size → Off r2 b) := Lib.hid (fun b hb => five_off h52 hb)
  clear hs2 hm2 h52 hb2
  refine hK.out _ _ (.inr (C0.out.below D6.out C0.out.lt).cell) fun _ => ?_
  clear hK
  simp only [List.setIfInBounds_toArray, List.set_cons_zero, List.set_cons_succ]
  refine Zreg.takeP 3 8 (x := ?xn_3) rfl rfl (by kernel_rfl) (by kernel_rfl) (by kernel_rfl) (by kernel_rfl) (fun _ _ _ h => h) (.inr (C0.out.below D6.out C0.out.lt).cell) (Or.inl ⟨by rfl, ?yn_3⟩) ?rn_3
  case yn_3 => (intro w _; go_simp <;> with_reducible rfl)
  simp only [List.setIfInBounds_toArray, List.set_cons_zero, List.set_cons_succ]
  refine Zreg.one 4 (by kernel_rfl) rfl rfl fun K_ hK => ?_
  go_simp
  refine hK.out _ _ (.inr ((C0.out.below D6.out C0.out.lt).alloc _).cell) fun _ => ?_
  clear hK
  simp only [List.setIfInBounds_toArray, List.set_cons_zero, List.set_cons_succ]
  refine Zreg.takeP 5 3 (x := ?xn_5) rfl rfl (by kernel_rfl) (by kernel_rfl) (by kernel_rfl) (by kernel_rfl) (fun _ _ _ h => h) (.inr ((C0.out.below D6.out C0.out.lt).alloc _).cell) (Or.inl ⟨by rfl, ?yn_5⟩) ?rn_5
  case yn_5 => (intro w _; go_simp <;> with_reducible rfl)
  simp only [List.setIfInBounds_toArray, List.set_cons_zero, List.set_cons_succ]
  refine Zreg.done (by kernel_rfl) ?_ _
  have N0 : Hid (Nr (w6.alloc (.cells #[.int .i64 k, .int .i64 K, .int .i64 T, .int .i64 M, .int .u64 r2.e, .int .u64 r2.f, .slice r2.L.A r2.L.n r2.L.c, .slice r2.P.A r2.P.n r2.P.c, .int .u64 r2.h, .int .u64 r2.t, .slice r2.K.A r2.K.n r2.K.c, .slice r2.X.A r2.X.n r2.X.c, .slice r2.S.A r2.S.n r2.S.c, .slice none 0 0, .slice none 0 0, .slice none 0 0, .slice none 0 0, .slice none 0 0, .int .u64 0, .int .u64 0, .slice none 0 0, .slice none 0 0, .int .u64 0, .int .u64 0, .slice none 0 0, .slice none 0 0, .slice none 0 0] 106)) w.heap.size w6.heap.size k K T M r2 (newM k K T M) nilS nilS nilS 0 0 0) := Lib.hid ⟨Blk.new _ _ _, row_nil _ _ _ _, row_nil _ _ _ _, row_nil _ _ _ _, (fun g hg => by obtain ⟨_, e, _⟩ := hg; cases e), (R6.out.alloc (Nat.le_refl _) _).more (by simp), (fun b hb => by
    rcases hb with e | ⟨_, e, _⟩ | ⟨_, e, _⟩ | ⟨_, e, _⟩
    · rw [e]; exact off_rm R6.out (Nat.le_refl _)
    · cases e
    · cases e
    · cases e), (fun b hb => O6.out b (Nat.lt_of_lt_of_le hb B0.out.size)), ⟨Nat.le_trans (Nat.le_trans B0.out.size D6.out.size) (by simp), Nat.le_trans B0.out.size D6.out.size⟩⟩
  have C1 := Lib.hid ((C0.out.below D6.out C0.out.lt).alloc (.cells #[.int .i64 k, .int .i64 K, .int .i64 T, .int .i64 M, .int .u64 r2.e, .int .u64 r2.f, .slice r2.L.A r2.L.n r2.L.c, .slice r2.P.A r2.P.n r2.P.c, .int .u64 r2.h, .int .u64 r2.t, .slice r2.K.A r2.K.n r2.K.c, .slice r2.X.A r2.X.n r2.X.c, .slice r2.S.A r2.S.n r2.S.c, .slice none 0 0, .slice none 0 0, .slice none 0 0, .slice none 0 0, .slice none 0 0, .int .u64 0, .int .u64 0, .slice none 0 0, .slice none 0 0, .int .u64 0, .int .u64 0, .slice none 0 0, .slice none 0 0, .slice none 0 0] 106))
  have B1 := Lib.hid ((B0.out.trans (D6.out.mono B0.out.size)).alloc (Nat.le_trans B0.out.size D6.out.size) (.cells #[.int .i64 k, .int .i64 K, .int .i64 T, .int .i64 M, .int .u64 r2.e, .int .u64 r2.f, .slice r2.L.A r2.L.n r2.L.c, .slice r2.P.A r2.P.n r2.P.c, .int .u64 r2.h, .int .u64 r2.t, .slice r2.K.A r2.K.n r2.K.c, .slice r2.X.A r2.X.n r2.X.c, .slice r2.S.A r2.S.n r2.S.c, .slice none 0 0, .slice none 0 0, .slice none 0 0, .slice none 0 0, .slice none 0 0, .int .u64 0, .int .u64 0, .slice none 0 0, .slice none 0 0, .int .u64 0, .int .u64 0, .slice none 0 0, .slice none 0 0, .slice none 0 0] 106))
  generalize w6.heap.size = gR at N0 ⊢
  generalize w6.alloc (.cells #[.int .i64 k, .int .i64 K, .int .i64 T, .int .i64 M, .int .u64 r2.e, .int .u64 r2.f, .slice r2.L.A r2.L.n r2.L.c, .slice r2.P.A r2.P.n r2.P.c, .int .u64 r2.h, .int .u64 r2.t, .slice r2.K.A r2.K.n r2.K.c, .slice r2.X.A r2.X.n r2.X.c, .slice r2.S.A r2.S.n r2.S.c, .slice none 0 0, .slice none 0 0, .slice none 0 0, .slice none 0 0, .slice none 0 0, .int .u64 0, .int .u64 0, .slice none 0 0, .slice none 0 0, .int .u64 0, .int .u64 0, .slice none 0 0, .slice none 0 0, .slice none 0 0] 106) = V1 at N0 C1 B1 ⊢
  clear C0 B0 D6 R6 O6
  go_wp2
  go_loopw [4] (fun n wr => ∃ (i : Nat) (sO sC sA : Sl), n = .int .i64 i ∧ i ≤ T ∧ Nr wr w.heap.size gR k K T M r2 (newM k K T M) sO sC sA i i i ∧ Blk wr w.heap.size 36 #[.int .i64 k, .int .i64 K, .int .i64 T, .int .i64 M] ∧ Below w.heap.size w wr) (fun n _ => T - (intOf n).toNat)
  case atStart => exact ⟨0, nilS, nilS, nilS, rfl, Nat.zero_le _, N0.out, C1.out, B1.out⟩
  case round =>
  clear N0 C1 B1
  obtain ⟨i, sO, sC, sA, rfl, hi, hn, hcb, hb⟩ := hrel
  have N0 := Lib.hid hn
  have C0 := Lib.hid hcb
  have B0 := Lib.hid hb
  clear hn hcb hb
  generalize wr = V0 at N0 C0 B0 ⊢
  have i0 : (0 : Int) ≤ i := Int.natCast_nonneg _
  by_cases hlt : i < T
  · have i1 : (i : Int) < T := Int.ofNat_lt.2 hlt
    have hr0 := N0.out.hR.cell
    have hf0 := N0.out.hR.frozen
    have hcf0 := C0.out.cell
    obtain ⟨j0, hj0, hjz0, hjz1, hjz2⟩ := info_parts f_cell
    go_upto_region 6 with (at_builtin; refine wpList_app2 rfl _ _ 104 rfl w.heap.size 109 j0 _ 24 208 Try.underlying104 hj0 hjz0 hjz1 hjz2 rfl (by decide) sO i (flatN i) rfl (Row.alloc N0.out.hO (.cells #[.int .i64 0, .int .u32 0, .int .i64 0, .int .i64 0, .int .i64 0, .int .u64 0, .int .u64 0, .int .u64 0, .int .u64 0, .int .i64 0, .slice none 0 0, .bool false, .int .u64 0, .int .u64 0, .int .i64 0, .int .u32 0, .int .i64 0, .int .i64 0, .int .i64 0, .int .i64 0, .int .u64 0, .int .u64 0, .int .i64 0, .int .u32 0] 109)) V0.heap.size [.int .i64 0, .int .u32 0, .int .i64 0, .int .i64 0, .int .i64 0, .int .u64 0, .int .u64 0, .int .u64 0, .int .u64 0, .int .i64 0, .slice none 0 0, .bool false, .int .u64 0, .int .u64 0, .int .i64 0, .int .u32 0, .int .i64 0, .int .i64 0, .int .i64 0, .int .i64 0, .int .u64 0, .int .u64 0, .int .i64 0, .int .u32 0] rfl rfl (fun j u hj => (Blk.cell (blk_at rfl) j).trans (by simpa using hj)) (by simp [Value.oneCell']) (Nat.lt_of_lt_of_le hlt (Nat.le_trans t2 (by decide))) (by decide) (Nat.le_trans N0.out.low.1 (by simp)) ?_; intro sO9 w7 hr7 ho7 hw7; go_must (have R7 := Lib.hid (Blk.only (N0.out.hR.alloc (.cells #[.int .i64 0, .int .u32 0, .int .i64 0, .int .i64 0, .int .i64 0, .int .u64 0, .int .u64 0, .int .u64 0, .int .u64 0, .int .i64 0, .slice none 0 0, .bool false, .int .u64 0, .int .u64 0, .int .i64 0, .int .u32 0, .int .i64 0, .int .i64 0, .int .i64 0, .int .i64 0, .int .u64 0, .int .u64 0, .int .i64 0, .int .u32 0] 109)) ho7 (fun hg => Row.ne N0.out.hO N0.out.hR (by decide) _ hg rfl)); have S7 := Lib.hid hr7; have A7 : Hid (Only (fun g => g = gR ∨ bl sO g) V0 w7) := Lib.hid (Only.next ((Only.refl (fun g => g = gR ∨ bl sO g) V0).alloc (.cells #[.int .i64 0, .int .u32 0, .int .i64 0, .int .i64 0, .int .i64 0, .int .u64 0, .int .u64 0, .int .u64 0, .int .u64 0, .int .i64 0, .slice none 0 0, .bool false, .int .u64 0, .int .u64 0, .int .i64 0, .int .u32 0, .int .i64 0, .int .i64 0, .int .i64 0, .int .i64 0, .int .u64 0, .int .u64 0, .int .i64 0, .int .u32 0] 109)) ho7 (fun k _ h => .inr h)); have L7 : Hid (∀ g, bl sO9 g → bl sO g ∨ V0.heap.size ≤ g) := Lib.hid (fun g hg => (hw7 g hg).imp_right (fun e => by rw [e]; show V0.heap.size ≤ (V0.alloc (.cells #[.int .i64 0, .int .u32 0, .int .i64 0, .int .i64 0, .int .i64 0, .int .u64 0, .int .u64 0, .int .u64 0, .int .u64 0, .int .i64 0, .slice none 0 0, .bool false, .int .u64 0, .int .u64 0, .int .i64 0, .int .u32 0, .int .i64 0, .int .i64 0, .int .i64 0, .int .i64 0, .int .u64 0, .int .u64 0, .int .i64 0, .int .u32 0] 109)).heap.size; simp)); have hc7 := R7.out.cell; have hf7 := R7.out.frozen); clear hr7 ho7 hw7 hr0 hf0)
    have O7 := Lib.hid (Only.set_ A7.out ⟨gR, 13, none⟩ (.inl (.inl rfl)) (.slice sO9.A sO9.n sO9.c))
    have N1 := Lib.hid (Nr.ond N0.out O7.out (by have h_ := Blk.set_ R7.out 13 (.slice sO9.A sO9.n sO9.c); simpa only [List.setIfInBounds_toArray, List.set_cons_zero, List.set_cons_succ] using h_) (Row.kept S7.out (fun g hg => Below.heap_setCell _ _ _ _ (Row.ne S7.out R7.out (by decide) g hg))) L7.out)
    have C1 := Lib.hid (Blk.only C0.out O7.out (fun e => by
      rcases e with e | e
      · exact Blk.ne C0.out N0.out.hR (by decide) e
      · exact Row.ne N0.out.hO C0.out (by decide) _ e rfl))
    have B1 := Lib.hid (B0.out.trans (Only.below O7.out N0.out.low.1 (fun g hg => by
      rcases hg with hg | hg
      · rw [hg]; exact N0.out.low.2
      · exact (Row.lt N0.out.hO hg).1)))
    clear hc7 hf7 R7 S7 A7 L7 O7 hcf0 hj0 hjz0 hjz1 hjz2
    generalize w7.setCell ⟨gR, 13, none⟩ (.slice sO9.A sO9.n sO9.c) = V1 at N1 C1 B1 ⊢
    have hr1 := N1.out.hR.cell
    have hf1 := N1.out.hR.frozen
    have hcf1 := C1.out.cell
    obtain ⟨j1, hj1, hjz0, hjz1, hjz2⟩ := info_parts int_cell
    go_upto_region 7 with (at_builtin; refine wpList_app2 rfl _ _ 77 rfl w.heap.size 3 j1 _ 1 8 Try.underlying77 hj1 hjz0 hjz1 hjz2 rfl (by decide) sC i (List.replicate i (.int .i64 (-1))) rfl (Row.alloc N1.out.hC (.cells #[.int .i64 (-1)] 3)) V1.heap.size [.int .i64 (-1)] rfl rfl (fun j u hj => (Blk.cell (blk_at rfl) j).trans (by simpa using hj)) (by simp [Value.oneCell']) (Nat.lt_of_lt_of_le hlt (Nat.le_trans t2 (by decide))) (by decide) (Nat.le_trans N1.out.low.1 (by simp)) ?_; intro sC9 w7 hr7 ho7 hw7; go_must (have R7 := Lib.hid (Blk.only (N1.out.hR.alloc (.cells #[.int .i64 (-1)] 3)) ho7 (fun hg => Row.ne N1.out.hC N1.out.hR (by decide) _ hg rfl)); have S7 := Lib.hid hr7; have A7 : Hid (Only (fun g => g = gR ∨ bl sC g) V1 w7) := Lib.hid (Only.next ((Only.refl (fun g => g = gR ∨ bl sC g) V1).alloc (.cells #[.int .i64 (-1)] 3)) ho7 (fun k _ h => .inr h)); have L7 : Hid (∀ g, bl sC9 g → bl sC g ∨ V1.heap.size ≤ g) := Lib.hid (fun g hg => (hw7 g hg).imp_right (fun e => by rw [e]; show V1.heap.size ≤ (V1.alloc (.cells #[.int .i64 (-1)] 3)).heap.size; simp)); have hc7 := R7.out.cell; have hf7 := R7.out.frozen); clear hr7 ho7 hw7 hr1 hf1)
    have O7 := Lib.hid (Only.set_ A7.out ⟨gR, 14, none⟩ (.inl (.inl rfl)) (.slice sC9.A sC9.n sC9.c))
    have N2 := Lib.hid (Nr.calld N1.out O7.out (by have h_ := Blk.set_ R7.out 14 (.slice sC9.A sC9.n sC9.c); simpa only [List.setIfInBounds_toArray, List.set_cons_zero, List.set_cons_succ] using h_) (Row.kept S7.out (fun g hg => Below.heap_setCell _ _ _ _ (Row.ne S7.out R7.out (by decide) g hg))) L7.out)
    have C2 := Lib.hid (Blk.only C1.out O7.out (fun e => by
      rcases e with e | e
      · exact Blk.ne C1.out N1.out.hR (by decide) e
      · exact Row.ne N1.out.hC C1.out (by decide) _ e rfl))
    have B2 := Lib.hid (B1.out.trans (Only.below O7.out N1.out.low.1 (fun g hg => by
      rcases hg with hg | hg
      · rw [hg]; exact N1.out.low.2
      · exact (Row.lt N1.out.hC hg).1)))
    clear hc7 hf7 R7 S7 A7 L7 O7 hcf1 hj1 hjz0 hjz1 hjz2
    generalize w7.setCell ⟨gR, 14, none⟩ (.slice sC9.A sC9.n sC9.c) = V2 at N2 C2 B2 ⊢
    have hr2 := N2.out.hR.cell
    have hf2 := N2.out.hR.frozen
    have hcf2 := C2.out.cell
    obtain ⟨j2, hj2, hjz0, hjz1, hjz2⟩ := info_parts int_cell
    go_upto_region 4 with (at_builtin; refine wpList_app2 rfl _ _ 77 rfl w.heap.size 3 j2 _ 1 8 Try.underlying77 hj2 hjz0 hjz1 hjz2 rfl (by decide) sA i (List.replicate i (.int .i64 0)) rfl (Row.alloc N2.out.hA (.cells #[.int .i64 0] 3)) V2.heap.size [.int .i64 0] rfl rfl (fun j u hj => (Blk.cell (blk_at rfl) j).trans (by simpa using hj)) (by simp [Value.oneCell']) (Nat.lt_of_lt_of_le hlt (Nat.le_trans t2 (by decide))) (by decide) (Nat.le_trans N2.out.low.1 (by simp)) ?_; intro sA9 w7 hr7 ho7 hw7; go_must (have R7 := Lib.hid (Blk.only (N2.out.hR.alloc (.cells #[.int .i64 0] 3)) ho7 (fun hg => Row.ne N2.out.hA N2.out.hR (by decide) _ hg rfl)); have S7 := Lib.hid hr7; have A7 : Hid (Only (fun g => g = gR ∨ bl sA g) V2 w7) := Lib.hid (Only.next ((Only.refl (fun g => g = gR ∨ bl sA g) V2).alloc (.cells #[.int .i64 0] 3)) ho7 (fun k _ h => .inr h)); have L7 : Hid (∀ g, bl sA9 g → bl sA g ∨ V2.heap.size ≤ g) := Lib.hid (fun g hg => (hw7 g hg).imp_right (fun e => by rw [e]; show V2.heap.size ≤ (V2.alloc (.cells #[.int .i64 0] 3)).heap.size; simp)); have hc7 := R7.out.cell; have hf7 := R7.out.frozen); clear hr7 ho7 hw7 hr2 hf2)
    have O7 := Lib.hid (Only.set_ A7.out ⟨gR, 15, none⟩ (.inl (.inl rfl)) (.slice sA9.A sA9.n sA9.c))
    have N3 := Lib.hid (Nr.atd N2.out O7.out (by have h_ := Blk.set_ R7.out 15 (.slice sA9.A sA9.n sA9.c); simpa only [List.setIfInBounds_toArray, List.set_cons_zero, List.set_cons_succ] using h_) (Row.kept S7.out (fun g hg => Below.heap_setCell _ _ _ _ (Row.ne S7.out R7.out (by decide) g hg))) L7.out)
    have C3 := Lib.hid (Blk.only C2.out O7.out (fun e => by
      rcases e with e | e
      · exact Blk.ne C2.out N2.out.hR (by decide) e
      · exact Row.ne N2.out.hA C2.out (by decide) _ e rfl))
    have B3 := Lib.hid (B2.out.trans (Only.below O7.out N2.out.low.1 (fun g hg => by
      rcases hg with hg | hg
      · rw [hg]; exact N2.out.low.2
      · exact (Row.lt N2.out.hA hg).1)))
    clear hc7 hf7 R7 S7 A7 L7 O7 hcf2 hj2 hjz0 hjz1 hjz2
    generalize w7.setCell ⟨gR, 15, none⟩ (.slice sA9.A sA9.n sA9.c) = V3 at N3 C3 B3 ⊢

    go_wp2
    go_roundw
    case rel => exact ⟨i + 1, sO9, sC9, sA9, by go_num, hlt, N3.out, C3.out, B3.out⟩
    case measure => simp [intOf]; omega
  · have hT : ¬ (i : Int) < T := by omega
    obtain rfl : i = T := by omega
    have hcf := C0.out.cell
    go_wp2
    go_ret
    obtain ⟨gO, gC, gA, co, cc, ca, cO, cC, cA, hI⟩ := N0.out.ir t1 t2 (newM_few k K i M a2 t2 m2)
    exact ⟨gR, gO, gC, gA, co, cc, ca, r2, cO, cC, cA, rfl, hI, B0.out⟩

end Go.Proofs.Ytjgbgjkjnlaloaa.Machc

namespace Go.Proofs.Ytjgbgjkjnlaloaa.Machc
open Go.RowKit Go.Proofs.Ytjgbgjkjnlaloaa.Memc Go.Proofs.Ytjgbgjkjnlaloaa.Refc Go.Proofs.Ytjgbgjkjnlaloaa.Drivec Go.Proofs.Ytjgbgjkjnlaloaa.Procc
set_option linter.unusedVariables false
set_option maxRecDepth 100000

/-- a call of one access -/
def raw99 (a : Acc) : FS := { FS.none with pc := 99, raw := a }
def askR (f : FS) : Acc := f.raw
def tellR (f : FS) (was : Int) (dn : Bool) : FS := { f with out := num dn, pc := 0 }
/-- a turn -/
def turnR (ls : List (List Acc)) (s : RS) (t : Nat) (a : Acc) : RS := goR askR tellR (begR s t (raw99 a) 0 0) t
/-- both runs are at the same place -/
structure Sim (ls : List (List Acc)) (d : D) (s : RS) : Prop where
  len : d.left.length = ls.length ∧ s.on.length = ls.length ∧ s.at_.length = ls.length
  left : ∀ (t : Nat) (l : List Acc), ls[t]? = some l → ∃ n : Nat, n ≤ l.length ∧ s.at_[t]? = some (n : Int) ∧ d.left[t]? = some (l.drop n)
  m : s.m = d.m
  steps : s.steps = d.steps
  calls : s.calls = d.calls.map Cl.ck
  call : s.call = List.replicate ls.length (-1)
theorem sim_first (m : Memc.M) (ls : List (List Acc)) (T : Nat) (hT : T = ls.length) : Sim ls ⟨m, ls, [], []⟩ (RS.first m T) where
  len := ⟨rfl, by rw [hT]; exact List.length_replicate .., by rw [hT]; exact List.length_replicate ..⟩
  left := fun t l h => ⟨0, Nat.zero_le _, by
    have ht : t < T := by rw [hT]; exact (List.getElem?_eq_some_iff.1 h).1
    show (List.replicate T (0 : Int))[t]? = _
    rw [List.getElem?_replicate, if_pos ht]; rfl, h⟩
  m := rfl
  steps := rfl
  calls := rfl
  call := by rw [← hT]; rfl
theorem beg_at {s : RS} {t : Nat} {f : FS} {kd vl : Int} (h : t < s.on.length) : (begR s t f kd vl).on[t]? = some f := List.getElem?_set_self h
theorem set_back (l : List Int) (T t : Nat) (x : Int) (h : l = List.replicate T (-1)) : (l.set t x).set t (-1) = List.replicate T (-1) := by
  rw [List.set_set, h]
  apply List.ext_getElem? 
  intro i
  rw [List.getElem?_set, List.getElem?_replicate, List.length_replicate]
  split
  · subst_vars
    rfl
  · rfl
theorem Sim.went {ls : List (List Acc)} {d : D} {s : RS} (h : Sim ls d s) {t n : Nat} {l : List Acc} {a : Acc} (hl : ls[t]? = some l) (hn : s.at_[t]? = some (n : Int)) (ha : l[n]? = some a) : Sim ls (turn d t) (turnR ls s t a) := by
  have htl : t < ls.length := (List.getElem?_eq_some_iff.1 hl).1
  have hnl : n < l.length := (List.getElem?_eq_some_iff.1 ha).1
  obtain ⟨n', hn', h1, h2⟩ := h.left t l hl
  have en : n' = n := by rw [hn] at h1; have := Option.some.inj h1; omega
  subst en
  have hd : d.left[t]? = some (a :: l.drop (n' + 1)) := by
    rw [h2, List.drop_eq_getElem_cons hnl]
    rw [List.getElem?_eq_getElem hnl] at ha
    rw [Option.some.inj ha]
  rw [turn_some hd]
  have hat : s.at_.getD t 0 = (n' : Int) := by rw [List.getD_eq_getElem?_getD, hn]; rfl
  have hon : (begR s t (raw99 a) 0 0).on[t]? = some (raw99 a) := beg_at (by rw [h.len.2.1]; exact htl)
  have hk : (begR s t (raw99 a) 0 0).call[t]? = some ((s.calls.length : Nat) : Int) := List.getElem?_set_self (by rw [h.call, List.length_replicate]; exact htl)
  have hx : (begR s t (raw99 a) 0 0).calls[s.calls.length]? = some ⟨t, 0, 0, s.steps.length, -1, 0, 0⟩ := by
    show (s.calls ++ [_])[s.calls.length]? = _
    rw [List.getElem?_append_right (Nat.le_refl _), Nat.sub_self]; rfl
  unfold turnR
  rw [goR_yes hon hk hx rfl]
  refine ⟨⟨?_, ?_, ?_⟩, ?_, ?_, ?_, ?_, ?_⟩
  · show (d.left.set t _).length = _
    rw [List.length_set]; exact h.len.1
  · show ((s.on.set t _).set t _).length = _
    rw [List.length_set, List.length_set]; exact h.len.2.1
  · show (s.at_.set t _).length = _
    rw [List.length_set]; exact h.len.2.2
  · intro u k hk
    obtain ⟨n2, g1, g2, g3⟩ := h.left u k hk
    by_cases hu : t = u
    · subst hu
      rw [hl] at hk
      have ek := Option.some.inj hk
      subst ek
      refine ⟨n' + 1, hnl, ?_, ?_⟩
      · show (s.at_.set t (s.at_.getD t 0 + 1))[t]? = _
        rw [List.getElem?_set_self (by rw [h.len.2.2]; exact htl), hat]; rfl
      · show (d.left.set t _)[t]? = _
        rw [List.getElem?_set_self (by rw [h.len.1]; exact htl)]
    · refine ⟨n2, g1, ?_, ?_⟩
      · show (s.at_.set t _)[u]? = _
        rw [List.getElem?_set_ne hu]; exact g2
      · show (d.left.set t _)[u]? = _
        rw [List.getElem?_set_ne hu]; exact g3
  · show (Memc.acc s.m (askR (raw99 a))).1 = (Memc.acc d.m a).1
    rw [h.m]; rfl
  · show s.steps ++ [_] = d.steps ++ [_]
    rw [h.steps, show (begR s t (raw99 a) 0 0).m = d.m from h.m]; rfl
  · show (s.calls ++ [_]).set s.calls.length _ = (d.calls ++ [_]).map Cl.ck
    rw [List.set_append_right _ _ (Nat.le_refl _), Nat.sub_self, List.map_append, ← h.calls, ← h.steps]
    show s.calls ++ [_] = s.calls ++ [_]
    rw [show (begR s t (raw99 a) 0 0).m = d.m from h.m]
    rfl
  · show (s.call.set t _).set t (-1) = _
    exact set_back _ _ _ _ h.call
theorem Sim.idle {ls : List (List Acc)} {d : D} {s : RS} (h : Sim ls d s) {t n : Nat} {l : List Acc} (hl : ls[t]? = some l) (hn : s.at_[t]? = some (n : Int)) (ha : l.length ≤ n) : turn d t = d := by
  obtain ⟨n', hn', h1, h2⟩ := h.left t l hl
  have en : n' = n := by rw [hn] at h1; have := Option.some.inj h1; omega
  subst en
  refine turn_none (.inr (.inr ?_))
  rw [Int.toNat_natCast, h2, List.drop_eq_nil_of_le ha]
theorem Sim.off {ls : List (List Acc)} {d : D} {s : RS} (h : Sim ls d s) {t : Int} (ht : t < 0 ∨ (ls.length : Int) ≤ t) : turn d t = d := turn_none (by
  rcases ht with e | e
  · exact .inl e
  · exact .inr (.inl (by rw [h.len.1]; exact e)))
theorem runs_snoc (d : D) (ps : List (Int × Int)) (p : Int × Int) : runs d (ps ++ [p]) = turn (runs d ps) p.1 := by unfold runs; rw [List.foldl_append]; rfl
theorem runs_take {d : D} {ps : List (Int × Int)} {j : Nat} {p : Int × Int} (h : ps[j]? = some p) : runs d (ps.take (j + 1)) = turn (runs d (ps.take j)) p.1 := by
  rw [List.take_add_one, h]; exact runs_snoc _ _ _
theorem turn_len (d : D) (t : Int) : (turn d t).steps.length ≤ d.steps.length + 1 ∧ (turn d t).calls.length ≤ d.calls.length + 1 := by
  by_cases ht : t < 0 ∨ (d.left.length : Int) ≤ t ∨ d.left[t.toNat]? = some []
  · rw [turn_none ht]; omega
  · obtain ⟨n, rfl⟩ : ∃ n : Nat, t = n := ⟨t.toNat, by omega⟩
    have hlt : n < d.left.length := by omega
    have hne : ¬ d.left[n]? = some [] := fun e => ht (.inr (.inr (by rw [Int.toNat_natCast]; exact e)))
    rw [List.getElem?_eq_getElem hlt] at hne
    obtain ⟨a, l, e⟩ : ∃ a l, d.left[n] = a :: l := by
      cases he : d.left[n] with
      | nil => rw [he] at hne; exact absurd rfl hne
      | cons a l => exact ⟨a, l, rfl⟩
    rw [turn_some (by rw [List.getElem?_eq_getElem hlt, e])]
    simp

end Go.Proofs.Ytjgbgjkjnlaloaa.Machc

namespace Go.Proofs.Ytjgbgjkjnlaloaa.Machc
open Go.RowKit Go.Proofs.Ytjgbgjkjnlaloaa.Memc Go.Proofs.Ytjgbgjkjnlaloaa.Refc
set_option linter.unusedVariables false
set_option maxRecDepth 100000

set_option maxHeartbeats 2000000 in
theorem ask99_c (w : World) (k K T : Int) (M : Nat) (f : FS) (q : Sl) (hpc : f.pc = 99) (x0 : 0 ≤ f.s) (x1 : f.s ≤ 18446744073709551615) (m1 : 2 ≤ M) (m2 : M ≤ 64) :
    Calls Try.prog 87 #[.agg #[.int .i64 k, .int .i64 K, .int .i64 T, .int .i64 M], .agg (f.v q).toArray] w fun e w' => e = .returned (.agg #[.int .i64 f.raw.d, .int .i64 f.raw.ar, .int .i64 f.raw.at_, .int .u64 f.raw.old, .int .u64 f.raw.new]) ∧ Below w.heap.size w w' := by
  have B0 : Hid (Below w.heap.size w (((w.alloc (.cells #[.int .i64 k, .int .i64 K, .int .i64 T, .int .i64 M] 36)).alloc (.cells (f.v q).toArray 109)).alloc (.cells #[.int .i64 0, .int .i64 0, .int .i64 0, .int .u64 0, .int .u64 0] 27))) := Lib.hid ((((Below.refl _ _).alloc (Nat.le_refl _) _).alloc (by simp) _).alloc (by simp; omega) _)
  have C0 : Hid (Blk (((w.alloc (.cells #[.int .i64 k, .int .i64 K, .int .i64 T, .int .i64 M] 36)).alloc (.cells (f.v q).toArray 109)).alloc (.cells #[.int .i64 0, .int .i64 0, .int .i64 0, .int .u64 0, .int .u64 0] 27)) w.heap.size 36 #[.int .i64 k, .int .i64 K, .int .i64 T, .int .i64 M]) := Lib.hid (((Blk.new _ _ _).alloc _).alloc _)
  have F0 : Hid (Blk (((w.alloc (.cells #[.int .i64 k, .int .i64 K, .int .i64 T, .int .i64 M] 36)).alloc (.cells (f.v q).toArray 109)).alloc (.cells #[.int .i64 0, .int .i64 0, .int .i64 0, .int .u64 0, .int .u64 0] 27)) (w.heap.size + 1) 109 (f.v q).toArray) := Lib.hid ((blk_at (by simp)).alloc _)
  have A0 : Hid (Blk (((w.alloc (.cells #[.int .i64 k, .int .i64 K, .int .i64 T, .int .i64 M] 36)).alloc (.cells (f.v q).toArray 109)).alloc (.cells #[.int .i64 0, .int .i64 0, .int .i64 0, .int .u64 0, .int .u64 0] 27)) (w.heap.size + 2) 27 #[.int .i64 0, .int .i64 0, .int .i64 0, .int .u64 0, .int .u64 0]) := Lib.hid (blk_at (by simp))
  have hv4 : (f.v q).toArray[4]? = some (.int .i64 99) := by show some (Value.int .i64 f.pc) = _; rw [hpc]
  have hv17 : (f.v q).toArray[17]? = some (.int .i64 f.raw.d) := rfl
  have hv18 : (f.v q).toArray[18]? = some (.int .i64 f.raw.ar) := rfl
  have hv19 : (f.v q).toArray[19]? = some (.int .i64 f.raw.at_) := rfl
  have hv20 : (f.v q).toArray[20]? = some (.int .u64 f.raw.old) := rfl
  have hv21 : (f.v q).toArray[21]? = some (.int .u64 f.raw.new) := rfl
  clear hpc
  go_enter Try.func87, Try.ntmps87
  go_upto_region 1 with fail
  generalize (((w.alloc (.cells #[.int .i64 k, .int .i64 K, .int .i64 T, .int .i64 M] 36)).alloc (.cells (f.v q).toArray 109)).alloc (.cells #[.int .i64 0, .int .i64 0, .int .i64 0, .int .u64 0, .int .u64 0] 27)) = V at B0 C0 F0 A0 ⊢
  have hc0 := C0.out.cell
  refine wp_region_lit ?_
  refine wpList_load_mid rfl 109 (.tmp 3) rfl (w.heap.size + 1) 0 (by simp [Act.eval]) (f.v q) _ (range24 F0.out (fun j v hj => by rw [Nat.zero_add]; simpa using hj)) Try.underlying109 rfl f_size ?_
  go_wp2_with (go_at_call 111; (with_reducible refine (life_c _ k K T M f q x0 x1 m1 m2).mono ?_); rintro e w1 ⟨rfl, hb⟩; go_must (have B1 := Lib.hid (B0.out.trans (hb.mono B0.out.size)); have F1 := Lib.hid (F0.out.below hb F0.out.lt); have A1 := Lib.hid (A0.out.below hb A0.out.lt)); have hf1 := F1.out.cell; have ha1 := A1.out.cell; have ha1f := A1.out.frozen; clear hb hc0)
  have A9 := Lib.hid (blk5_set A1.out (.int .i64 f.raw.d) (.int .i64 f.raw.ar) (.int .i64 f.raw.at_) (.int .u64 f.raw.old) (.int .u64 f.raw.new))
  have B9 : Hid (Below w.heap.size w (((((w1.setCell ⟨w.heap.size + 1 + 1, 0, none⟩ (.int .i64 f.raw.d)).setCell ⟨w.heap.size + 1 + 1, 1, none⟩ (.int .i64 f.raw.ar)).setCell ⟨w.heap.size + 1 + 1, 2, none⟩ (.int .i64 f.raw.at_)).setCell ⟨w.heap.size + 1 + 1, 3, none⟩ (.int .u64 f.raw.old)).setCell ⟨w.heap.size + 1 + 1, 4, none⟩ (.int .u64 f.raw.new))) := Lib.hid (Below.setCell (Below.setCell (Below.setCell (Below.setCell (Below.setCell B1.out (p := ⟨w.heap.size + 1 + 1, 0, none⟩) (show w.heap.size ≤ w.heap.size + 1 + 1 by omega) (.int .i64 f.raw.d)) (p := ⟨w.heap.size + 1 + 1, 1, none⟩) (show w.heap.size ≤ w.heap.size + 1 + 1 by omega) (.int .i64 f.raw.ar)) (p := ⟨w.heap.size + 1 + 1, 2, none⟩) (show w.heap.size ≤ w.heap.size + 1 + 1 by omega) (.int .i64 f.raw.at_)) (p := ⟨w.heap.size + 1 + 1, 3, none⟩) (show w.heap.size ≤ w.heap.size + 1 + 1 by omega) (.int .u64 f.raw.old)) (p := ⟨w.heap.size + 1 + 1, 4, none⟩) (show w.heap.size ≤ w.heap.size + 1 + 1 by omega) (.int .u64 f.raw.new))
  clear hf1 ha1 ha1f
  generalize (((((w1.setCell ⟨w.heap.size + 1 + 1, 0, none⟩ (.int .i64 f.raw.d)).setCell ⟨w.heap.size + 1 + 1, 1, none⟩ (.int .i64 f.raw.ar)).setCell ⟨w.heap.size + 1 + 1, 2, none⟩ (.int .i64 f.raw.at_)).setCell ⟨w.heap.size + 1 + 1, 3, none⟩ (.int .u64 f.raw.old)).setCell ⟨w.heap.size + 1 + 1, 4, none⟩ (.int .u64 f.raw.new)) = V9 at A9 B9 ⊢
  have ha9 := A9.out.cell
  refine bodyPost_ret (v := .agg #[.int .i64 f.raw.d, .int .i64 f.raw.ar, .int .i64 f.raw.at_, .int .u64 f.raw.old, .int .u64 f.raw.new]) (by simp [results, Try.results87, go_sem, ha9]) rfl ?_
  exact ⟨rfl, B9.out⟩

end Go.Proofs.Ytjgbgjkjnlaloaa.Machc

namespace Go.Proofs.Ytjgbgjkjnlaloaa.Machc
open Go.RowKit Go.Proofs.Ytjgbgjkjnlaloaa.Memc Go.Proofs.Ytjgbgjkjnlaloaa.Refc Go.Proofs.Ytjgbgjkjnlaloaa.Drivec Go.Proofs.Ytjgbgjkjnlaloaa.Procc
set_option linter.unusedVariables false
set_option maxRecDepth 100000

theorem setsA_all (cs : Array Value) (vs : List Value) (h : vs.length = cs.size) : setsA cs 0 vs = vs.toArray := by
  apply Array.ext_getElem?
  intro i
  by_cases hi : i < vs.length
  · have := setsA_in vs cs 0 i vs[i] (by omega) (List.getElem?_eq_getElem hi)
    rw [Nat.zero_add] at this
    rw [this, List.getElem?_toArray, List.getElem?_eq_getElem hi]
  · rw [Array.getElem?_eq_none (by rw [setsA_size]; omega), List.getElem?_toArray, List.getElem?_eq_none (by omega)]
theorem res24 {w : World} {g : Nat} {f : FS} {q : Sl} (h : w.rangeAt g 0 (f.v q)) : (loadVar 109 ⟨g, 0, none⟩).run Try.prog w = .ok (.agg (f.v q).toArray) w := run_loadVar_mid w g 0 109 (f.v q) _ h Try.underlying109 rfl f_size
theorem Blk.f24 {w : World} {g : Nat} {cs : Array Value} (h : Blk w g 109 cs) (hs : cs.size = 24) (f : FS) (q : Sl) : Blk (w.setCells g 0 (f.v q)) g 109 (f.v q).toArray := by
  have h_ := Blk.sets (f.v q) w 0 cs h
  rw [setsA_all cs (f.v q) (by rw [hs]; rfl)] at h_
  exact h_
theorem results_cell1 {P : Program} {fn : Func} {tmps : Array Value} {w : World} {a : Nat} {t : TypeId} {p : Addr} {v : Value} (hf : fn.results = #[.cell a t]) (ht : tmps.getD a undef = .pointer (some p)) (hl : (loadVar t p).run P w = .ok v w) : (results fn tmps).run P w = .ok v w := by
  have e : (do let x ← asAddr (tmps.getD a undef); loadVar t x : Sem Value) = loadVar t p := by rw [ht]; rfl
  unfold results
  rw [hf]
  simp only [List.mapM_toArray, List.mapM_cons, List.mapM_nil, e]
  generalize loadVar t p = L at hl
  simp [hl, go_sem]
theorem results_cell2 {P : Program} {fn : Func} {tmps : Array Value} {w : World} {a b : Nat} {t : TypeId} {p : Addr} {v : Value} (hf : fn.results = #[.cell a t, .tmp b]) (ht : tmps.getD a undef = .pointer (some p)) (hl : (loadVar t p).run P w = .ok v w) : (results fn tmps).run P w = .ok (.tuple #[v, tmps.getD b undef]) w := by
  have e : (do let x ← asAddr (tmps.getD a undef); loadVar t x : Sem Value) = loadVar t p := by rw [ht]; rfl
  unfold results
  rw [hf]
  simp only [List.mapM_toArray, List.mapM_cons, List.mapM_nil, e]
  generalize loadVar t p = L at hl
  simp [hl, go_sem]
set_option maxHeartbeats 2000000 in
theorem to_c (w : World) (f : FS) (q : Sl) (p : Int) :
    Calls Try.prog 120 #[.agg (f.v q).toArray, .int .i64 p] w fun e w' => e = .returned (.agg ((({ f with pc := p } : FS).v q)).toArray) ∧ Below w.heap.size w w' := by
  have B0 : Hid (Below w.heap.size w ((w.alloc (.cells (f.v q).toArray 109)).alloc (.cells #[.int .i64 0, .int .u32 0, .int .i64 0, .int .i64 0, .int .i64 0, .int .u64 0, .int .u64 0, .int .u64 0, .int .u64 0, .int .i64 0, .slice none 0 0, .bool false, .int .u64 0, .int .u64 0, .int .i64 0, .int .u32 0, .int .i64 0, .int .i64 0, .int .i64 0, .int .i64 0, .int .u64 0, .int .u64 0, .int .i64 0, .int .u32 0] 109))) := Lib.hid (((Below.refl _ _).alloc (Nat.le_refl _) _).alloc (by simp) _)
  have F0 : Hid (Blk ((w.alloc (.cells (f.v q).toArray 109)).alloc (.cells #[.int .i64 0, .int .u32 0, .int .i64 0, .int .i64 0, .int .i64 0, .int .u64 0, .int .u64 0, .int .u64 0, .int .u64 0, .int .i64 0, .slice none 0 0, .bool false, .int .u64 0, .int .u64 0, .int .i64 0, .int .u32 0, .int .i64 0, .int .i64 0, .int .i64 0, .int .i64 0, .int .u64 0, .int .u64 0, .int .i64 0, .int .u32 0] 109)) w.heap.size 109 (f.v q).toArray) := Lib.hid ((Blk.new _ _ _).alloc _)
  have Z0 : Hid (Blk ((w.alloc (.cells (f.v q).toArray 109)).alloc (.cells #[.int .i64 0, .int .u32 0, .int .i64 0, .int .i64 0, .int .i64 0, .int .u64 0, .int .u64 0, .int .u64 0, .int .u64 0, .int .i64 0, .slice none 0 0, .bool false, .int .u64 0, .int .u64 0, .int .i64 0, .int .u32 0, .int .i64 0, .int .i64 0, .int .i64 0, .int .i64 0, .int .u64 0, .int .u64 0, .int .i64 0, .int .u32 0] 109)) (w.heap.size + 1) 109 #[.int .i64 0, .int .u32 0, .int .i64 0, .int .i64 0, .int .i64 0, .int .u64 0, .int .u64 0, .int .u64 0, .int .u64 0, .int .i64 0, .slice none 0 0, .bool false, .int .u64 0, .int .u64 0, .int .i64 0, .int .u32 0, .int .i64 0, .int .i64 0, .int .i64 0, .int .i64 0, .int .u64 0, .int .u64 0, .int .i64 0, .int .u32 0]) := Lib.hid (blk_at (by simp))
  obtain ⟨f', hf'⟩ : ∃ f' : FS, f' = { f with pc := p } := ⟨_, rfl⟩
  go_enter Try.func120, Try.ntmps120
  go_upto_region 1 with fail
  generalize ((w.alloc (.cells (f.v q).toArray 109)).alloc (.cells #[.int .i64 0, .int .u32 0, .int .i64 0, .int .i64 0, .int .i64 0, .int .u64 0, .int .u64 0, .int .u64 0, .int .u64 0, .int .i64 0, .slice none 0 0, .bool false, .int .u64 0, .int .u64 0, .int .i64 0, .int .u32 0, .int .i64 0, .int .i64 0, .int .i64 0, .int .i64 0, .int .u64 0, .int .u64 0, .int .i64 0, .int .u32 0] 109)) = V at B0 F0 Z0 ⊢
  have hf0 := F0.out.cell
  have hf0f := F0.out.frozen
  go_upto_region 2 with fail
  have F1 : Hid (Blk (V.setCell ⟨w.heap.size, 4, none⟩ (.int .i64 p)) w.heap.size 109 (((f'.v q)).toArray)) := Lib.hid (by
    have h_ := F0.out.set_ 4 (.int .i64 p)
    rw [hf']; simpa only [FS.v, List.setIfInBounds_toArray, List.set_cons_zero, List.set_cons_succ] using h_)
  have Z1 := Lib.hid (Z0.out.far (p := ⟨w.heap.size, 4, none⟩) (show ¬ w.heap.size + 1 = w.heap.size by omega) (.int .i64 p))
  have B1 := Lib.hid (Below.setCell B0.out (p := ⟨w.heap.size, 4, none⟩) (Nat.le_refl _) (.int .i64 p))
  clear hf0 hf0f F0 Z0 B0
  generalize V.setCell ⟨w.heap.size, 4, none⟩ (.int .i64 p) = V1 at F1 Z1 B1 ⊢
  refine wp_region_lit ?_
  refine wpList_load_mid rfl 109 (.tmp 2) rfl w.heap.size 0 (by simp [Act.eval]) (f'.v q) _ (range24 F1.out (fun j v hj => by rw [Nat.zero_add]; simpa using hj)) Try.underlying109 rfl f_size ?_
  refine wpList_store_mid rfl 109 (.tmp 4) (.tmp 7) rfl (w.heap.size + 1) 0 ((f'.v q)).toArray (by simp [Act.eval, Act.put]) (by simp [Act.eval, Act.put]) (there24 Z1.out (by decide)) f_size (FS.one _ _) ?_
  have R9 := res24 (World.rangeAt_setCells_same V1 (w.heap.size + 1) 0 (f'.v q) (there24 Z1.out (by decide)))
  have B9 := Only.below (Only.sets (P := fun g => w.heap.size ≤ g) (g := w.heap.size + 1) (.inl (by omega)) (f'.v q) V1 0 (Only.of_below B1.out (Nat.le_refl _))) (Nat.le_refl _) (fun k h => h)
  have ez : ((f'.v q)).toArray.toList = (f'.v q) := rfl
  rw [ez]
  generalize V1.setCells (w.heap.size + 1) 0 (f'.v q) = V2 at R9 B9 ⊢
  go_wp2
  refine bodyPost_ret (v := .agg (f'.v q).toArray) (results_cell1 (a := 4) Try.results120 rfl R9) rfl ?_
  exact ⟨by rw [hf'], B9⟩
set_option maxHeartbeats 4000000 in
theorem tell99_c (w : World) (k K T : Int) (M : Nat) (f : FS) (q : Sl) (was : Int) (dn : Bool) (hpc : f.pc = 99) (x0 : 0 ≤ f.s) (x1 : f.s ≤ 18446744073709551615) (m1 : 2 ≤ M) (m2 : M ≤ 64) :
    Calls Try.prog 88 #[.agg #[.int .i64 k, .int .i64 K, .int .i64 T, .int .i64 M], .agg (f.v q).toArray, .int .u64 was, .bool dn] w fun e w' => e = .returned (.agg ((tellR f was dn).v q).toArray) ∧ Below w.heap.size w w' := by
  have B0 : Hid (Below w.heap.size w (((w.alloc (.cells #[.int .i64 k, .int .i64 K, .int .i64 T, .int .i64 M] 36)).alloc (.cells (f.v q).toArray 109)).alloc (.cells #[.int .i64 0, .int .u32 0, .int .i64 0, .int .i64 0, .int .i64 0, .int .u64 0, .int .u64 0, .int .u64 0, .int .u64 0, .int .i64 0, .slice none 0 0, .bool false, .int .u64 0, .int .u64 0, .int .i64 0, .int .u32 0, .int .i64 0, .int .i64 0, .int .i64 0, .int .i64 0, .int .u64 0, .int .u64 0, .int .i64 0, .int .u32 0] 109))) := Lib.hid ((((Below.refl _ _).alloc (Nat.le_refl _) _).alloc (by simp) _).alloc (by simp; omega) _)
  have C0 : Hid (Blk (((w.alloc (.cells #[.int .i64 k, .int .i64 K, .int .i64 T, .int .i64 M] 36)).alloc (.cells (f.v q).toArray 109)).alloc (.cells #[.int .i64 0, .int .u32 0, .int .i64 0, .int .i64 0, .int .i64 0, .int .u64 0, .int .u64 0, .int .u64 0, .int .u64 0, .int .i64 0, .slice none 0 0, .bool false, .int .u64 0, .int .u64 0, .int .i64 0, .int .u32 0, .int .i64 0, .int .i64 0, .int .i64 0, .int .i64 0, .int .u64 0, .int .u64 0, .int .i64 0, .int .u32 0] 109)) w.heap.size 36 #[.int .i64 k, .int .i64 K, .int .i64 T, .int .i64 M]) := Lib.hid (((Blk.new _ _ _).alloc _).alloc _)
  have F0 : Hid (Blk (((w.alloc (.cells #[.int .i64 k, .int .i64 K, .int .i64 T, .int .i64 M] 36)).alloc (.cells (f.v q).toArray 109)).alloc (.cells #[.int .i64 0, .int .u32 0, .int .i64 0, .int .i64 0, .int .i64 0, .int .u64 0, .int .u64 0, .int .u64 0, .int .u64 0, .int .i64 0, .slice none 0 0, .bool false, .int .u64 0, .int .u64 0, .int .i64 0, .int .u32 0, .int .i64 0, .int .i64 0, .int .i64 0, .int .i64 0, .int .u64 0, .int .u64 0, .int .i64 0, .int .u32 0] 109)) (w.heap.size + 1) 109 (f.v q).toArray) := Lib.hid ((blk_at (by simp)).alloc _)
  have Z0 : Hid (Blk (((w.alloc (.cells #[.int .i64 k, .int .i64 K, .int .i64 T, .int .i64 M] 36)).alloc (.cells (f.v q).toArray 109)).alloc (.cells #[.int .i64 0, .int .u32 0, .int .i64 0, .int .i64 0, .int .i64 0, .int .u64 0, .int .u64 0, .int .u64 0, .int .u64 0, .int .i64 0, .slice none 0 0, .bool false, .int .u64 0, .int .u64 0, .int .i64 0, .int .u32 0, .int .i64 0, .int .i64 0, .int .i64 0, .int .i64 0, .int .u64 0, .int .u64 0, .int .i64 0, .int .u32 0] 109)) (w.heap.size + 1 + 1) 109 #[.int .i64 0, .int .u32 0, .int .i64 0, .int .i64 0, .int .i64 0, .int .u64 0, .int .u64 0, .int .u64 0, .int .u64 0, .int .i64 0, .slice none 0 0, .bool false, .int .u64 0, .int .u64 0, .int .i64 0, .int .u32 0, .int .i64 0, .int .i64 0, .int .i64 0, .int .i64 0, .int .u64 0, .int .u64 0, .int .i64 0, .int .u32 0]) := Lib.hid (blk_at (by simp))
  have hv4 : (f.v q).toArray[4]? = some (.int .i64 99) := by show some (Value.int .i64 f.pc) = _; rw [hpc]
  clear hpc
  obtain ⟨f1, hf1⟩ : ∃ f1 : FS, f1 = { f with out := num dn } := ⟨_, rfl⟩
  have HT : Hid (tellR f was dn = ({ f1 with pc := 0 } : FS)) := Lib.hid (by rw [hf1]; rfl)
  have HF1 := Lib.hid hf1
  clear hf1
  cases dn
  case false =>
    go_enter Try.func88, Try.ntmps88
    go_upto_region 1 with fail
    generalize (((w.alloc (.cells #[.int .i64 k, .int .i64 K, .int .i64 T, .int .i64 M] 36)).alloc (.cells (f.v q).toArray 109)).alloc (.cells #[.int .i64 0, .int .u32 0, .int .i64 0, .int .i64 0, .int .i64 0, .int .u64 0, .int .u64 0, .int .u64 0, .int .u64 0, .int .i64 0, .slice none 0 0, .bool false, .int .u64 0, .int .u64 0, .int .i64 0, .int .u32 0, .int .i64 0, .int .i64 0, .int .i64 0, .int .i64 0, .int .u64 0, .int .u64 0, .int .i64 0, .int .u32 0] 109)) = V at B0 C0 F0 Z0 ⊢
    have hc0 := C0.out.cell
    refine wp_region_lit ?_
    refine wpList_load_mid rfl 109 (.tmp 5) rfl (w.heap.size + 1) 0 (by simp [Act.eval]) (f.v q) _ (range24 F0.out (fun j v hj => by rw [Nat.zero_add]; simpa using hj)) Try.underlying109 rfl f_size ?_
    go_upto_region 4 with (go_at_call 111; (with_reducible refine (life_c _ k K T M f q x0 x1 m1 m2).mono ?_); rintro e w1 ⟨rfl, hb⟩; go_must (have B1 := Lib.hid (B0.out.trans (hb.mono B0.out.size)); have F1 := Lib.hid (F0.out.below hb F0.out.lt); have Z1 := Lib.hid (Z0.out.below hb Z0.out.lt)); have hf1c := F1.out.cell; clear hb hc0)
    clear hf1c
    go_upto_region 5 with (go_at_call 119; refine (either_c _ _ 1 0).mono ?_; rintro e w2 ⟨rfl, hb⟩; go_must (have B2 := Lib.hid (B1.out.trans (hb.mono B1.out.size)); have F2 := Lib.hid (F1.out.below hb F1.out.lt); have Z2 := Lib.hid (Z1.out.below hb Z1.out.lt)); have hf2c := F2.out.cell; have hf2f := F2.out.frozen; clear hb)
    have hw23 : Hid (Blk (w2.setCell ⟨w.heap.size + 1, 23, none⟩ (.int .u32 0)) (w.heap.size + 1) 109 (f1.v q).toArray) := Lib.hid (by
      have h_ := F2.out.set_ 23 (.int .u32 0)
      rw [HF1.out]; exact h_)
    have Z3 := Lib.hid (Z2.out.far (p := ⟨w.heap.size + 1, 23, none⟩) (show ¬ w.heap.size + 1 + 1 = w.heap.size + 1 by omega) (.int .u32 0))
    have B3 := Lib.hid (Below.setCell B2.out (p := ⟨w.heap.size + 1, 23, none⟩) (show w.heap.size ≤ w.heap.size + 1 by omega) (.int .u32 0))
    clear hf2c hf2f F1 Z1 B1 F2 Z2 B2 F0 Z0 B0
    generalize w2.setCell ⟨w.heap.size + 1, 23, none⟩ (.int .u32 0) = V3 at hw23 Z3 B3 ⊢
    refine wp_region_lit ?_
    refine wpList_load_mid rfl 109 (.tmp 5) rfl (w.heap.size + 1) 0 (by simp [Act.eval]) (f1.v q) _ (range24 hw23.out (fun j v hj => by rw [Nat.zero_add]; simpa using hj)) Try.underlying109 rfl f_size ?_
    go_wp2_with (first | (go_at_call 120; (with_reducible refine (to_c _ f1 q 0).mono ?_); rintro e w4 ⟨rfl, hb⟩; go_must (have B4 := Lib.hid (B3.out.trans (hb.mono B3.out.size)); have Z4 := Lib.hid (Z3.out.below hb Z3.out.lt); have W4 : Hid (w.heap.size ≤ w4.heap.size) := Lib.hid B4.out.size); clear hb) | (refine wpList_store_mid rfl 109 (.tmp 8) (.tmp 22) rfl (w.heap.size + 1 + 1) 0 (({ f1 with pc := 0 } : FS).v q).toArray (by simp [Act.eval]) (by simp [Act.eval]) (there24 Z4.out (by decide)) f_size (FS.one _ _) ?_))
    have R9 := res24 (World.rangeAt_setCells_same w4 (w.heap.size + 1 + 1) 0 (({ f1 with pc := 0 } : FS).v q) (there24 Z4.out (by decide)))
    have B9 := Only.below (Only.sets (P := fun g => w.heap.size ≤ g) (g := w.heap.size + 1 + 1) (.inl (by omega)) (({ f1 with pc := 0 } : FS).v q) w4 0 (Only.of_below B4.out (Nat.le_refl _))) (Nat.le_refl _) (fun k h => h)
    generalize w4.setCells (w.heap.size + 1 + 1) 0 (({ f1 with pc := 0 } : FS).v q) = V9 at R9 B9 ⊢
    refine bodyPost_ret (v := .agg (({ f1 with pc := 0 } : FS).v q).toArray) (results_cell1 (a := 8) Try.results88 rfl R9) rfl ?_
    exact ⟨by rw [HT.out], B9⟩
  case true =>
    go_enter Try.func88, Try.ntmps88
    go_upto_region 1 with fail
    generalize (((w.alloc (.cells #[.int .i64 k, .int .i64 K, .int .i64 T, .int .i64 M] 36)).alloc (.cells (f.v q).toArray 109)).alloc (.cells #[.int .i64 0, .int .u32 0, .int .i64 0, .int .i64 0, .int .i64 0, .int .u64 0, .int .u64 0, .int .u64 0, .int .u64 0, .int .i64 0, .slice none 0 0, .bool false, .int .u64 0, .int .u64 0, .int .i64 0, .int .u32 0, .int .i64 0, .int .i64 0, .int .i64 0, .int .i64 0, .int .u64 0, .int .u64 0, .int .i64 0, .int .u32 0] 109)) = V at B0 C0 F0 Z0 ⊢
    have hc0 := C0.out.cell
    refine wp_region_lit ?_
    refine wpList_load_mid rfl 109 (.tmp 5) rfl (w.heap.size + 1) 0 (by simp [Act.eval]) (f.v q) _ (range24 F0.out (fun j v hj => by rw [Nat.zero_add]; simpa using hj)) Try.underlying109 rfl f_size ?_
    go_upto_region 4 with (go_at_call 111; (with_reducible refine (life_c _ k K T M f q x0 x1 m1 m2).mono ?_); rintro e w1 ⟨rfl, hb⟩; go_must (have B1 := Lib.hid (B0.out.trans (hb.mono B0.out.size)); have F1 := Lib.hid (F0.out.below hb F0.out.lt); have Z1 := Lib.hid (Z0.out.below hb Z0.out.lt)); have hf1c := F1.out.cell; clear hb hc0)
    clear hf1c
    go_upto_region 5 with (go_at_call 119; refine (either_c _ _ 1 0).mono ?_; rintro e w2 ⟨rfl, hb⟩; go_must (have B2 := Lib.hid (B1.out.trans (hb.mono B1.out.size)); have F2 := Lib.hid (F1.out.below hb F1.out.lt); have Z2 := Lib.hid (Z1.out.below hb Z1.out.lt)); have hf2c := F2.out.cell; have hf2f := F2.out.frozen; clear hb)
    have hw23 : Hid (Blk (w2.setCell ⟨w.heap.size + 1, 23, none⟩ (.int .u32 1)) (w.heap.size + 1) 109 (f1.v q).toArray) := Lib.hid (by
      have h_ := F2.out.set_ 23 (.int .u32 1)
      rw [HF1.out]; exact h_)
    have Z3 := Lib.hid (Z2.out.far (p := ⟨w.heap.size + 1, 23, none⟩) (show ¬ w.heap.size + 1 + 1 = w.heap.size + 1 by omega) (.int .u32 1))
    have B3 := Lib.hid (Below.setCell B2.out (p := ⟨w.heap.size + 1, 23, none⟩) (show w.heap.size ≤ w.heap.size + 1 by omega) (.int .u32 1))
    clear hf2c hf2f F1 Z1 B1 F2 Z2 B2 F0 Z0 B0
    generalize w2.setCell ⟨w.heap.size + 1, 23, none⟩ (.int .u32 1) = V3 at hw23 Z3 B3 ⊢
    refine wp_region_lit ?_
    refine wpList_load_mid rfl 109 (.tmp 5) rfl (w.heap.size + 1) 0 (by simp [Act.eval]) (f1.v q) _ (range24 hw23.out (fun j v hj => by rw [Nat.zero_add]; simpa using hj)) Try.underlying109 rfl f_size ?_
    go_wp2_with (first | (go_at_call 120; (with_reducible refine (to_c _ f1 q 0).mono ?_); rintro e w4 ⟨rfl, hb⟩; go_must (have B4 := Lib.hid (B3.out.trans (hb.mono B3.out.size)); have Z4 := Lib.hid (Z3.out.below hb Z3.out.lt); have W4 : Hid (w.heap.size ≤ w4.heap.size) := Lib.hid B4.out.size); clear hb) | (refine wpList_store_mid rfl 109 (.tmp 8) (.tmp 22) rfl (w.heap.size + 1 + 1) 0 (({ f1 with pc := 0 } : FS).v q).toArray (by simp [Act.eval]) (by simp [Act.eval]) (there24 Z4.out (by decide)) f_size (FS.one _ _) ?_))
    have R9 := res24 (World.rangeAt_setCells_same w4 (w.heap.size + 1 + 1) 0 (({ f1 with pc := 0 } : FS).v q) (there24 Z4.out (by decide)))
    have B9 := Only.below (Only.sets (P := fun g => w.heap.size ≤ g) (g := w.heap.size + 1 + 1) (.inl (by omega)) (({ f1 with pc := 0 } : FS).v q) w4 0 (Only.of_below B4.out (Nat.le_refl _))) (Nat.le_refl _) (fun k h => h)
    generalize w4.setCells (w.heap.size + 1 + 1) 0 (({ f1 with pc := 0 } : FS).v q) = V9 at R9 B9 ⊢
    refine bodyPost_ret (v := .agg (({ f1 with pc := 0 } : FS).v q).toArray) (results_cell1 (a := 8) Try.results88 rfl R9) rfl ?_
    exact ⟨by rw [HT.out], B9⟩

end Go.Proofs.Ytjgbgjkjnlaloaa.Machc

namespace Go.Proofs.Ytjgbgjkjnlaloaa.Machc
open Go.RowKit Go.Proofs.Ytjgbgjkjnlaloaa.Memc Go.Proofs.Ytjgbgjkjnlaloaa.Newc
set_option linter.unusedVariables false
set_option maxRecDepth 100000

theorem may3_cfg (w : World) (k K T M a b : Int) (p : Sl) (h : ¬ (Cfg.mk k K T M).may) :
    Calls Try.prog 54 #[.agg #[.int .i64 k, .int .i64 K, .int .i64 T, .int .i64 M], .int .i64 a, .int .i64 b, .slice p.A p.n p.c] w (Tells w false) := by
  have B0 : Hid (Below w.heap.size w (w.alloc (.cells #[.int .i64 k, .int .i64 K, .int .i64 T, .int .i64 M] 36))) := Lib.hid ((Below.refl _ _).alloc (Nat.le_refl _) _)
  have C0 : Hid (Blk (w.alloc (.cells #[.int .i64 k, .int .i64 K, .int .i64 T, .int .i64 M] 36)) w.heap.size 36 #[.int .i64 k, .int .i64 K, .int .i64 T, .int .i64 M]) := Lib.hid (Blk.new _ _ _)
  go_enter Try.func54, Try.ntmps54
  go_wp2_with (go_at_call 23; (with_reducible refine (refmay_no _ k K T M h).mono ?_); rintro e w1 ⟨rfl, hb⟩; go_must (have B1 := Lib.hid (B0.out.trans (hb.mono B0.out.size)); have C1 := Lib.hid (C0.out.below hb C0.out.lt)); have hc1 := C1.out.cell; clear hb)
  go_ret
  exact ⟨rfl, B1.out⟩
theorem may3_lists (w : World) (k K T M a b : Int) (p : Sl) (hm : (Cfg.mk k K T M).may) (h : a ≠ T) :
    Calls Try.prog 54 #[.agg #[.int .i64 k, .int .i64 K, .int .i64 T, .int .i64 M], .int .i64 a, .int .i64 b, .slice p.A p.n p.c] w (Tells w false) := by
  obtain ⟨⟨k1, k2⟩, ⟨a1, a2⟩, ⟨t1, t2⟩, ⟨m1, m2⟩⟩ := hm
  simp only at k1 k2 a1 a2 t1 t2 m1 m2
  have e1 : (a == T) = false := beq_false_of_ne h
  have B0 : Hid (Below w.heap.size w (w.alloc (.cells #[.int .i64 k, .int .i64 K, .int .i64 T, .int .i64 M] 36))) := Lib.hid ((Below.refl _ _).alloc (Nat.le_refl _) _)
  have C0 : Hid (Blk (w.alloc (.cells #[.int .i64 k, .int .i64 K, .int .i64 T, .int .i64 M] 36)) w.heap.size 36 #[.int .i64 k, .int .i64 K, .int .i64 T, .int .i64 M]) := Lib.hid (Blk.new _ _ _)
  go_enter Try.func54, Try.ntmps54
  go_wp2_with (go_at_call 23; (with_reducible refine (refmay_yes _ k K T M k1 k2 a1 a2 t1 t2 m1 m2).mono ?_); rintro e w1 ⟨rfl, hb⟩; go_must (have B1 := Lib.hid (B0.out.trans (hb.mono B0.out.size)); have C1 := Lib.hid (C0.out.below hb C0.out.lt)); have hc1 := C1.out.cell; clear hb)
  go_ret
  exact ⟨rfl, B1.out⟩
theorem may3_long (w : World) (k K T M a b : Int) (p : Sl) (hm : (Cfg.mk k K T M).may) (h1 : a = T) (h : ¬ b ≤ 1000) :
    Calls Try.prog 54 #[.agg #[.int .i64 k, .int .i64 K, .int .i64 T, .int .i64 M], .int .i64 a, .int .i64 b, .slice p.A p.n p.c] w (Tells w false) := by
  obtain ⟨⟨k1, k2⟩, ⟨a1, a2⟩, ⟨t1, t2⟩, ⟨m1, m2⟩⟩ := hm
  simp only at k1 k2 a1 a2 t1 t2 m1 m2
  have e1 : (a == T) = true := by rw [h1]; exact beq_self_eq_true T
  clear h1
  have B0 : Hid (Below w.heap.size w (w.alloc (.cells #[.int .i64 k, .int .i64 K, .int .i64 T, .int .i64 M] 36))) := Lib.hid ((Below.refl _ _).alloc (Nat.le_refl _) _)
  have C0 : Hid (Blk (w.alloc (.cells #[.int .i64 k, .int .i64 K, .int .i64 T, .int .i64 M] 36)) w.heap.size 36 #[.int .i64 k, .int .i64 K, .int .i64 T, .int .i64 M]) := Lib.hid (Blk.new _ _ _)
  go_enter Try.func54, Try.ntmps54
  go_wp2_with (go_at_call 23; (with_reducible refine (refmay_yes _ k K T M k1 k2 a1 a2 t1 t2 m1 m2).mono ?_); rintro e w1 ⟨rfl, hb⟩; go_must (have B1 := Lib.hid (B0.out.trans (hb.mono B0.out.size)); have C1 := Lib.hid (C0.out.below hb C0.out.lt)); have hc1 := C1.out.cell; clear hb)
  go_ret
  exact ⟨rfl, B1.out⟩
theorem may3_picks (w : World) (k K T M a b : Int) (p : Sl) (hm : (Cfg.mk k K T M).may) (h1 : a = T) (h2 : b ≤ 1000) (h : ¬ p.n ≤ 20000) :
    Calls Try.prog 54 #[.agg #[.int .i64 k, .int .i64 K, .int .i64 T, .int .i64 M], .int .i64 a, .int .i64 b, .slice p.A p.n p.c] w (Tells w false) := by
  obtain ⟨⟨k1, k2⟩, ⟨a1, a2⟩, ⟨t1, t2⟩, ⟨m1, m2⟩⟩ := hm
  simp only at k1 k2 a1 a2 t1 t2 m1 m2
  have e1 : (a == T) = true := by rw [h1]; exact beq_self_eq_true T
  have e3 : ¬ (p.n : Int) ≤ 20000 := by omega
  clear h1
  have B0 : Hid (Below w.heap.size w (w.alloc (.cells #[.int .i64 k, .int .i64 K, .int .i64 T, .int .i64 M] 36))) := Lib.hid ((Below.refl _ _).alloc (Nat.le_refl _) _)
  have C0 : Hid (Blk (w.alloc (.cells #[.int .i64 k, .int .i64 K, .int .i64 T, .int .i64 M] 36)) w.heap.size 36 #[.int .i64 k, .int .i64 K, .int .i64 T, .int .i64 M]) := Lib.hid (Blk.new _ _ _)
  go_enter Try.func54, Try.ntmps54
  go_wp2_with (go_at_call 23; (with_reducible refine (refmay_yes _ k K T M k1 k2 a1 a2 t1 t2 m1 m2).mono ?_); rintro e w1 ⟨rfl, hb⟩; go_must (have B1 := Lib.hid (B0.out.trans (hb.mono B0.out.size)); have C1 := Lib.hid (C0.out.below hb C0.out.lt)); have hc1 := C1.out.cell; clear hb)
  go_ret
  exact ⟨(by show Ending.returned (Value.bool (decide ((p.n : Int) ≤ 20000))) = _; rw [decide_eq_false (Int.not_le.2 e3)]), B1.out⟩
theorem may3_yes (w : World) (k K T M a b : Int) (p : Sl) (hm : (Cfg.mk k K T M).may) (h1 : a = T) (h2 : b ≤ 1000) (h : p.n ≤ 20000) :
    Calls Try.prog 54 #[.agg #[.int .i64 k, .int .i64 K, .int .i64 T, .int .i64 M], .int .i64 a, .int .i64 b, .slice p.A p.n p.c] w (Tells w true) := by
  obtain ⟨⟨k1, k2⟩, ⟨a1, a2⟩, ⟨t1, t2⟩, ⟨m1, m2⟩⟩ := hm
  simp only at k1 k2 a1 a2 t1 t2 m1 m2
  have e1 : (a == T) = true := by rw [h1]; exact beq_self_eq_true T
  have e3 : (p.n : Int) ≤ 20000 := by omega
  clear h1
  have B0 : Hid (Below w.heap.size w (w.alloc (.cells #[.int .i64 k, .int .i64 K, .int .i64 T, .int .i64 M] 36))) := Lib.hid ((Below.refl _ _).alloc (Nat.le_refl _) _)
  have C0 : Hid (Blk (w.alloc (.cells #[.int .i64 k, .int .i64 K, .int .i64 T, .int .i64 M] 36)) w.heap.size 36 #[.int .i64 k, .int .i64 K, .int .i64 T, .int .i64 M]) := Lib.hid (Blk.new _ _ _)
  go_enter Try.func54, Try.ntmps54
  go_wp2_with (go_at_call 23; (with_reducible refine (refmay_yes _ k K T M k1 k2 a1 a2 t1 t2 m1 m2).mono ?_); rintro e w1 ⟨rfl, hb⟩; go_must (have B1 := Lib.hid (B0.out.trans (hb.mono B0.out.size)); have C1 := Lib.hid (C0.out.below hb C0.out.lt)); have hc1 := C1.out.cell; clear hb)
  go_ret
  exact ⟨rfl, B1.out⟩
theorem may3_no (w : World) (k K T M a b : Int) (p : Sl) (h : ¬ ((Cfg.mk k K T M).may ∧ a = T ∧ b ≤ 1000 ∧ p.n ≤ 20000)) :
    Calls Try.prog 54 #[.agg #[.int .i64 k, .int .i64 K, .int .i64 T, .int .i64 M], .int .i64 a, .int .i64 b, .slice p.A p.n p.c] w (Tells w false) := by
  by_cases h1 : (Cfg.mk k K T M).may
  · by_cases h2 : a = T
    · by_cases h3 : b ≤ 1000
      · exact may3_picks w k K T M a b p h1 h2 h3 (fun h4 => h ⟨h1, h2, h3, h4⟩)
      · exact may3_long w k K T M a b p h1 h2 h3
    · exact may3_lists w k K T M a b p h1 h2
  · exact may3_cfg w k K T M a b p h1

end Go.Proofs.Ytjgbgjkjnlaloaa.Machc

namespace Go.Proofs.Ytjgbgjkjnlaloaa.Machc
open Go.RowKit Go.Proofs.Ytjgbgjkjnlaloaa.Memc Go.Proofs.Ytjgbgjkjnlaloaa.Newc Go.Proofs.Ytjgbgjkjnlaloaa.Drivec
set_option linter.unusedVariables false
set_option maxRecDepth 100000

theorem any_all {ns : List Nat} : (ns.any (fun x => decide (1000 < x)) = false) ↔ ∀ y ∈ ns, y ≤ 1000 := by
  rw [List.any_eq_false]
  constructor
  · intro h y hy
    have := h y hy
    simpa using this
  · intro h y hy
    have := h y hy
    simp; omega
theorem resTr {w : World} {g : Nat} {cs : Array Value} (h : Blk w g 54 cs) (hs : cs.size = 11) : (loadVar 54 ⟨g, 0, none⟩).run Try.prog w = .ok (.agg cs) w := by
  have e : cs = cs.toList.toArray := by simp
  rw [e]
  exact run_loadVar_mid w g 0 54 cs.toList _ (fun j v hj => by rw [Nat.zero_add]; exact (h.cell j).trans (by simpa using hj)) Try.underlying54 rfl (by rw [Array.length_toList, hs]; kernel_rfl)
theorem blk_tr {w : World} {g : Nat} (h : Blk w g 54 #[.slice none 0 0, .slice none 0 0, .int .u64 0, .int .u64 0, .slice none 0 0, .slice none 0 0, .int .u64 0, .int .u64 0, .slice none 0 0, .slice none 0 0, .slice none 0 0]) : Blk (((((((((((w.setCell ⟨g, 0, none⟩ (.slice none 0 0)).setCell ⟨g, 1, none⟩ (.slice none 0 0)).setCell ⟨g, 2, none⟩ (.int .u64 0)).setCell ⟨g, 3, none⟩ (.int .u64 0)).setCell ⟨g, 4, none⟩ (.slice none 0 0)).setCell ⟨g, 5, none⟩ (.slice none 0 0)).setCell ⟨g, 6, none⟩ (.int .u64 0)).setCell ⟨g, 7, none⟩ (.int .u64 0)).setCell ⟨g, 8, none⟩ (.slice none 0 0)).setCell ⟨g, 9, none⟩ (.slice none 0 0)).setCell ⟨g, 10, none⟩ (.slice none 0 0)) g 54 #[.slice none 0 0, .slice none 0 0, .int .u64 0, .int .u64 0, .slice none 0 0, .slice none 0 0, .int .u64 0, .int .u64 0, .slice none 0 0, .slice none 0 0, .slice none 0 0] := by
  have h_ := (((((((((((h.set_ 0 (.slice none 0 0)).set_ 1 (.slice none 0 0)).set_ 2 (.int .u64 0)).set_ 3 (.int .u64 0)).set_ 4 (.slice none 0 0)).set_ 5 (.slice none 0 0)).set_ 6 (.int .u64 0)).set_ 7 (.int .u64 0)).set_ 8 (.slice none 0 0)).set_ 9 (.slice none 0 0)).set_ 10 (.slice none 0 0))
  simpa only [List.setIfInBounds_toArray, List.set_cons_zero, List.set_cons_succ] using h_
set_option maxHeartbeats 2000000 in
theorem raw3_no (w : World) (k K T M : Int) (s p : Sl) (ns : List Nat) (h : Drivec.Lens w s ns) (hps : p.n ≤ maxLen)
    (hno : ¬ ((Cfg.mk k K T M).may ∧ (s.n : Int) = T ∧ ns.any (fun x => decide (1000 < x)) = false ∧ p.n ≤ 20000)) :
    Calls Try.prog 29 #[.agg #[.int .i64 k, .int .i64 K, .int .i64 T, .int .i64 M], .slice s.A s.n s.c, .slice p.A p.n p.c] w fun e w' => e = .returned (.tuple #[.agg #[.slice none 0 0, .slice none 0 0, .int .u64 0, .int .u64 0, .slice none 0 0, .slice none 0 0, .int .u64 0, .int .u64 0, .slice none 0 0, .slice none 0 0, .slice none 0 0], .bool false]) ∧ Below w.heap.size w w' := by
  obtain ⟨sA, sn, sc⟩ := s
  have W0 : Hid (Below w.heap.size w ((w.alloc (.cells #[.int .i64 k, .int .i64 K, .int .i64 T, .int .i64 M] 36)).alloc (.cells #[.slice none 0 0, .slice none 0 0, .int .u64 0, .int .u64 0, .slice none 0 0, .slice none 0 0, .int .u64 0, .int .u64 0, .slice none 0 0, .slice none 0 0, .slice none 0 0] 54))) := Lib.hid (((Below.refl _ _).alloc (Nat.le_refl _) _).alloc (by simp) _)
  have C0 : Hid (Blk ((w.alloc (.cells #[.int .i64 k, .int .i64 K, .int .i64 T, .int .i64 M] 36)).alloc (.cells #[.slice none 0 0, .slice none 0 0, .int .u64 0, .int .u64 0, .slice none 0 0, .slice none 0 0, .int .u64 0, .int .u64 0, .slice none 0 0, .slice none 0 0, .slice none 0 0] 54)) w.heap.size 36 #[.int .i64 k, .int .i64 K, .int .i64 T, .int .i64 M]) := Lib.hid ((Blk.new _ _ _).alloc _)
  have Y0 : Hid (Blk ((w.alloc (.cells #[.int .i64 k, .int .i64 K, .int .i64 T, .int .i64 M] 36)).alloc (.cells #[.slice none 0 0, .slice none 0 0, .int .u64 0, .int .u64 0, .slice none 0 0, .slice none 0 0, .int .u64 0, .int .u64 0, .slice none 0 0, .slice none 0 0, .slice none 0 0] 54)) (w.heap.size + 1) 54 #[.slice none 0 0, .slice none 0 0, .int .u64 0, .int .u64 0, .slice none 0 0, .slice none 0 0, .int .u64 0, .int .u64 0, .slice none 0 0, .slice none 0 0, .slice none 0 0]) := Lib.hid (blk_at (by simp))
  have HLN := Lib.hid h
  have HNO := Lib.hid hno
  have hsc := h.2.1
  have hscm := h.2.2.1
  simp only at hsc hscm hno ⊢
  have hsn2 : (sn : Int) ≤ 9223372036854775807 := by unfold maxLen at hscm; omega
  have hp2 : (p.n : Int) ≤ 9223372036854775807 := by unfold maxLen at hps; omega
  clear h hno hps hsc hscm
  go_enter Try.func29, Try.ntmps29
  go_upto_region 1 with fail
  generalize ((w.alloc (.cells #[.int .i64 k, .int .i64 K, .int .i64 T, .int .i64 M] 36)).alloc (.cells #[.slice none 0 0, .slice none 0 0, .int .u64 0, .int .u64 0, .slice none 0 0, .slice none 0 0, .int .u64 0, .int .u64 0, .slice none 0 0, .slice none 0 0, .slice none 0 0] 54)) = V at W0 C0 Y0 ⊢
  go_wp2
  go_loopw [8, 9] (fun x i wr => ∃ (m j : Nat), x = .int .i64 m ∧ i = .int .i64 j ∧ j ≤ sn ∧ m ≤ maxLen ∧ (m ≤ 1000 ↔ ∀ y ∈ ns.take j, y ≤ 1000) ∧ wr = V) (fun _ i _ => sn - (intOf i).toNat)
  case atStart => exact ⟨0, 0, rfl, rfl, Nat.zero_le _, Nat.zero_le _, (by simp), rfl⟩
  case round =>
  obtain ⟨m, j, rfl, rfl, hj, hm, hall, rfl⟩ := hrel
  have m0 : (0 : Int) ≤ m := Int.natCast_nonneg _
  have i0 : (0 : Int) ≤ j := Int.natCast_nonneg _
  have hsn := HLN.out.1
  simp only at hsn
  by_cases hlt : j < sn
  · obtain ⟨b, off, hA, hbB, hcc⟩ := HLN.out.2.2.2.2 (by show 0 < sn; omega)
    simp only at hA
    subst hA
    obtain ⟨n, hn⟩ : ∃ n, ns[j]? = some n := ⟨_, List.getElem?_eq_getElem (by omega)⟩
    obtain ⟨q, hqn, hq⟩ := hcc j n hn
    have hq1 := (W0.out.cell (p := ⟨b, off + j, none⟩) hbB).trans hq
    have i1 : (j : Int) < sn := by omega
    have htk : ns.take (j + 1) = ns.take j ++ [n] := by rw [List.take_add_one, hn]; rfl
    have hnm : n ≤ maxLen := HLN.out.2.2.2.1 n (List.mem_of_getElem? hn)
    have HALL := Lib.hid hall
    have HTK := Lib.hid htk
    have HNM := Lib.hid hnm
    have HM := Lib.hid hm
    clear hcc hq hn hall htk hnm hm hsn
    by_cases hgt : m < n
    · have hgt' : (m : Int) < q.n := by omega
      go_wp2
      go_roundw
      case rel => exact ⟨n, j + 1, rfl, by go_num, hlt, HNM.out, (by
        rw [HTK.out]
        have h1 := HALL.out
        constructor
        · intro h2 y hy
          rcases List.mem_append.1 hy with h3 | h3
          · exact h1.1 (by omega) y h3
          · rw [List.mem_singleton.1 h3]; exact h2
        · intro h2
          exact h2 n (List.mem_append.2 (.inr (List.mem_singleton.2 rfl)))), trivial⟩
      case measure => simp [intOf]; omega
    · have hgt' : ¬ (m : Int) < q.n := by omega
      go_wp2
      go_roundw
      case rel => exact ⟨m, j + 1, rfl, by go_num, hlt, HM.out, (by
        rw [HTK.out]
        have h1 := HALL.out
        constructor
        · intro h2 y hy
          rcases List.mem_append.1 hy with h3 | h3
          · exact h1.1 h2 y h3
          · rw [List.mem_singleton.1 h3]; omega
        · intro h2
          exact h1.2 (fun y hy => h2 y (List.mem_append.2 (.inl hy)))), trivial⟩
      case measure => simp [intOf]; omega
  · obtain rfl : j = sn := by omega
    rw [List.take_of_length_le (show ns.length ≤ j by omega)] at hall
    have i1 : ¬ (j : Int) < j := by omega
    have HSN := Lib.hid hsn
    clear hsn
    have hcc := C0.out.cell
    have HN2 : Hid (¬ ((Cfg.mk k K T M).may ∧ (j : Int) = T ∧ (m : Int) ≤ 1000 ∧ p.n ≤ 20000)) := Lib.hid (fun hx => HNO.out ⟨hx.1, hx.2.1, any_all.2 (hall.1 (by have := hx.2.2.1; omega)), hx.2.2.2⟩)
    go_wp2_with (go_at_call 54; (with_reducible refine (may3_no _ k K T M j m p HN2.out).mono ?_); rintro e w1 ⟨rfl, hb⟩; go_must (have W1 := Lib.hid (W0.out.trans (hb.mono W0.out.size)); have Y1 := Lib.hid (Y0.out.below hb Y0.out.lt)); have hy1 := Y1.out.cell; have hyf := Y1.out.frozen; clear hb hcc)
    have Y9 := Lib.hid (blk_tr Y1.out)
    have B9 : Hid (Below w.heap.size w (((((((((((w1.setCell ⟨w.heap.size + 1, 0, none⟩ (.slice none 0 0)).setCell ⟨w.heap.size + 1, 1, none⟩ (.slice none 0 0)).setCell ⟨w.heap.size + 1, 2, none⟩ (.int .u64 0)).setCell ⟨w.heap.size + 1, 3, none⟩ (.int .u64 0)).setCell ⟨w.heap.size + 1, 4, none⟩ (.slice none 0 0)).setCell ⟨w.heap.size + 1, 5, none⟩ (.slice none 0 0)).setCell ⟨w.heap.size + 1, 6, none⟩ (.int .u64 0)).setCell ⟨w.heap.size + 1, 7, none⟩ (.int .u64 0)).setCell ⟨w.heap.size + 1, 8, none⟩ (.slice none 0 0)).setCell ⟨w.heap.size + 1, 9, none⟩ (.slice none 0 0)).setCell ⟨w.heap.size + 1, 10, none⟩ (.slice none 0 0))) := Lib.hid (Below.setCell (Below.setCell (Below.setCell (Below.setCell (Below.setCell (Below.setCell (Below.setCell (Below.setCell (Below.setCell (Below.setCell (Below.setCell W1.out (p := ⟨w.heap.size + 1, 0, none⟩) (show w.heap.size ≤ w.heap.size + 1 by omega) (.slice none 0 0)) (p := ⟨w.heap.size + 1, 1, none⟩) (show w.heap.size ≤ w.heap.size + 1 by omega) (.slice none 0 0)) (p := ⟨w.heap.size + 1, 2, none⟩) (show w.heap.size ≤ w.heap.size + 1 by omega) (.int .u64 0)) (p := ⟨w.heap.size + 1, 3, none⟩) (show w.heap.size ≤ w.heap.size + 1 by omega) (.int .u64 0)) (p := ⟨w.heap.size + 1, 4, none⟩) (show w.heap.size ≤ w.heap.size + 1 by omega) (.slice none 0 0)) (p := ⟨w.heap.size + 1, 5, none⟩) (show w.heap.size ≤ w.heap.size + 1 by omega) (.slice none 0 0)) (p := ⟨w.heap.size + 1, 6, none⟩) (show w.heap.size ≤ w.heap.size + 1 by omega) (.int .u64 0)) (p := ⟨w.heap.size + 1, 7, none⟩) (show w.heap.size ≤ w.heap.size + 1 by omega) (.int .u64 0)) (p := ⟨w.heap.size + 1, 8, none⟩) (show w.heap.size ≤ w.heap.size + 1 by omega) (.slice none 0 0)) (p := ⟨w.heap.size + 1, 9, none⟩) (show w.heap.size ≤ w.heap.size + 1 by omega) (.slice none 0 0)) (p := ⟨w.heap.size + 1, 10, none⟩) (show w.heap.size ≤ w.heap.size + 1 by omega) (.slice none 0 0))
    clear hy1 hyf
    generalize (((((((((((w1.setCell ⟨w.heap.size + 1, 0, none⟩ (.slice none 0 0)).setCell ⟨w.heap.size + 1, 1, none⟩ (.slice none 0 0)).setCell ⟨w.heap.size + 1, 2, none⟩ (.int .u64 0)).setCell ⟨w.heap.size + 1, 3, none⟩ (.int .u64 0)).setCell ⟨w.heap.size + 1, 4, none⟩ (.slice none 0 0)).setCell ⟨w.heap.size + 1, 5, none⟩ (.slice none 0 0)).setCell ⟨w.heap.size + 1, 6, none⟩ (.int .u64 0)).setCell ⟨w.heap.size + 1, 7, none⟩ (.int .u64 0)).setCell ⟨w.heap.size + 1, 8, none⟩ (.slice none 0 0)).setCell ⟨w.heap.size + 1, 9, none⟩ (.slice none 0 0)).setCell ⟨w.heap.size + 1, 10, none⟩ (.slice none 0 0)) = V9 at Y9 B9 ⊢
    refine bodyPost_ret (results_cell2 (a := 6) (b := 7) Try.results29 rfl (resTr Y9.out rfl)) rfl ?_
    exact ⟨rfl, B9.out⟩

end Go.Proofs.Ytjgbgjkjnlaloaa.Machc
