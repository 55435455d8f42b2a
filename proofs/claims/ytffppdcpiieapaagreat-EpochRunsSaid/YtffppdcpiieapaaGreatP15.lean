/- A part of the proof. -/
import Derived.WalkKit
import Derived.Deep.DeepCutAuto
import Derived.StillTailTactics
import Derived.Test.YtffppdcpiieapaaGreatP2
import Derived.Test.YtffppdcpiieapaaGreatP5
import Derived.Test.YtffppdcpiieapaaGreatP10
import Derived.Test.YtffppdcpiieapaaGreatP12
import Derived.Test.YtffppdcpiieapaaGreatP13
import Derived.Test.YtffppdcpiieapaaGreatP14
namespace Go.Proofs.YtffppdcpiieapaaGreat
theorem uA {α : Type _} {l : List α} {i : Nat} {a : α} : l.toArray.setIfInBounds i a = (l.set i a).toArray := sA
theorem uC {α : Type _} {l : List α} {n : Nat} {a b : α} : (a :: l).set (n + 1) b = a :: l.set n b := sC
end Go.Proofs.YtffppdcpiieapaaGreat
namespace Go.Proofs.YtffppdcpiieapaaGreat.Machc
open Go.RowKit Memc Refc
set_option linter.unusedVariables false
set_option maxRecDepth 100000

theorem high1_c (x : Int) (w : World) (x0 : 0 <= x) (x1 : x <= 18446744073709551615) : Calls Tryz.prog 94 #[.int .u64 x] w fun e w' => e = .returned (.int .u32 (x / 4294967296)) /\ Below w.heap.size w w' := by
 go_enter Tryz.func94, Tryz.ntmps94
 go_wp2
 go_ret
 exact ⟨rfl, Below.refl _ _⟩
theorem high3_c (x : Int) (w : World) (x0 : 0 <= x) (x1 : x <= 18446744073709551615) : Calls Tryz.prog 74 #[.int .u64 x] w fun e w' => e = .returned (.int .u32 (x / 4294967296)) /\ Below w.heap.size w w' := by
 go_enter Tryz.func74, Tryz.ntmps74
 go_wp2_with (go_at_call 94; refine (high1_c _ _ x0 x1).mono ?_; rintro e w1 ⟨rfl, hb⟩)
 go_ret
 exact ⟨rfl, hb⟩
theorem lap_c (w : World) (k K T : Int) (M : Nat) (x : Int) (x0 : 0 <= x) (x1 : x <= 18446744073709551615) (m1 : 2 <= M) (m2 : M <= 64) : Calls Tryz.prog 93 #[.agg #[.int .i64 k, .int .i64 K, .int .i64 T, .int .i64 M], .int .u64 x] w fun e w' => e = .returned (.int .u32 ((x / M) % 4294967296)) /\ Below w.heap.size w w' := by
 have h1 : (M : Int) % 18446744073709551616 = M := by omega
 have h2 : ¬ (M : Int) = 0 := by omega
 have h3 : 0 <= x / (M : Int) := Int.ediv_nonneg x0 (by omega)
 have h4 : x / (M : Int) <= 18446744073709551615 := Int.le_trans (Int.ediv_le_self _ x0) x1
 go_enter Tryz.func93, Tryz.ntmps93
 go_wp2
 go_ret
 exact ⟨rfl, (Below.refl _ _).alloc (Nat.le_refl _) _⟩

def lifeM (k : Int) (M : Nat) (f : FS) : Int := if k = 2 then (f.s / M) % 4294967296 else f.s / 4294967296
theorem life_c (w : World) (k K T : Int) (M : Nat) (f : FS) (q : Sl) (x0 : 0 <= f.s) (x1 : f.s <= 18446744073709551615) (m1 : 2 <= M) (m2 : M <= 64) : Calls Tryz.prog 67 #[.agg (f.v q).toArray, .agg #[.int .i64 k, .int .i64 K, .int .i64 T, .int .i64 M]] w fun e w' => e = .returned (.int .u32 (lifeM k M f)) /\ Below w.heap.size w w' := by
 have hv5 : (f.v q)[5]? = some (.int .u64 f.s) := rfl
 have B0 : Hid (Below w.heap.size w ((w.alloc (.cells (f.v q).toArray 107)).alloc (.cells #[.int .i64 k, .int .i64 K, .int .i64 T, .int .i64 M] 23))) := lh (((Below.refl _ _).alloc (Nat.le_refl _) _).alloc (by simp) _)
 by_cases hk : k = 2
 · subst hk
   have hl : lifeM 2 M f = (f.s / M) % 4294967296 := by unfold lifeM; rw [if_pos rfl]
   rw [hl]
   clear hl
   go_enter Tryz.func67, Tryz.ntmps67
   go_wp2_with (go_at_call 93; (with_reducible refine (lap_c _ 2 K T M f.s x0 x1 m1 m2).mono ?_); rintro e w1 ⟨rfl, hb⟩)
   go_ret
   exact ⟨rfl, B0.out.trans (hb.mono B0.out.size)⟩
 · have hkb : (k == 2) = false := by simp [hk]
   have hl : lifeM k M f = f.s / 4294967296 := by unfold lifeM; rw [if_neg hk]
   rw [hl]
   clear hl
   go_enter Tryz.func67, Tryz.ntmps67
   go_wp2_with (go_at_call 74; refine (high3_c _ _ x0 x1).mono ?_; rintro e w1 ⟨rfl, hb⟩)
   go_ret
   exact ⟨rfl, B0.out.trans (hb.mono B0.out.size)⟩

end Go.Proofs.YtffppdcpiieapaaGreat.Machc

namespace Go.Proofs.YtffppdcpiieapaaGreat.Machc
open Go.RowKit Memc Refc
set_option linter.unusedVariables false
set_option maxRecDepth 100000

def nilS : Sl := ⟨none, 0, 0⟩
def noneV : List Value := FS.none.v nilS
def flatN : Nat -> List Value
 | 0 => []
 | n + 1 => flatN n ++ noneV
theorem flatN_len : ∀ n, (flatN n).length = n * 24
 | 0 => rfl
 | n + 1 => by show (flatN n ++ noneV).length = _; rw [List.length_append, flatN_len n, show noneV.length = 24 from rfl]; omega
theorem flatN_get : ∀ (n i j : Nat) (v : Value), i < n -> noneV[j]? = some v -> (flatN n)[i * 24 + j]? = some v
 | 0, i, j, v, h, _ => absurd h (Nat.not_lt_zero _)
 | n + 1, i, j, v, h, hv => by
   have hj : j < 24 := (List.getElem?_eq_some_iff.1 hv).1
   have hl := flatN_len n
   show (flatN n ++ noneV)[i * 24 + j]? = some v
   by_cases hi : i < n
   · rw [List.getElem?_append_left (by omega)]
     exact flatN_get n i j v hi hv
   · obtain rfl : i = n := by omega
     rw [List.getElem?_append_right (by omega), show i * 24 + j - (flatN i).length = j by omega]
     exact hv
structure Nr (w : World) (base gR : Nat) (k : Int) (K T M : Nat) (r : R) (m : Memc.M) (sO sC sA : Sl) (nO nC nA : Nat) : Prop where
 hR : Blk w gR 104 #[.int .i64 k, .int .i64 K, .int .i64 T, .int .i64 M, .int .u64 r.e, .int .u64 r.f, .slice r.L.A r.L.n r.L.c, .slice r.P.A r.P.n r.P.c, .int .u64 r.h, .int .u64 r.t, .slice r.K.A r.K.n r.K.c, .slice r.X.A r.X.n r.X.c, .slice r.S.A r.S.n r.S.c, .slice sO.A sO.n sO.c, .slice sC.A sC.n sC.c, .slice sA.A sA.n sA.c, .slice none 0 0, .slice none 0 0, .int .u64 0, .int .u64 0, .slice none 0 0, .slice none 0 0, .int .u64 0, .int .u64 0, .slice none 0 0, .slice none 0 0, .slice none 0 0]
 hO : Row w base 107 24 sO nO (flatN nO)
 hC : Row w base 3 1 sC nC (List.replicate nC (.int .i64 (-1)))
 hA : Row w base 3 1 sA nA (List.replicate nA (.int .i64 0))
 ne : ∀ g, bl sC g -> ¬ bl sA g
 hm : Rm w w.heap.size r m
 off : ∀ b, (b = gR \/ bl sO b \/ bl sC b \/ bl sA b) -> Off r b
 offb : ∀ b, b < base -> Off r b
 low : base <= w.heap.size /\ base <= gR
theorem Nr.offs {w : World} {base gR : Nat} {k : Int} {K T M : Nat} {r : R} {m : Memc.M} {sO sC sA : Sl} {nO nC nA : Nat} (h : Nr w base gR k K T M r m sO sC sA nO nC nA) {P : Nat -> Prop} (hP : ∀ b, P b -> (b = gR \/ bl sO b \/ bl sC b \/ bl sA b) \/ w.heap.size <= b) : ∀ b, P b -> Off r b := fun b hb => by
 rcases hP b hb with h1 | h1
 · exact h.off b h1
 · exact off_rm h.hm h1
theorem Nr.ond {w w' : World} {base gR : Nat} {k : Int} {K T M : Nat} {r : R} {m : Memc.M} {sO sC sA : Sl} {nO nC nA : Nat} (h : Nr w base gR k K T M r m sO sC sA nO nC nA) {sO' : Sl} (ho : Only (fun g => g = gR \/ bl sO g) w w') (hR : Blk w' gR 104 #[.int .i64 k, .int .i64 K, .int .i64 T, .int .i64 M, .int .u64 r.e, .int .u64 r.f, .slice r.L.A r.L.n r.L.c, .slice r.P.A r.P.n r.P.c, .int .u64 r.h, .int .u64 r.t, .slice r.K.A r.K.n r.K.c, .slice r.X.A r.X.n r.X.c, .slice r.S.A r.S.n r.S.c, .slice sO'.A sO'.n sO'.c, .slice sC.A sC.n sC.c, .slice sA.A sA.n sA.c, .slice none 0 0, .slice none 0 0, .int .u64 0, .int .u64 0, .slice none 0 0, .slice none 0 0, .int .u64 0, .int .u64 0, .slice none 0 0, .slice none 0 0, .slice none 0 0]) (hO : Row w' base 107 24 sO' (nO + 1) (flatN nO ++ noneV)) (hw : ∀ g, bl sO' g -> bl sO g \/ w.heap.size <= g) : Nr w' base gR k K T M r m sO' sC sA (nO + 1) nC nA where
 hR := hR
 hO := hO
 hC := h.hC.only ho (fun g hg e => by
   rcases e with e | e
   · exact h.hC.ne h.hR (by decide) g hg e
   · exact h.hC.ne_row h.hO (by decide) g hg g e rfl)
 hA := h.hA.only ho (fun g hg e => by
   rcases e with e | e
   · exact h.hA.ne h.hR (by decide) g hg e
   · exact h.hA.ne_row h.hO (by decide) g hg g e rfl)
 ne := h.ne
 hm := Rm.only h.hm ho (Nat.le_refl _) (fun b hb => h.off b (by rcases hb with e | e; exact .inl e; exact .inr (.inl e)))
 off := h.offs (fun b hb => by
   rcases hb with e | e | e
   · exact .inl (.inl e)
   · exact (hw b e).imp_left (fun e => .inr (.inl e))
   · exact .inl (.inr (.inr e)))
 offb := h.offb
 low := ⟨Nat.le_trans h.low.1 ho.size, h.low.2⟩
theorem Nr.calld {w w' : World} {base gR : Nat} {k : Int} {K T M : Nat} {r : R} {m : Memc.M} {sO sC sA : Sl} {nO nC nA : Nat} (h : Nr w base gR k K T M r m sO sC sA nO nC nA) {sC' : Sl} (ho : Only (fun g => g = gR \/ bl sC g) w w') (hR : Blk w' gR 104 #[.int .i64 k, .int .i64 K, .int .i64 T, .int .i64 M, .int .u64 r.e, .int .u64 r.f, .slice r.L.A r.L.n r.L.c, .slice r.P.A r.P.n r.P.c, .int .u64 r.h, .int .u64 r.t, .slice r.K.A r.K.n r.K.c, .slice r.X.A r.X.n r.X.c, .slice r.S.A r.S.n r.S.c, .slice sO.A sO.n sO.c, .slice sC'.A sC'.n sC'.c, .slice sA.A sA.n sA.c, .slice none 0 0, .slice none 0 0, .int .u64 0, .int .u64 0, .slice none 0 0, .slice none 0 0, .int .u64 0, .int .u64 0, .slice none 0 0, .slice none 0 0, .slice none 0 0]) (hC : Row w' base 3 1 sC' (nC + 1) (List.replicate nC (.int .i64 (-1)) ++ [.int .i64 (-1)])) (hw : ∀ g, bl sC' g -> bl sC g \/ w.heap.size <= g) : Nr w' base gR k K T M r m sO sC' sA nO (nC + 1) nA where
 hR := hR
 hO := h.hO.only ho (fun g hg e => by
   rcases e with e | e
   · exact h.hO.ne h.hR (by decide) g hg e
   · exact h.hO.ne_row h.hC (by decide) g hg g e rfl)
 hC := by rw [List.replicate_succ']; exact hC
 hA := h.hA.only ho (fun g hg e => by
   rcases e with e | e
   · exact h.hA.ne h.hR (by decide) g hg e
   · exact h.ne g e hg)
 ne := fun g hg => by
   rcases hw g hg with e | e
   · exact h.ne g e
   · exact fun h2 => absurd (h.hA.lt h2).2 (by omega)
 hm := Rm.only h.hm ho (Nat.le_refl _) (fun b hb => h.off b (by rcases hb with e | e; exact .inl e; exact .inr (.inr (.inl e))))
 off := h.offs (fun b hb => by
   rcases hb with e | e | e | e
   · exact .inl (.inl e)
   · exact .inl (.inr (.inl e))
   · exact (hw b e).imp_left (fun e => .inr (.inr (.inl e)))
   · exact .inl (.inr (.inr (.inr e))))
 offb := h.offb
 low := ⟨Nat.le_trans h.low.1 ho.size, h.low.2⟩
theorem Nr.atd {w w' : World} {base gR : Nat} {k : Int} {K T M : Nat} {r : R} {m : Memc.M} {sO sC sA : Sl} {nO nC nA : Nat} (h : Nr w base gR k K T M r m sO sC sA nO nC nA) {sA' : Sl} (ho : Only (fun g => g = gR \/ bl sA g) w w') (hR : Blk w' gR 104 #[.int .i64 k, .int .i64 K, .int .i64 T, .int .i64 M, .int .u64 r.e, .int .u64 r.f, .slice r.L.A r.L.n r.L.c, .slice r.P.A r.P.n r.P.c, .int .u64 r.h, .int .u64 r.t, .slice r.K.A r.K.n r.K.c, .slice r.X.A r.X.n r.X.c, .slice r.S.A r.S.n r.S.c, .slice sO.A sO.n sO.c, .slice sC.A sC.n sC.c, .slice sA'.A sA'.n sA'.c, .slice none 0 0, .slice none 0 0, .int .u64 0, .int .u64 0, .slice none 0 0, .slice none 0 0, .int .u64 0, .int .u64 0, .slice none 0 0, .slice none 0 0, .slice none 0 0]) (hA : Row w' base 3 1 sA' (nA + 1) (List.replicate nA (.int .i64 0) ++ [.int .i64 0])) (hw : ∀ g, bl sA' g -> bl sA g \/ w.heap.size <= g) : Nr w' base gR k K T M r m sO sC sA' nO nC (nA + 1) where
 hR := hR
 hO := h.hO.only ho (fun g hg e => by
   rcases e with e | e
   · exact h.hO.ne h.hR (by decide) g hg e
   · exact h.hO.ne_row h.hA (by decide) g hg g e rfl)
 hC := h.hC.only ho (fun g hg e => by
   rcases e with e | e
   · exact h.hC.ne h.hR (by decide) g hg e
   · exact h.ne g hg e)
 hA := by rw [List.replicate_succ']; exact hA
 ne := fun g hg h2 => by
   rcases hw g h2 with e | e
   · exact h.ne g hg e
   · exact absurd (h.hC.lt hg).2 (by omega)
 hm := Rm.only h.hm ho (Nat.le_refl _) (fun b hb => h.off b (by rcases hb with e | e; exact .inl e; exact .inr (.inr (.inr e))))
 off := h.offs (fun b hb => by
   rcases hb with e | e | e | e
   · exact .inl (.inl e)
   · exact .inl (.inr (.inl e))
   · exact .inl (.inr (.inr (.inl e)))
   · exact (hw b e).imp_left (fun e => .inr (.inr (.inr e))))
 offb := h.offb
 low := ⟨Nat.le_trans h.low.1 ho.size, h.low.2⟩
def RS.first (m : Memc.M) (T : Nat) : RS := ⟨m, List.replicate T FS.none, List.replicate T (-1), List.replicate T 0, [], []⟩
theorem row_cap {w : World} {base : Nat} {E : TypeId} {size n : Nat} {s : Sl} {xs : List Value} (h : Row w base E size s n xs) (hn : 0 < n) : ∃ (g : Nat) (cur : Array Value), s = ⟨some ⟨g, 0, none⟩, n, s.c⟩ /\ base <= g /\ Blk w g E cur /\ n <= s.c /\ s.c <= maxLen /\ cur.size = s.c * size /\ ∀ j, j < n * size -> cur[j]? = xs[j]? := by
 obtain ⟨A, n', c⟩ := s
 rcases h.2 with ⟨hv, h0⟩ | ⟨g, cap, cur, hv, hb, hg, hnc, hcm, hsz, htk⟩
 · omega
 · injection hv with h1 h2 h3
   simp only at h1 h2 h3
   subst h1
   subst h2
   subst h3
   refine ⟨g, cur, rfl, hb, hg, hnc, hcm, hsz, fun j hj => ?_⟩
   have hx : w.cell? ⟨g, j, none⟩ = xs[j]? := World.ownsRow.cellAt h j hj
   rw [<- hx]
   exact (Blk.cell hg j).symm
theorem Nr.ir {w : World} {base gR : Nat} {k : Int} {K T M : Nat} {r : R} {m : Memc.M} {sO sC sA : Sl} (h : Nr w base gR k K T M r m sO sC sA T T T) (t1 : 1 <= T) (t2 : T <= 8) (hf : Few m) :
   ∃ (gO gC gA : Nat) (co cc ca : Nat) (cO cC cA : Array Value), Ir w base gR gO gC gA co cc ca k K T M r nilS nilS cO cC cA (List.replicate T nilS) (RS.first m T) := by
 obtain ⟨gO, cO, eO, bO, kO, o1, o2, o3, o4⟩ := row_cap h.hO (by omega)
 obtain ⟨gC, cC, eC, bC, kC, c1, c2, c3, c4⟩ := row_cap h.hC (by omega)
 obtain ⟨gA, cA, eA, bA, kA, a1, a2, a3, a4⟩ := row_cap h.hA (by omega)
 have ne : gC ≠ gA := fun e => h.ne gC (by rw [eC]; exact ⟨_, rfl, rfl⟩) (by rw [eA]; exact ⟨_, rfl, e⟩)
 have hR := h.hR
 rw [eO, eC, eA] at hR
 have off : ∀ b, Mine gR gO gC gA nilS nilS b -> Off r b := fun b hb => by
   rcases hb with e | e | e | e | e | e
   · exact h.off b (.inl e)
   · exact h.off b (.inr (.inl (by rw [eO]; exact ⟨_, rfl, e⟩)))
   · exact h.off b (.inr (.inr (.inl (by rw [eC]; exact ⟨_, rfl, e⟩))))
   · exact h.off b (.inr (.inr (.inr (by rw [eA]; exact ⟨_, rfl, e⟩))))
   · obtain ⟨_, e, _⟩ := e; cases e
   · obtain ⟨_, e, _⟩ := e; cases e
 refine ⟨gO, gC, gA, sO.c, sC.c, sA.c, cO, cC, cA, hR, kO, kC, kA, h.hm, row_nil _ _ _ _, row_nil _ _ _ _, ?_, ?_, ?_, off, h.offb, ?_, ⟨List.length_replicate .., List.length_replicate .., List.length_replicate .., List.length_replicate .., by rw [o3]; exact Nat.mul_le_mul_right _ o1⟩, ⟨t1, t2, o1, o2, c1, c2, a1, a2⟩, ne, ⟨hf, Nat.zero_le _, Nat.zero_le _⟩, ⟨h.low.1, h.low.2, bO, bC, bA⟩⟩
 · intro i f q hi hq j v hv
   have hi' : i < T := by have := (List.getElem?_eq_some_iff.1 hq).1; rw [List.length_replicate] at this; exact this
   have e1 : FS.none = f := by
     have h1 : (RS.first m T).on[i]? = (List.replicate T FS.none)[i]? := rfl
     rw [h1, List.getElem?_replicate, if_pos hi'] at hi
     exact Option.some.inj hi
   have e2 : nilS = q := by
     rw [List.getElem?_replicate, if_pos hi'] at hq
     exact Option.some.inj hq
   subst e1
   subst e2
   have hj : j < 24 := (List.getElem?_eq_some_iff.1 hv).1
   rw [o4 _ (by omega)]
   exact flatN_get T i j v hi' hv
 · intro i x hx
   have h1 : (RS.first m T).call[i]? = (List.replicate T (-1 : Int))[i]? := rfl
   rw [h1] at hx
   have hi : i < T := by have := (List.getElem?_eq_some_iff.1 hx).1; rw [List.length_replicate] at this; exact this
   rw [List.getElem?_replicate, if_pos hi] at hx
   rw [c4 _ (by omega), List.getElem?_replicate, if_pos hi, <- Option.some.inj hx]
 · intro i x hx
   have h1 : (RS.first m T).at_[i]? = (List.replicate T (0 : Int))[i]? := rfl
   rw [h1] at hx
   have hi : i < T := by have := (List.getElem?_eq_some_iff.1 hx).1; rw [List.length_replicate] at this; exact this
   rw [List.getElem?_replicate, if_pos hi] at hx
   rw [a4 _ (by omega), List.getElem?_replicate, if_pos hi, <- Option.some.inj hx]
 · intro i f q hi hq
   have hi' : i < T := by have := (List.getElem?_eq_some_iff.1 hq).1; rw [List.length_replicate] at this; exact this
   have e1 : FS.none = f := by
     have h1 : (RS.first m T).on[i]? = (List.replicate T FS.none)[i]? := rfl
     rw [h1, List.getElem?_replicate, if_pos hi'] at hi
     exact Option.some.inj hi
   have e2 : nilS = q := by
     rw [List.getElem?_replicate, if_pos hi'] at hq
     exact Option.some.inj hq
   subst e1
   subst e2
   exact ⟨Rd.nil _ _ none, fun b _ ad hn _ => absurd hn (Nat.lt_irrefl 0)⟩

end Go.Proofs.YtffppdcpiieapaaGreat.Machc

namespace Go.Proofs.YtffppdcpiieapaaGreat.Machc
open Go.RowKit Memc Refc Newc Replr
set_option linter.unusedVariables false
set_option maxRecDepth 100000

theorem wpList_app2 {w : World} {ops : Array Oper} {rest : List Oper} {o : Oper} {a : Act} {Q : Exit -> Act -> World -> Prop} (hgd : o.guard = none) (x y : Operand) (t : TypeId) (ho : o.op = .call { callee := .builtin .append, args := #[x, y], argTypes := #[t, t] })
   (base : Nat) (E : TypeId) (i : TypeInfo) (z : Value) (size bytes : Nat) (ht : Tryz.prog.underlying t = some (.slice E)) (hi : Tryz.prog.info? E = some i) (hz : i.zero = some z) (hsize : i.size = size) (hby : i.bytes = bytes) (hzs : z.cells.size = size) (hsz : 0 < size)
   (s : Sl) (n : Nat) (xs : List Value) (hx : a.eval x = .slice s.A s.n s.c) (hown : Row w base E size s n xs) (gy : Nat) (news : List Value) (hy : a.eval y = .slice (some ⟨gy, 0, none⟩) 1 1) (hl : news.length = size)
   (hnews : ∀ j u, news[j]? = some u -> w.cell? ⟨gy, j, none⟩ = some u) (h1 : ∀ u ∈ news, u.oneCell' = true) (h63 : n < 1000000) (hb1 : bytes <= 1000) (hb : base <= w.heap.size)
   (hk : ∀ s' w', Row w' base E size s' (n + 1) (xs ++ news) -> Only (bl s) w w' -> (∀ g, bl s' g -> bl s g \/ g = w.heap.size) -> wpList Tryz.prog ops Q rest (a.put o.dst (.slice s'.A s'.n s'.c)) w') : wpList Tryz.prog ops Q (o :: rest) a w :=
 wpList_plain hgd fun _ hK => wp_app2 x y t ho base E i z size bytes ht hi hz hsize hby hzs hsz s n xs hx hown gy news hy hl hnews h1 h63 hb1 hb fun s' w' h2 h3 h4 => hK _ _ (hk s' w' h2 h3 h4)
theorem f_cell : (Tryz.prog.info? 107).map (fun i => (i.zero, i.size, i.bytes)) = some (some (.agg #[.int .i64 0, .int .u32 0, .int .i64 0, .int .i64 0, .int .i64 0, .int .u64 0, .int .u64 0, .int .u64 0, .int .u64 0, .int .i64 0, .slice none 0 0, .bool false, .int .u64 0, .int .u64 0, .int .i64 0, .int .u32 0, .int .i64 0, .int .i64 0, .int .i64 0, .int .i64 0, .int .u64 0, .int .u64 0, .int .i64 0, .int .u32 0]), 24, 208) := by kernel_rfl
theorem int_cell : (Tryz.prog.info? 3).map (fun i => (i.zero, i.size, i.bytes)) = some (some (.int .i64 0), 1, 8) := by kernel_rfl
def New3 (w : World) (k : Int) (K T M : Nat) (e : Ending) (w' : World) : Prop :=
 ∃ (gR gO gC gA co cc ca : Nat) (r : R) (cO cC cA : Array Value), e = .returned (.pointer (some ⟨gR, 0, none⟩)) /\ Ir w' w.heap.size gR gO gC gA co cc ca k K T M r nilS nilS cO cC cA (List.replicate T nilS) (RS.first (newM k K T M) T) /\ Below w.heap.size w w'
set_option maxHeartbeats 4000000 in
theorem new3_c (w : World) (k : Int) (K T M : Nat) (k1 : 1 <= k) (k2 : k <= 3) (a1 : 1 <= K) (a2 : K <= 64) (t1 : 1 <= T) (t2 : T <= 8) (m1 : 2 <= M) (m2 : M <= 64) :
   Calls Tryz.prog 46 #[.agg #[.int .i64 k, .int .i64 K, .int .i64 T, .int .i64 M]] w (New3 w k K T M) := by
 have C0 : Hid (Blk (w.alloc (.cells #[.int .i64 k, .int .i64 K, .int .i64 T, .int .i64 M] 23)) w.heap.size 23 #[.int .i64 k, .int .i64 K, .int .i64 T, .int .i64 M]) := lh (Blk.new _ _ _)
 have B0 : Hid (Below w.heap.size w (w.alloc (.cells #[.int .i64 k, .int .i64 K, .int .i64 T, .int .i64 M] 23))) := lh ((Below.refl _ _).alloc (Nat.le_refl _) _)
 go_enter Tryz.func46, Tryz.ntmps46
 go_upto_region 1 with fail
 generalize (w.alloc (.cells #[.int .i64 k, .int .i64 K, .int .i64 T, .int .i64 M] 23)) = V at C0 B0 ⊢
 refine Zreg.begin_ (S := (fun w' => ∀ j, w'.cell? ⟨w.heap.size, j, none⟩ = (#[.int .i64 k, .int .i64 K, .int .i64 T, .int .i64 M] : Array Value)[j]?)) (zs := []) (by kernel_rfl) ?_
 show Zreg.After _ _ _ _ _ _ 6 #[false, false, false, false, false, false] _ _
 refine Zreg.tS 0 5 (x := ?xn_0) rfl rfl (by kernel_rfl) (fun _ _ _ h => h) (.inr C0.out.drew.cell) (Or.inl ⟨by rfl, ?yn_0⟩) ?rn_0
 case yn_0 => (intro w hSw; (try dsimp only at hSw); go_simp <;> with_reducible rfl)
 simp only [uA, sZ, uC]
 refine Zreg.tS 1 6 (x := ?xn_1) rfl rfl (by kernel_rfl) (fun _ _ _ h => h) (.inr C0.out.drew.cell) (Or.inl ⟨by rfl, ?yn_1⟩) ?rn_1
 case yn_1 => (intro w hSw; (try dsimp only at hSw); go_simp <;> with_reducible rfl)
 simp only [uA, sZ, uC]
 refine Zreg.one 2 (by kernel_rfl) rfl rfl fun K_ hK => ?_
 go_simp
 go_at_call 58
 (with_reducible refine (refnew_yes V.drew k K T M k1 k2 a1 a2 t1 t2 m1 m2).mono ?_)
 rintro e w6 ⟨r2, rfl, hs2, hm2, h52, hb2⟩
 have D6 : Hid (Below V.heap.size V w6) := lh ((Below.refl _ _).drew.trans hb2)
 have R6 := lh (h52.rm hs2 hm2)
 have O6 : Hid (∀ b, b < V.heap.size -> Off r2 b) := lh (fun b hb => five_off h52 hb)
 clear hs2 hm2 h52 hb2
 refine hK.out _ _ (.inr (C0.out.below D6.out C0.out.lt).cell) fun _ => ?_
 clear hK
 simp only [uA, sZ, uC]
 refine Zreg.tP 3 8 (x := ?xn_3) rfl rfl (by kernel_rfl) (fun _ _ _ h => h) (.inr (C0.out.below D6.out C0.out.lt).cell) (Or.inl ⟨by rfl, ?yn_3⟩) ?rn_3
 case yn_3 => (intro w _; go_simp <;> with_reducible rfl)
 simp only [uA, sZ, uC]
 refine Zreg.one 4 (by kernel_rfl) rfl rfl fun K_ hK => ?_
 go_simp
 refine hK.out _ _ (.inr ((C0.out.below D6.out C0.out.lt).alloc _).cell) fun _ => ?_
 clear hK
 simp only [uA, sZ, uC]
 refine Zreg.tP 5 3 (x := ?xn_5) rfl rfl (by kernel_rfl) (fun _ _ _ h => h) (.inr ((C0.out.below D6.out C0.out.lt).alloc _).cell) (Or.inl ⟨by rfl, ?yn_5⟩) ?rn_5
 case yn_5 => (intro w _; go_simp <;> with_reducible rfl)
 simp only [uA, sZ, uC]
 refine Zreg.done (by kernel_rfl) ?_ _
 have N0 : Hid (Nr (w6.alloc (.cells #[.int .i64 k, .int .i64 K, .int .i64 T, .int .i64 M, .int .u64 r2.e, .int .u64 r2.f, .slice r2.L.A r2.L.n r2.L.c, .slice r2.P.A r2.P.n r2.P.c, .int .u64 r2.h, .int .u64 r2.t, .slice r2.K.A r2.K.n r2.K.c, .slice r2.X.A r2.X.n r2.X.c, .slice r2.S.A r2.S.n r2.S.c, .slice none 0 0, .slice none 0 0, .slice none 0 0, .slice none 0 0, .slice none 0 0, .int .u64 0, .int .u64 0, .slice none 0 0, .slice none 0 0, .int .u64 0, .int .u64 0, .slice none 0 0, .slice none 0 0, .slice none 0 0] 104)) w.heap.size w6.heap.size k K T M r2 (newM k K T M) nilS nilS nilS 0 0 0) := lh ⟨Blk.new _ _ _, row_nil _ _ _ _, row_nil _ _ _ _, row_nil _ _ _ _, (fun g hg => by obtain ⟨_, e, _⟩ := hg; cases e), (R6.out.alloc (Nat.le_refl _) _).more (by simp), (fun b hb => by
   rcases hb with e | ⟨_, e, _⟩ | ⟨_, e, _⟩ | ⟨_, e, _⟩
   · rw [e]; exact off_rm R6.out (Nat.le_refl _)
   · cases e
   · cases e
   · cases e), (fun b hb => O6.out b (Nat.lt_of_lt_of_le hb B0.out.size)), ⟨Nat.le_trans (Nat.le_trans B0.out.size D6.out.size) (by simp), Nat.le_trans B0.out.size D6.out.size⟩⟩
 have C1 := lh ((C0.out.below D6.out C0.out.lt).alloc (.cells #[.int .i64 k, .int .i64 K, .int .i64 T, .int .i64 M, .int .u64 r2.e, .int .u64 r2.f, .slice r2.L.A r2.L.n r2.L.c, .slice r2.P.A r2.P.n r2.P.c, .int .u64 r2.h, .int .u64 r2.t, .slice r2.K.A r2.K.n r2.K.c, .slice r2.X.A r2.X.n r2.X.c, .slice r2.S.A r2.S.n r2.S.c, .slice none 0 0, .slice none 0 0, .slice none 0 0, .slice none 0 0, .slice none 0 0, .int .u64 0, .int .u64 0, .slice none 0 0, .slice none 0 0, .int .u64 0, .int .u64 0, .slice none 0 0, .slice none 0 0, .slice none 0 0] 104))
 have B1 := lh ((B0.out.trans (D6.out.mono B0.out.size)).alloc (Nat.le_trans B0.out.size D6.out.size) (.cells #[.int .i64 k, .int .i64 K, .int .i64 T, .int .i64 M, .int .u64 r2.e, .int .u64 r2.f, .slice r2.L.A r2.L.n r2.L.c, .slice r2.P.A r2.P.n r2.P.c, .int .u64 r2.h, .int .u64 r2.t, .slice r2.K.A r2.K.n r2.K.c, .slice r2.X.A r2.X.n r2.X.c, .slice r2.S.A r2.S.n r2.S.c, .slice none 0 0, .slice none 0 0, .slice none 0 0, .slice none 0 0, .slice none 0 0, .int .u64 0, .int .u64 0, .slice none 0 0, .slice none 0 0, .int .u64 0, .int .u64 0, .slice none 0 0, .slice none 0 0, .slice none 0 0] 104))
 generalize w6.heap.size = gR at N0 ⊢
 generalize w6.alloc (.cells #[.int .i64 k, .int .i64 K, .int .i64 T, .int .i64 M, .int .u64 r2.e, .int .u64 r2.f, .slice r2.L.A r2.L.n r2.L.c, .slice r2.P.A r2.P.n r2.P.c, .int .u64 r2.h, .int .u64 r2.t, .slice r2.K.A r2.K.n r2.K.c, .slice r2.X.A r2.X.n r2.X.c, .slice r2.S.A r2.S.n r2.S.c, .slice none 0 0, .slice none 0 0, .slice none 0 0, .slice none 0 0, .slice none 0 0, .int .u64 0, .int .u64 0, .slice none 0 0, .slice none 0 0, .int .u64 0, .int .u64 0, .slice none 0 0, .slice none 0 0, .slice none 0 0] 104) = V1 at N0 C1 B1 ⊢
 clear C0 B0 D6 R6 O6
 go_wp2
 go_loopw [4] (fun n wr => ∃ (i : Nat) (sO sC sA : Sl), n = .int .i64 i /\ i <= T /\ Nr wr w.heap.size gR k K T M r2 (newM k K T M) sO sC sA i i i /\ Blk wr w.heap.size 23 #[.int .i64 k, .int .i64 K, .int .i64 T, .int .i64 M] /\ Below w.heap.size w wr) (fun n _ => T - (intOf n).toNat)
 case atStart => exact ⟨0, nilS, nilS, nilS, rfl, Nat.zero_le _, N0.out, C1.out, B1.out⟩
 case round =>
 clear N0 C1 B1
 obtain ⟨i, sO, sC, sA, rfl, hi, hn, hcb, hb⟩ := hrel
 have N0 := lh hn
 have C0 := lh hcb
 have B0 := lh hb
 clear hn hcb hb
 generalize wr = V0 at N0 C0 B0 ⊢
 have i0 : (0 : Int) <= i := Int.natCast_nonneg _
 by_cases hlt : i < T
 · have i1 : (i : Int) < T := Int.ofNat_lt.2 hlt
   have hr0 := N0.out.hR.cell
   have hf0 := N0.out.hR.frozen
   have hcf0 := C0.out.cell
   obtain ⟨j0, hj0, hjz0, hjz1, hjz2⟩ := info_parts f_cell
   go_upto_region 6 with (at_builtin; refine wpList_app2 rfl _ _ 101 rfl w.heap.size 107 j0 _ 24 208 Tryz.underlying101 hj0 hjz0 hjz1 hjz2 rfl (by decide) sO i (flatN i) rfl (Row.alloc N0.out.hO (.cells zF 107)) V0.heap.size [.int .i64 0, .int .u32 0, .int .i64 0, .int .i64 0, .int .i64 0, .int .u64 0, .int .u64 0, .int .u64 0, .int .u64 0, .int .i64 0, .slice none 0 0, .bool false, .int .u64 0, .int .u64 0, .int .i64 0, .int .u32 0, .int .i64 0, .int .i64 0, .int .i64 0, .int .i64 0, .int .u64 0, .int .u64 0, .int .i64 0, .int .u32 0] rfl rfl (fun j u hj => (Blk.cell (blk_at rfl) j).trans (by simpa using hj)) (by simp [Value.oneCell']) (Nat.lt_of_lt_of_le hlt (Nat.le_trans t2 (by decide))) (by decide) (Nat.le_trans N0.out.low.1 (by simp)) ?_; intro sO9 w7 hr7 ho7 hw7; go_must (have R7 := lh (Blk.only (N0.out.hR.alloc (.cells zF 107)) ho7 (fun hg => Row.ne N0.out.hO N0.out.hR (by decide) _ hg rfl)); have S7 := lh hr7; have A7 : Hid (Only (fun g => g = gR \/ bl sO g) V0 w7) := lh (Only.next ((Only.refl (fun g => g = gR \/ bl sO g) V0).alloc (.cells zF 107)) ho7 (fun k _ h => .inr h)); have L7 : Hid (∀ g, bl sO9 g -> bl sO g \/ V0.heap.size <= g) := lh (fun g hg => (hw7 g hg).imp_right (fun e => by rw [e]; show V0.heap.size <= (V0.alloc (.cells zF 107)).heap.size; simp)); have hc7 := R7.out.cell; have hf7 := R7.out.frozen); clear hr7 ho7 hw7 hr0 hf0)
   have O7 := lh (Only.set_ A7.out ⟨gR, 13, none⟩ (.inl (.inl rfl)) (.slice sO9.A sO9.n sO9.c))
   have N1 := lh (Nr.ond N0.out O7.out (by have h_ := Blk.set_ R7.out 13 (.slice sO9.A sO9.n sO9.c); simpa only [uA, sZ, uC] using h_) (Row.kept S7.out (fun g hg => Below.heap_setCell _ _ _ _ (Row.ne S7.out R7.out (by decide) g hg))) L7.out)
   have C1 := lh (Blk.only C0.out O7.out (fun e => by
     rcases e with e | e
     · exact Blk.ne C0.out N0.out.hR (by decide) e
     · exact Row.ne N0.out.hO C0.out (by decide) _ e rfl))
   have B1 := lh (B0.out.trans (Only.below O7.out N0.out.low.1 (fun g hg => by
     rcases hg with hg | hg
     · rw [hg]; exact N0.out.low.2
     · exact (Row.lt N0.out.hO hg).1)))
   clear hc7 hf7 R7 S7 A7 L7 O7 hcf0 hj0 hjz0 hjz1 hjz2
   generalize w7.setCell ⟨gR, 13, none⟩ (.slice sO9.A sO9.n sO9.c) = V1 at N1 C1 B1 ⊢
   have hr1 := N1.out.hR.cell
   have hf1 := N1.out.hR.frozen
   have hcf1 := C1.out.cell
   obtain ⟨j1, hj1, hjz0, hjz1, hjz2⟩ := info_parts int_cell
   go_upto_region 7 with (at_builtin; refine wpList_app2 rfl _ _ 102 rfl w.heap.size 3 j1 _ 1 8 Tryz.underlying102 hj1 hjz0 hjz1 hjz2 rfl (by decide) sC i (List.replicate i (.int .i64 (-1))) rfl (Row.alloc N1.out.hC (.cells #[.int .i64 (-1)] 3)) V1.heap.size [.int .i64 (-1)] rfl rfl (fun j u hj => (Blk.cell (blk_at rfl) j).trans (by simpa using hj)) (by simp [Value.oneCell']) (Nat.lt_of_lt_of_le hlt (Nat.le_trans t2 (by decide))) (by decide) (Nat.le_trans N1.out.low.1 (by simp)) ?_; intro sC9 w7 hr7 ho7 hw7; go_must (have R7 := lh (Blk.only (N1.out.hR.alloc (.cells #[.int .i64 (-1)] 3)) ho7 (fun hg => Row.ne N1.out.hC N1.out.hR (by decide) _ hg rfl)); have S7 := lh hr7; have A7 : Hid (Only (fun g => g = gR \/ bl sC g) V1 w7) := lh (Only.next ((Only.refl (fun g => g = gR \/ bl sC g) V1).alloc (.cells #[.int .i64 (-1)] 3)) ho7 (fun k _ h => .inr h)); have L7 : Hid (∀ g, bl sC9 g -> bl sC g \/ V1.heap.size <= g) := lh (fun g hg => (hw7 g hg).imp_right (fun e => by rw [e]; show V1.heap.size <= (V1.alloc (.cells #[.int .i64 (-1)] 3)).heap.size; simp)); have hc7 := R7.out.cell; have hf7 := R7.out.frozen); clear hr7 ho7 hw7 hr1 hf1)
   have O7 := lh (Only.set_ A7.out ⟨gR, 14, none⟩ (.inl (.inl rfl)) (.slice sC9.A sC9.n sC9.c))
   have N2 := lh (Nr.calld N1.out O7.out (by have h_ := Blk.set_ R7.out 14 (.slice sC9.A sC9.n sC9.c); simpa only [uA, sZ, uC] using h_) (Row.kept S7.out (fun g hg => Below.heap_setCell _ _ _ _ (Row.ne S7.out R7.out (by decide) g hg))) L7.out)
   have C2 := lh (Blk.only C1.out O7.out (fun e => by
     rcases e with e | e
     · exact Blk.ne C1.out N1.out.hR (by decide) e
     · exact Row.ne N1.out.hC C1.out (by decide) _ e rfl))
   have B2 := lh (B1.out.trans (Only.below O7.out N1.out.low.1 (fun g hg => by
     rcases hg with hg | hg
     · rw [hg]; exact N1.out.low.2
     · exact (Row.lt N1.out.hC hg).1)))
   clear hc7 hf7 R7 S7 A7 L7 O7 hcf1 hj1 hjz0 hjz1 hjz2
   generalize w7.setCell ⟨gR, 14, none⟩ (.slice sC9.A sC9.n sC9.c) = V2 at N2 C2 B2 ⊢
   have hr2 := N2.out.hR.cell
   have hf2 := N2.out.hR.frozen
   have hcf2 := C2.out.cell
   obtain ⟨j2, hj2, hjz0, hjz1, hjz2⟩ := info_parts int_cell
   go_upto_region 4 with (at_builtin; refine wpList_app2 rfl _ _ 102 rfl w.heap.size 3 j2 _ 1 8 Tryz.underlying102 hj2 hjz0 hjz1 hjz2 rfl (by decide) sA i (List.replicate i (.int .i64 0)) rfl (Row.alloc N2.out.hA (.cells #[.int .i64 0] 3)) V2.heap.size [.int .i64 0] rfl rfl (fun j u hj => (Blk.cell (blk_at rfl) j).trans (by simpa using hj)) (by simp [Value.oneCell']) (Nat.lt_of_lt_of_le hlt (Nat.le_trans t2 (by decide))) (by decide) (Nat.le_trans N2.out.low.1 (by simp)) ?_; intro sA9 w7 hr7 ho7 hw7; go_must (have R7 := lh (Blk.only (N2.out.hR.alloc (.cells #[.int .i64 0] 3)) ho7 (fun hg => Row.ne N2.out.hA N2.out.hR (by decide) _ hg rfl)); have S7 := lh hr7; have A7 : Hid (Only (fun g => g = gR \/ bl sA g) V2 w7) := lh (Only.next ((Only.refl (fun g => g = gR \/ bl sA g) V2).alloc (.cells #[.int .i64 0] 3)) ho7 (fun k _ h => .inr h)); have L7 : Hid (∀ g, bl sA9 g -> bl sA g \/ V2.heap.size <= g) := lh (fun g hg => (hw7 g hg).imp_right (fun e => by rw [e]; show V2.heap.size <= (V2.alloc (.cells #[.int .i64 0] 3)).heap.size; simp)); have hc7 := R7.out.cell; have hf7 := R7.out.frozen); clear hr7 ho7 hw7 hr2 hf2)
   have O7 := lh (Only.set_ A7.out ⟨gR, 15, none⟩ (.inl (.inl rfl)) (.slice sA9.A sA9.n sA9.c))
   have N3 := lh (Nr.atd N2.out O7.out (by have h_ := Blk.set_ R7.out 15 (.slice sA9.A sA9.n sA9.c); simpa only [uA, sZ, uC] using h_) (Row.kept S7.out (fun g hg => Below.heap_setCell _ _ _ _ (Row.ne S7.out R7.out (by decide) g hg))) L7.out)
   have C3 := lh (Blk.only C2.out O7.out (fun e => by
     rcases e with e | e
     · exact Blk.ne C2.out N2.out.hR (by decide) e
     · exact Row.ne N2.out.hA C2.out (by decide) _ e rfl))
   have B3 := lh (B2.out.trans (Only.below O7.out N2.out.low.1 (fun g hg => by
     rcases hg with hg | hg
     · rw [hg]; exact N2.out.low.2
     · exact (Row.lt N2.out.hA hg).1)))
   clear hc7 hf7 R7 S7 A7 L7 O7 hcf2 hj2 hjz0 hjz1 hjz2
   generalize w7.setCell ⟨gR, 15, none⟩ (.slice sA9.A sA9.n sA9.c) = V3 at N3 C3 B3 ⊢

   go_wp2
   go_roundw
   case rel => exact ⟨i + 1, sO9, sC9, sA9, by go_num, hlt, N3.out, C3.out, B3.out⟩
   case measure => simp [intOf]; omega
 · have hT : ¬ (i : Int) < T := by omega
   obtain rfl : i = T := by omega
   have hcf := C0.out.cell
   go_wp2
   go_ret
   obtain ⟨gO, gC, gA, co, cc, ca, cO, cC, cA, hI⟩ := N0.out.ir t1 t2 (newM_few k K i M a2 t2 m2)
   exact ⟨gR, gO, gC, gA, co, cc, ca, r2, cO, cC, cA, rfl, hI, B0.out⟩

end Go.Proofs.YtffppdcpiieapaaGreat.Machc

namespace Go.Proofs.YtffppdcpiieapaaGreat.Machc
open Go.RowKit Memc Refc Drivec Procc
set_option linter.unusedVariables false
set_option maxRecDepth 100000

def raw99 (a : Acc) : FS := { FS.none with pc := 99, raw := a }
def askR (f : FS) : Acc := f.raw
def tellR (f : FS) (was : Int) (dn : Bool) : FS := { f with out := num dn, pc := 0 }
def turnR (ls : List (List Acc)) (s : RS) (t : Nat) (a : Acc) : RS := goR askR tellR (begR s t (raw99 a) 0 0) t
structure Sim (ls : List (List Acc)) (d : D) (s : RS) : Prop where
 len : d.left.length = ls.length /\ s.on.length = ls.length /\ s.at_.length = ls.length
 left : ∀ (t : Nat) (l : List Acc), ls[t]? = some l -> ∃ n : Nat, n <= l.length /\ s.at_[t]? = some (n : Int) /\ d.left[t]? = some (l.drop n)
 m : s.m = d.m
 steps : s.steps = d.steps
 calls : s.calls = d.calls.map Cl.ck
 call : s.call = List.replicate ls.length (-1)
end Go.Proofs.YtffppdcpiieapaaGreat.Machc

namespace Go.Proofs.YtffppdcpiieapaaGreat.Machc
open Go.RowKit Memc Refc
set_option linter.unusedVariables false
set_option maxRecDepth 100000

end Go.Proofs.YtffppdcpiieapaaGreat.Machc

namespace Go.Proofs.YtffppdcpiieapaaGreat.Machc
open Go.RowKit Memc Refc Drivec Procc
set_option linter.unusedVariables false
set_option maxRecDepth 100000

theorem setsA_all (cs : Array Value) (vs : List Value) (h : vs.length = cs.size) : setsA cs 0 vs = vs.toArray := by
 apply Array.ext_getElem?
 intro i
 by_cases hi : i < vs.length
 · have := setsA_in vs cs 0 i vs[i] (by omega) (List.getElem?_eq_getElem hi)
   rw [Nat.zero_add] at this
   rw [this, List.getElem?_toArray, List.getElem?_eq_getElem hi]
 · rw [Array.getElem?_eq_none (by rw [setsA_size]; omega), List.getElem?_toArray, List.getElem?_eq_none (by omega)]
theorem res24 {w : World} {g : Nat} {f : FS} {q : Sl} (h : w.rangeAt g 0 (f.v q)) : (loadVar 107 ⟨g, 0, none⟩).run Tryz.prog w = .ok (.agg (f.v q).toArray) w := run_loadVar_mid w g 0 107 (f.v q) _ h Tryz.underlying107 rfl f_size
theorem Blk.f24 {w : World} {g : Nat} {cs : Array Value} (h : Blk w g 107 cs) (hs : cs.size = 24) (f : FS) (q : Sl) : Blk (w.setCells g 0 (f.v q)) g 107 (f.v q).toArray := by
 have h_ := Blk.sets (f.v q) w 0 cs h
 rw [setsA_all cs (f.v q) (by rw [hs]; rfl)] at h_
 exact h_
theorem results_cell1 {P : Program} {fn : Func} {tmps : Array Value} {w : World} {a : Nat} {t : TypeId} {p : Addr} {v : Value} (hf : fn.results = #[.cell a t]) (ht : tmps.getD a undef = .pointer (some p)) (hl : (loadVar t p).run P w = .ok v w) : (results fn tmps).run P w = .ok v w := by
 have e : (do let x <- asAddr (tmps.getD a undef); loadVar t x : Sem Value) = loadVar t p := by rw [ht]; rfl
 unfold results
 rw [hf]
 simp only [List.mapM_toArray, List.mapM_cons, List.mapM_nil, e]
 generalize loadVar t p = L at hl
 simp [hl, go_sem]
theorem results_cell2 {P : Program} {fn : Func} {tmps : Array Value} {w : World} {a b : Nat} {t : TypeId} {p : Addr} {v : Value} (hf : fn.results = #[.cell a t, .tmp b]) (ht : tmps.getD a undef = .pointer (some p)) (hl : (loadVar t p).run P w = .ok v w) : (results fn tmps).run P w = .ok (.tuple #[v, tmps.getD b undef]) w := by
 have e : (do let x <- asAddr (tmps.getD a undef); loadVar t x : Sem Value) = loadVar t p := by rw [ht]; rfl
 unfold results
 rw [hf]
 simp only [List.mapM_toArray, List.mapM_cons, List.mapM_nil, e]
 generalize loadVar t p = L at hl
 simp [hl, go_sem]
set_option maxHeartbeats 2000000 in
theorem to_c (w : World) (f : FS) (q : Sl) (p : Int) :
   Calls Tryz.prog 78 #[.agg (f.v q).toArray, .int .i64 p] w fun e w' => e = .returned (.agg ((({ f with pc := p } : FS).v q)).toArray) /\ Below w.heap.size w w' := by
 have B0 : Hid (Below w.heap.size w ((w.alloc (.cells (f.v q).toArray 107)).alloc (.cells zF 107))) := lh (((Below.refl _ _).alloc (Nat.le_refl _) _).alloc (by simp) _)
 have F0 : Hid (Blk ((w.alloc (.cells (f.v q).toArray 107)).alloc (.cells zF 107)) w.heap.size 107 (f.v q).toArray) := lh ((Blk.new _ _ _).alloc _)
 have Z0 : Hid (Blk ((w.alloc (.cells (f.v q).toArray 107)).alloc (.cells zF 107)) (w.heap.size + 1) 107 #[.int .i64 0, .int .u32 0, .int .i64 0, .int .i64 0, .int .i64 0, .int .u64 0, .int .u64 0, .int .u64 0, .int .u64 0, .int .i64 0, .slice none 0 0, .bool false, .int .u64 0, .int .u64 0, .int .i64 0, .int .u32 0, .int .i64 0, .int .i64 0, .int .i64 0, .int .i64 0, .int .u64 0, .int .u64 0, .int .i64 0, .int .u32 0]) := lh (blk_at (by simp))
 obtain ⟨f', hf'⟩ : ∃ f' : FS, f' = { f with pc := p } := ⟨_, rfl⟩
 go_enter Tryz.func78, Tryz.ntmps78
 go_upto_region 1 with fail
 generalize ((w.alloc (.cells (f.v q).toArray 107)).alloc (.cells zF 107)) = V at B0 F0 Z0 ⊢
 have hf0 := F0.out.cell
 have hf0f := F0.out.frozen
 go_upto_region 2 with fail
 have F1 : Hid (Blk (V.setCell ⟨w.heap.size, 4, none⟩ (.int .i64 p)) w.heap.size 107 (((f'.v q)).toArray)) := lh (by
   have h_ := F0.out.set_ 4 (.int .i64 p)
   rw [hf']; simpa only [FS.v, List.setIfInBounds_toArray, List.set_cons_zero, List.set_cons_succ] using h_)
 have Z1 := lh (Z0.out.far (p := ⟨w.heap.size, 4, none⟩) (show ¬ w.heap.size + 1 = w.heap.size by omega) (.int .i64 p))
 have B1 := lh (Below.setCell B0.out (p := ⟨w.heap.size, 4, none⟩) (Nat.le_refl _) (.int .i64 p))
 clear hf0 hf0f F0 Z0 B0
 generalize V.setCell ⟨w.heap.size, 4, none⟩ (.int .i64 p) = V1 at F1 Z1 B1 ⊢
 refine wp_region_lit ?_
 refine wpList_load_mid rfl 107 (.tmp 2) rfl w.heap.size 0 (by simp [Act.eval]) (f'.v q) _ (range24 F1.out (fun j v hj => by rw [Nat.zero_add]; simpa using hj)) Tryz.underlying107 rfl f_size ?_
 refine wpList_store_mid rfl 107 (.tmp 4) (.tmp 7) rfl (w.heap.size + 1) 0 ((f'.v q)).toArray (by simp [Act.eval, Act.put]) (by simp [Act.eval, Act.put]) (there24 Z1.out (by decide)) f_size (FS.one _ _) ?_
 have R9 := res24 (World.rangeAt_setCells_same V1 (w.heap.size + 1) 0 (f'.v q) (there24 Z1.out (by decide)))
 have B9 := Only.below (Only.sets (P := fun g => w.heap.size <= g) (g := w.heap.size + 1) (.inl (by omega)) (f'.v q) V1 0 (Only.of_below B1.out (Nat.le_refl _))) (Nat.le_refl _) (fun k h => h)
 have ez : ((f'.v q)).toArray.toList = (f'.v q) := rfl
 rw [ez]
 generalize V1.setCells (w.heap.size + 1) 0 (f'.v q) = V2 at R9 B9 ⊢
 go_wp2
 refine bodyPost_ret (v := .agg (f'.v q).toArray) (results_cell1 (a := 4) Tryz.results78 rfl R9) rfl ?_
 exact ⟨by rw [hf'], B9⟩
end Go.Proofs.YtffppdcpiieapaaGreat.Machc

namespace Go.Proofs.YtffppdcpiieapaaGreat.Machc
open Go.RowKit Memc Newc
set_option linter.unusedVariables false
set_option maxRecDepth 100000

theorem may3_cfg (w : World) (k K T M a b : Int) (p : Sl) (h : ¬ (Cfg.mk k K T M).may) :
   Calls Tryz.prog 44 #[.agg #[.int .i64 k, .int .i64 K, .int .i64 T, .int .i64 M], .int .i64 a, .int .i64 b, .slice p.A p.n p.c] w (Tells w false) := by
 have B0 : Hid (Below w.heap.size w (w.alloc (.cells #[.int .i64 k, .int .i64 K, .int .i64 T, .int .i64 M] 23))) := lh ((Below.refl _ _).alloc (Nat.le_refl _) _)
 have C0 : Hid (Blk (w.alloc (.cells #[.int .i64 k, .int .i64 K, .int .i64 T, .int .i64 M] 23)) w.heap.size 23 #[.int .i64 k, .int .i64 K, .int .i64 T, .int .i64 M]) := lh (Blk.new _ _ _)
 go_enter Tryz.func44, Tryz.ntmps44
 go_wp2_with (go_at_call 57; (with_reducible refine (refmay_no _ k K T M h).mono ?_); rintro e w1 ⟨rfl, hb⟩; go_must (have B1 := lh (B0.out.trans (hb.mono B0.out.size)); have C1 := lh (C0.out.below hb C0.out.lt)); have hc1 := C1.out.cell; clear hb)
 go_ret
 exact ⟨rfl, B1.out⟩
theorem may3_lists (w : World) (k K T M a b : Int) (p : Sl) (hm : (Cfg.mk k K T M).may) (h : a ≠ T) :
   Calls Tryz.prog 44 #[.agg #[.int .i64 k, .int .i64 K, .int .i64 T, .int .i64 M], .int .i64 a, .int .i64 b, .slice p.A p.n p.c] w (Tells w false) := by
 obtain ⟨⟨k1, k2⟩, ⟨a1, a2⟩, ⟨t1, t2⟩, ⟨m1, m2⟩⟩ := hm
 simp only at k1 k2 a1 a2 t1 t2 m1 m2
 have e1 : (a == T) = false := beq_false_of_ne h
 have B0 : Hid (Below w.heap.size w (w.alloc (.cells #[.int .i64 k, .int .i64 K, .int .i64 T, .int .i64 M] 23))) := lh ((Below.refl _ _).alloc (Nat.le_refl _) _)
 have C0 : Hid (Blk (w.alloc (.cells #[.int .i64 k, .int .i64 K, .int .i64 T, .int .i64 M] 23)) w.heap.size 23 #[.int .i64 k, .int .i64 K, .int .i64 T, .int .i64 M]) := lh (Blk.new _ _ _)
 go_enter Tryz.func44, Tryz.ntmps44
 go_wp2_with (go_at_call 57; (with_reducible refine (refmay_yes _ k K T M k1 k2 a1 a2 t1 t2 m1 m2).mono ?_); rintro e w1 ⟨rfl, hb⟩; go_must (have B1 := lh (B0.out.trans (hb.mono B0.out.size)); have C1 := lh (C0.out.below hb C0.out.lt)); have hc1 := C1.out.cell; clear hb)
 go_ret
 exact ⟨rfl, B1.out⟩
theorem may3_long (w : World) (k K T M a b : Int) (p : Sl) (hm : (Cfg.mk k K T M).may) (h1 : a = T) (h : ¬ b <= 1000) :
   Calls Tryz.prog 44 #[.agg #[.int .i64 k, .int .i64 K, .int .i64 T, .int .i64 M], .int .i64 a, .int .i64 b, .slice p.A p.n p.c] w (Tells w false) := by
 obtain ⟨⟨k1, k2⟩, ⟨a1, a2⟩, ⟨t1, t2⟩, ⟨m1, m2⟩⟩ := hm
 simp only at k1 k2 a1 a2 t1 t2 m1 m2
 have e1 : (a == T) = true := by rw [h1]; exact beq_self_eq_true T
 clear h1
 have B0 : Hid (Below w.heap.size w (w.alloc (.cells #[.int .i64 k, .int .i64 K, .int .i64 T, .int .i64 M] 23))) := lh ((Below.refl _ _).alloc (Nat.le_refl _) _)
 have C0 : Hid (Blk (w.alloc (.cells #[.int .i64 k, .int .i64 K, .int .i64 T, .int .i64 M] 23)) w.heap.size 23 #[.int .i64 k, .int .i64 K, .int .i64 T, .int .i64 M]) := lh (Blk.new _ _ _)
 go_enter Tryz.func44, Tryz.ntmps44
 go_wp2_with (go_at_call 57; (with_reducible refine (refmay_yes _ k K T M k1 k2 a1 a2 t1 t2 m1 m2).mono ?_); rintro e w1 ⟨rfl, hb⟩; go_must (have B1 := lh (B0.out.trans (hb.mono B0.out.size)); have C1 := lh (C0.out.below hb C0.out.lt)); have hc1 := C1.out.cell; clear hb)
 go_ret
 exact ⟨rfl, B1.out⟩
theorem may3_picks (w : World) (k K T M a b : Int) (p : Sl) (hm : (Cfg.mk k K T M).may) (h1 : a = T) (h2 : b <= 1000) (h : ¬ p.n <= 20000) :
   Calls Tryz.prog 44 #[.agg #[.int .i64 k, .int .i64 K, .int .i64 T, .int .i64 M], .int .i64 a, .int .i64 b, .slice p.A p.n p.c] w (Tells w false) := by
 obtain ⟨⟨k1, k2⟩, ⟨a1, a2⟩, ⟨t1, t2⟩, ⟨m1, m2⟩⟩ := hm
 simp only at k1 k2 a1 a2 t1 t2 m1 m2
 have e1 : (a == T) = true := by rw [h1]; exact beq_self_eq_true T
 have e3 : ¬ (p.n : Int) <= 20000 := by omega
 clear h1
 have B0 : Hid (Below w.heap.size w (w.alloc (.cells #[.int .i64 k, .int .i64 K, .int .i64 T, .int .i64 M] 23))) := lh ((Below.refl _ _).alloc (Nat.le_refl _) _)
 have C0 : Hid (Blk (w.alloc (.cells #[.int .i64 k, .int .i64 K, .int .i64 T, .int .i64 M] 23)) w.heap.size 23 #[.int .i64 k, .int .i64 K, .int .i64 T, .int .i64 M]) := lh (Blk.new _ _ _)
 go_enter Tryz.func44, Tryz.ntmps44
 go_wp2_with (go_at_call 57; (with_reducible refine (refmay_yes _ k K T M k1 k2 a1 a2 t1 t2 m1 m2).mono ?_); rintro e w1 ⟨rfl, hb⟩; go_must (have B1 := lh (B0.out.trans (hb.mono B0.out.size)); have C1 := lh (C0.out.below hb C0.out.lt)); have hc1 := C1.out.cell; clear hb)
 go_ret
 exact ⟨(by show Ending.returned (Value.bool (decide ((p.n : Int) <= 20000))) = _; rw [decide_eq_false (Int.not_le.2 e3)]), B1.out⟩
theorem may3_yes (w : World) (k K T M a b : Int) (p : Sl) (hm : (Cfg.mk k K T M).may) (h1 : a = T) (h2 : b <= 1000) (h : p.n <= 20000) :
   Calls Tryz.prog 44 #[.agg #[.int .i64 k, .int .i64 K, .int .i64 T, .int .i64 M], .int .i64 a, .int .i64 b, .slice p.A p.n p.c] w (Tells w true) := by
 obtain ⟨⟨k1, k2⟩, ⟨a1, a2⟩, ⟨t1, t2⟩, ⟨m1, m2⟩⟩ := hm
 simp only at k1 k2 a1 a2 t1 t2 m1 m2
 have e1 : (a == T) = true := by rw [h1]; exact beq_self_eq_true T
 have e3 : (p.n : Int) <= 20000 := by omega
 clear h1
 have B0 : Hid (Below w.heap.size w (w.alloc (.cells #[.int .i64 k, .int .i64 K, .int .i64 T, .int .i64 M] 23))) := lh ((Below.refl _ _).alloc (Nat.le_refl _) _)
 have C0 : Hid (Blk (w.alloc (.cells #[.int .i64 k, .int .i64 K, .int .i64 T, .int .i64 M] 23)) w.heap.size 23 #[.int .i64 k, .int .i64 K, .int .i64 T, .int .i64 M]) := lh (Blk.new _ _ _)
 go_enter Tryz.func44, Tryz.ntmps44
 go_wp2_with (go_at_call 57; (with_reducible refine (refmay_yes _ k K T M k1 k2 a1 a2 t1 t2 m1 m2).mono ?_); rintro e w1 ⟨rfl, hb⟩; go_must (have B1 := lh (B0.out.trans (hb.mono B0.out.size)); have C1 := lh (C0.out.below hb C0.out.lt)); have hc1 := C1.out.cell; clear hb)
 go_ret
 exact ⟨rfl, B1.out⟩
theorem may3_no (w : World) (k K T M a b : Int) (p : Sl) (h : ¬ ((Cfg.mk k K T M).may /\ a = T /\ b <= 1000 /\ p.n <= 20000)) :
   Calls Tryz.prog 44 #[.agg #[.int .i64 k, .int .i64 K, .int .i64 T, .int .i64 M], .int .i64 a, .int .i64 b, .slice p.A p.n p.c] w (Tells w false) := by
 by_cases h1 : (Cfg.mk k K T M).may
 · by_cases h2 : a = T
   · by_cases h3 : b <= 1000
     · exact may3_picks w k K T M a b p h1 h2 h3 (fun h4 => h ⟨h1, h2, h3, h4⟩)
     · exact may3_long w k K T M a b p h1 h2 h3
   · exact may3_lists w k K T M a b p h1 h2
 · exact may3_cfg w k K T M a b p h1

end Go.Proofs.YtffppdcpiieapaaGreat.Machc

namespace Go.Proofs.YtffppdcpiieapaaGreat.Machc
open Go.RowKit Memc Newc Drivec
set_option linter.unusedVariables false
set_option maxRecDepth 100000

theorem any_all {ns : List Nat} : (ns.any (fun x => decide (1000 < x)) = false) ↔ ∀ y ∈ ns, y <= 1000 := by
 rw [List.any_eq_false]
 constructor
 · intro h y hy
   have := h y hy
   simpa using this
 · intro h y hy
   have := h y hy
   simp; omega
theorem resTr {w : World} {g : Nat} {cs : Array Value} (h : Blk w g 35 cs) (hs : cs.size = 11) : (loadVar 35 ⟨g, 0, none⟩).run Tryz.prog w = .ok (.agg cs) w := by
 have e : cs = cs.toList.toArray := by simp
 rw [e]
 exact run_loadVar_mid w g 0 35 cs.toList _ (fun j v hj => by rw [Nat.zero_add]; exact (h.cell j).trans (by simpa using hj)) Tryz.underlying35 rfl (by rw [Array.length_toList, hs]; kernel_rfl)
theorem blk_tr {w : World} {g : Nat} (h : Blk w g 35 #[.slice none 0 0, .slice none 0 0, .int .u64 0, .int .u64 0, .slice none 0 0, .slice none 0 0, .int .u64 0, .int .u64 0, .slice none 0 0, .slice none 0 0, .slice none 0 0]) : Blk (((((((((((w.setCell ⟨g, 0, none⟩ (.slice none 0 0)).setCell ⟨g, 1, none⟩ (.slice none 0 0)).setCell ⟨g, 2, none⟩ (.int .u64 0)).setCell ⟨g, 3, none⟩ (.int .u64 0)).setCell ⟨g, 4, none⟩ (.slice none 0 0)).setCell ⟨g, 5, none⟩ (.slice none 0 0)).setCell ⟨g, 6, none⟩ (.int .u64 0)).setCell ⟨g, 7, none⟩ (.int .u64 0)).setCell ⟨g, 8, none⟩ (.slice none 0 0)).setCell ⟨g, 9, none⟩ (.slice none 0 0)).setCell ⟨g, 10, none⟩ (.slice none 0 0)) g 35 #[.slice none 0 0, .slice none 0 0, .int .u64 0, .int .u64 0, .slice none 0 0, .slice none 0 0, .int .u64 0, .int .u64 0, .slice none 0 0, .slice none 0 0, .slice none 0 0] := by
 have h_ := (((((((((((h.set_ 0 (.slice none 0 0)).set_ 1 (.slice none 0 0)).set_ 2 (.int .u64 0)).set_ 3 (.int .u64 0)).set_ 4 (.slice none 0 0)).set_ 5 (.slice none 0 0)).set_ 6 (.int .u64 0)).set_ 7 (.int .u64 0)).set_ 8 (.slice none 0 0)).set_ 9 (.slice none 0 0)).set_ 10 (.slice none 0 0))
 simpa only [uA, sZ, uC] using h_
end Go.Proofs.YtffppdcpiieapaaGreat.Machc
