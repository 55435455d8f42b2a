/- A part of the proof. -/
import Derived.Test.YtffppdcpiieapaaGreatP9
import Derived.Test.YtffppdcpiieapaaGreatP10
import Derived.Test.YtffppdcpiieapaaGreatP14
import Derived.Test.YtffppdcpiieapaaGreatP20
import Derived.Test.YtffppdcpiieapaaGreatP33
namespace Go.Proofs.YtffppdcpiieapaaGreat.Machc
open Go.RowKit Memc Newc Drivec Procc Arenac
set_option linter.unusedVariables false
set_option maxRecDepth 100000

theorem zthree {P : Program} {ops : Array Oper} {Q : Exit -> Act -> World -> Prop} {md : Region.Mode} {S : World -> Prop} {zs : List Nat} (i j k : Nat) {o o' o'' : Oper} {n : Nat} {listed : Array Bool} {a : Act} {w : World} (hr : Region.ready md ops listed = [i, j, k]) (hi : ops[i]? = some o) (hj : ops[j]? = some o') (hk : ops[k]? = some o'') (hg : o.guard = none) (hg' : o'.guard = none) (hg'' : o''.guard = none)
   (h : ∀ K : Act -> World -> Prop, Hid (∀ b v, (Zreg.past zs (listed.setIfInBounds i true) = true \/ S v) -> ((Zreg.past zs (listed.setIfInBounds i true) = true \/ S v) -> Zreg.After P md ops Q S zs n (listed.setIfInBounds i true) b v) -> K b v) -> Oper.wp P o a w K Q)
   (h' : ∀ K : Act -> World -> Prop, Hid (∀ b v, (Zreg.past zs (listed.setIfInBounds j true) = true \/ S v) -> ((Zreg.past zs (listed.setIfInBounds j true) = true \/ S v) -> Zreg.After P md ops Q S zs n (listed.setIfInBounds j true) b v) -> K b v) -> Oper.wp P o' a w K Q)
   (h'' : ∀ K : Act -> World -> Prop, Hid (∀ b v, (Zreg.past zs (listed.setIfInBounds k true) = true \/ S v) -> ((Zreg.past zs (listed.setIfInBounds k true) = true \/ S v) -> Zreg.After P md ops Q S zs n (listed.setIfInBounds k true) b v) -> K b v) -> Oper.wp P o'' a w K Q) : Zreg.After P md ops Q S zs (n + 1) listed a w := by
 refine ⟨(fun h0 => (by rw [h0] at hr; cases hr)), fun m hm => ?_⟩
 rw [hr] at hm
 have hm' : m = i \/ m = j \/ m = k := by simpa using hm
 rcases hm' with hm' | hm' | hm'
 · subst hm'
   unfold wpOp
   rw [hi]
   have hw : Region.wanted o (yielded ops a.tmps) = true := by simp [Region.wanted, hg]
   simp only [hw, if_true]
   exact .inl (h _ (lh fun b v hS hh => ⟨hS, hh hS⟩))
 · subst hm'
   unfold wpOp
   rw [hj]
   have hw : Region.wanted o' (yielded ops a.tmps) = true := by simp [Region.wanted, hg']
   simp only [hw, if_true]
   exact .inl (h' _ (lh fun b v hS hh => ⟨hS, hh hS⟩))
 · subst hm'
   unfold wpOp
   rw [hk]
   have hw : Region.wanted o'' (yielded ops a.tmps) = true := by simp [Region.wanted, hg'']
   simp only [hw, if_true]
   exact .inl (h'' _ (lh fun b v hS hh => ⟨hS, hh hS⟩))
structure AwS (w : World) (a : Nat) (b c d : Bool) (V : World) (g2 g3 gA : Nat) (q : Sl) (r : R) (sS : Sl) (gK cK gL cL : Nat) : Prop where
 C : Blk V w.heap.size 23 #[.int .i64 2, .int .i64 1, .int .i64 1, .int .i64 2]
 O : Blk V (w.heap.size + 1) 46 #[.int .i64 3, .int .u32 0]
 W : Below w.heap.size w V
 B : 1 <= a -> Blk V g2 46 #[.int .i64 6, .int .u32 0, .int .i64 8, .int .u32 1, .int .i64 7, .int .u32 0, .int .i64 3, .int .u32 0, .int .i64 3, .int .u32 0, .int .i64 3, .int .u32 0]
 L : 2 <= a -> Blk V g3 47 #[.slice (some ⟨g2, 0, none⟩) 6 6]
 Q : b = true -> ∃ base, Row V base 70 2 q 40 (flatP (List.replicate 40 (0, 0)))
 T : c = true -> Blk V gA 35 #[.slice none 0 0, .slice none 0 0, .int .u64 0, .int .u64 0, .slice none 0 0, .slice none 0 0, .int .u64 0, .int .u64 0, .slice none 0 0, .slice none 0 0, .slice none 0 0] /\ w.heap.size <= gA
 K : d = true -> ∃ b1, Row V b1 50 7 ⟨some ⟨gK, 0, none⟩, 6, cK⟩ 6 k40
 X : d = true -> ∃ b2, Row V b2 30 1 ⟨some ⟨gL, 0, none⟩, 2, cL⟩ 2 [.int .u64 0, .int .u64 4294967296]
section
variable {w V V' : World} {a : Nat} {b c d : Bool} {g2 g3 gA : Nat} {q : Sl} {r : R} {sS : Sl} {gK cK gL cL : Nat}
theorem AwS.alloc (h : AwS w a b c d V g2 g3 gA q r sS gK cK gL cL) (o : Obj) : AwS w a b c d (V.alloc o) g2 g3 gA q r sS gK cK gL cL :=
 ⟨h.C.alloc o, h.O.alloc o, h.W.alloc h.W.size o, fun x => (h.B x).alloc o, fun x => (h.L x).alloc o, fun x => (h.Q x).imp fun _ y => Row.alloc y o, fun x => ⟨(h.T x).1.alloc o, (h.T x).2⟩, fun x => (h.K x).imp fun _ y => Row.alloc y o, fun x => (h.X x).imp fun _ y => Row.alloc y o⟩
theorem AwS.below (h : AwS w a b c d V g2 g3 gA q r sS gK cK gL cL) (o : Below V.heap.size V V') : AwS w a b c d V' g2 g3 gA q r sS gK cK gL cL :=
 ⟨h.C.below o h.C.lt, h.O.below o h.O.lt, h.W.trans (o.mono h.W.size), fun x => (h.B x).below o (h.B x).lt, fun x => (h.L x).below o (h.L x).lt, fun x => (h.Q x).imp fun _ y => y.below o (Nat.le_refl _), fun x => ⟨(h.T x).1.below o (h.T x).1.lt, (h.T x).2⟩, fun x => (h.K x).imp fun _ y => y.below o (Nat.le_refl _), fun x => (h.X x).imp fun _ y => y.below o (Nat.le_refl _)⟩
theorem AwS.a7 (h : AwS w 0 b c d V g2 g3 gA q r sS gK cK gL cL) : AwS w 1 b c d (V.alloc (.cells #[.int .i64 6, .int .u32 0, .int .i64 8, .int .u32 1, .int .i64 7, .int .u32 0, .int .i64 3, .int .u32 0, .int .i64 3, .int .u32 0, .int .i64 3, .int .u32 0] 46)) V.heap.size g3 gA q r sS gK cK gL cL :=
 have h' := h.alloc (.cells #[.int .i64 6, .int .u32 0, .int .i64 8, .int .u32 1, .int .i64 7, .int .u32 0, .int .i64 3, .int .u32 0, .int .i64 3, .int .u32 0, .int .i64 3, .int .u32 0] 46)
 ⟨h'.C, h'.O, h'.W, fun _ => Blk.new _ _ _, fun x => absurd x (by omega), h'.Q, h'.T, h'.K, h'.X⟩
theorem AwS.a8 (h : AwS w 1 b c d V g2 g3 gA q r sS gK cK gL cL) : AwS w 2 b c d (V.alloc (.cells #[.slice (some ⟨g2, 0, none⟩) 6 6] 47)) g2 V.heap.size gA q r sS gK cK gL cL :=
 have h' := h.alloc (.cells #[.slice (some ⟨g2, 0, none⟩) 6 6] 47)
 ⟨h'.C, h'.O, h'.W, fun _ => h'.B (by omega), fun _ => Blk.new _ _ _, h'.Q, h'.T, h'.K, h'.X⟩
theorem AwS.c9 {base : Nat} {q' : Sl} (h : AwS w a false c d V g2 g3 gA q r sS gK cK gL cL) (hr : Row V' base 70 2 q' 40 (flatP (List.replicate 40 (0, 0)))) (o : Below V.heap.size V V') : AwS w a true c d V' g2 g3 gA q' r sS gK cK gL cL :=
 have h' := h.below o
 ⟨h'.C, h'.O, h'.W, h'.B, h'.L, fun _ => ⟨_, hr⟩, h'.T, h'.K, h'.X⟩
theorem AwS.t14 (h : AwS w a b false d V g2 g3 gA q r sS gK cK gL cL) : AwS w a b true d (V.alloc (.cells zT 35)) g2 g3 V.heap.size q r sS gK cK gL cL :=
 have h' := h.alloc (.cells zT 35)
 ⟨h'.C, h'.O, h'.W, h'.B, h'.L, h'.Q, fun _ => ⟨Blk.new _ _ _, h.W.size⟩, h'.K, h'.X⟩
theorem AwS.r10 {r' : R} {sS' : Sl} {gK' cK' gL' cL' : Nat} (h : AwS w a b c false V g2 g3 gA q r sS gK cK gL cL) (hk : ∃ b1, Row V' b1 50 7 ⟨some ⟨gK', 0, none⟩, 6, cK'⟩ 6 k40) (hx : ∃ b2, Row V' b2 30 1 ⟨some ⟨gL', 0, none⟩, 2, cL'⟩ 2 [.int .u64 0, .int .u64 4294967296]) (o : Below V.heap.size V V') : AwS w a b c true V' g2 g3 gA q r' sS' gK' cK' gL' cL' :=
 have h' := h.below o
 ⟨h'.C, h'.O, h'.W, h'.B, h'.L, h'.Q, h'.T, fun _ => hk, fun _ => hx⟩
end
structure AwI where
 V : World
 g2 : Nat
 g3 : Nat
 gA : Nat
 q : Sl
 r : R
 sS : Sl
 gK : Nat
 cK : Nat
 gL : Nat
 cL : Nat
theorem zkey {P : Program} {md : Region.Mode} {ops : Array Oper} {Q : Exit -> Act -> World -> Prop} {S : World -> Prop} {zs : List Nat} {n : Nat} {listed : Array Bool} {a : Act} {v : World} (w : World) (x : Nat) (b c d : Bool) (m : Nat) (l2 : Array Bool) (A : AwI -> Array Value)
   (hE : ∀ i : AwI, AwS w x b c d i.V i.g2 i.g3 i.gA i.q i.r i.sS i.gK i.cK i.gL i.cL -> Zreg.After P md ops Q S zs m l2 ⟨A i, []⟩ i.V)
   (h : (∀ (V : World) (g2 g3 gA : Nat) (q : Sl) (r : R) (sS : Sl) (gK cK gL cL : Nat), AwS w x b c d V g2 g3 gA q r sS gK cK gL cL -> Zreg.After P md ops Q S zs m l2 ⟨A ⟨V, g2, g3, gA, q, r, sS, gK, cK, gL, cL⟩, []⟩ V) -> Zreg.After P md ops Q S zs n listed a v) : Zreg.After P md ops Q S zs n listed a v :=
 h (fun V g2 g3 gA q r sS gK cK gL cL hs => hE ⟨V, g2, g3, gA, q, r, sS, gK, cK, gL, cL⟩ hs)
def Cut40 (w : World) (gA : Nat) (wx : World) : Prop := ∃ (r : R) (sS : Sl) (gK cK gL cL : Nat), Blk wx gA 35 #[.slice sS.A sS.n sS.c, .slice (some ⟨gK, 0, none⟩) 6 cK, .int .u64 3, .int .u64 4294967298, .slice r.L.A r.L.n r.L.c, .slice r.P.A r.P.n r.P.c, .int .u64 r.h, .int .u64 r.t, .slice (some ⟨gL, 0, none⟩) 2 cL, .slice r.X.A r.X.n r.X.c, .slice r.S.A r.S.n r.S.c] /\ (∃ b1, Row wx b1 50 7 ⟨some ⟨gK, 0, none⟩, 6, cK⟩ 6 k40) /\ (∃ b2, Row wx b2 30 1 ⟨some ⟨gL, 0, none⟩, 2, cL⟩ 2 [.int .u64 0, .int .u64 4294967296]) /\ Below w.heap.size w wx
set_option maxHeartbeats 8000000 in
theorem awake5_c (w : World) : Calls Tryz.prog 4 #[] w fun e w' => e = .returned (.bool true) /\ Below w.heap.size w w' := by
 have C0 : Hid (Blk ((w.alloc (.cells #[.int .i64 2, .int .i64 1, .int .i64 1, .int .i64 2] 23)).alloc (.cells #[.int .i64 3, .int .u32 0] 46)) w.heap.size 23 #[.int .i64 2, .int .i64 1, .int .i64 1, .int .i64 2]) := lh ((Blk.new _ _ _).alloc _)
 have O0 : Hid (Blk ((w.alloc (.cells #[.int .i64 2, .int .i64 1, .int .i64 1, .int .i64 2] 23)).alloc (.cells #[.int .i64 3, .int .u32 0] 46)) (w.heap.size + 1) 46 #[.int .i64 3, .int .u32 0]) := lh (Arenac.blk_at2 _ _ _ _ (by simp))
 have W0 : Hid (Below w.heap.size w ((w.alloc (.cells #[.int .i64 2, .int .i64 1, .int .i64 1, .int .i64 2] 23)).alloc (.cells #[.int .i64 3, .int .u32 0] 46))) := lh (((Below.refl _ _).alloc (Nat.le_refl _) _).alloc (by simp) _)
 go_enter Tryz.func4, Tryz.ntmps4
 go_upto_region 3 with fail
 generalize ((w.alloc (.cells #[.int .i64 2, .int .i64 1, .int .i64 1, .int .i64 2] 23)).alloc (.cells #[.int .i64 3, .int .u32 0] 46)) = V0 at C0 O0 W0 ⊢
 go_cut [3, 4] (fun x y wx => ∃ gA : Nat, x = .pointer (some ⟨gA, 0, none⟩) /\ y = .int .i64 0 /\ Cut40 w gA wx)
 case first =>
   refine Zreg.begin_ (S := (fun w' => (∀ j, w'.cell? ⟨w.heap.size, j, none⟩ = (#[.int .i64 2, .int .i64 1, .int .i64 1, .int .i64 2] : Array Value)[j]?) /\ (∀ j, w'.cell? ⟨w.heap.size + 1, j, none⟩ = (#[.int .i64 3, .int .u32 0] : Array Value)[j]?))) (zs := [15]) (by kernel_rfl) ?_
   show Zreg.After _ _ _ _ _ _ 17 #[false, false, false, false, false, false, false, false, false, false, false, false, false, false, false, false, false] _ _
   refine Zreg.tS 0 8 (x := ?xa_0) rfl rfl (by kernel_rfl) (fun _ _ _ h => h) (.inr ⟨C0.out.drew.cell, O0.out.drew.cell⟩) (Or.inl ⟨by rfl, ?ya_0⟩) ?ra_0
   case ya_0 => (intro w hSw; (try dsimp only at hSw); go_simp <;> with_reducible rfl)
   simp only [sA, sZ, sC]
   refine Zreg.tP 1 9 (x := ?xa_1) rfl rfl (by kernel_rfl) (fun _ _ _ h => h) (.inr ⟨C0.out.drew.cell, O0.out.drew.cell⟩) (Or.inl ⟨by rfl, ?ya_1⟩) ?ra_1
   case ya_1 => (intro w _; go_simp <;> with_reducible rfl)
   simp only [sA, sZ, sC]
   refine Zreg.tP 2 10 (x := ?xa_2) rfl rfl (by kernel_rfl) (fun _ _ _ h => h) (.inr ⟨C0.out.drew.cell, O0.out.drew.cell⟩) (Or.inl ⟨by rfl, ?ya_2⟩) ?ra_2
   case ya_2 => (intro w _; go_simp <;> with_reducible rfl)
   simp only [sA, sZ, sC]
   refine Zreg.tP 3 11 (x := ?xa_3) rfl rfl (by kernel_rfl) (fun _ _ _ h => h) (.inr ⟨C0.out.drew.cell, O0.out.drew.cell⟩) (Or.inl ⟨by rfl, ?ya_3⟩) ?ra_3
   case ya_3 => (intro w _; go_simp <;> with_reducible rfl)
   simp only [sA, sZ, sC]
   refine Zreg.tS 4 12 (x := ?xa_4) rfl rfl (by kernel_rfl) (fun _ _ _ h => h) (.inr ⟨C0.out.drew.cell, O0.out.drew.cell⟩) (Or.inl ⟨by rfl, ?ya_4⟩) ?ra_4
   case ya_4 => (intro w hSw; (try dsimp only at hSw); go_simp <;> with_reducible rfl)
   simp only [sA, sZ, sC]
   refine Zreg.tS 5 13 (x := ?xa_5) rfl rfl (by kernel_rfl) (fun _ _ _ h => h) (.inr ⟨C0.out.drew.cell, O0.out.drew.cell⟩) (Or.inl ⟨by rfl, ?ya_5⟩) ?ra_5
   case ya_5 => (intro w hSw; (try dsimp only at hSw); go_simp <;> with_reducible rfl)
   simp only [sA, sZ, sC]
   refine Zreg.tS 6 14 (x := ?xa_6) rfl rfl (by kernel_rfl) (fun _ _ _ h => h) (.inr ⟨C0.out.drew.cell, O0.out.drew.cell⟩) (Or.inl ⟨by rfl, ?ya_6⟩) ?ra_6
   case ya_6 => (intro w hSw; (try dsimp only at hSw); go_simp <;> with_reducible rfl)
   simp only [sA, sZ, sC]
   have h : AwS w 0 false false false V0.drew 0 0 0 nilS ⟨0, 0, nilS, nilS, 0, 0, nilS, nilS, nilS⟩ nilS 0 0 0 0 := ⟨C0.out.drew, O0.out.drew, W0.out.drew, fun h => absurd h (by omega), fun h => absurd h (by omega), (fun h => by cases h), (fun h => by cases h), (fun h => by cases h), (fun h => by cases h)⟩
   clear C0 O0 W0
   obtain ⟨g2, g3, gA, q, r, sS, gK, cK, gL, cL, h⟩ : ∃ g2 g3 gA q r sS gK cK gL cL, AwS w 0 false false false V0.drew g2 g3 gA q r sS gK cK gL cL := ⟨_, _, _, _, _, _, _, _, _, _, h⟩
   generalize V0.drew = V at h ⊢
   refine zkey w 2 true true true 2 #[true, true, true, true, true, true, true, true, true, true, true, true, true, true, true, false, false] (fun i => #[.bool false, .pointer (some ⟨w.heap.size, 0, none⟩), .pointer (some ⟨w.heap.size + 1, 0, none⟩), .pointer (some ⟨i.gA, 0, none⟩), undef, .agg #[.int .i64 2, .int .i64 1, .int .i64 1, .int .i64 2], .agg #[.int .i64 3, .int .u32 0], .tuple #[.agg #[.slice i.sS.A i.sS.n i.sS.c, .slice (some ⟨i.gK, 0, none⟩) 6 i.cK, .int .u64 3, .int .u64 4294967298, .slice i.r.L.A i.r.L.n i.r.L.c, .slice i.r.P.A i.r.P.n i.r.P.c, .int .u64 i.r.h, .int .u64 i.r.t, .slice (some ⟨i.gL, 0, none⟩) 2 i.cL, .slice i.r.X.A i.r.X.n i.r.X.c, .slice i.r.S.A i.r.S.n i.r.S.c], .int .i64 0], .agg #[.int .i64 2, .int .i64 1, .int .i64 1, .int .i64 2], .agg #[.int .i64 6, .int .u32 0], .agg #[.int .i64 8, .int .u32 1], .agg #[.int .i64 7, .int .u32 0], .agg #[.int .i64 3, .int .u32 0], .agg #[.int .i64 3, .int .u32 0], .agg #[.int .i64 3, .int .u32 0], .slice (some ⟨i.g2, 0, none⟩) 6 6, .slice (some ⟨i.g3, 0, none⟩) 1 1, .slice i.q.A i.q.n i.q.c, .tuple #[.agg #[.slice i.sS.A i.sS.n i.sS.c, .slice (some ⟨i.gK, 0, none⟩) 6 i.cK, .int .u64 3, .int .u64 4294967298, .slice i.r.L.A i.r.L.n i.r.L.c, .slice i.r.P.A i.r.P.n i.r.P.c, .int .u64 i.r.h, .int .u64 i.r.t, .slice (some ⟨i.gL, 0, none⟩) 2 i.cL, .slice i.r.X.A i.r.X.n i.r.X.c, .slice i.r.S.A i.r.S.n i.r.S.c], .int .i64 0], .agg #[.slice i.sS.A i.sS.n i.sS.c, .slice (some ⟨i.gK, 0, none⟩) 6 i.cK, .int .u64 3, .int .u64 4294967298, .slice i.r.L.A i.r.L.n i.r.L.c, .slice i.r.P.A i.r.P.n i.r.P.c, .int .u64 i.r.h, .int .u64 i.r.t, .slice (some ⟨i.gL, 0, none⟩) 2 i.cL, .slice i.r.X.A i.r.X.n i.r.X.c, .slice i.r.S.A i.r.S.n i.r.S.c], .int .i64 0, undef, undef, undef, undef, undef, undef, undef, undef, undef, undef, undef, undef, undef, undef, undef, undef, undef, undef, undef, undef, undef, undef, undef, undef, undef, undef, undef, undef, undef, undef, undef, undef, undef, undef, undef, undef, undef]) ?_ (fun EF => ?_)
   · rintro ⟨V, g2, g3, gA, q, r, sS, gK, cK, gL, cL⟩ h
     dsimp only at h ⊢
     obtain ⟨hT, hA⟩ := h.T rfl
     obtain ⟨b1, hk⟩ := h.K rfl
     obtain ⟨b2, hx⟩ := h.X rfl
     have hW := h.W
     have TE : Hid (Blk (((((((((((V.setCell ⟨gA, 0, none⟩ (.slice sS.A sS.n sS.c)).setCell ⟨gA, 1, none⟩ (.slice (some ⟨gK, 0, none⟩) 6 cK)).setCell ⟨gA, 2, none⟩ (.int .u64 3)).setCell ⟨gA, 3, none⟩ (.int .u64 4294967298)).setCell ⟨gA, 4, none⟩ (.slice r.L.A r.L.n r.L.c)).setCell ⟨gA, 5, none⟩ (.slice r.P.A r.P.n r.P.c)).setCell ⟨gA, 6, none⟩ (.int .u64 r.h)).setCell ⟨gA, 7, none⟩ (.int .u64 r.t)).setCell ⟨gA, 8, none⟩ (.slice (some ⟨gL, 0, none⟩) 2 cL)).setCell ⟨gA, 9, none⟩ (.slice r.X.A r.X.n r.X.c)).setCell ⟨gA, 10, none⟩ (.slice r.S.A r.S.n r.S.c)) gA 35 #[.slice sS.A sS.n sS.c, .slice (some ⟨gK, 0, none⟩) 6 cK, .int .u64 3, .int .u64 4294967298, .slice r.L.A r.L.n r.L.c, .slice r.P.A r.P.n r.P.c, .int .u64 r.h, .int .u64 r.t, .slice (some ⟨gL, 0, none⟩) 2 cL, .slice r.X.A r.X.n r.X.c, .slice r.S.A r.S.n r.S.c]) := lh (by have h_ := (Blk.set_ (Blk.set_ (Blk.set_ (Blk.set_ (Blk.set_ (Blk.set_ (Blk.set_ (Blk.set_ (Blk.set_ (Blk.set_ (Blk.set_ hT 0 (.slice sS.A sS.n sS.c)) 1 (.slice (some ⟨gK, 0, none⟩) 6 cK)) 2 (.int .u64 3)) 3 (.int .u64 4294967298)) 4 (.slice r.L.A r.L.n r.L.c)) 5 (.slice r.P.A r.P.n r.P.c)) 6 (.int .u64 r.h)) 7 (.int .u64 r.t)) 8 (.slice (some ⟨gL, 0, none⟩) 2 cL)) 9 (.slice r.X.A r.X.n r.X.c)) 10 (.slice r.S.A r.S.n r.S.c)); simpa only [sA, sZ, sC] using h_)
     have OE : Hid (Only (fun g => g = gA) V (((((((((((V.setCell ⟨gA, 0, none⟩ (.slice sS.A sS.n sS.c)).setCell ⟨gA, 1, none⟩ (.slice (some ⟨gK, 0, none⟩) 6 cK)).setCell ⟨gA, 2, none⟩ (.int .u64 3)).setCell ⟨gA, 3, none⟩ (.int .u64 4294967298)).setCell ⟨gA, 4, none⟩ (.slice r.L.A r.L.n r.L.c)).setCell ⟨gA, 5, none⟩ (.slice r.P.A r.P.n r.P.c)).setCell ⟨gA, 6, none⟩ (.int .u64 r.h)).setCell ⟨gA, 7, none⟩ (.int .u64 r.t)).setCell ⟨gA, 8, none⟩ (.slice (some ⟨gL, 0, none⟩) 2 cL)).setCell ⟨gA, 9, none⟩ (.slice r.X.A r.X.n r.X.c)).setCell ⟨gA, 10, none⟩ (.slice r.S.A r.S.n r.S.c))) := lh ((Only.set_ (Only.set_ (Only.set_ (Only.set_ (Only.set_ (Only.set_ (Only.set_ (Only.set_ (Only.set_ (Only.set_ (Only.set_ (Only.refl (fun g => g = gA) V) ⟨gA, 0, none⟩ (.inl rfl) (.slice sS.A sS.n sS.c)) ⟨gA, 1, none⟩ (.inl rfl) (.slice (some ⟨gK, 0, none⟩) 6 cK)) ⟨gA, 2, none⟩ (.inl rfl) (.int .u64 3)) ⟨gA, 3, none⟩ (.inl rfl) (.int .u64 4294967298)) ⟨gA, 4, none⟩ (.inl rfl) (.slice r.L.A r.L.n r.L.c)) ⟨gA, 5, none⟩ (.inl rfl) (.slice r.P.A r.P.n r.P.c)) ⟨gA, 6, none⟩ (.inl rfl) (.int .u64 r.h)) ⟨gA, 7, none⟩ (.inl rfl) (.int .u64 r.t)) ⟨gA, 8, none⟩ (.inl rfl) (.slice (some ⟨gL, 0, none⟩) 2 cL)) ⟨gA, 9, none⟩ (.inl rfl) (.slice r.X.A r.X.n r.X.c)) ⟨gA, 10, none⟩ (.inl rfl) (.slice r.S.A r.S.n r.S.c)))
     have KE := lh (hk.only OE.out (hk.ne hT (by decide)))
     have XE := lh (hx.only OE.out (hx.ne hT (by decide)))
     have WE := lh (hW.trans (OE.out.below hW.size (fun g hg => by rw [hg]; exact hA)))
     have hf := hT.frozen
     have hc := hT.cell
     clear hT hk hx hW hA h
     refine Zreg.one 15 (by kernel_rfl) rfl rfl fun K_ hK => ?_
     go_simp
     refine hK.out _ _ (.inl (by kernel_rfl)) fun _ => ?_
     clear hK hf hc
     generalize (((((((((((V.setCell ⟨gA, 0, none⟩ (.slice sS.A sS.n sS.c)).setCell ⟨gA, 1, none⟩ (.slice (some ⟨gK, 0, none⟩) 6 cK)).setCell ⟨gA, 2, none⟩ (.int .u64 3)).setCell ⟨gA, 3, none⟩ (.int .u64 4294967298)).setCell ⟨gA, 4, none⟩ (.slice r.L.A r.L.n r.L.c)).setCell ⟨gA, 5, none⟩ (.slice r.P.A r.P.n r.P.c)).setCell ⟨gA, 6, none⟩ (.int .u64 r.h)).setCell ⟨gA, 7, none⟩ (.int .u64 r.t)).setCell ⟨gA, 8, none⟩ (.slice (some ⟨gL, 0, none⟩) 2 cL)).setCell ⟨gA, 9, none⟩ (.slice r.X.A r.X.n r.X.c)).setCell ⟨gA, 10, none⟩ (.slice r.S.A r.S.n r.S.c)) = V9 at TE OE KE XE WE ⊢
     simp only [sA, sZ, sC]
     refine Zreg.tP 16 4 (x := ?xz_16) rfl rfl (by kernel_rfl) (fun _ _ _ h => h) (.inl (by kernel_rfl)) (Or.inl ⟨by rfl, ?yz_16⟩) ?rz_16
     case yz_16 => (intro w _; go_simp <;> with_reducible rfl)
     simp only [sA, sZ, sC]
     refine Zreg.done (by kernel_rfl) ?_ _
     go_wp2_with fail
     go_meet
     exact ⟨gA, rfl, rfl, r, sS, gK, cK, gL, cL, TE.out, ⟨_, KE.out⟩, ⟨_, XE.out⟩, WE.out⟩
   refine zkey w 2 true true true 5 #[true, true, true, true, true, true, true, true, true, true, true, false, false, false, true, false, false] (fun i => #[.bool false, .pointer (some ⟨w.heap.size, 0, none⟩), .pointer (some ⟨w.heap.size + 1, 0, none⟩), .pointer (some ⟨i.gA, 0, none⟩), undef, .agg #[.int .i64 2, .int .i64 1, .int .i64 1, .int .i64 2], .agg #[.int .i64 3, .int .u32 0], undef, .agg #[.int .i64 2, .int .i64 1, .int .i64 1, .int .i64 2], .agg #[.int .i64 6, .int .u32 0], .agg #[.int .i64 8, .int .u32 1], .agg #[.int .i64 7, .int .u32 0], .agg #[.int .i64 3, .int .u32 0], .agg #[.int .i64 3, .int .u32 0], .agg #[.int .i64 3, .int .u32 0], .slice (some ⟨i.g2, 0, none⟩) 6 6, .slice (some ⟨i.g3, 0, none⟩) 1 1, .slice i.q.A i.q.n i.q.c, .tuple #[.agg #[.slice i.sS.A i.sS.n i.sS.c, .slice (some ⟨i.gK, 0, none⟩) 6 i.cK, .int .u64 3, .int .u64 4294967298, .slice i.r.L.A i.r.L.n i.r.L.c, .slice i.r.P.A i.r.P.n i.r.P.c, .int .u64 i.r.h, .int .u64 i.r.t, .slice (some ⟨i.gL, 0, none⟩) 2 i.cL, .slice i.r.X.A i.r.X.n i.r.X.c, .slice i.r.S.A i.r.S.n i.r.S.c], .int .i64 0], undef, undef, undef, undef, undef, undef, undef, undef, undef, undef, undef, undef, undef, undef, undef, undef, undef, undef, undef, undef, undef, undef, undef, undef, undef, undef, undef, undef, undef, undef, undef, undef, undef, undef, undef, undef, undef, undef, undef]) ?_ (fun E2111 => ?_)
   · rintro ⟨V, g2, g3, gA, q, r, sS, gK, cK, gL, cL⟩ h
     dsimp only at h ⊢
     refine Zreg.tP 11 7 (x := ?xf_11) rfl rfl (by kernel_rfl) (fun _ _ _ h => h) ((.inr ⟨h.C.cell, h.O.cell⟩)) (Or.inl ⟨by rfl, ?yf_11⟩) ?rf_11
     case yf_11 => (intro w _; go_simp <;> with_reducible rfl)
     simp only [sA, sZ, sC]
     refine Zreg.tP 12 19 (x := ?xf_12) rfl rfl (by kernel_rfl) (fun _ _ _ h => h) ((.inr ⟨h.C.cell, h.O.cell⟩)) (Or.inl ⟨by rfl, ?yf_12⟩) ?rf_12
     case yf_12 => (intro w _; go_simp <;> with_reducible rfl)
     simp only [sA, sZ, sC]
     refine Zreg.tP 13 20 (x := ?xf_13) rfl rfl (by kernel_rfl) (fun _ _ _ h => h) ((.inr ⟨h.C.cell, h.O.cell⟩)) (Or.inl ⟨by rfl, ?yf_13⟩) ?rf_13
     case yf_13 => (intro w _; go_simp <;> with_reducible rfl)
     simp only [sA, sZ, sC]
     exact EF _ g2 g3 gA q r sS gK cK gL cL h
   refine zkey w 2 true false true 6 #[true, true, true, true, true, true, true, true, true, true, true, false, false, false, false, false, false] (fun i => #[.bool false, .pointer (some ⟨w.heap.size, 0, none⟩), .pointer (some ⟨w.heap.size + 1, 0, none⟩), undef, undef, .agg #[.int .i64 2, .int .i64 1, .int .i64 1, .int .i64 2], .agg #[.int .i64 3, .int .u32 0], undef, .agg #[.int .i64 2, .int .i64 1, .int .i64 1, .int .i64 2], .agg #[.int .i64 6, .int .u32 0], .agg #[.int .i64 8, .int .u32 1], .agg #[.int .i64 7, .int .u32 0], .agg #[.int .i64 3, .int .u32 0], .agg #[.int .i64 3, .int .u32 0], .agg #[.int .i64 3, .int .u32 0], .slice (some ⟨i.g2, 0, none⟩) 6 6, .slice (some ⟨i.g3, 0, none⟩) 1 1, .slice i.q.A i.q.n i.q.c, .tuple #[.agg #[.slice i.sS.A i.sS.n i.sS.c, .slice (some ⟨i.gK, 0, none⟩) 6 i.cK, .int .u64 3, .int .u64 4294967298, .slice i.r.L.A i.r.L.n i.r.L.c, .slice i.r.P.A i.r.P.n i.r.P.c, .int .u64 i.r.h, .int .u64 i.r.t, .slice (some ⟨i.gL, 0, none⟩) 2 i.cL, .slice i.r.X.A i.r.X.n i.r.X.c, .slice i.r.S.A i.r.S.n i.r.S.c], .int .i64 0], undef, undef, undef, undef, undef, undef, undef, undef, undef, undef, undef, undef, undef, undef, undef, undef, undef, undef, undef, undef, undef, undef, undef, undef, undef, undef, undef, undef, undef, undef, undef, undef, undef, undef, undef, undef, undef, undef, undef]) ?_ (fun E2101 => ?_)
   · rintro ⟨V, g2, g3, gA, q, r, sS, gK, cK, gL, cL⟩ h
     dsimp only at h ⊢
     refine Zreg.tP 11 7 (x := ?xg_11) rfl rfl (by kernel_rfl) (fun _ _ _ h => h) ((.inr ⟨h.C.cell, h.O.cell⟩)) (Or.inl ⟨by rfl, ?yg_11⟩) ?rg_11
     case yg_11 => (intro w _; go_simp <;> with_reducible rfl)
     simp only [sA, sZ, sC]
     refine Zreg.tP 12 19 (x := ?xg_12) rfl rfl (by kernel_rfl) (fun _ _ _ h => h) ((.inr ⟨h.C.cell, h.O.cell⟩)) (Or.inl ⟨by rfl, ?yg_12⟩) ?rg_12
     case yg_12 => (intro w _; go_simp <;> with_reducible rfl)
     simp only [sA, sZ, sC]
     refine Zreg.tP 13 20 (x := ?xg_13) rfl rfl (by kernel_rfl) (fun _ _ _ h => h) ((.inr ⟨h.C.cell, h.O.cell⟩)) (Or.inl ⟨by rfl, ?yg_13⟩) ?rg_13
     case yg_13 => (intro w _; go_simp <;> with_reducible rfl)
     simp only [sA, sZ, sC]
     refine Zreg.one 14 (by kernel_rfl) rfl rfl fun K_ hK => ?_
     go_simp
     have h := h.t14
     refine hK.out _ _ (.inr ⟨h.C.cell, h.O.cell⟩) fun _ => ?_
     simp only [sA, sZ, sC]
     exact EF _ g2 g3 _ q r sS gK cK gL cL h
   refine zkey w 2 true true false 6 #[true, true, true, true, true, true, true, true, true, true, false, false, false, false, true, false, false] (fun i => #[.bool false, .pointer (some ⟨w.heap.size, 0, none⟩), .pointer (some ⟨w.heap.size + 1, 0, none⟩), .pointer (some ⟨i.gA, 0, none⟩), undef, .agg #[.int .i64 2, .int .i64 1, .int .i64 1, .int .i64 2], .agg #[.int .i64 3, .int .u32 0], undef, .agg #[.int .i64 2, .int .i64 1, .int .i64 1, .int .i64 2], .agg #[.int .i64 6, .int .u32 0], .agg #[.int .i64 8, .int .u32 1], .agg #[.int .i64 7, .int .u32 0], .agg #[.int .i64 3, .int .u32 0], .agg #[.int .i64 3, .int .u32 0], .agg #[.int .i64 3, .int .u32 0], .slice (some ⟨i.g2, 0, none⟩) 6 6, .slice (some ⟨i.g3, 0, none⟩) 1 1, .slice i.q.A i.q.n i.q.c, undef, undef, undef, undef, undef, undef, undef, undef, undef, undef, undef, undef, undef, undef, undef, undef, undef, undef, undef, undef, undef, undef, undef, undef, undef, undef, undef, undef, undef, undef, undef, undef, undef, undef, undef, undef, undef, undef, undef, undef]) ?_ (fun E2110 => ?_)
   · rintro ⟨V, g2, g3, gA, q, r, sS, gK, cK, gL, cL⟩ h
     dsimp only at h ⊢
     refine Zreg.one 10 (by kernel_rfl) rfl rfl fun K_ hK => ?_
     go_simp
     go_at_call 6
     obtain ⟨base, hq⟩ := h.Q rfl
     refine (run_40 _ g2 g3 q _ (h.B (by omega)) (h.L (by omega)) hq).mono ?_
     rintro e V' ⟨r', sS', gK', cK', gL', cL', rfl, hk, hx, hb⟩
     have h := h.r10 (r' := r') (sS' := sS') hk hx hb
     clear hk hx hb hq
     refine hK.out _ _ (.inr ⟨h.C.cell, h.O.cell⟩) fun _ => ?_
     simp only [sA, sZ, sC]
     exact E2111 _ g2 g3 gA q r' sS' gK' cK' gL' cL' h
   refine zkey w 1 true true false 7 #[true, true, true, true, true, true, true, true, false, true, false, false, false, false, true, false, false] (fun i => #[.bool false, .pointer (some ⟨w.heap.size, 0, none⟩), .pointer (some ⟨w.heap.size + 1, 0, none⟩), .pointer (some ⟨i.gA, 0, none⟩), undef, .agg #[.int .i64 2, .int .i64 1, .int .i64 1, .int .i64 2], .agg #[.int .i64 3, .int .u32 0], undef, .agg #[.int .i64 2, .int .i64 1, .int .i64 1, .int .i64 2], .agg #[.int .i64 6, .int .u32 0], .agg #[.int .i64 8, .int .u32 1], .agg #[.int .i64 7, .int .u32 0], .agg #[.int .i64 3, .int .u32 0], .agg #[.int .i64 3, .int .u32 0], .agg #[.int .i64 3, .int .u32 0], .slice (some ⟨i.g2, 0, none⟩) 6 6, undef, .slice i.q.A i.q.n i.q.c, undef, undef, undef, undef, undef, undef, undef, undef, undef, undef, undef, undef, undef, undef, undef, undef, undef, undef, undef, undef, undef, undef, undef, undef, undef, undef, undef, undef, undef, undef, undef, undef, undef, undef, undef, undef, undef, undef, undef, undef]) ?_ (fun E1110 => ?_)
   · rintro ⟨V, g2, g3, gA, q, r, sS, gK, cK, gL, cL⟩ h
     dsimp only at h ⊢
     refine Zreg.one 8 (by kernel_rfl) rfl rfl fun K_ hK => ?_
     go_simp
     have h := h.a8
     refine hK.out _ _ (.inr ⟨h.C.cell, h.O.cell⟩) fun _ => ?_
     simp only [sA, sZ, sC]
     exact E2110 _ g2 _ gA q r sS gK cK gL cL h
   refine zkey w 2 false true false 7 #[true, true, true, true, true, true, true, true, true, false, false, false, false, false, true, false, false] (fun i => #[.bool false, .pointer (some ⟨w.heap.size, 0, none⟩), .pointer (some ⟨w.heap.size + 1, 0, none⟩), .pointer (some ⟨i.gA, 0, none⟩), undef, .agg #[.int .i64 2, .int .i64 1, .int .i64 1, .int .i64 2], .agg #[.int .i64 3, .int .u32 0], undef, .agg #[.int .i64 2, .int .i64 1, .int .i64 1, .int .i64 2], .agg #[.int .i64 6, .int .u32 0], .agg #[.int .i64 8, .int .u32 1], .agg #[.int .i64 7, .int .u32 0], .agg #[.int .i64 3, .int .u32 0], .agg #[.int .i64 3, .int .u32 0], .agg #[.int .i64 3, .int .u32 0], .slice (some ⟨i.g2, 0, none⟩) 6 6, .slice (some ⟨i.g3, 0, none⟩) 1 1, undef, undef, undef, undef, undef, undef, undef, undef, undef, undef, undef, undef, undef, undef, undef, undef, undef, undef, undef, undef, undef, undef, undef, undef, undef, undef, undef, undef, undef, undef, undef, undef, undef, undef, undef, undef, undef, undef, undef, undef, undef]) ?_ (fun E2010 => ?_)
   · rintro ⟨V, g2, g3, gA, q, r, sS, gK, cK, gL, cL⟩ h
     dsimp only at h ⊢
     refine Zreg.one 9 (by kernel_rfl) rfl rfl fun K_ hK => ?_
     go_simp
     go_at_call 10
     (with_reducible refine (picked_40 _).mono ?_)
     rintro e V' ⟨q', rfl, hr, hb⟩
     have h := h.c9 hr hb
     clear hr hb
     refine hK.out _ _ (.inr ⟨h.C.cell, h.O.cell⟩) fun _ => ?_
     simp only [sA, sZ, sC]
     exact E2110 _ g2 g3 gA q' r sS gK cK gL cL h
   refine zkey w 2 true false false 7 #[true, true, true, true, true, true, true, true, true, true, false, false, false, false, false, false, false] (fun i => #[.bool false, .pointer (some ⟨w.heap.size, 0, none⟩), .pointer (some ⟨w.heap.size + 1, 0, none⟩), undef, undef, .agg #[.int .i64 2, .int .i64 1, .int .i64 1, .int .i64 2], .agg #[.int .i64 3, .int .u32 0], undef, .agg #[.int .i64 2, .int .i64 1, .int .i64 1, .int .i64 2], .agg #[.int .i64 6, .int .u32 0], .agg #[.int .i64 8, .int .u32 1], .agg #[.int .i64 7, .int .u32 0], .agg #[.int .i64 3, .int .u32 0], .agg #[.int .i64 3, .int .u32 0], .agg #[.int .i64 3, .int .u32 0], .slice (some ⟨i.g2, 0, none⟩) 6 6, .slice (some ⟨i.g3, 0, none⟩) 1 1, .slice i.q.A i.q.n i.q.c, undef, undef, undef, undef, undef, undef, undef, undef, undef, undef, undef, undef, undef, undef, undef, undef, undef, undef, undef, undef, undef, undef, undef, undef, undef, undef, undef, undef, undef, undef, undef, undef, undef, undef, undef, undef, undef, undef, undef, undef]) ?_ (fun E2100 => ?_)
   · rintro ⟨V, g2, g3, gA, q, r, sS, gK, cK, gL, cL⟩ h
     dsimp only at h ⊢
     refine Zreg.two 10 14 (by kernel_rfl) rfl rfl rfl rfl (fun K_ hK => ?_) (fun K_ hK => ?_)
     · go_simp
       go_at_call 6
       obtain ⟨base, hq⟩ := h.Q rfl
       refine (run_40 _ g2 g3 q _ (h.B (by omega)) (h.L (by omega)) hq).mono ?_
       rintro e V' ⟨r', sS', gK', cK', gL', cL', rfl, hk, hx, hb⟩
       have h := h.r10 (r' := r') (sS' := sS') hk hx hb
       clear hk hx hb hq
       refine hK.out _ _ (.inr ⟨h.C.cell, h.O.cell⟩) fun _ => ?_
       simp only [sA, sZ, sC]
       exact E2101 _ g2 g3 gA q r' sS' gK' cK' gL' cL' h
     · go_simp
       have h := h.t14
       refine hK.out _ _ (.inr ⟨h.C.cell, h.O.cell⟩) fun _ => ?_
       simp only [sA, sZ, sC]
       exact E2110 _ g2 g3 _ q r sS gK cK gL cL h
   refine zkey w 0 true true false 8 #[true, true, true, true, true, true, true, false, false, true, false, false, false, false, true, false, false] (fun i => #[.bool false, .pointer (some ⟨w.heap.size, 0, none⟩), .pointer (some ⟨w.heap.size + 1, 0, none⟩), .pointer (some ⟨i.gA, 0, none⟩), undef, .agg #[.int .i64 2, .int .i64 1, .int .i64 1, .int .i64 2], .agg #[.int .i64 3, .int .u32 0], undef, .agg #[.int .i64 2, .int .i64 1, .int .i64 1, .int .i64 2], .agg #[.int .i64 6, .int .u32 0], .agg #[.int .i64 8, .int .u32 1], .agg #[.int .i64 7, .int .u32 0], .agg #[.int .i64 3, .int .u32 0], .agg #[.int .i64 3, .int .u32 0], .agg #[.int .i64 3, .int .u32 0], undef, undef, .slice i.q.A i.q.n i.q.c, undef, undef, undef, undef, undef, undef, undef, undef, undef, undef, undef, undef, undef, undef, undef, undef, undef, undef, undef, undef, undef, undef, undef, undef, undef, undef, undef, undef, undef, undef, undef, undef, undef, undef, undef, undef, undef, undef, undef, undef]) ?_ (fun E0110 => ?_)
   · rintro ⟨V, g2, g3, gA, q, r, sS, gK, cK, gL, cL⟩ h
     dsimp only at h ⊢
     refine Zreg.one 7 (by kernel_rfl) rfl rfl fun K_ hK => ?_
     go_simp
     have h := h.a7
     refine hK.out _ _ (.inr ⟨h.C.cell, h.O.cell⟩) fun _ => ?_
     simp only [sA, sZ, sC]
     exact E1110 _ _ g3 gA q r sS gK cK gL cL h
   refine zkey w 1 false true false 8 #[true, true, true, true, true, true, true, true, false, false, false, false, false, false, true, false, false] (fun i => #[.bool false, .pointer (some ⟨w.heap.size, 0, none⟩), .pointer (some ⟨w.heap.size + 1, 0, none⟩), .pointer (some ⟨i.gA, 0, none⟩), undef, .agg #[.int .i64 2, .int .i64 1, .int .i64 1, .int .i64 2], .agg #[.int .i64 3, .int .u32 0], undef, .agg #[.int .i64 2, .int .i64 1, .int .i64 1, .int .i64 2], .agg #[.int .i64 6, .int .u32 0], .agg #[.int .i64 8, .int .u32 1], .agg #[.int .i64 7, .int .u32 0], .agg #[.int .i64 3, .int .u32 0], .agg #[.int .i64 3, .int .u32 0], .agg #[.int .i64 3, .int .u32 0], .slice (some ⟨i.g2, 0, none⟩) 6 6, undef, undef, undef, undef, undef, undef, undef, undef, undef, undef, undef, undef, undef, undef, undef, undef, undef, undef, undef, undef, undef, undef, undef, undef, undef, undef, undef, undef, undef, undef, undef, undef, undef, undef, undef, undef, undef, undef, undef, undef, undef, undef]) ?_ (fun E1010 => ?_)
   · rintro ⟨V, g2, g3, gA, q, r, sS, gK, cK, gL, cL⟩ h
     dsimp only at h ⊢
     refine Zreg.two 8 9 (by kernel_rfl) rfl rfl rfl rfl (fun K_ hK => ?_) (fun K_ hK => ?_)
     · go_simp
       have h := h.a8
       refine hK.out _ _ (.inr ⟨h.C.cell, h.O.cell⟩) fun _ => ?_
       simp only [sA, sZ, sC]
       exact E2010 _ g2 _ gA q r sS gK cK gL cL h
     · go_simp
       go_at_call 10
       (with_reducible refine (picked_40 _).mono ?_)
       rintro e V' ⟨q', rfl, hr, hb⟩
       have h := h.c9 hr hb
       clear hr hb
       refine hK.out _ _ (.inr ⟨h.C.cell, h.O.cell⟩) fun _ => ?_
       simp only [sA, sZ, sC]
       exact E1110 _ g2 g3 gA q' r sS gK cK gL cL h
   refine zkey w 1 true false false 8 #[true, true, true, true, true, true, true, true, false, true, false, false, false, false, false, false, false] (fun i => #[.bool false, .pointer (some ⟨w.heap.size, 0, none⟩), .pointer (some ⟨w.heap.size + 1, 0, none⟩), undef, undef, .agg #[.int .i64 2, .int .i64 1, .int .i64 1, .int .i64 2], .agg #[.int .i64 3, .int .u32 0], undef, .agg #[.int .i64 2, .int .i64 1, .int .i64 1, .int .i64 2], .agg #[.int .i64 6, .int .u32 0], .agg #[.int .i64 8, .int .u32 1], .agg #[.int .i64 7, .int .u32 0], .agg #[.int .i64 3, .int .u32 0], .agg #[.int .i64 3, .int .u32 0], .agg #[.int .i64 3, .int .u32 0], .slice (some ⟨i.g2, 0, none⟩) 6 6, undef, .slice i.q.A i.q.n i.q.c, undef, undef, undef, undef, undef, undef, undef, undef, undef, undef, undef, undef, undef, undef, undef, undef, undef, undef, undef, undef, undef, undef, undef, undef, undef, undef, undef, undef, undef, undef, undef, undef, undef, undef, undef, undef, undef, undef, undef, undef]) ?_ (fun E1100 => ?_)
   · rintro ⟨V, g2, g3, gA, q, r, sS, gK, cK, gL, cL⟩ h
     dsimp only at h ⊢
     refine Zreg.two 8 14 (by kernel_rfl) rfl rfl rfl rfl (fun K_ hK => ?_) (fun K_ hK => ?_)
     · go_simp
       have h := h.a8
       refine hK.out _ _ (.inr ⟨h.C.cell, h.O.cell⟩) fun _ => ?_
       simp only [sA, sZ, sC]
       exact E2100 _ g2 _ gA q r sS gK cK gL cL h
     · go_simp
       have h := h.t14
       refine hK.out _ _ (.inr ⟨h.C.cell, h.O.cell⟩) fun _ => ?_
       simp only [sA, sZ, sC]
       exact E1110 _ g2 g3 _ q r sS gK cK gL cL h
   refine zkey w 2 false false false 8 #[true, true, true, true, true, true, true, true, true, false, false, false, false, false, false, false, false] (fun i => #[.bool false, .pointer (some ⟨w.heap.size, 0, none⟩), .pointer (some ⟨w.heap.size + 1, 0, none⟩), undef, undef, .agg #[.int .i64 2, .int .i64 1, .int .i64 1, .int .i64 2], .agg #[.int .i64 3, .int .u32 0], undef, .agg #[.int .i64 2, .int .i64 1, .int .i64 1, .int .i64 2], .agg #[.int .i64 6, .int .u32 0], .agg #[.int .i64 8, .int .u32 1], .agg #[.int .i64 7, .int .u32 0], .agg #[.int .i64 3, .int .u32 0], .agg #[.int .i64 3, .int .u32 0], .agg #[.int .i64 3, .int .u32 0], .slice (some ⟨i.g2, 0, none⟩) 6 6, .slice (some ⟨i.g3, 0, none⟩) 1 1, undef, undef, undef, undef, undef, undef, undef, undef, undef, undef, undef, undef, undef, undef, undef, undef, undef, undef, undef, undef, undef, undef, undef, undef, undef, undef, undef, undef, undef, undef, undef, undef, undef, undef, undef, undef, undef, undef, undef, undef, undef]) ?_ (fun E2000 => ?_)
   · rintro ⟨V, g2, g3, gA, q, r, sS, gK, cK, gL, cL⟩ h
     dsimp only at h ⊢
     refine Zreg.two 9 14 (by kernel_rfl) rfl rfl rfl rfl (fun K_ hK => ?_) (fun K_ hK => ?_)
     · go_simp
       go_at_call 10
       (with_reducible refine (picked_40 _).mono ?_)
       rintro e V' ⟨q', rfl, hr, hb⟩
       have h := h.c9 hr hb
       clear hr hb
       refine hK.out _ _ (.inr ⟨h.C.cell, h.O.cell⟩) fun _ => ?_
       simp only [sA, sZ, sC]
       exact E2100 _ g2 g3 gA q' r sS gK cK gL cL h
     · go_simp
       have h := h.t14
       refine hK.out _ _ (.inr ⟨h.C.cell, h.O.cell⟩) fun _ => ?_
       simp only [sA, sZ, sC]
       exact E2010 _ g2 g3 _ q r sS gK cK gL cL h
   refine zkey w 0 false true false 9 #[true, true, true, true, true, true, true, false, false, false, false, false, false, false, true, false, false] (fun i => #[.bool false, .pointer (some ⟨w.heap.size, 0, none⟩), .pointer (some ⟨w.heap.size + 1, 0, none⟩), .pointer (some ⟨i.gA, 0, none⟩), undef, .agg #[.int .i64 2, .int .i64 1, .int .i64 1, .int .i64 2], .agg #[.int .i64 3, .int .u32 0], undef, .agg #[.int .i64 2, .int .i64 1, .int .i64 1, .int .i64 2], .agg #[.int .i64 6, .int .u32 0], .agg #[.int .i64 8, .int .u32 1], .agg #[.int .i64 7, .int .u32 0], .agg #[.int .i64 3, .int .u32 0], .agg #[.int .i64 3, .int .u32 0], .agg #[.int .i64 3, .int .u32 0], undef, undef, undef, undef, undef, undef, undef, undef, undef, undef, undef, undef, undef, undef, undef, undef, undef, undef, undef, undef, undef, undef, undef, undef, undef, undef, undef, undef, undef, undef, undef, undef, undef, undef, undef, undef, undef, undef, undef, undef, undef, undef, undef]) ?_ (fun E0010 => ?_)
   · rintro ⟨V, g2, g3, gA, q, r, sS, gK, cK, gL, cL⟩ h
     dsimp only at h ⊢
     refine Zreg.two 7 9 (by kernel_rfl) rfl rfl rfl rfl (fun K_ hK => ?_) (fun K_ hK => ?_)
     · go_simp
       have h := h.a7
       refine hK.out _ _ (.inr ⟨h.C.cell, h.O.cell⟩) fun _ => ?_
       simp only [sA, sZ, sC]
       exact E1010 _ _ g3 gA q r sS gK cK gL cL h
     · go_simp
       go_at_call 10
       (with_reducible refine (picked_40 _).mono ?_)
       rintro e V' ⟨q', rfl, hr, hb⟩
       have h := h.c9 hr hb
       clear hr hb
       refine hK.out _ _ (.inr ⟨h.C.cell, h.O.cell⟩) fun _ => ?_
       simp only [sA, sZ, sC]
       exact E0110 _ g2 g3 gA q' r sS gK cK gL cL h
   refine zkey w 0 true false false 9 #[true, true, true, true, true, true, true, false, false, true, false, false, false, false, false, false, false] (fun i => #[.bool false, .pointer (some ⟨w.heap.size, 0, none⟩), .pointer (some ⟨w.heap.size + 1, 0, none⟩), undef, undef, .agg #[.int .i64 2, .int .i64 1, .int .i64 1, .int .i64 2], .agg #[.int .i64 3, .int .u32 0], undef, .agg #[.int .i64 2, .int .i64 1, .int .i64 1, .int .i64 2], .agg #[.int .i64 6, .int .u32 0], .agg #[.int .i64 8, .int .u32 1], .agg #[.int .i64 7, .int .u32 0], .agg #[.int .i64 3, .int .u32 0], .agg #[.int .i64 3, .int .u32 0], .agg #[.int .i64 3, .int .u32 0], undef, undef, .slice i.q.A i.q.n i.q.c, undef, undef, undef, undef, undef, undef, undef, undef, undef, undef, undef, undef, undef, undef, undef, undef, undef, undef, undef, undef, undef, undef, undef, undef, undef, undef, undef, undef, undef, undef, undef, undef, undef, undef, undef, undef, undef, undef, undef, undef]) ?_ (fun E0100 => ?_)
   · rintro ⟨V, g2, g3, gA, q, r, sS, gK, cK, gL, cL⟩ h
     dsimp only at h ⊢
     refine Zreg.two 7 14 (by kernel_rfl) rfl rfl rfl rfl (fun K_ hK => ?_) (fun K_ hK => ?_)
     · go_simp
       have h := h.a7
       refine hK.out _ _ (.inr ⟨h.C.cell, h.O.cell⟩) fun _ => ?_
       simp only [sA, sZ, sC]
       exact E1100 _ _ g3 gA q r sS gK cK gL cL h
     · go_simp
       have h := h.t14
       refine hK.out _ _ (.inr ⟨h.C.cell, h.O.cell⟩) fun _ => ?_
       simp only [sA, sZ, sC]
       exact E0110 _ g2 g3 _ q r sS gK cK gL cL h
   refine zkey w 1 false false false 9 #[true, true, true, true, true, true, true, true, false, false, false, false, false, false, false, false, false] (fun i => #[.bool false, .pointer (some ⟨w.heap.size, 0, none⟩), .pointer (some ⟨w.heap.size + 1, 0, none⟩), undef, undef, .agg #[.int .i64 2, .int .i64 1, .int .i64 1, .int .i64 2], .agg #[.int .i64 3, .int .u32 0], undef, .agg #[.int .i64 2, .int .i64 1, .int .i64 1, .int .i64 2], .agg #[.int .i64 6, .int .u32 0], .agg #[.int .i64 8, .int .u32 1], .agg #[.int .i64 7, .int .u32 0], .agg #[.int .i64 3, .int .u32 0], .agg #[.int .i64 3, .int .u32 0], .agg #[.int .i64 3, .int .u32 0], .slice (some ⟨i.g2, 0, none⟩) 6 6, undef, undef, undef, undef, undef, undef, undef, undef, undef, undef, undef, undef, undef, undef, undef, undef, undef, undef, undef, undef, undef, undef, undef, undef, undef, undef, undef, undef, undef, undef, undef, undef, undef, undef, undef, undef, undef, undef, undef, undef, undef, undef]) ?_ (fun E1000 => ?_)
   · rintro ⟨V, g2, g3, gA, q, r, sS, gK, cK, gL, cL⟩ h
     dsimp only at h ⊢
     refine zthree 8 9 14 (by kernel_rfl) rfl rfl rfl rfl rfl rfl (fun K_ hK => ?_) (fun K_ hK => ?_) (fun K_ hK => ?_)
     · go_simp
       have h := h.a8
       refine hK.out _ _ (.inr ⟨h.C.cell, h.O.cell⟩) fun _ => ?_
       simp only [sA, sZ, sC]
       exact E2000 _ g2 _ gA q r sS gK cK gL cL h
     · go_simp
       go_at_call 10
       (with_reducible refine (picked_40 _).mono ?_)
       rintro e V' ⟨q', rfl, hr, hb⟩
       have h := h.c9 hr hb
       clear hr hb
       refine hK.out _ _ (.inr ⟨h.C.cell, h.O.cell⟩) fun _ => ?_
       simp only [sA, sZ, sC]
       exact E1100 _ g2 g3 gA q' r sS gK cK gL cL h
     · go_simp
       have h := h.t14
       refine hK.out _ _ (.inr ⟨h.C.cell, h.O.cell⟩) fun _ => ?_
       simp only [sA, sZ, sC]
       exact E1010 _ g2 g3 _ q r sS gK cK gL cL h
   refine zthree 7 9 14 (by kernel_rfl) rfl rfl rfl rfl rfl rfl (fun K_ hK => ?_) (fun K_ hK => ?_) (fun K_ hK => ?_)
   · go_simp
     have h := h.a7
     refine hK.out _ _ (.inr ⟨h.C.cell, h.O.cell⟩) fun _ => ?_
     simp only [sA, sZ, sC]
     exact E1000 _ _ g3 gA q r sS gK cK gL cL h
   · go_simp
     go_at_call 10
     (with_reducible refine (picked_40 _).mono ?_)
     rintro e V' ⟨q', rfl, hr, hb⟩
     have h := h.c9 hr hb
     clear hr hb
     refine hK.out _ _ (.inr ⟨h.C.cell, h.O.cell⟩) fun _ => ?_
     simp only [sA, sZ, sC]
     exact E0100 _ g2 g3 gA q' r sS gK cK gL cL h
   · go_simp
     have h := h.t14
     refine hK.out _ _ (.inr ⟨h.C.cell, h.O.cell⟩) fun _ => ?_
     simp only [sA, sZ, sC]
     exact E0010 _ g2 g3 _ q r sS gK cK gL cL h
 case rest =>
   obtain ⟨gA, rfl, rfl, r, sS, gK, cK, gL, cL, ht, ⟨b1, hk⟩, ⟨b2, hx⟩, hb⟩ := hcut
   have hct := ht.cell
   have hkc : wc.cell? ⟨gK, 39, none⟩ = some (.int .i64 27) := by
     obtain ⟨g, hg, _, _, hc, _⟩ := hk.at_ (by decide)
     injection hg with hg
     injection hg with hg
     rw [hg]
     exact hc 39 (by decide)
   have hxc : wc.cell? ⟨gL, 1, none⟩ = some (.int .u64 4294967296) := by
     obtain ⟨g, hg, _, _, hc, _⟩ := hx.at_ (by decide)
     injection hg with hg
     injection hg with hg
     rw [hg]
     exact hc 1 (by decide)
   have HB := lh hb
   clear ht hk hx hb
   go_wp2
   go_ret
   exact ⟨rfl, HB.out⟩
end Go.Proofs.YtffppdcpiieapaaGreat.Machc

namespace Go.Proofs.YtffppdcpiieapaaGreat.Drivec
open Go.ChangeShapes Go.WideShapes Go.RowKit Go.Deep Wordc Memc Procc
set_option linter.unusedVariables false
set_option maxRecDepth 100000

section
variable {H : Type} {enc : TypeId × Value -> H} {w : World} {base : Nat} {spare : Nat -> Bool} {held : Bool}
theorem open_op {n : Nat} {cs : List Value} {x : DataW H × List MemPlace} (h : DataW.trod enc Tryz.prog w base spare held n 46 cs = some x) : ∃ p : Int × Int, cs = pcells p /\ (-9223372036854775808 <= p.1 /\ p.1 <= 9223372036854775807) /\ (0 <= p.2 /\ p.2 <= 4294967295) := by
 obtain ⟨zs, n2, _, _, hcl2, hlen2, hg2⟩ := DataW.trod_struct Tryz.underlying46 h
 have hc2 : Tryz.prog.cellsOf 46 = 2 := by kernel_rfl
 have ki : Tryz.prog.cellsOf 3 = 1 := by kernel_rfl
 have ku : Tryz.prog.cellsOf 44 = 1 := by kernel_rfl
 rw [hc2] at hcl2
 match cs, hcl2 with
 | [a1, a2], _ =>
   match zs, hlen2 with
   | [z0, z1], _ =>
       have f0 : DataW.trod enc Tryz.prog w base spare held n2 3 (([a1, a2].drop 0).take (Tryz.prog.cellsOf 3)) = some z0 := hg2 0 _ rfl
       rw [ki] at f0
       have f1 : DataW.trod enc Tryz.prog w base spare held n2 44 (([a1, a2].drop 1).take (Tryz.prog.cellsOf 44)) = some z1 := hg2 1 _ rfl
       rw [ku] at f1
       obtain ⟨x1, e1, w1⟩ := open_num Tryz.underlying3 f0
       obtain ⟨x2, e2, w2⟩ := open_num Tryz.underlying44 f1
       exact ⟨⟨x1, x2⟩, by simp [pcells, e1, e2], fit_i64 w1, fit_u32 w2⟩
theorem open_pick2 {n : Nat} {cs : List Value} {x : DataW H × List MemPlace} (h : DataW.trod enc Tryz.prog w base spare held n 70 cs = some x) : ∃ p : Int × Int, cs = pcells p /\ (-9223372036854775808 <= p.1 /\ p.1 <= 9223372036854775807) /\ (0 <= p.2 /\ p.2 <= 4294967295) := by
 obtain ⟨zs, n2, _, _, hcl2, hlen2, hg2⟩ := DataW.trod_struct Tryz.underlying70 h
 have hc2 : Tryz.prog.cellsOf 70 = 2 := by kernel_rfl
 have ki : Tryz.prog.cellsOf 3 = 1 := by kernel_rfl
 have ku : Tryz.prog.cellsOf 44 = 1 := by kernel_rfl
 rw [hc2] at hcl2
 match cs, hcl2 with
 | [a1, a2], _ =>
   match zs, hlen2 with
   | [z0, z1], _ =>
       have f0 : DataW.trod enc Tryz.prog w base spare held n2 3 (([a1, a2].drop 0).take (Tryz.prog.cellsOf 3)) = some z0 := hg2 0 _ rfl
       rw [ki] at f0
       have f1 : DataW.trod enc Tryz.prog w base spare held n2 44 (([a1, a2].drop 1).take (Tryz.prog.cellsOf 44)) = some z1 := hg2 1 _ rfl
       rw [ku] at f1
       obtain ⟨x1, e1, w1⟩ := open_num Tryz.underlying3 f0
       obtain ⟨x2, e2, w2⟩ := open_num Tryz.underlying44 f1
       exact ⟨⟨x1, x2⟩, by simp [pcells, e1, e2], fit_i64 w1, fit_u32 w2⟩
def Val32 (l : List (Int × Int)) : Prop := ∀ o ∈ l, 0 <= o.2 /\ o.2 <= 4294967295
theorem open_opl {n : Nat} {cs : List Value} {x : DataW H × List MemPlace} (h : DataW.trod enc Tryz.prog w base spare held n 47 cs = some x) : ∃ y : Sl × List (Int × Int), cs = [.slice y.1.A y.1.n y.1.c] /\ RdO w w.heap.size y.1 y.2 /\ Val32 y.2 := by
 obtain ⟨s, l, hcs, h1, h2, h3, h4, h5⟩ := open_rows Tryz.underlying47 pcells 2 (by kernel_rfl) (by omega) (fun p => (-9223372036854775808 <= p.1 /\ p.1 <= 9223372036854775807) /\ (0 <= p.2 /\ p.2 <= 4294967295)) (fun n cs x h => open_op h) (fun _ => rfl) h
 refine ⟨⟨s, l⟩, hcs, ⟨h1, h2, h3, fun hn => ?_⟩, fun o ho => (h4 o ho).2⟩
 obtain ⟨b, off, e, hlt, hc⟩ := h5 hn
 exact ⟨b, off, e, hlt, fun i x hx => ⟨hc i x hx 0 _ rfl, hc i x hx 1 _ rfl⟩⟩
theorem open_ops {r : Reach} {b0 : Nat} {v : Value} {d : DataW H} {p : List MemPlace} (hv : Value.okWide Tryz.prog w r b0 24 v) (h : DataW.Trod enc Tryz.prog w base spare held 24 v d p) :
   ∃ (s : Sl) (l : List (List (Int × Int))), v = .slice s.A s.n s.c /\ RdLO w w.heap.size s l /\ ∀ x ∈ l, Val32 x := by
 obtain ⟨a0, len0, cap0, rfl⟩ := okWide_slice Tryz.underlying24 hv
 obtain ⟨fuel, hf⟩ := h
 obtain ⟨s, l, hcs, h1, h2, h3, h4, h5⟩ := open_rows Tryz.underlying24 (fun y : Sl × List (Int × Int) => [.slice y.1.A y.1.n y.1.c]) 1 (by kernel_rfl) (by omega) (fun y => RdO w w.heap.size y.1 y.2 /\ Val32 y.2) (fun n cs x h => open_opl h) (fun _ => rfl) hf
 simp [Value.cells] at hcs
 obtain ⟨rfl, rfl, rfl⟩ := hcs
 refine ⟨s, l.map (·.2), rfl, ⟨by rw [List.length_map]; exact h1, h2, h3, fun hn => ?_⟩, fun x hx => ?_⟩
 · obtain ⟨b, off, e, hlt, hc⟩ := h5 hn
   refine ⟨b, off, e, hlt, fun i x hx => ?_⟩
   rw [List.getElem?_map] at hx
   rcases hy : l[i]? with _ | y
   · rw [hy] at hx; cases hx
   · rw [hy] at hx
     injection hx with hx
     subst hx
     have := hc i y hy 0 _ rfl
     rw [Nat.mul_one, Nat.add_zero] at this
     exact ⟨y.1, this, (h4 y (List.mem_of_getElem? hy)).1⟩
 · obtain ⟨y, hy, rfl⟩ := List.mem_map.1 hx
   exact (h4 y hy).2
theorem open_picks2 {r : Reach} {b0 : Nat} {v : Value} {d : DataW H} {p : List MemPlace} (hv : Value.okWide Tryz.prog w r b0 25 v) (h : DataW.Trod enc Tryz.prog w base spare held 25 v d p) :
   ∃ (s : Sl) (l : List (Int × Int)), v = .slice s.A s.n s.c /\ RdP w w.heap.size s l /\ Val32 l := by
 obtain ⟨a0, len0, cap0, rfl⟩ := okWide_slice Tryz.underlying25 hv
 obtain ⟨fuel, hf⟩ := h
 obtain ⟨s, l, hcs, h1, h2, h3, h4, h5⟩ := open_rows Tryz.underlying25 pcells 2 (by kernel_rfl) (by omega) (fun p => (-9223372036854775808 <= p.1 /\ p.1 <= 9223372036854775807) /\ (0 <= p.2 /\ p.2 <= 4294967295)) (fun n cs x h => open_pick2 h) (fun _ => rfl) hf
 simp [Value.cells] at hcs
 obtain ⟨rfl, rfl, rfl⟩ := hcs
 refine ⟨s, l, rfl, ⟨h1, h2, h3, fun x hx => (h4 x hx).1, fun hn => ?_⟩, fun x hx => (h4 x hx).2⟩
 obtain ⟨b, off, e, hlt, hc⟩ := h5 hn
 exact ⟨b, off, e, hlt, fun i x hx => ⟨hc i x hx 0 _ rfl, hc i x hx 1 _ rfl⟩⟩
end
end Go.Proofs.YtffppdcpiieapaaGreat.Drivec

namespace Go.Proofs.YtffppdcpiieapaaGreat.Samez
open Go.RowKit Memc Refc
set_option linter.unusedVariables false
set_option maxRecDepth 100000

abbrev zR : R := ⟨0, 0, ⟨none, 0, 0⟩, ⟨none, 0, 0⟩, 0, 0, ⟨none, 0, 0⟩, ⟨none, 0, 0⟩, ⟨none, 0, 0⟩⟩
def zM : Memc.M := { e := 0, f := 0, li := [], pi := [], h := 0, t := 0, lk := [], nx := [], sl := [] }
theorem rm_zero (w : World) (B : Nat) : Rm w B zR zM := by
 refine ⟨rfl, rfl, rfl, rfl, ?_, Rd.nil _ _ _, Rd.nil _ _ _, Rd.nil _ _ _, Rd.nil _ _ _, Rd.nil _ _ _⟩
 intro a y hy
 have h0 : y = 0 := by
   by_cases ho : a < 1 \/ 9 < a
   · rw [area_no _ _ ho] at hy; cases hy
   · rcases nine ho with rfl | rfl | rfl | rfl | rfl | rfl | rfl | rfl | rfl <;> first | exact List.mem_singleton.1 hy | cases hy
 subst h0
 exact ⟨Int.le_refl 0, by decide⟩
theorem same_zz (w : World) : Calls Tryz.prog 8 #[.agg #[.int .u64 0, .int .u64 0, .slice none 0 0, .slice none 0 0, .int .u64 0, .int .u64 0, .slice none 0 0, .slice none 0 0, .slice none 0 0], .agg #[.int .u64 0, .int .u64 0, .slice none 0 0, .slice none 0 0, .int .u64 0, .int .u64 0, .slice none 0 0, .slice none 0 0, .slice none 0 0]] w (Refc.Tells w true) :=
 same_yes w 0 0 zR zR zM (rm_zero w 0) (Nat.zero_le _) (rm_zero w 0) (Nat.zero_le _)
end Go.Proofs.YtffppdcpiieapaaGreat.Samez
