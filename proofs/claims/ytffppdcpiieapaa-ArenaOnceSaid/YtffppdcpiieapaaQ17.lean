/- Whether the program of layer 5 is awake: the region that draws, a tree of its orders. · What Take and Give are behind their accesses, by the document's answer: small steps. · What a call is behind its accesses, by the document's answer. · How a Take ends, by the document's answer. · What a call is behind its accesses, by the document's answer. · What a call is behind its accesses, by the document's answer. · The document's machines of Take and Give, by contract. · The segments of a list, by the document's answer: by contract. -/
import Derived.Deep.DeepCutAuto
import Derived.Test.YtffppdcpiieapaaQ5
import Derived.Test.YtffppdcpiieapaaQ12
import Derived.Test.YtffppdcpiieapaaQ15
import Derived.Test.YtffppdcpiieapaaQ16
namespace Go.Proofs.Ytffppdcpiieapaa.Machc
open Go.RowKit Go.Proofs.Ytffppdcpiieapaa.Memc Go.Proofs.Ytffppdcpiieapaa.Newc Go.Proofs.Ytffppdcpiieapaa.Drivec Go.Proofs.Ytffppdcpiieapaa.Procc Go.Proofs.Ytffppdcpiieapaa.Arenac
set_option linter.unusedVariables false
set_option maxRecDepth 100000

/-- one of three may come up now -/
theorem zthree {P : Program} {ops : Array Oper} {Q : Exit → Act → World → Prop} {md : Region.Mode} {S : World → Prop} {zs : List Nat} (i j k : Nat) {o o' o'' : Oper} {n : Nat} {listed : Array Bool} {a : Act} {w : World} (hr : Region.ready md ops listed = [i, j, k]) (hi : ops[i]? = some o) (hj : ops[j]? = some o') (hk : ops[k]? = some o'') (hg : o.guard = none) (hg' : o'.guard = none) (hg'' : o''.guard = none)
    (h : ∀ K : Act → World → Prop, Hid (∀ b v, (Zreg.past zs (listed.setIfInBounds i true) = true ∨ S v) → ((Zreg.past zs (listed.setIfInBounds i true) = true ∨ S v) → Zreg.After P md ops Q S zs n (listed.setIfInBounds i true) b v) → K b v) → Oper.wp P o a w K Q)
    (h' : ∀ K : Act → World → Prop, Hid (∀ b v, (Zreg.past zs (listed.setIfInBounds j true) = true ∨ S v) → ((Zreg.past zs (listed.setIfInBounds j true) = true ∨ S v) → Zreg.After P md ops Q S zs n (listed.setIfInBounds j true) b v) → K b v) → Oper.wp P o' a w K Q)
    (h'' : ∀ K : Act → World → Prop, Hid (∀ b v, (Zreg.past zs (listed.setIfInBounds k true) = true ∨ S v) → ((Zreg.past zs (listed.setIfInBounds k true) = true ∨ S v) → Zreg.After P md ops Q S zs n (listed.setIfInBounds k true) b v) → K b v) → Oper.wp P o'' a w K Q) : Zreg.After P md ops Q S zs (n + 1) listed a w := by
  refine ⟨(fun h0 => (by rw [h0] at hr; cases hr)), fun m hm => ?_⟩
  rw [hr] at hm
  have hm' : m = i ∨ m = j ∨ m = k := by simpa using hm
  rcases hm' with hm' | hm' | hm'
  · subst hm'
    unfold wpOp
    rw [hi]
    have hw : Region.wanted o (yielded ops a.tmps) = true := by simp [Region.wanted, hg]
    simp only [hw, if_true]
    exact .inl (h _ (Lib.hid fun b v hS hh => ⟨hS, hh hS⟩))
  · subst hm'
    unfold wpOp
    rw [hj]
    have hw : Region.wanted o' (yielded ops a.tmps) = true := by simp [Region.wanted, hg']
    simp only [hw, if_true]
    exact .inl (h' _ (Lib.hid fun b v hS hh => ⟨hS, hh hS⟩))
  · subst hm'
    unfold wpOp
    rw [hk]
    have hw : Region.wanted o'' (yielded ops a.tmps) = true := by simp [Region.wanted, hg'']
    simp only [hw, if_true]
    exact .inl (h'' _ (Lib.hid fun b v hS hh => ⟨hS, hh hS⟩))
/-- how far the first line is -/
structure AwS (w : World) (a : Nat) (b c d : Bool) (V : World) (g2 g3 gA : Nat) (q : Sl) (r : R) (sS : Sl) (gK cK gL cL : Nat) : Prop where
  C : Blk V w.heap.size 23 #[.int .i64 2, .int .i64 1, .int .i64 1, .int .i64 2]
  O : Blk V (w.heap.size + 1) 63 #[.int .i64 3, .int .u32 0]
  W : Below w.heap.size w V
  B : 1 ≤ a → Blk V g2 63 #[.int .i64 6, .int .u32 0, .int .i64 8, .int .u32 1, .int .i64 7, .int .u32 0, .int .i64 3, .int .u32 0, .int .i64 3, .int .u32 0, .int .i64 3, .int .u32 0]
  L : 2 ≤ a → Blk V g3 61 #[.slice (some ⟨g2, 0, none⟩) 6 6]
  Q : b = true → ∃ base, Row V base 65 2 q 40 (flatP (List.replicate 40 (0, 0)))
  T : c = true → Blk V gA 35 #[.slice none 0 0, .slice none 0 0, .int .u64 0, .int .u64 0, .slice none 0 0, .slice none 0 0, .int .u64 0, .int .u64 0, .slice none 0 0, .slice none 0 0, .slice none 0 0] ∧ w.heap.size ≤ gA
  K : d = true → ∃ b1, Row V b1 55 7 ⟨some ⟨gK, 0, none⟩, 6, cK⟩ 6 k40
  X : d = true → ∃ b2, Row V b2 30 1 ⟨some ⟨gL, 0, none⟩, 2, cL⟩ 2 [.int .u64 0, .int .u64 4294967296]
section
variable {w V V' : World} {a : Nat} {b c d : Bool} {g2 g3 gA : Nat} {q : Sl} {r : R} {sS : Sl} {gK cK gL cL : Nat}
theorem AwS.alloc (h : AwS w a b c d V g2 g3 gA q r sS gK cK gL cL) (o : Obj) : AwS w a b c d (V.alloc o) g2 g3 gA q r sS gK cK gL cL :=
  ⟨h.C.alloc o, h.O.alloc o, h.W.alloc h.W.size o, fun x => (h.B x).alloc o, fun x => (h.L x).alloc o, fun x => (h.Q x).imp fun _ y => Row.alloc y o, fun x => ⟨(h.T x).1.alloc o, (h.T x).2⟩, fun x => (h.K x).imp fun _ y => Row.alloc y o, fun x => (h.X x).imp fun _ y => Row.alloc y o⟩
theorem AwS.below (h : AwS w a b c d V g2 g3 gA q r sS gK cK gL cL) (o : Below V.heap.size V V') : AwS w a b c d V' g2 g3 gA q r sS gK cK gL cL :=
  ⟨h.C.below o h.C.lt, h.O.below o h.O.lt, h.W.trans (o.mono h.W.size), fun x => (h.B x).below o (h.B x).lt, fun x => (h.L x).below o (h.L x).lt, fun x => (h.Q x).imp fun _ y => y.below o (Nat.le_refl _), fun x => ⟨(h.T x).1.below o (h.T x).1.lt, (h.T x).2⟩, fun x => (h.K x).imp fun _ y => y.below o (Nat.le_refl _), fun x => (h.X x).imp fun _ y => y.below o (Nat.le_refl _)⟩
theorem AwS.a7 (h : AwS w 0 b c d V g2 g3 gA q r sS gK cK gL cL) : AwS w 1 b c d (V.alloc (.cells #[.int .i64 6, .int .u32 0, .int .i64 8, .int .u32 1, .int .i64 7, .int .u32 0, .int .i64 3, .int .u32 0, .int .i64 3, .int .u32 0, .int .i64 3, .int .u32 0] 63)) V.heap.size g3 gA q r sS gK cK gL cL :=
  have h' := h.alloc (.cells #[.int .i64 6, .int .u32 0, .int .i64 8, .int .u32 1, .int .i64 7, .int .u32 0, .int .i64 3, .int .u32 0, .int .i64 3, .int .u32 0, .int .i64 3, .int .u32 0] 63)
  ⟨h'.C, h'.O, h'.W, fun _ => Blk.new _ _ _, fun x => absurd x (by omega), h'.Q, h'.T, h'.K, h'.X⟩
theorem AwS.a8 (h : AwS w 1 b c d V g2 g3 gA q r sS gK cK gL cL) : AwS w 2 b c d (V.alloc (.cells #[.slice (some ⟨g2, 0, none⟩) 6 6] 61)) g2 V.heap.size gA q r sS gK cK gL cL :=
  have h' := h.alloc (.cells #[.slice (some ⟨g2, 0, none⟩) 6 6] 61)
  ⟨h'.C, h'.O, h'.W, fun _ => h'.B (by omega), fun _ => Blk.new _ _ _, h'.Q, h'.T, h'.K, h'.X⟩
theorem AwS.c9 {base : Nat} {q' : Sl} (h : AwS w a false c d V g2 g3 gA q r sS gK cK gL cL) (hr : Row V' base 65 2 q' 40 (flatP (List.replicate 40 (0, 0)))) (o : Below V.heap.size V V') : AwS w a true c d V' g2 g3 gA q' r sS gK cK gL cL :=
  have h' := h.below o
  ⟨h'.C, h'.O, h'.W, h'.B, h'.L, fun _ => ⟨_, hr⟩, h'.T, h'.K, h'.X⟩
theorem AwS.t14 (h : AwS w a b false d V g2 g3 gA q r sS gK cK gL cL) : AwS w a b true d (V.alloc (.cells #[.slice none 0 0, .slice none 0 0, .int .u64 0, .int .u64 0, .slice none 0 0, .slice none 0 0, .int .u64 0, .int .u64 0, .slice none 0 0, .slice none 0 0, .slice none 0 0] 35)) g2 g3 V.heap.size q r sS gK cK gL cL :=
  have h' := h.alloc (.cells #[.slice none 0 0, .slice none 0 0, .int .u64 0, .int .u64 0, .slice none 0 0, .slice none 0 0, .int .u64 0, .int .u64 0, .slice none 0 0, .slice none 0 0, .slice none 0 0] 35)
  ⟨h'.C, h'.O, h'.W, h'.B, h'.L, h'.Q, fun _ => ⟨Blk.new _ _ _, h.W.size⟩, h'.K, h'.X⟩
theorem AwS.r10 {r' : R} {sS' : Sl} {gK' cK' gL' cL' : Nat} (h : AwS w a b c false V g2 g3 gA q r sS gK cK gL cL) (hk : ∃ b1, Row V' b1 55 7 ⟨some ⟨gK', 0, none⟩, 6, cK'⟩ 6 k40) (hx : ∃ b2, Row V' b2 30 1 ⟨some ⟨gL', 0, none⟩, 2, cL'⟩ 2 [.int .u64 0, .int .u64 4294967296]) (o : Below V.heap.size V V') : AwS w a b c true V' g2 g3 gA q r' sS' gK' cK' gL' cL' :=
  have h' := h.below o
  ⟨h'.C, h'.O, h'.W, h'.B, h'.L, h'.Q, h'.T, fun _ => hk, fun _ => hx⟩
end
structure AwI where
  V : World
  g2 : Nat
  g3 : Nat
  gA : Nat
  q : Sl
  r : R
  sS : Sl
  gK : Nat
  cK : Nat
  gL : Nat
  cL : Nat
theorem zkey {P : Program} {md : Region.Mode} {ops : Array Oper} {Q : Exit → Act → World → Prop} {S : World → Prop} {zs : List Nat} {n : Nat} {listed : Array Bool} {a : Act} {v : World} (w : World) (x : Nat) (b c d : Bool) (m : Nat) (l2 : Array Bool) (A : AwI → Array Value)
    (hE : ∀ i : AwI, AwS w x b c d i.V i.g2 i.g3 i.gA i.q i.r i.sS i.gK i.cK i.gL i.cL → Zreg.After P md ops Q S zs m l2 ⟨A i, []⟩ i.V)
    (h : (∀ (V : World) (g2 g3 gA : Nat) (q : Sl) (r : R) (sS : Sl) (gK cK gL cL : Nat), AwS w x b c d V g2 g3 gA q r sS gK cK gL cL → Zreg.After P md ops Q S zs m l2 ⟨A ⟨V, g2, g3, gA, q, r, sS, gK, cK, gL, cL⟩, []⟩ V) → Zreg.After P md ops Q S zs n listed a v) : Zreg.After P md ops Q S zs n listed a v :=
  h (fun V g2 g3 gA q r sS gK cK gL cL hs => hE ⟨V, g2, g3, gA, q, r, sS, gK, cK, gL, cL⟩ hs)
/-- what the first line leaves -/
def Cut40 (w : World) (gA : Nat) (wx : World) : Prop := ∃ (r : R) (sS : Sl) (gK cK gL cL : Nat), Blk wx gA 35 #[.slice sS.A sS.n sS.c, .slice (some ⟨gK, 0, none⟩) 6 cK, .int .u64 3, .int .u64 4294967298, .slice r.L.A r.L.n r.L.c, .slice r.P.A r.P.n r.P.c, .int .u64 r.h, .int .u64 r.t, .slice (some ⟨gL, 0, none⟩) 2 cL, .slice r.X.A r.X.n r.X.c, .slice r.S.A r.S.n r.S.c] ∧ (∃ b1, Row wx b1 55 7 ⟨some ⟨gK, 0, none⟩, 6, cK⟩ 6 k40) ∧ (∃ b2, Row wx b2 30 1 ⟨some ⟨gL, 0, none⟩, 2, cL⟩ 2 [.int .u64 0, .int .u64 4294967296]) ∧ Below w.heap.size w wx
set_option maxHeartbeats 8000000 in
theorem awake5_c (w : World) : Calls Try.prog 21 #[] w fun e w' => e = .returned (.bool true) ∧ Below w.heap.size w w' := by
  have C0 : Hid (Blk ((w.alloc (.cells #[.int .i64 2, .int .i64 1, .int .i64 1, .int .i64 2] 23)).alloc (.cells #[.int .i64 3, .int .u32 0] 63)) w.heap.size 23 #[.int .i64 2, .int .i64 1, .int .i64 1, .int .i64 2]) := Lib.hid ((Blk.new _ _ _).alloc _)
  have O0 : Hid (Blk ((w.alloc (.cells #[.int .i64 2, .int .i64 1, .int .i64 1, .int .i64 2] 23)).alloc (.cells #[.int .i64 3, .int .u32 0] 63)) (w.heap.size + 1) 63 #[.int .i64 3, .int .u32 0]) := Lib.hid (Arenac.blk_at2 _ _ _ _ (by simp))
  have W0 : Hid (Below w.heap.size w ((w.alloc (.cells #[.int .i64 2, .int .i64 1, .int .i64 1, .int .i64 2] 23)).alloc (.cells #[.int .i64 3, .int .u32 0] 63))) := Lib.hid (((Below.refl _ _).alloc (Nat.le_refl _) _).alloc (by simp) _)
  go_enter Try.func21, Try.ntmps21
  go_upto_region 3 with fail
  generalize ((w.alloc (.cells #[.int .i64 2, .int .i64 1, .int .i64 1, .int .i64 2] 23)).alloc (.cells #[.int .i64 3, .int .u32 0] 63)) = V0 at C0 O0 W0 ⊢
  go_cut [3, 4] (fun x y wx => ∃ gA : Nat, x = .pointer (some ⟨gA, 0, none⟩) ∧ y = .int .i64 0 ∧ Cut40 w gA wx)
  case first =>
    refine Zreg.begin_ (S := (fun w' => (∀ j, w'.cell? ⟨w.heap.size, j, none⟩ = (#[.int .i64 2, .int .i64 1, .int .i64 1, .int .i64 2] : Array Value)[j]?) ∧ (∀ j, w'.cell? ⟨w.heap.size + 1, j, none⟩ = (#[.int .i64 3, .int .u32 0] : Array Value)[j]?))) (zs := [15]) (by kernel_rfl) ?_
    show Zreg.After _ _ _ _ _ _ 17 #[false, false, false, false, false, false, false, false, false, false, false, false, false, false, false, false, false] _ _
    refine Zreg.takeS 0 8 (x := ?xa_0) rfl rfl (by kernel_rfl) (by kernel_rfl) (by kernel_rfl) (by kernel_rfl) (by kernel_rfl) (by kernel_rfl) (fun _ _ _ h => h) (.inr ⟨C0.out.drew.cell, O0.out.drew.cell⟩) (Or.inl ⟨by rfl, ?ya_0⟩) ?ra_0
    case ya_0 => (intro w hSw; (try dsimp only at hSw); go_simp <;> with_reducible rfl)
    simp only [List.setIfInBounds_toArray, List.set_cons_zero, List.set_cons_succ]
    refine Zreg.takeP 1 9 (x := ?xa_1) rfl rfl (by kernel_rfl) (by kernel_rfl) (by kernel_rfl) (by kernel_rfl) (fun _ _ _ h => h) (.inr ⟨C0.out.drew.cell, O0.out.drew.cell⟩) (Or.inl ⟨by rfl, ?ya_1⟩) ?ra_1
    case ya_1 => (intro w _; go_simp <;> with_reducible rfl)
    simp only [List.setIfInBounds_toArray, List.set_cons_zero, List.set_cons_succ]
    refine Zreg.takeP 2 10 (x := ?xa_2) rfl rfl (by kernel_rfl) (by kernel_rfl) (by kernel_rfl) (by kernel_rfl) (fun _ _ _ h => h) (.inr ⟨C0.out.drew.cell, O0.out.drew.cell⟩) (Or.inl ⟨by rfl, ?ya_2⟩) ?ra_2
    case ya_2 => (intro w _; go_simp <;> with_reducible rfl)
    simp only [List.setIfInBounds_toArray, List.set_cons_zero, List.set_cons_succ]
    refine Zreg.takeP 3 11 (x := ?xa_3) rfl rfl (by kernel_rfl) (by kernel_rfl) (by kernel_rfl) (by kernel_rfl) (fun _ _ _ h => h) (.inr ⟨C0.out.drew.cell, O0.out.drew.cell⟩) (Or.inl ⟨by rfl, ?ya_3⟩) ?ra_3
    case ya_3 => (intro w _; go_simp <;> with_reducible rfl)
    simp only [List.setIfInBounds_toArray, List.set_cons_zero, List.set_cons_succ]
    refine Zreg.takeS 4 12 (x := ?xa_4) rfl rfl (by kernel_rfl) (by kernel_rfl) (by kernel_rfl) (by kernel_rfl) (by kernel_rfl) (by kernel_rfl) (fun _ _ _ h => h) (.inr ⟨C0.out.drew.cell, O0.out.drew.cell⟩) (Or.inl ⟨by rfl, ?ya_4⟩) ?ra_4
    case ya_4 => (intro w hSw; (try dsimp only at hSw); go_simp <;> with_reducible rfl)
    simp only [List.setIfInBounds_toArray, List.set_cons_zero, List.set_cons_succ]
    refine Zreg.takeS 5 13 (x := ?xa_5) rfl rfl (by kernel_rfl) (by kernel_rfl) (by kernel_rfl) (by kernel_rfl) (by kernel_rfl) (by kernel_rfl) (fun _ _ _ h => h) (.inr ⟨C0.out.drew.cell, O0.out.drew.cell⟩) (Or.inl ⟨by rfl, ?ya_5⟩) ?ra_5
    case ya_5 => (intro w hSw; (try dsimp only at hSw); go_simp <;> with_reducible rfl)
    simp only [List.setIfInBounds_toArray, List.set_cons_zero, List.set_cons_succ]
    refine Zreg.takeS 6 14 (x := ?xa_6) rfl rfl (by kernel_rfl) (by kernel_rfl) (by kernel_rfl) (by kernel_rfl) (by kernel_rfl) (by kernel_rfl) (fun _ _ _ h => h) (.inr ⟨C0.out.drew.cell, O0.out.drew.cell⟩) (Or.inl ⟨by rfl, ?ya_6⟩) ?ra_6
    case ya_6 => (intro w hSw; (try dsimp only at hSw); go_simp <;> with_reducible rfl)
    simp only [List.setIfInBounds_toArray, List.set_cons_zero, List.set_cons_succ]
    have h : AwS w 0 false false false V0.drew 0 0 0 nilS ⟨0, 0, nilS, nilS, 0, 0, nilS, nilS, nilS⟩ nilS 0 0 0 0 := ⟨C0.out.drew, O0.out.drew, W0.out.drew, fun h => absurd h (by omega), fun h => absurd h (by omega), (fun h => by cases h), (fun h => by cases h), (fun h => by cases h), (fun h => by cases h)⟩
    clear C0 O0 W0
    obtain ⟨g2, g3, gA, q, r, sS, gK, cK, gL, cL, h⟩ : ∃ g2 g3 gA q r sS gK cK gL cL, AwS w 0 false false false V0.drew g2 g3 gA q r sS gK cK gL cL := ⟨_, _, _, _, _, _, _, _, _, _, h⟩
    generalize V0.drew = V at h ⊢
    refine zkey w 2 true true true 2 #[true, true, true, true, true, true, true, true, true, true, true, true, true, true, true, false, false] (fun i => #[.bool false, .pointer (some ⟨w.heap.size, 0, none⟩), .pointer (some ⟨w.heap.size + 1, 0, none⟩), .pointer (some ⟨i.gA, 0, none⟩), undef, .agg #[.int .i64 2, .int .i64 1, .int .i64 1, .int .i64 2], .agg #[.int .i64 3, .int .u32 0], .tuple #[.agg #[.slice i.sS.A i.sS.n i.sS.c, .slice (some ⟨i.gK, 0, none⟩) 6 i.cK, .int .u64 3, .int .u64 4294967298, .slice i.r.L.A i.r.L.n i.r.L.c, .slice i.r.P.A i.r.P.n i.r.P.c, .int .u64 i.r.h, .int .u64 i.r.t, .slice (some ⟨i.gL, 0, none⟩) 2 i.cL, .slice i.r.X.A i.r.X.n i.r.X.c, .slice i.r.S.A i.r.S.n i.r.S.c], .int .i64 0], .agg #[.int .i64 2, .int .i64 1, .int .i64 1, .int .i64 2], .agg #[.int .i64 6, .int .u32 0], .agg #[.int .i64 8, .int .u32 1], .agg #[.int .i64 7, .int .u32 0], .agg #[.int .i64 3, .int .u32 0], .agg #[.int .i64 3, .int .u32 0], .agg #[.int .i64 3, .int .u32 0], .slice (some ⟨i.g2, 0, none⟩) 6 6, .slice (some ⟨i.g3, 0, none⟩) 1 1, .slice i.q.A i.q.n i.q.c, .tuple #[.agg #[.slice i.sS.A i.sS.n i.sS.c, .slice (some ⟨i.gK, 0, none⟩) 6 i.cK, .int .u64 3, .int .u64 4294967298, .slice i.r.L.A i.r.L.n i.r.L.c, .slice i.r.P.A i.r.P.n i.r.P.c, .int .u64 i.r.h, .int .u64 i.r.t, .slice (some ⟨i.gL, 0, none⟩) 2 i.cL, .slice i.r.X.A i.r.X.n i.r.X.c, .slice i.r.S.A i.r.S.n i.r.S.c], .int .i64 0], .agg #[.slice i.sS.A i.sS.n i.sS.c, .slice (some ⟨i.gK, 0, none⟩) 6 i.cK, .int .u64 3, .int .u64 4294967298, .slice i.r.L.A i.r.L.n i.r.L.c, .slice i.r.P.A i.r.P.n i.r.P.c, .int .u64 i.r.h, .int .u64 i.r.t, .slice (some ⟨i.gL, 0, none⟩) 2 i.cL, .slice i.r.X.A i.r.X.n i.r.X.c, .slice i.r.S.A i.r.S.n i.r.S.c], .int .i64 0, undef, undef, undef, undef, undef, undef, undef, undef, undef, undef, undef, undef, undef, undef, undef, undef, undef, undef, undef, undef, undef, undef, undef, undef, undef, undef, undef, undef, undef, undef, undef, undef, undef, undef, undef, undef, undef]) ?_ (fun EF => ?_)
    · rintro ⟨V, g2, g3, gA, q, r, sS, gK, cK, gL, cL⟩ h
      dsimp only at h ⊢
      obtain ⟨hT, hA⟩ := h.T rfl
      obtain ⟨b1, hk⟩ := h.K rfl
      obtain ⟨b2, hx⟩ := h.X rfl
      have hW := h.W
      have TE : Hid (Blk (((((((((((V.setCell ⟨gA, 0, none⟩ (.slice sS.A sS.n sS.c)).setCell ⟨gA, 1, none⟩ (.slice (some ⟨gK, 0, none⟩) 6 cK)).setCell ⟨gA, 2, none⟩ (.int .u64 3)).setCell ⟨gA, 3, none⟩ (.int .u64 4294967298)).setCell ⟨gA, 4, none⟩ (.slice r.L.A r.L.n r.L.c)).setCell ⟨gA, 5, none⟩ (.slice r.P.A r.P.n r.P.c)).setCell ⟨gA, 6, none⟩ (.int .u64 r.h)).setCell ⟨gA, 7, none⟩ (.int .u64 r.t)).setCell ⟨gA, 8, none⟩ (.slice (some ⟨gL, 0, none⟩) 2 cL)).setCell ⟨gA, 9, none⟩ (.slice r.X.A r.X.n r.X.c)).setCell ⟨gA, 10, none⟩ (.slice r.S.A r.S.n r.S.c)) gA 35 #[.slice sS.A sS.n sS.c, .slice (some ⟨gK, 0, none⟩) 6 cK, .int .u64 3, .int .u64 4294967298, .slice r.L.A r.L.n r.L.c, .slice r.P.A r.P.n r.P.c, .int .u64 r.h, .int .u64 r.t, .slice (some ⟨gL, 0, none⟩) 2 cL, .slice r.X.A r.X.n r.X.c, .slice r.S.A r.S.n r.S.c]) := Lib.hid (by have h_ := (Blk.set_ (Blk.set_ (Blk.set_ (Blk.set_ (Blk.set_ (Blk.set_ (Blk.set_ (Blk.set_ (Blk.set_ (Blk.set_ (Blk.set_ hT 0 (.slice sS.A sS.n sS.c)) 1 (.slice (some ⟨gK, 0, none⟩) 6 cK)) 2 (.int .u64 3)) 3 (.int .u64 4294967298)) 4 (.slice r.L.A r.L.n r.L.c)) 5 (.slice r.P.A r.P.n r.P.c)) 6 (.int .u64 r.h)) 7 (.int .u64 r.t)) 8 (.slice (some ⟨gL, 0, none⟩) 2 cL)) 9 (.slice r.X.A r.X.n r.X.c)) 10 (.slice r.S.A r.S.n r.S.c)); simpa only [List.setIfInBounds_toArray, List.set_cons_zero, List.set_cons_succ] using h_)
      have OE : Hid (Only (fun g => g = gA) V (((((((((((V.setCell ⟨gA, 0, none⟩ (.slice sS.A sS.n sS.c)).setCell ⟨gA, 1, none⟩ (.slice (some ⟨gK, 0, none⟩) 6 cK)).setCell ⟨gA, 2, none⟩ (.int .u64 3)).setCell ⟨gA, 3, none⟩ (.int .u64 4294967298)).setCell ⟨gA, 4, none⟩ (.slice r.L.A r.L.n r.L.c)).setCell ⟨gA, 5, none⟩ (.slice r.P.A r.P.n r.P.c)).setCell ⟨gA, 6, none⟩ (.int .u64 r.h)).setCell ⟨gA, 7, none⟩ (.int .u64 r.t)).setCell ⟨gA, 8, none⟩ (.slice (some ⟨gL, 0, none⟩) 2 cL)).setCell ⟨gA, 9, none⟩ (.slice r.X.A r.X.n r.X.c)).setCell ⟨gA, 10, none⟩ (.slice r.S.A r.S.n r.S.c))) := Lib.hid ((Only.set_ (Only.set_ (Only.set_ (Only.set_ (Only.set_ (Only.set_ (Only.set_ (Only.set_ (Only.set_ (Only.set_ (Only.set_ (Only.refl (fun g => g = gA) V) ⟨gA, 0, none⟩ (.inl rfl) (.slice sS.A sS.n sS.c)) ⟨gA, 1, none⟩ (.inl rfl) (.slice (some ⟨gK, 0, none⟩) 6 cK)) ⟨gA, 2, none⟩ (.inl rfl) (.int .u64 3)) ⟨gA, 3, none⟩ (.inl rfl) (.int .u64 4294967298)) ⟨gA, 4, none⟩ (.inl rfl) (.slice r.L.A r.L.n r.L.c)) ⟨gA, 5, none⟩ (.inl rfl) (.slice r.P.A r.P.n r.P.c)) ⟨gA, 6, none⟩ (.inl rfl) (.int .u64 r.h)) ⟨gA, 7, none⟩ (.inl rfl) (.int .u64 r.t)) ⟨gA, 8, none⟩ (.inl rfl) (.slice (some ⟨gL, 0, none⟩) 2 cL)) ⟨gA, 9, none⟩ (.inl rfl) (.slice r.X.A r.X.n r.X.c)) ⟨gA, 10, none⟩ (.inl rfl) (.slice r.S.A r.S.n r.S.c)))
      have KE := Lib.hid (hk.only OE.out (hk.ne hT (by decide)))
      have XE := Lib.hid (hx.only OE.out (hx.ne hT (by decide)))
      have WE := Lib.hid (hW.trans (OE.out.below hW.size (fun g hg => by rw [hg]; exact hA)))
      have hf := hT.frozen
      have hc := hT.cell
      clear hT hk hx hW hA h
      refine Zreg.one 15 (by kernel_rfl) rfl rfl fun K_ hK => ?_
      go_simp
      refine hK.out _ _ (.inl (by kernel_rfl)) fun _ => ?_
      clear hK hf hc
      generalize (((((((((((V.setCell ⟨gA, 0, none⟩ (.slice sS.A sS.n sS.c)).setCell ⟨gA, 1, none⟩ (.slice (some ⟨gK, 0, none⟩) 6 cK)).setCell ⟨gA, 2, none⟩ (.int .u64 3)).setCell ⟨gA, 3, none⟩ (.int .u64 4294967298)).setCell ⟨gA, 4, none⟩ (.slice r.L.A r.L.n r.L.c)).setCell ⟨gA, 5, none⟩ (.slice r.P.A r.P.n r.P.c)).setCell ⟨gA, 6, none⟩ (.int .u64 r.h)).setCell ⟨gA, 7, none⟩ (.int .u64 r.t)).setCell ⟨gA, 8, none⟩ (.slice (some ⟨gL, 0, none⟩) 2 cL)).setCell ⟨gA, 9, none⟩ (.slice r.X.A r.X.n r.X.c)).setCell ⟨gA, 10, none⟩ (.slice r.S.A r.S.n r.S.c)) = V9 at TE OE KE XE WE ⊢
      simp only [List.setIfInBounds_toArray, List.set_cons_zero, List.set_cons_succ]
      refine Zreg.takeP 16 4 (x := ?xz_16) rfl rfl (by kernel_rfl) (by kernel_rfl) (by kernel_rfl) (by kernel_rfl) (fun _ _ _ h => h) (.inl (by kernel_rfl)) (Or.inl ⟨by rfl, ?yz_16⟩) ?rz_16
      case yz_16 => (intro w _; go_simp <;> with_reducible rfl)
      simp only [List.setIfInBounds_toArray, List.set_cons_zero, List.set_cons_succ]
      refine Zreg.done (by kernel_rfl) ?_ _
      go_wp2_with fail
      go_meet
      exact ⟨gA, rfl, rfl, r, sS, gK, cK, gL, cL, TE.out, ⟨_, KE.out⟩, ⟨_, XE.out⟩, WE.out⟩
    refine zkey w 2 true true true 5 #[true, true, true, true, true, true, true, true, true, true, true, false, false, false, true, false, false] (fun i => #[.bool false, .pointer (some ⟨w.heap.size, 0, none⟩), .pointer (some ⟨w.heap.size + 1, 0, none⟩), .pointer (some ⟨i.gA, 0, none⟩), undef, .agg #[.int .i64 2, .int .i64 1, .int .i64 1, .int .i64 2], .agg #[.int .i64 3, .int .u32 0], undef, .agg #[.int .i64 2, .int .i64 1, .int .i64 1, .int .i64 2], .agg #[.int .i64 6, .int .u32 0], .agg #[.int .i64 8, .int .u32 1], .agg #[.int .i64 7, .int .u32 0], .agg #[.int .i64 3, .int .u32 0], .agg #[.int .i64 3, .int .u32 0], .agg #[.int .i64 3, .int .u32 0], .slice (some ⟨i.g2, 0, none⟩) 6 6, .slice (some ⟨i.g3, 0, none⟩) 1 1, .slice i.q.A i.q.n i.q.c, .tuple #[.agg #[.slice i.sS.A i.sS.n i.sS.c, .slice (some ⟨i.gK, 0, none⟩) 6 i.cK, .int .u64 3, .int .u64 4294967298, .slice i.r.L.A i.r.L.n i.r.L.c, .slice i.r.P.A i.r.P.n i.r.P.c, .int .u64 i.r.h, .int .u64 i.r.t, .slice (some ⟨i.gL, 0, none⟩) 2 i.cL, .slice i.r.X.A i.r.X.n i.r.X.c, .slice i.r.S.A i.r.S.n i.r.S.c], .int .i64 0], undef, undef, undef, undef, undef, undef, undef, undef, undef, undef, undef, undef, undef, undef, undef, undef, undef, undef, undef, undef, undef, undef, undef, undef, undef, undef, undef, undef, undef, undef, undef, undef, undef, undef, undef, undef, undef, undef, undef]) ?_ (fun E2111 => ?_)
    · rintro ⟨V, g2, g3, gA, q, r, sS, gK, cK, gL, cL⟩ h
      dsimp only at h ⊢
      refine Zreg.takeP 11 7 (x := ?xf_11) rfl rfl (by kernel_rfl) (by kernel_rfl) (by kernel_rfl) (by kernel_rfl) (fun _ _ _ h => h) ((.inr ⟨h.C.cell, h.O.cell⟩)) (Or.inl ⟨by rfl, ?yf_11⟩) ?rf_11
      case yf_11 => (intro w _; go_simp <;> with_reducible rfl)
      simp only [List.setIfInBounds_toArray, List.set_cons_zero, List.set_cons_succ]
      refine Zreg.takeP 12 19 (x := ?xf_12) rfl rfl (by kernel_rfl) (by kernel_rfl) (by kernel_rfl) (by kernel_rfl) (fun _ _ _ h => h) ((.inr ⟨h.C.cell, h.O.cell⟩)) (Or.inl ⟨by rfl, ?yf_12⟩) ?rf_12
      case yf_12 => (intro w _; go_simp <;> with_reducible rfl)
      simp only [List.setIfInBounds_toArray, List.set_cons_zero, List.set_cons_succ]
      refine Zreg.takeP 13 20 (x := ?xf_13) rfl rfl (by kernel_rfl) (by kernel_rfl) (by kernel_rfl) (by kernel_rfl) (fun _ _ _ h => h) ((.inr ⟨h.C.cell, h.O.cell⟩)) (Or.inl ⟨by rfl, ?yf_13⟩) ?rf_13
      case yf_13 => (intro w _; go_simp <;> with_reducible rfl)
      simp only [List.setIfInBounds_toArray, List.set_cons_zero, List.set_cons_succ]
      exact EF _ g2 g3 gA q r sS gK cK gL cL h
    refine zkey w 2 true false true 6 #[true, true, true, true, true, true, true, true, true, true, true, false, false, false, false, false, false] (fun i => #[.bool false, .pointer (some ⟨w.heap.size, 0, none⟩), .pointer (some ⟨w.heap.size + 1, 0, none⟩), undef, undef, .agg #[.int .i64 2, .int .i64 1, .int .i64 1, .int .i64 2], .agg #[.int .i64 3, .int .u32 0], undef, .agg #[.int .i64 2, .int .i64 1, .int .i64 1, .int .i64 2], .agg #[.int .i64 6, .int .u32 0], .agg #[.int .i64 8, .int .u32 1], .agg #[.int .i64 7, .int .u32 0], .agg #[.int .i64 3, .int .u32 0], .agg #[.int .i64 3, .int .u32 0], .agg #[.int .i64 3, .int .u32 0], .slice (some ⟨i.g2, 0, none⟩) 6 6, .slice (some ⟨i.g3, 0, none⟩) 1 1, .slice i.q.A i.q.n i.q.c, .tuple #[.agg #[.slice i.sS.A i.sS.n i.sS.c, .slice (some ⟨i.gK, 0, none⟩) 6 i.cK, .int .u64 3, .int .u64 4294967298, .slice i.r.L.A i.r.L.n i.r.L.c, .slice i.r.P.A i.r.P.n i.r.P.c, .int .u64 i.r.h, .int .u64 i.r.t, .slice (some ⟨i.gL, 0, none⟩) 2 i.cL, .slice i.r.X.A i.r.X.n i.r.X.c, .slice i.r.S.A i.r.S.n i.r.S.c], .int .i64 0], undef, undef, undef, undef, undef, undef, undef, undef, undef, undef, undef, undef, undef, undef, undef, undef, undef, undef, undef, undef, undef, undef, undef, undef, undef, undef, undef, undef, undef, undef, undef, undef, undef, undef, undef, undef, undef, undef, undef]) ?_ (fun E2101 => ?_)
    · rintro ⟨V, g2, g3, gA, q, r, sS, gK, cK, gL, cL⟩ h
      dsimp only at h ⊢
      refine Zreg.takeP 11 7 (x := ?xg_11) rfl rfl (by kernel_rfl) (by kernel_rfl) (by kernel_rfl) (by kernel_rfl) (fun _ _ _ h => h) ((.inr ⟨h.C.cell, h.O.cell⟩)) (Or.inl ⟨by rfl, ?yg_11⟩) ?rg_11
      case yg_11 => (intro w _; go_simp <;> with_reducible rfl)
      simp only [List.setIfInBounds_toArray, List.set_cons_zero, List.set_cons_succ]
      refine Zreg.takeP 12 19 (x := ?xg_12) rfl rfl (by kernel_rfl) (by kernel_rfl) (by kernel_rfl) (by kernel_rfl) (fun _ _ _ h => h) ((.inr ⟨h.C.cell, h.O.cell⟩)) (Or.inl ⟨by rfl, ?yg_12⟩) ?rg_12
      case yg_12 => (intro w _; go_simp <;> with_reducible rfl)
      simp only [List.setIfInBounds_toArray, List.set_cons_zero, List.set_cons_succ]
      refine Zreg.takeP 13 20 (x := ?xg_13) rfl rfl (by kernel_rfl) (by kernel_rfl) (by kernel_rfl) (by kernel_rfl) (fun _ _ _ h => h) ((.inr ⟨h.C.cell, h.O.cell⟩)) (Or.inl ⟨by rfl, ?yg_13⟩) ?rg_13
      case yg_13 => (intro w _; go_simp <;> with_reducible rfl)
      simp only [List.setIfInBounds_toArray, List.set_cons_zero, List.set_cons_succ]
      refine Zreg.one 14 (by kernel_rfl) rfl rfl fun K_ hK => ?_
      go_simp
      have h := h.t14
      refine hK.out _ _ (.inr ⟨h.C.cell, h.O.cell⟩) fun _ => ?_
      simp only [List.setIfInBounds_toArray, List.set_cons_zero, List.set_cons_succ]
      exact EF _ g2 g3 _ q r sS gK cK gL cL h
    refine zkey w 2 true true false 6 #[true, true, true, true, true, true, true, true, true, true, false, false, false, false, true, false, false] (fun i => #[.bool false, .pointer (some ⟨w.heap.size, 0, none⟩), .pointer (some ⟨w.heap.size + 1, 0, none⟩), .pointer (some ⟨i.gA, 0, none⟩), undef, .agg #[.int .i64 2, .int .i64 1, .int .i64 1, .int .i64 2], .agg #[.int .i64 3, .int .u32 0], undef, .agg #[.int .i64 2, .int .i64 1, .int .i64 1, .int .i64 2], .agg #[.int .i64 6, .int .u32 0], .agg #[.int .i64 8, .int .u32 1], .agg #[.int .i64 7, .int .u32 0], .agg #[.int .i64 3, .int .u32 0], .agg #[.int .i64 3, .int .u32 0], .agg #[.int .i64 3, .int .u32 0], .slice (some ⟨i.g2, 0, none⟩) 6 6, .slice (some ⟨i.g3, 0, none⟩) 1 1, .slice i.q.A i.q.n i.q.c, undef, undef, undef, undef, undef, undef, undef, undef, undef, undef, undef, undef, undef, undef, undef, undef, undef, undef, undef, undef, undef, undef, undef, undef, undef, undef, undef, undef, undef, undef, undef, undef, undef, undef, undef, undef, undef, undef, undef, undef]) ?_ (fun E2110 => ?_)
    · rintro ⟨V, g2, g3, gA, q, r, sS, gK, cK, gL, cL⟩ h
      dsimp only at h ⊢
      refine Zreg.one 10 (by kernel_rfl) rfl rfl fun K_ hK => ?_
      go_simp
      go_at_call 23
      obtain ⟨base, hq⟩ := h.Q rfl
      refine (run_40 _ g2 g3 q _ (h.B (by omega)) (h.L (by omega)) hq).mono ?_
      rintro e V' ⟨r', sS', gK', cK', gL', cL', rfl, hk, hx, hb⟩
      have h := h.r10 (r' := r') (sS' := sS') hk hx hb
      clear hk hx hb hq
      refine hK.out _ _ (.inr ⟨h.C.cell, h.O.cell⟩) fun _ => ?_
      simp only [List.setIfInBounds_toArray, List.set_cons_zero, List.set_cons_succ]
      exact E2111 _ g2 g3 gA q r' sS' gK' cK' gL' cL' h
    refine zkey w 1 true true false 7 #[true, true, true, true, true, true, true, true, false, true, false, false, false, false, true, false, false] (fun i => #[.bool false, .pointer (some ⟨w.heap.size, 0, none⟩), .pointer (some ⟨w.heap.size + 1, 0, none⟩), .pointer (some ⟨i.gA, 0, none⟩), undef, .agg #[.int .i64 2, .int .i64 1, .int .i64 1, .int .i64 2], .agg #[.int .i64 3, .int .u32 0], undef, .agg #[.int .i64 2, .int .i64 1, .int .i64 1, .int .i64 2], .agg #[.int .i64 6, .int .u32 0], .agg #[.int .i64 8, .int .u32 1], .agg #[.int .i64 7, .int .u32 0], .agg #[.int .i64 3, .int .u32 0], .agg #[.int .i64 3, .int .u32 0], .agg #[.int .i64 3, .int .u32 0], .slice (some ⟨i.g2, 0, none⟩) 6 6, undef, .slice i.q.A i.q.n i.q.c, undef, undef, undef, undef, undef, undef, undef, undef, undef, undef, undef, undef, undef, undef, undef, undef, undef, undef, undef, undef, undef, undef, undef, undef, undef, undef, undef, undef, undef, undef, undef, undef, undef, undef, undef, undef, undef, undef, undef, undef]) ?_ (fun E1110 => ?_)
    · rintro ⟨V, g2, g3, gA, q, r, sS, gK, cK, gL, cL⟩ h
      dsimp only at h ⊢
      refine Zreg.one 8 (by kernel_rfl) rfl rfl fun K_ hK => ?_
      go_simp
      have h := h.a8
      refine hK.out _ _ (.inr ⟨h.C.cell, h.O.cell⟩) fun _ => ?_
      simp only [List.setIfInBounds_toArray, List.set_cons_zero, List.set_cons_succ]
      exact E2110 _ g2 _ gA q r sS gK cK gL cL h
    refine zkey w 2 false true false 7 #[true, true, true, true, true, true, true, true, true, false, false, false, false, false, true, false, false] (fun i => #[.bool false, .pointer (some ⟨w.heap.size, 0, none⟩), .pointer (some ⟨w.heap.size + 1, 0, none⟩), .pointer (some ⟨i.gA, 0, none⟩), undef, .agg #[.int .i64 2, .int .i64 1, .int .i64 1, .int .i64 2], .agg #[.int .i64 3, .int .u32 0], undef, .agg #[.int .i64 2, .int .i64 1, .int .i64 1, .int .i64 2], .agg #[.int .i64 6, .int .u32 0], .agg #[.int .i64 8, .int .u32 1], .agg #[.int .i64 7, .int .u32 0], .agg #[.int .i64 3, .int .u32 0], .agg #[.int .i64 3, .int .u32 0], .agg #[.int .i64 3, .int .u32 0], .slice (some ⟨i.g2, 0, none⟩) 6 6, .slice (some ⟨i.g3, 0, none⟩) 1 1, undef, undef, undef, undef, undef, undef, undef, undef, undef, undef, undef, undef, undef, undef, undef, undef, undef, undef, undef, undef, undef, undef, undef, undef, undef, undef, undef, undef, undef, undef, undef, undef, undef, undef, undef, undef, undef, undef, undef, undef, undef]) ?_ (fun E2010 => ?_)
    · rintro ⟨V, g2, g3, gA, q, r, sS, gK, cK, gL, cL⟩ h
      dsimp only at h ⊢
      refine Zreg.one 9 (by kernel_rfl) rfl rfl fun K_ hK => ?_
      go_simp
      go_at_call 22
      (with_reducible refine (picked_40 _).mono ?_)
      rintro e V' ⟨q', rfl, hr, hb⟩
      have h := h.c9 hr hb
      clear hr hb
      refine hK.out _ _ (.inr ⟨h.C.cell, h.O.cell⟩) fun _ => ?_
      simp only [List.setIfInBounds_toArray, List.set_cons_zero, List.set_cons_succ]
      exact E2110 _ g2 g3 gA q' r sS gK cK gL cL h
    refine zkey w 2 true false false 7 #[true, true, true, true, true, true, true, true, true, true, false, false, false, false, false, false, false] (fun i => #[.bool false, .pointer (some ⟨w.heap.size, 0, none⟩), .pointer (some ⟨w.heap.size + 1, 0, none⟩), undef, undef, .agg #[.int .i64 2, .int .i64 1, .int .i64 1, .int .i64 2], .agg #[.int .i64 3, .int .u32 0], undef, .agg #[.int .i64 2, .int .i64 1, .int .i64 1, .int .i64 2], .agg #[.int .i64 6, .int .u32 0], .agg #[.int .i64 8, .int .u32 1], .agg #[.int .i64 7, .int .u32 0], .agg #[.int .i64 3, .int .u32 0], .agg #[.int .i64 3, .int .u32 0], .agg #[.int .i64 3, .int .u32 0], .slice (some ⟨i.g2, 0, none⟩) 6 6, .slice (some ⟨i.g3, 0, none⟩) 1 1, .slice i.q.A i.q.n i.q.c, undef, undef, undef, undef, undef, undef, undef, undef, undef, undef, undef, undef, undef, undef, undef, undef, undef, undef, undef, undef, undef, undef, undef, undef, undef, undef, undef, undef, undef, undef, undef, undef, undef, undef, undef, undef, undef, undef, undef, undef]) ?_ (fun E2100 => ?_)
    · rintro ⟨V, g2, g3, gA, q, r, sS, gK, cK, gL, cL⟩ h
      dsimp only at h ⊢
      refine Zreg.two 10 14 (by kernel_rfl) rfl rfl rfl rfl (fun K_ hK => ?_) (fun K_ hK => ?_)
      · go_simp
        go_at_call 23
        obtain ⟨base, hq⟩ := h.Q rfl
        refine (run_40 _ g2 g3 q _ (h.B (by omega)) (h.L (by omega)) hq).mono ?_
        rintro e V' ⟨r', sS', gK', cK', gL', cL', rfl, hk, hx, hb⟩
        have h := h.r10 (r' := r') (sS' := sS') hk hx hb
        clear hk hx hb hq
        refine hK.out _ _ (.inr ⟨h.C.cell, h.O.cell⟩) fun _ => ?_
        simp only [List.setIfInBounds_toArray, List.set_cons_zero, List.set_cons_succ]
        exact E2101 _ g2 g3 gA q r' sS' gK' cK' gL' cL' h
      · go_simp
        have h := h.t14
        refine hK.out _ _ (.inr ⟨h.C.cell, h.O.cell⟩) fun _ => ?_
        simp only [List.setIfInBounds_toArray, List.set_cons_zero, List.set_cons_succ]
        exact E2110 _ g2 g3 _ q r sS gK cK gL cL h
    refine zkey w 0 true true false 8 #[true, true, true, true, true, true, true, false, false, true, false, false, false, false, true, false, false] (fun i => #[.bool false, .pointer (some ⟨w.heap.size, 0, none⟩), .pointer (some ⟨w.heap.size + 1, 0, none⟩), .pointer (some ⟨i.gA, 0, none⟩), undef, .agg #[.int .i64 2, .int .i64 1, .int .i64 1, .int .i64 2], .agg #[.int .i64 3, .int .u32 0], undef, .agg #[.int .i64 2, .int .i64 1, .int .i64 1, .int .i64 2], .agg #[.int .i64 6, .int .u32 0], .agg #[.int .i64 8, .int .u32 1], .agg #[.int .i64 7, .int .u32 0], .agg #[.int .i64 3, .int .u32 0], .agg #[.int .i64 3, .int .u32 0], .agg #[.int .i64 3, .int .u32 0], undef, undef, .slice i.q.A i.q.n i.q.c, undef, undef, undef, undef, undef, undef, undef, undef, undef, undef, undef, undef, undef, undef, undef, undef, undef, undef, undef, undef, undef, undef, undef, undef, undef, undef, undef, undef, undef, undef, undef, undef, undef, undef, undef, undef, undef, undef, undef, undef]) ?_ (fun E0110 => ?_)
    · rintro ⟨V, g2, g3, gA, q, r, sS, gK, cK, gL, cL⟩ h
      dsimp only at h ⊢
      refine Zreg.one 7 (by kernel_rfl) rfl rfl fun K_ hK => ?_
      go_simp
      have h := h.a7
      refine hK.out _ _ (.inr ⟨h.C.cell, h.O.cell⟩) fun _ => ?_
      simp only [List.setIfInBounds_toArray, List.set_cons_zero, List.set_cons_succ]
      exact E1110 _ _ g3 gA q r sS gK cK gL cL h
    refine zkey w 1 false true false 8 #[true, true, true, true, true, true, true, true, false, false, false, false, false, false, true, false, false] (fun i => #[.bool false, .pointer (some ⟨w.heap.size, 0, none⟩), .pointer (some ⟨w.heap.size + 1, 0, none⟩), .pointer (some ⟨i.gA, 0, none⟩), undef, .agg #[.int .i64 2, .int .i64 1, .int .i64 1, .int .i64 2], .agg #[.int .i64 3, .int .u32 0], undef, .agg #[.int .i64 2, .int .i64 1, .int .i64 1, .int .i64 2], .agg #[.int .i64 6, .int .u32 0], .agg #[.int .i64 8, .int .u32 1], .agg #[.int .i64 7, .int .u32 0], .agg #[.int .i64 3, .int .u32 0], .agg #[.int .i64 3, .int .u32 0], .agg #[.int .i64 3, .int .u32 0], .slice (some ⟨i.g2, 0, none⟩) 6 6, undef, undef, undef, undef, undef, undef, undef, undef, undef, undef, undef, undef, undef, undef, undef, undef, undef, undef, undef, undef, undef, undef, undef, undef, undef, undef, undef, undef, undef, undef, undef, undef, undef, undef, undef, undef, undef, undef, undef, undef, undef, undef]) ?_ (fun E1010 => ?_)
    · rintro ⟨V, g2, g3, gA, q, r, sS, gK, cK, gL, cL⟩ h
      dsimp only at h ⊢
      refine Zreg.two 8 9 (by kernel_rfl) rfl rfl rfl rfl (fun K_ hK => ?_) (fun K_ hK => ?_)
      · go_simp
        have h := h.a8
        refine hK.out _ _ (.inr ⟨h.C.cell, h.O.cell⟩) fun _ => ?_
        simp only [List.setIfInBounds_toArray, List.set_cons_zero, List.set_cons_succ]
        exact E2010 _ g2 _ gA q r sS gK cK gL cL h
      · go_simp
        go_at_call 22
        (with_reducible refine (picked_40 _).mono ?_)
        rintro e V' ⟨q', rfl, hr, hb⟩
        have h := h.c9 hr hb
        clear hr hb
        refine hK.out _ _ (.inr ⟨h.C.cell, h.O.cell⟩) fun _ => ?_
        simp only [List.setIfInBounds_toArray, List.set_cons_zero, List.set_cons_succ]
        exact E1110 _ g2 g3 gA q' r sS gK cK gL cL h
    refine zkey w 1 true false false 8 #[true, true, true, true, true, true, true, true, false, true, false, false, false, false, false, false, false] (fun i => #[.bool false, .pointer (some ⟨w.heap.size, 0, none⟩), .pointer (some ⟨w.heap.size + 1, 0, none⟩), undef, undef, .agg #[.int .i64 2, .int .i64 1, .int .i64 1, .int .i64 2], .agg #[.int .i64 3, .int .u32 0], undef, .agg #[.int .i64 2, .int .i64 1, .int .i64 1, .int .i64 2], .agg #[.int .i64 6, .int .u32 0], .agg #[.int .i64 8, .int .u32 1], .agg #[.int .i64 7, .int .u32 0], .agg #[.int .i64 3, .int .u32 0], .agg #[.int .i64 3, .int .u32 0], .agg #[.int .i64 3, .int .u32 0], .slice (some ⟨i.g2, 0, none⟩) 6 6, undef, .slice i.q.A i.q.n i.q.c, undef, undef, undef, undef, undef, undef, undef, undef, undef, undef, undef, undef, undef, undef, undef, undef, undef, undef, undef, undef, undef, undef, undef, undef, undef, undef, undef, undef, undef, undef, undef, undef, undef, undef, undef, undef, undef, undef, undef, undef]) ?_ (fun E1100 => ?_)
    · rintro ⟨V, g2, g3, gA, q, r, sS, gK, cK, gL, cL⟩ h
      dsimp only at h ⊢
      refine Zreg.two 8 14 (by kernel_rfl) rfl rfl rfl rfl (fun K_ hK => ?_) (fun K_ hK => ?_)
      · go_simp
        have h := h.a8
        refine hK.out _ _ (.inr ⟨h.C.cell, h.O.cell⟩) fun _ => ?_
        simp only [List.setIfInBounds_toArray, List.set_cons_zero, List.set_cons_succ]
        exact E2100 _ g2 _ gA q r sS gK cK gL cL h
      · go_simp
        have h := h.t14
        refine hK.out _ _ (.inr ⟨h.C.cell, h.O.cell⟩) fun _ => ?_
        simp only [List.setIfInBounds_toArray, List.set_cons_zero, List.set_cons_succ]
        exact E1110 _ g2 g3 _ q r sS gK cK gL cL h
    refine zkey w 2 false false false 8 #[true, true, true, true, true, true, true, true, true, false, false, false, false, false, false, false, false] (fun i => #[.bool false, .pointer (some ⟨w.heap.size, 0, none⟩), .pointer (some ⟨w.heap.size + 1, 0, none⟩), undef, undef, .agg #[.int .i64 2, .int .i64 1, .int .i64 1, .int .i64 2], .agg #[.int .i64 3, .int .u32 0], undef, .agg #[.int .i64 2, .int .i64 1, .int .i64 1, .int .i64 2], .agg #[.int .i64 6, .int .u32 0], .agg #[.int .i64 8, .int .u32 1], .agg #[.int .i64 7, .int .u32 0], .agg #[.int .i64 3, .int .u32 0], .agg #[.int .i64 3, .int .u32 0], .agg #[.int .i64 3, .int .u32 0], .slice (some ⟨i.g2, 0, none⟩) 6 6, .slice (some ⟨i.g3, 0, none⟩) 1 1, undef, undef, undef, undef, undef, undef, undef, undef, undef, undef, undef, undef, undef, undef, undef, undef, undef, undef, undef, undef, undef, undef, undef, undef, undef, undef, undef, undef, undef, undef, undef, undef, undef, undef, undef, undef, undef, undef, undef, undef, undef]) ?_ (fun E2000 => ?_)
    · rintro ⟨V, g2, g3, gA, q, r, sS, gK, cK, gL, cL⟩ h
      dsimp only at h ⊢
      refine Zreg.two 9 14 (by kernel_rfl) rfl rfl rfl rfl (fun K_ hK => ?_) (fun K_ hK => ?_)
      · go_simp
        go_at_call 22
        (with_reducible refine (picked_40 _).mono ?_)
        rintro e V' ⟨q', rfl, hr, hb⟩
        have h := h.c9 hr hb
        clear hr hb
        refine hK.out _ _ (.inr ⟨h.C.cell, h.O.cell⟩) fun _ => ?_
        simp only [List.setIfInBounds_toArray, List.set_cons_zero, List.set_cons_succ]
        exact E2100 _ g2 g3 gA q' r sS gK cK gL cL h
      · go_simp
        have h := h.t14
        refine hK.out _ _ (.inr ⟨h.C.cell, h.O.cell⟩) fun _ => ?_
        simp only [List.setIfInBounds_toArray, List.set_cons_zero, List.set_cons_succ]
        exact E2010 _ g2 g3 _ q r sS gK cK gL cL h
    refine zkey w 0 false true false 9 #[true, true, true, true, true, true, true, false, false, false, false, false, false, false, true, false, false] (fun i => #[.bool false, .pointer (some ⟨w.heap.size, 0, none⟩), .pointer (some ⟨w.heap.size + 1, 0, none⟩), .pointer (some ⟨i.gA, 0, none⟩), undef, .agg #[.int .i64 2, .int .i64 1, .int .i64 1, .int .i64 2], .agg #[.int .i64 3, .int .u32 0], undef, .agg #[.int .i64 2, .int .i64 1, .int .i64 1, .int .i64 2], .agg #[.int .i64 6, .int .u32 0], .agg #[.int .i64 8, .int .u32 1], .agg #[.int .i64 7, .int .u32 0], .agg #[.int .i64 3, .int .u32 0], .agg #[.int .i64 3, .int .u32 0], .agg #[.int .i64 3, .int .u32 0], undef, undef, undef, undef, undef, undef, undef, undef, undef, undef, undef, undef, undef, undef, undef, undef, undef, undef, undef, undef, undef, undef, undef, undef, undef, undef, undef, undef, undef, undef, undef, undef, undef, undef, undef, undef, undef, undef, undef, undef, undef, undef, undef]) ?_ (fun E0010 => ?_)
    · rintro ⟨V, g2, g3, gA, q, r, sS, gK, cK, gL, cL⟩ h
      dsimp only at h ⊢
      refine Zreg.two 7 9 (by kernel_rfl) rfl rfl rfl rfl (fun K_ hK => ?_) (fun K_ hK => ?_)
      · go_simp
        have h := h.a7
        refine hK.out _ _ (.inr ⟨h.C.cell, h.O.cell⟩) fun _ => ?_
        simp only [List.setIfInBounds_toArray, List.set_cons_zero, List.set_cons_succ]
        exact E1010 _ _ g3 gA q r sS gK cK gL cL h
      · go_simp
        go_at_call 22
        (with_reducible refine (picked_40 _).mono ?_)
        rintro e V' ⟨q', rfl, hr, hb⟩
        have h := h.c9 hr hb
        clear hr hb
        refine hK.out _ _ (.inr ⟨h.C.cell, h.O.cell⟩) fun _ => ?_
        simp only [List.setIfInBounds_toArray, List.set_cons_zero, List.set_cons_succ]
        exact E0110 _ g2 g3 gA q' r sS gK cK gL cL h
    refine zkey w 0 true false false 9 #[true, true, true, true, true, true, true, false, false, true, false, false, false, false, false, false, false] (fun i => #[.bool false, .pointer (some ⟨w.heap.size, 0, none⟩), .pointer (some ⟨w.heap.size + 1, 0, none⟩), undef, undef, .agg #[.int .i64 2, .int .i64 1, .int .i64 1, .int .i64 2], .agg #[.int .i64 3, .int .u32 0], undef, .agg #[.int .i64 2, .int .i64 1, .int .i64 1, .int .i64 2], .agg #[.int .i64 6, .int .u32 0], .agg #[.int .i64 8, .int .u32 1], .agg #[.int .i64 7, .int .u32 0], .agg #[.int .i64 3, .int .u32 0], .agg #[.int .i64 3, .int .u32 0], .agg #[.int .i64 3, .int .u32 0], undef, undef, .slice i.q.A i.q.n i.q.c, undef, undef, undef, undef, undef, undef, undef, undef, undef, undef, undef, undef, undef, undef, undef, undef, undef, undef, undef, undef, undef, undef, undef, undef, undef, undef, undef, undef, undef, undef, undef, undef, undef, undef, undef, undef, undef, undef, undef, undef]) ?_ (fun E0100 => ?_)
    · rintro ⟨V, g2, g3, gA, q, r, sS, gK, cK, gL, cL⟩ h
      dsimp only at h ⊢
      refine Zreg.two 7 14 (by kernel_rfl) rfl rfl rfl rfl (fun K_ hK => ?_) (fun K_ hK => ?_)
      · go_simp
        have h := h.a7
        refine hK.out _ _ (.inr ⟨h.C.cell, h.O.cell⟩) fun _ => ?_
        simp only [List.setIfInBounds_toArray, List.set_cons_zero, List.set_cons_succ]
        exact E1100 _ _ g3 gA q r sS gK cK gL cL h
      · go_simp
        have h := h.t14
        refine hK.out _ _ (.inr ⟨h.C.cell, h.O.cell⟩) fun _ => ?_
        simp only [List.setIfInBounds_toArray, List.set_cons_zero, List.set_cons_succ]
        exact E0110 _ g2 g3 _ q r sS gK cK gL cL h
    refine zkey w 1 false false false 9 #[true, true, true, true, true, true, true, true, false, false, false, false, false, false, false, false, false] (fun i => #[.bool false, .pointer (some ⟨w.heap.size, 0, none⟩), .pointer (some ⟨w.heap.size + 1, 0, none⟩), undef, undef, .agg #[.int .i64 2, .int .i64 1, .int .i64 1, .int .i64 2], .agg #[.int .i64 3, .int .u32 0], undef, .agg #[.int .i64 2, .int .i64 1, .int .i64 1, .int .i64 2], .agg #[.int .i64 6, .int .u32 0], .agg #[.int .i64 8, .int .u32 1], .agg #[.int .i64 7, .int .u32 0], .agg #[.int .i64 3, .int .u32 0], .agg #[.int .i64 3, .int .u32 0], .agg #[.int .i64 3, .int .u32 0], .slice (some ⟨i.g2, 0, none⟩) 6 6, undef, undef, undef, undef, undef, undef, undef, undef, undef, undef, undef, undef, undef, undef, undef, undef, undef, undef, undef, undef, undef, undef, undef, undef, undef, undef, undef, undef, undef, undef, undef, undef, undef, undef, undef, undef, undef, undef, undef, undef, undef, undef]) ?_ (fun E1000 => ?_)
    · rintro ⟨V, g2, g3, gA, q, r, sS, gK, cK, gL, cL⟩ h
      dsimp only at h ⊢
      refine zthree 8 9 14 (by kernel_rfl) rfl rfl rfl rfl rfl rfl (fun K_ hK => ?_) (fun K_ hK => ?_) (fun K_ hK => ?_)
      · go_simp
        have h := h.a8
        refine hK.out _ _ (.inr ⟨h.C.cell, h.O.cell⟩) fun _ => ?_
        simp only [List.setIfInBounds_toArray, List.set_cons_zero, List.set_cons_succ]
        exact E2000 _ g2 _ gA q r sS gK cK gL cL h
      · go_simp
        go_at_call 22
        (with_reducible refine (picked_40 _).mono ?_)
        rintro e V' ⟨q', rfl, hr, hb⟩
        have h := h.c9 hr hb
        clear hr hb
        refine hK.out _ _ (.inr ⟨h.C.cell, h.O.cell⟩) fun _ => ?_
        simp only [List.setIfInBounds_toArray, List.set_cons_zero, List.set_cons_succ]
        exact E1100 _ g2 g3 gA q' r sS gK cK gL cL h
      · go_simp
        have h := h.t14
        refine hK.out _ _ (.inr ⟨h.C.cell, h.O.cell⟩) fun _ => ?_
        simp only [List.setIfInBounds_toArray, List.set_cons_zero, List.set_cons_succ]
        exact E1010 _ g2 g3 _ q r sS gK cK gL cL h
    refine zthree 7 9 14 (by kernel_rfl) rfl rfl rfl rfl rfl rfl (fun K_ hK => ?_) (fun K_ hK => ?_) (fun K_ hK => ?_)
    · go_simp
      have h := h.a7
      refine hK.out _ _ (.inr ⟨h.C.cell, h.O.cell⟩) fun _ => ?_
      simp only [List.setIfInBounds_toArray, List.set_cons_zero, List.set_cons_succ]
      exact E1000 _ _ g3 gA q r sS gK cK gL cL h
    · go_simp
      go_at_call 22
      (with_reducible refine (picked_40 _).mono ?_)
      rintro e V' ⟨q', rfl, hr, hb⟩
      have h := h.c9 hr hb
      clear hr hb
      refine hK.out _ _ (.inr ⟨h.C.cell, h.O.cell⟩) fun _ => ?_
      simp only [List.setIfInBounds_toArray, List.set_cons_zero, List.set_cons_succ]
      exact E0100 _ g2 g3 gA q' r sS gK cK gL cL h
    · go_simp
      have h := h.t14
      refine hK.out _ _ (.inr ⟨h.C.cell, h.O.cell⟩) fun _ => ?_
      simp only [List.setIfInBounds_toArray, List.set_cons_zero, List.set_cons_succ]
      exact E0010 _ g2 g3 _ q r sS gK cK gL cL h
  case rest =>
    obtain ⟨gA, rfl, rfl, r, sS, gK, cK, gL, cL, ht, ⟨b1, hk⟩, ⟨b2, hx⟩, hb⟩ := hcut
    have hct := ht.cell
    have hkc : wc.cell? ⟨gK, 39, none⟩ = some (.int .i64 27) := by
      obtain ⟨g, hg, _, _, hc, _⟩ := hk.at_ (by decide)
      injection hg with hg
      injection hg with hg
      rw [hg]
      exact hc 39 (by decide)
    have hxc : wc.cell? ⟨gL, 1, none⟩ = some (.int .u64 4294967296) := by
      obtain ⟨g, hg, _, _, hc, _⟩ := hx.at_ (by decide)
      injection hg with hg
      injection hg with hg
      rw [hg]
      exact hc 1 (by decide)
    have HB := Lib.hid hb
    clear ht hk hx hb
    go_wp2
    go_ret
    exact ⟨rfl, HB.out⟩
end Go.Proofs.Ytffppdcpiieapaa.Machc

namespace Go.Proofs.Ytffppdcpiieapaa.Machc
open Go.RowKit Go.Proofs.Ytffppdcpiieapaa.Memc Go.Proofs.Ytffppdcpiieapaa.Newc Go.Proofs.Ytffppdcpiieapaa.Refc Go.Proofs.Ytffppdcpiieapaa.Drivec Go.Proofs.Ytffppdcpiieapaa.Procc Go.Proofs.Ytffppdcpiieapaa.Wordc Go.Proofs.Ytffppdcpiieapaa.Arenac
set_option linter.unusedVariables false
set_option maxRecDepth 100000

end Go.Proofs.Ytffppdcpiieapaa.Machc

namespace Go.Proofs.Ytffppdcpiieapaa.Machc
open Go.RowKit Go.Proofs.Ytffppdcpiieapaa.Memc Go.Proofs.Ytffppdcpiieapaa.Newc Go.Proofs.Ytffppdcpiieapaa.Refc Go.Proofs.Ytffppdcpiieapaa.Drivec Go.Proofs.Ytffppdcpiieapaa.Procc Go.Proofs.Ytffppdcpiieapaa.Wordc Go.Proofs.Ytffppdcpiieapaa.Arenac
set_option linter.unusedVariables false
set_option maxRecDepth 100000

end Go.Proofs.Ytffppdcpiieapaa.Machc

namespace Go.Proofs.Ytffppdcpiieapaa.Machc
open Go.RowKit Go.Proofs.Ytffppdcpiieapaa.Memc Go.Proofs.Ytffppdcpiieapaa.Newc Go.Proofs.Ytffppdcpiieapaa.Refc Go.Proofs.Ytffppdcpiieapaa.Drivec Go.Proofs.Ytffppdcpiieapaa.Procc Go.Proofs.Ytffppdcpiieapaa.Wordc Go.Proofs.Ytffppdcpiieapaa.Arenac
set_option linter.unusedVariables false
set_option maxRecDepth 100000

end Go.Proofs.Ytffppdcpiieapaa.Machc

namespace Go.Proofs.Ytffppdcpiieapaa.Machc
open Go.RowKit Go.Proofs.Ytffppdcpiieapaa.Memc Go.Proofs.Ytffppdcpiieapaa.Newc Go.Proofs.Ytffppdcpiieapaa.Refc Go.Proofs.Ytffppdcpiieapaa.Drivec Go.Proofs.Ytffppdcpiieapaa.Procc Go.Proofs.Ytffppdcpiieapaa.Wordc Go.Proofs.Ytffppdcpiieapaa.Arenac
set_option linter.unusedVariables false
set_option maxRecDepth 100000

end Go.Proofs.Ytffppdcpiieapaa.Machc

namespace Go.Proofs.Ytffppdcpiieapaa.Machc
open Go.RowKit Go.Proofs.Ytffppdcpiieapaa.Memc Go.Proofs.Ytffppdcpiieapaa.Newc Go.Proofs.Ytffppdcpiieapaa.Refc Go.Proofs.Ytffppdcpiieapaa.Drivec Go.Proofs.Ytffppdcpiieapaa.Procc Go.Proofs.Ytffppdcpiieapaa.Wordc Go.Proofs.Ytffppdcpiieapaa.Arenac
set_option linter.unusedVariables false
set_option maxRecDepth 100000

end Go.Proofs.Ytffppdcpiieapaa.Machc

namespace Go.Proofs.Ytffppdcpiieapaa.Machc
open Go.RowKit Go.Proofs.Ytffppdcpiieapaa.Memc Go.Proofs.Ytffppdcpiieapaa.Newc Go.Proofs.Ytffppdcpiieapaa.Refc Go.Proofs.Ytffppdcpiieapaa.Drivec Go.Proofs.Ytffppdcpiieapaa.Procc Go.Proofs.Ytffppdcpiieapaa.Wordc Go.Proofs.Ytffppdcpiieapaa.Arenac
set_option linter.unusedVariables false
set_option maxRecDepth 100000

end Go.Proofs.Ytffppdcpiieapaa.Machc

namespace Go.Proofs.Ytffppdcpiieapaa.Machc
open Go.RowKit Go.Proofs.Ytffppdcpiieapaa.Memc Go.Proofs.Ytffppdcpiieapaa.Newc Go.Proofs.Ytffppdcpiieapaa.Drivec Go.Proofs.Ytffppdcpiieapaa.Procc Go.Proofs.Ytffppdcpiieapaa.Arenac
set_option linter.unusedVariables false
set_option maxRecDepth 100000

/-- the numbers of a list of segments, but no more than some -/
def listN : Nat → List Int → Int → List Int
  | 0, _, _ => []
  | n + 1, lk, f => if 0 < f ∧ f ≤ lk.length then (f - 1) :: listN n lk (lo (lk.getD (f - 1).toNat 0)) else []
theorem listN_go {n : Nat} {lk : List Int} {f : Int} (h0 : 0 < f) (h1 : f ≤ lk.length) : listN (n + 1) lk f = (f - 1) :: listN n lk (lo (lk.getD (f - 1).toNat 0)) := if_pos ⟨h0, h1⟩
theorem listN_end {n : Nat} {lk : List Int} {f : Int} (h : ¬ (0 < f ∧ f ≤ lk.length)) : listN n lk f = [] := by
  cases n with
  | zero => rfl
  | succ n => exact if_neg h
def intsV (l : List Int) : List Value := l.map (Value.int .i64)
set_option maxHeartbeats 2000000 in
theorem list_c (w : World) (r : R) (lk : List Int) (g c : Nat) (hK : r.K = ⟨some ⟨g, 0, none⟩, lk.length, c⟩) (hg : g < w.heap.size) (hgc : ∀ (j : Nat) (x : Int), lk[j]? = some x → w.cell? ⟨g, j, none⟩ = some (.int .u64 x)) (hu : u64s lk) (hlm : lk.length ≤ maxLen) (first : Int) (f0 : 0 ≤ first) (f1 : first ≤ 4294967295) (most : Nat) (hm : most ≤ 100000) :
    Calls Try.prog 19 #[.agg #[.int .u64 r.e, .int .u64 r.f, .slice r.L.A r.L.n r.L.c, .slice r.P.A r.P.n r.P.c, .int .u64 r.h, .int .u64 r.t, .slice r.K.A lk.length r.K.c, .slice r.X.A r.X.n r.X.c, .slice r.S.A r.S.n r.S.c], .int .u32 first, .int .i64 most] w fun e w' => ∃ q : Sl, e = .returned (.slice q.A q.n q.c) ∧ Row w' (w.heap.size + 1) 3 1 q (listN most lk first).length (intsV (listN most lk first)) ∧ Below w.heap.size w w' := by
  obtain ⟨re, rf, rL, rP, rh, rt, rK, rX, rS⟩ := r
  simp only at hK
  subst hK
  have HGC := Lib.hid hgc
  have HU := Lib.hid hu
  have hk9 : (lk.length : Int) ≤ 9223372036854775807 := by unfold maxLen at hlm; omega
  have HG := Lib.hid hg
  clear hgc hu hlm hg
  have W0 : Hid (Below w.heap.size w (w.alloc (.cells #[.int .u64 re, .int .u64 rf, .slice rL.A rL.n rL.c, .slice rP.A rP.n rP.c, .int .u64 rh, .int .u64 rt, .slice (some ⟨g, 0, none⟩) lk.length c, .slice rX.A rX.n rX.c, .slice rS.A rS.n rS.c] 33))) := Lib.hid ((Below.refl _ _).alloc (Nat.le_refl _) _)
  have X0 : Hid (Blk (w.alloc (.cells #[.int .u64 re, .int .u64 rf, .slice rL.A rL.n rL.c, .slice rP.A rP.n rP.c, .int .u64 rh, .int .u64 rt, .slice (some ⟨g, 0, none⟩) lk.length c, .slice rX.A rX.n rX.c, .slice rS.A rS.n rS.c] 33)) w.heap.size 33 #[.int .u64 re, .int .u64 rf, .slice rL.A rL.n rL.c, .slice rP.A rP.n rP.c, .int .u64 rh, .int .u64 rt, .slice (some ⟨g, 0, none⟩) lk.length c, .slice rX.A rX.n rX.c, .slice rS.A rS.n rS.c]) := Lib.hid (Blk.new _ _ _)
  go_enter Try.func19, Try.ntmps19
  go_wp2_with fail
  generalize (w.alloc (.cells #[.int .u64 re, .int .u64 rf, .slice rL.A rL.n rL.c, .slice rP.A rP.n rP.c, .int .u64 rh, .int .u64 rt, .slice (some ⟨g, 0, none⟩) lk.length c, .slice rX.A rX.n rX.c, .slice rS.A rS.n rS.c] 33)) = V at W0 X0 ⊢
  go_loopw [7, 1] (fun p f wr => ∃ (j : Nat) (q : Sl) (xs : List Int) (ft : Int), p = .slice q.A q.n q.c ∧ f = .int .u32 ft ∧ 0 ≤ ft ∧ ft ≤ 4294967295 ∧ j ≤ most ∧ xs.length = j ∧ listN most lk first = xs ++ listN (most - j) lk ft ∧ Row wr (w.heap.size + 1) 3 1 q j (intsV xs) ∧ Blk wr w.heap.size 33 #[.int .u64 re, .int .u64 rf, .slice rL.A rL.n rL.c, .slice rP.A rP.n rP.c, .int .u64 rh, .int .u64 rt, .slice (some ⟨g, 0, none⟩) lk.length c, .slice rX.A rX.n rX.c, .slice rS.A rS.n rS.c] ∧ Below w.heap.size w wr) (fun p _ _ => most - (match p with | .slice _ n _ => n | _ => 0))
  case atStart => exact ⟨0, nilS, [], first, rfl, rfl, f0, f1, Nat.zero_le _, rfl, by simp, row_nil _ _ _ _, X0.out, W0.out⟩
  case round =>
  clear W0 X0
  obtain ⟨j, q, xs, ft, rfl, rfl, t0, t1, hj, hxl, hls, hrow, hx, hb⟩ := hrel
  have hqn : q.n = j := hrow.n_.1
  have R0 := Lib.hid hrow
  have X0 := Lib.hid hx
  have W0 := Lib.hid hb
  have HL := Lib.hid hls
  have HXL := Lib.hid hxl
  clear hrow hx hb hls hxl
  generalize wr = V0 at R0 X0 W0 ⊢
  have hxc := X0.out.cell
  obtain ⟨qA, qn, qc⟩ := q
  simp only at hqn
  subst hqn
  have q9 : (qn : Int) ≤ 9223372036854775807 := by omega
  by_cases h1 : 0 < ft
  · obtain ⟨jj, rfl⟩ : ∃ jj : Nat, ft = (jj : Int) + 1 := ⟨(ft - 1).toNat, by omega⟩
    have cf : IntKind.i64.wrap ((jj : Int) + 1) = (jj : Int) + 1 := by rw [IntKind.wrap_i64]; omega
    by_cases h2 : (jj : Int) + 1 ≤ lk.length
    · by_cases h3 : (qn : Int) < most
      · have c1 : IntKind.i64.wrap (jj : Int) = (jj : Int) := by rw [IntKind.wrap_i64]; omega
        have c2 : (jj : Int) % 4294967296 = (jj : Int) := by omega
        have c3 : (jj : Int) + 1 - 1 = (jj : Int) := by omega
        have j0 : (0 : Int) ≤ (jj : Int) := by omega
        have j1 : (jj : Int) < lk.length := by omega
        obtain ⟨x, hx0⟩ : ∃ x, lk[jj]? = some x := ⟨_, List.getElem?_eq_getElem (by omega)⟩
        have hcl := HGC.out jj x hx0
        have hxb := HU.out x (List.mem_of_getElem? hx0)
        have HX := Lib.hid hx0
        clear hx0
        obtain ⟨ji, hji, hjz0, hjz1, hjz2⟩ := info_parts int_cell
        go_upto_region 4 with (at_builtin; refine wpList_app2 rfl _ _ 52 rfl (w.heap.size + 1) 3 ji _ 1 8 Try.underlying52 hji hjz0 hjz1 hjz2 rfl (by decide) ⟨qA, qn, qc⟩ qn (intsV xs) rfl (Row.alloc R0.out (.cells #[.int .i64 (jj : Int)] 3)) V0.heap.size [.int .i64 (jj : Int)] rfl rfl (fun j u hj => (Blk.cell (Arenac.blk_at2 _ _ _ _ rfl) j).trans (by simpa using hj)) (by simp [Value.oneCell']) (by omega) (by decide) (Nat.le_trans X0.out.lt (by simp)) ?_; intro q2 w7 hr7 ho7 hw7; go_must (have R7 := Lib.hid hr7; have A7 : Hid (Only (fun g => bl ⟨qA, qn, qc⟩ g) V0 w7) := Lib.hid (Only.next ((Only.refl (fun g => bl ⟨qA, qn, qc⟩ g) V0).alloc (.cells #[.int .i64 (jj : Int)] 3)) ho7 (fun k _ h => h)); have X7 := Lib.hid (X0.out.only A7.out (fun h => by have := (R0.out.lt h).1; omega)); have W7 := Lib.hid (W0.out.trans (A7.out.below W0.out.size (fun g hg => by have := (R0.out.lt hg).1; omega)))); clear hr7 ho7 hw7 hxc)
        have hx7 := X7.out.cell
        have hcl7 := (W7.out.cell (p := ⟨g, jj, none⟩) HG.out).trans hcl
        obtain ⟨x0, x1⟩ := hxb
        have c5 : x % 4294967296 % 4294967296 = x % 4294967296 := by omega
        have e7 : intsV xs ++ [.int .i64 (jj : Int)] = intsV (xs ++ [(jj : Int)]) := by unfold intsV; rw [List.map_append]; rfl
        have R8 := R7.out
        rw [e7] at R8
        have R9 := Lib.hid R8
        have HL2 : Hid (listN most lk first = (xs ++ [(jj : Int)]) ++ listN (most - (qn + 1)) lk (x % 4294967296)) := Lib.hid (by
          have e1 : most - qn = (most - (qn + 1)) + 1 := by omega
          have e2 : lk.getD ((jj : Int) + 1 - 1).toNat 0 = x := by
            rw [show ((jj : Int) + 1 - 1).toNat = jj by omega, List.getD_eq_getElem?_getD, HX.out]; rfl
          rw [HL.out, e1, listN_go (by omega) (by omega), e2, List.append_assoc, show (jj : Int) + 1 - 1 = jj by omega]
          rfl)
        clear e7 R8 R7 hcl
        have H3 := Lib.hid h3
        clear h1 h2 h3 cf hji hjz0 hjz1 hjz2 q9
        have t0' := Lib.hid t0
        have t1' := Lib.hid t1
        clear t0 t1
        go_wp2
        go_roundw
        case rel => exact ⟨qn + 1, q2, xs ++ [(jj : Int)], x % 4294967296, rfl, rfl, by omega, by omega, by have := H3.out; omega, by rw [List.length_append, HXL.out]; rfl, HL2.out, R9.out, X7.out, W7.out⟩
        case measure =>
          have hq2 := R9.out.n_.1
          have := H3.out
          show most - q2.n < most - qn
          omega
      · have hz : most - qn = 0 := by omega
        go_wp2
        go_ret
        have hd : listN most lk first = xs := by
          rw [HL.out, show most - qn = 0 from hz, show listN 0 lk _ = [] from rfl, List.append_nil]
        exact ⟨⟨qA, qn, qc⟩, rfl, by rw [hd, HXL.out]; exact R0.out, W0.out⟩
    · have hne : ¬ (0 < (jj : Int) + 1 ∧ (jj : Int) + 1 ≤ lk.length) := fun h => h2 (by omega)
      go_wp2
      go_ret
      have hd : listN most lk first = xs := by
        rw [HL.out, listN_end hne, List.append_nil]
      exact ⟨⟨qA, qn, qc⟩, rfl, by rw [hd, HXL.out]; exact R0.out, W0.out⟩
  · have hne : ¬ (0 < ft ∧ ft ≤ lk.length) := fun h => h1 h.1
    go_wp2
    go_ret
    have hd : listN most lk first = xs := by
      rw [HL.out, listN_end hne, List.append_nil]
    exact ⟨⟨qA, qn, qc⟩, rfl, by rw [hd, HXL.out]; exact R0.out, W0.out⟩
end Go.Proofs.Ytffppdcpiieapaa.Machc
