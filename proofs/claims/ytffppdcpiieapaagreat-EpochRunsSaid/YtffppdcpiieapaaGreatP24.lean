/- A part of the proof. -/
import Derived.Test.YtffppdcpiieapaaGreatP23
namespace Go.Proofs.YtffppdcpiieapaaGreat.Machc
open Go.RowKit Memc Newc Refc Drivec Procc Wordc Arenac
set_option linter.unusedVariables false
set_option maxRecDepth 100000

set_option maxHeartbeats 4000000 in
theorem begin3_c (w : World) (k : Int) (K T M : Nat) (i vl d : Int) (a1 : 1 <= K) (a2 : K <= 64) (m1 : 2 <= M) (m2 : M <= 64) (d0 : 0 <= d) (d1 : d <= 4294967295) (v0 : 0 <= vl) (v1 : vl <= 4294967295) :
   Calls Tryz.prog 48 #[.agg #[.int .i64 k, .int .i64 K, .int .i64 T, .int .i64 M], .int .i64 i, .agg #[.int .i64 3, .int .u32 vl], .int .u32 d] w fun e w' => e = .returned (.agg ((docBg k K M i 3 vl d).v nilS).toArray) /\ Below w.heap.size w w' := by
 have B0 : Hid (Below w.heap.size w (((w.alloc (.cells #[.int .i64 k, .int .i64 K, .int .i64 T, .int .i64 M] 23)).alloc (.cells #[.int .i64 3, .int .u32 vl] 46)).alloc (.cells zF 107))) := lh ((((Below.refl _ _).alloc (Nat.le_refl _) _).alloc (by simp) _).alloc (by simp; omega) _)
 have C0 : Hid (Blk (((w.alloc (.cells #[.int .i64 k, .int .i64 K, .int .i64 T, .int .i64 M] 23)).alloc (.cells #[.int .i64 3, .int .u32 vl] 46)).alloc (.cells zF 107)) w.heap.size 23 #[.int .i64 k, .int .i64 K, .int .i64 T, .int .i64 M]) := lh (((Blk.new _ _ _).alloc _).alloc _)
 have O0 : Hid (Blk (((w.alloc (.cells #[.int .i64 k, .int .i64 K, .int .i64 T, .int .i64 M] 23)).alloc (.cells #[.int .i64 3, .int .u32 vl] 46)).alloc (.cells zF 107)) (w.heap.size + 1) 46 #[.int .i64 3, .int .u32 vl]) := lh ((blk_at (by simp)).alloc _)
 have Z0 : Hid (Blk (((w.alloc (.cells #[.int .i64 k, .int .i64 K, .int .i64 T, .int .i64 M] 23)).alloc (.cells #[.int .i64 3, .int .u32 vl] 46)).alloc (.cells zF 107)) (w.heap.size + 1 + 1) 107 #[.int .i64 0, .int .u32 0, .int .i64 0, .int .i64 0, .int .i64 0, .int .u64 0, .int .u64 0, .int .u64 0, .int .u64 0, .int .i64 0, .slice none 0 0, .bool false, .int .u64 0, .int .u64 0, .int .i64 0, .int .u32 0, .int .i64 0, .int .i64 0, .int .i64 0, .int .i64 0, .int .u64 0, .int .u64 0, .int .i64 0, .int .u32 0]) := lh (blk_at (by simp))
 obtain ⟨f1, hf1⟩ : ∃ f1 : FS, f1 = ({ FS.none with kd := 3, vl := vl, t := i, d := d % K, pc := 1 } : FS) := ⟨_, rfl⟩
 have HF1 := lh hf1
 clear hf1
 have k0 : ¬ (K : Int) = 0 := by omega
 have kN : ¬ K = 0 := by omega
 have kw : IntKind.u32.wrap (K : Int) = K := by rw [IntKind.wrap_u32]; omega
 have kt : d.tmod (K : Int) = d % (K : Int) := Int.tmod_eq_emod_of_nonneg d0
 have q0 : 0 <= d % (K : Int) := Int.emod_nonneg _ k0
 have q1 : d % (K : Int) < K := Int.emod_lt_of_pos _ (by omega)
 have kc : IntKind.i64.wrap (d % (K : Int)) = d % (K : Int) := by rw [IntKind.wrap_i64]; omega
 have HR : Hid (docBg k K M i 3 vl d = ({ f1 with pc := 30 } : FS)) := lh (by rw [HF1.out]; simp only [docBg, Int.reduceEq, if_false, if_true, and_false])
 have HM := lh (And.intro m1 m2)
 go_enter Tryz.func48, Tryz.ntmps48
 go_upto_region 1 with fail
 generalize (((w.alloc (.cells #[.int .i64 k, .int .i64 K, .int .i64 T, .int .i64 M] 23)).alloc (.cells #[.int .i64 3, .int .u32 vl] 46)).alloc (.cells zF 107)) = V at B0 C0 O0 Z0 ⊢
 have NB : Hid (Blk ((V.alloc (.cells zF 107)).drew) V.heap.size 107 #[.int .i64 0, .int .u32 0, .int .i64 0, .int .i64 0, .int .i64 0, .int .u64 0, .int .u64 0, .int .u64 0, .int .u64 0, .int .i64 0, .slice none 0 0, .bool false, .int .u64 0, .int .u64 0, .int .i64 0, .int .u32 0, .int .i64 0, .int .i64 0, .int .i64 0, .int .i64 0, .int .u64 0, .int .u64 0, .int .i64 0, .int .u32 0]) := lh ((Blk.new V _ _).drew)
 have C1 : Hid (Blk ((V.alloc (.cells zF 107)).drew) _ _ _) := lh ((C0.out.alloc (.cells zF 107)).drew)
 have O1 : Hid (Blk ((V.alloc (.cells zF 107)).drew) _ _ _) := lh ((O0.out.alloc (.cells zF 107)).drew)
 have Z1 : Hid (Blk ((V.alloc (.cells zF 107)).drew) _ _ _) := lh ((Z0.out.alloc (.cells zF 107)).drew)
 have B1 : Hid (Below w.heap.size w ((V.alloc (.cells zF 107)).drew)) := lh (below_drawn (B0.out.alloc B0.out.size (.cells zF 107)) 1)
 refine Zreg.begin_ (S := (fun w' => (∀ j, w'.cell? ⟨w.heap.size, j, none⟩ = (#[.int .i64 k, .int .i64 K, .int .i64 T, .int .i64 M] : Array Value)[j]?) /\ (∀ j, w'.cell? ⟨w.heap.size + 1, j, none⟩ = (#[.int .i64 3, .int .u32 vl] : Array Value)[j]?))) (zs := [13]) (by kernel_rfl) ?_
 show Zreg.After _ _ _ _ _ _ 14 #[false, false, false, false, false, false, false, false, false, false, false, false, false, false] _ _
 refine Zreg.tP 0 10 (x := ?xb_0) rfl rfl (by kernel_rfl) (fun _ _ _ h => h) (.inr ⟨C0.out.drew.cell, O0.out.drew.cell⟩) (Or.inl ⟨by rfl, ?yb_0⟩) ?rb_0
 case yb_0 => (intro w _; go_simp <;> with_reducible rfl)
 simp only [sA, sZ, sC]
 refine Zreg.tD 1 11 (x := ?xb_1) rfl rfl (by kernel_rfl) (fun _ _ _ h => h) (.inr ⟨C0.out.drew.cell, O0.out.drew.cell⟩) (Or.inl ⟨by rfl, ?yb_1⟩) ?rb_1
 case yb_1 => (intro w hSw; (try dsimp only at hSw); go_simp <;> with_reducible rfl)
 simp only [sA, sZ, sC]
 refine Zreg.tP 2 12 (x := ?xb_2) rfl rfl (by kernel_rfl) (fun _ _ _ h => h) (.inr ⟨C0.out.drew.cell, O0.out.drew.cell⟩) (Or.inl ⟨by rfl, ?yb_2⟩) ?rb_2
 case yb_2 => (intro w _; go_simp <;> with_reducible rfl)
 simp only [sA, sZ, sC]
 refine Zreg.tD 3 13 (x := ?xb_3) rfl rfl (by kernel_rfl) (fun _ _ _ h => h) (.inr ⟨C0.out.drew.cell, O0.out.drew.cell⟩) (Or.inl ⟨by rfl, ?yb_3⟩) ?rb_3
 case yb_3 => (intro w hSw; (try dsimp only at hSw); go_simp <;> with_reducible rfl)
 simp only [sA, sZ, sC]
 refine Zreg.tP 4 14 (x := ?xb_4) rfl rfl (by kernel_rfl) (fun _ _ _ h => h) (.inr ⟨C0.out.drew.cell, O0.out.drew.cell⟩) (Or.inl ⟨by rfl, ?yb_4⟩) ?rb_4
 case yb_4 => (intro w _; go_simp <;> with_reducible rfl)
 simp only [sA, sZ, sC]
 refine Zreg.tP 5 15 (x := ?xb_5) rfl rfl (by kernel_rfl) (fun _ _ _ h => h) (.inr ⟨C0.out.drew.cell, O0.out.drew.cell⟩) (Or.inl ⟨by rfl, ?yb_5⟩) ?rb_5
 case yb_5 => (intro w _; go_simp <;> with_reducible rfl)
 simp only [sA, sZ, sC]
 refine Zreg.tP 6 16 (x := ?xb_6) rfl rfl (by kernel_rfl) (fun _ _ _ h => h) (.inr ⟨C0.out.drew.cell, O0.out.drew.cell⟩) (Or.inl ⟨by rfl, ?yb_6⟩) ?rb_6
 case yb_6 => (intro w _; go_simp <;> with_reducible rfl)
 simp only [sA, sZ, sC]
 refine Zreg.tD 7 17 (x := ?xb_7) rfl rfl (by kernel_rfl) (fun _ _ _ h => h) (.inr ⟨C0.out.drew.cell, O0.out.drew.cell⟩) (Or.inl ⟨by rfl, ?yb_7⟩) ?rb_7
 case yb_7 => (intro w hSw; (try dsimp only at hSw); go_simp <;> with_reducible rfl)
 simp only [sA, sZ, sC]
 refine Zreg.tP 8 18 (x := ?xb_8) rfl rfl (by kernel_rfl) (fun _ _ _ h => h) (.inr ⟨C0.out.drew.cell, O0.out.drew.cell⟩) (Or.inl ⟨by rfl, ?yb_8⟩) ?rb_8
 case yb_8 => (intro w _; go_simp <;> with_reducible rfl)
 simp only [sA, sZ, sC]
 refine Zreg.tP 9 19 (x := ?xb_9) rfl rfl (by kernel_rfl) (fun _ _ _ h => h) (.inr ⟨C0.out.drew.cell, O0.out.drew.cell⟩) (Or.inl ⟨by rfl, ?yb_9⟩) ?rb_9
 case yb_9 => (intro w _; go_simp <;> with_reducible rfl)
 simp only [sA, sZ, sC]
 refine Zreg.tP 10 20 (x := ?xb_10) rfl rfl (by kernel_rfl) (fun _ _ _ h => h) (.inr ⟨C0.out.drew.cell, O0.out.drew.cell⟩) (Or.inl ⟨by rfl, ?yb_10⟩) ?rb_10
 case yb_10 => (intro w _; go_simp <;> with_reducible rfl)
 simp only [sA, sZ, sC]
 refine Zreg.tP 11 21 (x := ?xb_11) rfl rfl (by kernel_rfl) (fun _ _ _ h => h) (.inr ⟨C0.out.drew.cell, O0.out.drew.cell⟩) (Or.inl ⟨by rfl, ?yb_11⟩) ?rb_11
 case yb_11 => (intro w _; go_simp <;> with_reducible rfl)
 simp only [sA, sZ, sC]
 refine Zreg.one 12 (by kernel_rfl) rfl rfl fun K_ hK => ?_
 go_simp
 refine hK.out _ _ (.inr ⟨(C0.out.drew.alloc _).cell, (O0.out.drew.alloc _).cell⟩) fun _ => ?_
 clear hK
 simp only [sA, sZ, sC]
 refine Zreg.one 13 (by kernel_rfl) rfl rfl fun K_ hK => ?_
 refine wp_store_mid 107 (.tmp 9) (.tmp 21) rfl V.heap.size 0 (f1.v nilS).toArray (by simp [Act.eval]) (by simp [Act.eval]; rw [HF1.out]; rfl) (there24 NB.out (by decide)) f_size (FS.one _ _) ?_
 refine hK.out _ _ (.inl (by kernel_rfl)) fun _ => ?_
 clear hK
 try simp only [Act.put, List.setIfInBounds_toArray, List.set_cons_zero, List.set_cons_succ]
 refine Zreg.done (by kernel_rfl) ?_ _
 have VL : Hid (w.heap.size + 1 + 1 < V.heap.size) := lh Z0.out.lt
 have F2 := lh (Blk.f24 NB.out rfl f1 nilS)
 have OV := lh (Only.sets (P := fun g => g = V.heap.size) (g := V.heap.size) (.inl rfl) (f1.v nilS) ((V.alloc (.cells zF 107)).drew) 0 (Only.refl _ _))
 have C2 := lh (C1.out.only OV.out (show ¬ w.heap.size = V.heap.size by have := VL.out; omega))
 have O2 := lh (O1.out.only OV.out (show ¬ w.heap.size + 1 = V.heap.size by have := VL.out; omega))
 have Z2 := lh (Z1.out.only OV.out (show ¬ w.heap.size + 1 + 1 = V.heap.size by have := VL.out; omega))
 have B2 := lh (B1.out.trans (OV.out.below B1.out.size (fun g hg => by have := VL.out; omega)))
 generalize ((V.alloc (.cells zF 107)).drew.setCells V.heap.size 0 (f1.v nilS)) = V2 at F2 C2 O2 Z2 B2 ⊢
 have hf2 := F2.out.cell
 have hf2f := F2.out.frozen
 have ho2 := O2.out.cell
 have hc2 := C2.out.cell
 clear C0 O0 Z0 B0 C1 O1 Z1 B1 NB OV
 generalize V.heap.size = gF at F2 VL hf2 hf2f ⊢
 go_upto_region 14 with fail
 obtain ⟨f2, hf2⟩ : ∃ f2 : FS, f2 = { f1 with pc := 30 } := ⟨_, rfl⟩
 have Hf2 := lh hf2
 have F3 : Hid (Blk (V2.setCell ⟨gF, 4, none⟩ (.int .i64 30)) gF 107 (f2.v nilS).toArray) := lh (by
   have h_ := F2.out.set_ 4 (.int .i64 30)
   rw [hf2]; exact h_)
 clear hf2
 have Z3 := lh (Z2.out.far (p := ⟨gF, 4, none⟩) (show ¬ w.heap.size + 1 + 1 = gF by have := VL.out; omega) (.int .i64 30))
 have O3 := lh (O2.out.far (p := ⟨gF, 4, none⟩) (show ¬ w.heap.size + 1 = gF by have := VL.out; omega) (.int .i64 30))
 have C3 := lh (C2.out.far (p := ⟨gF, 4, none⟩) (show ¬ w.heap.size = gF by have := VL.out; omega) (.int .i64 30))
 have B3 := lh (Below.setCell B2.out (p := ⟨gF, 4, none⟩) (show w.heap.size <= gF by have := VL.out; omega) (.int .i64 30))
 clear hf2 hf2f ho2 hc2 F2 O2 Z2 B2 C2
 generalize V2.setCell ⟨gF, 4, none⟩ (.int .i64 30) = V3 at F3 Z3 O3 C3 B3 ⊢
 have ho3 := O3.out.cell
 have hc3 := C3.out.cell
 have hf3 := F3.out.cell
 have hf3f := F3.out.frozen
 clear hf3 hf3f
 by_cases hk2 : k = 2
 · have hkb : (k == 2) = true := by rw [hk2]; rfl
   clear hk2
   go_upto_region 18 with fail
   refine wp_region_lit ?_
   refine wpList_load_mid rfl 107 (.tmp 9) rfl gF 0 (by simp [Act.eval]) (f2.v nilS) _ (range24 F3.out (fun j v hj => by rw [Nat.zero_add]; simpa using hj)) Tryz.underlying107 rfl f_size ?_
   refine wpList_store_mid rfl 107 (.tmp 8) (.tmp 75) rfl (w.heap.size + 1 + 1) 0 (f2.v nilS).toArray (by simp [Act.eval, Act.put]) (by simp [Act.eval, Act.put]) (there24 Z3.out (by decide)) f_size (FS.one _ _) ?_
   have R9 := res24 (World.rangeAt_setCells_same V3 (w.heap.size + 1 + 1) 0 (f2.v nilS) (there24 Z3.out (by decide)))
   have B9 := Only.below (Only.sets (P := fun g => w.heap.size <= g) (g := w.heap.size + 1 + 1) (.inl (by omega)) (f2.v nilS) V3 0 (Only.of_below B3.out (Nat.le_refl _))) (Nat.le_refl _) (fun k h => h)
   have ez : (f2.v nilS).toArray.toList = (f2.v nilS) := rfl
   rw [ez]
   generalize V3.setCells (w.heap.size + 1 + 1) 0 (f2.v nilS) = V9 at R9 B9 ⊢
   go_wp2
   refine bodyPost_ret (v := .agg (f2.v nilS).toArray) (results_cell1 (a := 8) Tryz.results48 rfl R9) rfl ?_
   exact ⟨by rw [HR.out, Hf2.out], B9⟩
 · have hkb : (k == 2) = false := beq_false_of_ne hk2
   clear hk2
   go_upto_region 18 with fail
   refine wp_region_lit ?_
   refine wpList_load_mid rfl 107 (.tmp 9) rfl gF 0 (by simp [Act.eval]) (f2.v nilS) _ (range24 F3.out (fun j v hj => by rw [Nat.zero_add]; simpa using hj)) Tryz.underlying107 rfl f_size ?_
   refine wpList_store_mid rfl 107 (.tmp 8) (.tmp 75) rfl (w.heap.size + 1 + 1) 0 (f2.v nilS).toArray (by simp [Act.eval, Act.put]) (by simp [Act.eval, Act.put]) (there24 Z3.out (by decide)) f_size (FS.one _ _) ?_
   have R9 := res24 (World.rangeAt_setCells_same V3 (w.heap.size + 1 + 1) 0 (f2.v nilS) (there24 Z3.out (by decide)))
   have B9 := Only.below (Only.sets (P := fun g => w.heap.size <= g) (g := w.heap.size + 1 + 1) (.inl (by omega)) (f2.v nilS) V3 0 (Only.of_below B3.out (Nat.le_refl _))) (Nat.le_refl _) (fun k h => h)
   have ez : (f2.v nilS).toArray.toList = (f2.v nilS) := rfl
   rw [ez]
   generalize V3.setCells (w.heap.size + 1 + 1) 0 (f2.v nilS) = V9 at R9 B9 ⊢
   go_wp2
   refine bodyPost_ret (v := .agg (f2.v nilS).toArray) (results_cell1 (a := 8) Tryz.results48 rfl R9) rfl ?_
   exact ⟨by rw [HR.out, Hf2.out], B9⟩
set_option maxHeartbeats 4000000 in
theorem begin7_c (w : World) (k : Int) (K T M : Nat) (i vl d : Int) (a1 : 1 <= K) (a2 : K <= 64) (m1 : 2 <= M) (m2 : M <= 64) (d0 : 0 <= d) (d1 : d <= 4294967295) (v0 : 0 <= vl) (v1 : vl <= 4294967295) :
   Calls Tryz.prog 48 #[.agg #[.int .i64 k, .int .i64 K, .int .i64 T, .int .i64 M], .int .i64 i, .agg #[.int .i64 7, .int .u32 vl], .int .u32 d] w fun e w' => e = .returned (.agg ((docBg k K M i 7 vl d).v nilS).toArray) /\ Below w.heap.size w w' := by
 have B0 : Hid (Below w.heap.size w (((w.alloc (.cells #[.int .i64 k, .int .i64 K, .int .i64 T, .int .i64 M] 23)).alloc (.cells #[.int .i64 7, .int .u32 vl] 46)).alloc (.cells zF 107))) := lh ((((Below.refl _ _).alloc (Nat.le_refl _) _).alloc (by simp) _).alloc (by simp; omega) _)
 have C0 : Hid (Blk (((w.alloc (.cells #[.int .i64 k, .int .i64 K, .int .i64 T, .int .i64 M] 23)).alloc (.cells #[.int .i64 7, .int .u32 vl] 46)).alloc (.cells zF 107)) w.heap.size 23 #[.int .i64 k, .int .i64 K, .int .i64 T, .int .i64 M]) := lh (((Blk.new _ _ _).alloc _).alloc _)
 have O0 : Hid (Blk (((w.alloc (.cells #[.int .i64 k, .int .i64 K, .int .i64 T, .int .i64 M] 23)).alloc (.cells #[.int .i64 7, .int .u32 vl] 46)).alloc (.cells zF 107)) (w.heap.size + 1) 46 #[.int .i64 7, .int .u32 vl]) := lh ((blk_at (by simp)).alloc _)
 have Z0 : Hid (Blk (((w.alloc (.cells #[.int .i64 k, .int .i64 K, .int .i64 T, .int .i64 M] 23)).alloc (.cells #[.int .i64 7, .int .u32 vl] 46)).alloc (.cells zF 107)) (w.heap.size + 1 + 1) 107 #[.int .i64 0, .int .u32 0, .int .i64 0, .int .i64 0, .int .i64 0, .int .u64 0, .int .u64 0, .int .u64 0, .int .u64 0, .int .i64 0, .slice none 0 0, .bool false, .int .u64 0, .int .u64 0, .int .i64 0, .int .u32 0, .int .i64 0, .int .i64 0, .int .i64 0, .int .i64 0, .int .u64 0, .int .u64 0, .int .i64 0, .int .u32 0]) := lh (blk_at (by simp))
 obtain ⟨f1, hf1⟩ : ∃ f1 : FS, f1 = ({ FS.none with kd := 7, vl := vl, t := i, d := d % K, pc := 1 } : FS) := ⟨_, rfl⟩
 have HF1 := lh hf1
 clear hf1
 have k0 : ¬ (K : Int) = 0 := by omega
 have kN : ¬ K = 0 := by omega
 have kw : IntKind.u32.wrap (K : Int) = K := by rw [IntKind.wrap_u32]; omega
 have kt : d.tmod (K : Int) = d % (K : Int) := Int.tmod_eq_emod_of_nonneg d0
 have q0 : 0 <= d % (K : Int) := Int.emod_nonneg _ k0
 have q1 : d % (K : Int) < K := Int.emod_lt_of_pos _ (by omega)
 have kc : IntKind.i64.wrap (d % (K : Int)) = d % (K : Int) := by rw [IntKind.wrap_i64]; omega
 have HR : Hid (docBg k K M i 7 vl d = ({ f1 with pc := 4 } : FS)) := lh (by rw [HF1.out]; simp only [docBg, Int.reduceEq, if_false, if_true, and_false])
 have HM := lh (And.intro m1 m2)
 go_enter Tryz.func48, Tryz.ntmps48
 go_upto_region 1 with fail
 generalize (((w.alloc (.cells #[.int .i64 k, .int .i64 K, .int .i64 T, .int .i64 M] 23)).alloc (.cells #[.int .i64 7, .int .u32 vl] 46)).alloc (.cells zF 107)) = V at B0 C0 O0 Z0 ⊢
 have NB : Hid (Blk ((V.alloc (.cells zF 107)).drew) V.heap.size 107 #[.int .i64 0, .int .u32 0, .int .i64 0, .int .i64 0, .int .i64 0, .int .u64 0, .int .u64 0, .int .u64 0, .int .u64 0, .int .i64 0, .slice none 0 0, .bool false, .int .u64 0, .int .u64 0, .int .i64 0, .int .u32 0, .int .i64 0, .int .i64 0, .int .i64 0, .int .i64 0, .int .u64 0, .int .u64 0, .int .i64 0, .int .u32 0]) := lh ((Blk.new V _ _).drew)
 have C1 : Hid (Blk ((V.alloc (.cells zF 107)).drew) _ _ _) := lh ((C0.out.alloc (.cells zF 107)).drew)
 have O1 : Hid (Blk ((V.alloc (.cells zF 107)).drew) _ _ _) := lh ((O0.out.alloc (.cells zF 107)).drew)
 have Z1 : Hid (Blk ((V.alloc (.cells zF 107)).drew) _ _ _) := lh ((Z0.out.alloc (.cells zF 107)).drew)
 have B1 : Hid (Below w.heap.size w ((V.alloc (.cells zF 107)).drew)) := lh (below_drawn (B0.out.alloc B0.out.size (.cells zF 107)) 1)
 refine Zreg.begin_ (S := (fun w' => (∀ j, w'.cell? ⟨w.heap.size, j, none⟩ = (#[.int .i64 k, .int .i64 K, .int .i64 T, .int .i64 M] : Array Value)[j]?) /\ (∀ j, w'.cell? ⟨w.heap.size + 1, j, none⟩ = (#[.int .i64 7, .int .u32 vl] : Array Value)[j]?))) (zs := [13]) (by kernel_rfl) ?_
 show Zreg.After _ _ _ _ _ _ 14 #[false, false, false, false, false, false, false, false, false, false, false, false, false, false] _ _
 refine Zreg.tP 0 10 (x := ?xb_0) rfl rfl (by kernel_rfl) (fun _ _ _ h => h) (.inr ⟨C0.out.drew.cell, O0.out.drew.cell⟩) (Or.inl ⟨by rfl, ?yb_0⟩) ?rb_0
 case yb_0 => (intro w _; go_simp <;> with_reducible rfl)
 simp only [sA, sZ, sC]
 refine Zreg.tD 1 11 (x := ?xb_1) rfl rfl (by kernel_rfl) (fun _ _ _ h => h) (.inr ⟨C0.out.drew.cell, O0.out.drew.cell⟩) (Or.inl ⟨by rfl, ?yb_1⟩) ?rb_1
 case yb_1 => (intro w hSw; (try dsimp only at hSw); go_simp <;> with_reducible rfl)
 simp only [sA, sZ, sC]
 refine Zreg.tP 2 12 (x := ?xb_2) rfl rfl (by kernel_rfl) (fun _ _ _ h => h) (.inr ⟨C0.out.drew.cell, O0.out.drew.cell⟩) (Or.inl ⟨by rfl, ?yb_2⟩) ?rb_2
 case yb_2 => (intro w _; go_simp <;> with_reducible rfl)
 simp only [sA, sZ, sC]
 refine Zreg.tD 3 13 (x := ?xb_3) rfl rfl (by kernel_rfl) (fun _ _ _ h => h) (.inr ⟨C0.out.drew.cell, O0.out.drew.cell⟩) (Or.inl ⟨by rfl, ?yb_3⟩) ?rb_3
 case yb_3 => (intro w hSw; (try dsimp only at hSw); go_simp <;> with_reducible rfl)
 simp only [sA, sZ, sC]
 refine Zreg.tP 4 14 (x := ?xb_4) rfl rfl (by kernel_rfl) (fun _ _ _ h => h) (.inr ⟨C0.out.drew.cell, O0.out.drew.cell⟩) (Or.inl ⟨by rfl, ?yb_4⟩) ?rb_4
 case yb_4 => (intro w _; go_simp <;> with_reducible rfl)
 simp only [sA, sZ, sC]
 refine Zreg.tP 5 15 (x := ?xb_5) rfl rfl (by kernel_rfl) (fun _ _ _ h => h) (.inr ⟨C0.out.drew.cell, O0.out.drew.cell⟩) (Or.inl ⟨by rfl, ?yb_5⟩) ?rb_5
 case yb_5 => (intro w _; go_simp <;> with_reducible rfl)
 simp only [sA, sZ, sC]
 refine Zreg.tP 6 16 (x := ?xb_6) rfl rfl (by kernel_rfl) (fun _ _ _ h => h) (.inr ⟨C0.out.drew.cell, O0.out.drew.cell⟩) (Or.inl ⟨by rfl, ?yb_6⟩) ?rb_6
 case yb_6 => (intro w _; go_simp <;> with_reducible rfl)
 simp only [sA, sZ, sC]
 refine Zreg.tD 7 17 (x := ?xb_7) rfl rfl (by kernel_rfl) (fun _ _ _ h => h) (.inr ⟨C0.out.drew.cell, O0.out.drew.cell⟩) (Or.inl ⟨by rfl, ?yb_7⟩) ?rb_7
 case yb_7 => (intro w hSw; (try dsimp only at hSw); go_simp <;> with_reducible rfl)
 simp only [sA, sZ, sC]
 refine Zreg.tP 8 18 (x := ?xb_8) rfl rfl (by kernel_rfl) (fun _ _ _ h => h) (.inr ⟨C0.out.drew.cell, O0.out.drew.cell⟩) (Or.inl ⟨by rfl, ?yb_8⟩) ?rb_8
 case yb_8 => (intro w _; go_simp <;> with_reducible rfl)
 simp only [sA, sZ, sC]
 refine Zreg.tP 9 19 (x := ?xb_9) rfl rfl (by kernel_rfl) (fun _ _ _ h => h) (.inr ⟨C0.out.drew.cell, O0.out.drew.cell⟩) (Or.inl ⟨by rfl, ?yb_9⟩) ?rb_9
 case yb_9 => (intro w _; go_simp <;> with_reducible rfl)
 simp only [sA, sZ, sC]
 refine Zreg.tP 10 20 (x := ?xb_10) rfl rfl (by kernel_rfl) (fun _ _ _ h => h) (.inr ⟨C0.out.drew.cell, O0.out.drew.cell⟩) (Or.inl ⟨by rfl, ?yb_10⟩) ?rb_10
 case yb_10 => (intro w _; go_simp <;> with_reducible rfl)
 simp only [sA, sZ, sC]
 refine Zreg.tP 11 21 (x := ?xb_11) rfl rfl (by kernel_rfl) (fun _ _ _ h => h) (.inr ⟨C0.out.drew.cell, O0.out.drew.cell⟩) (Or.inl ⟨by rfl, ?yb_11⟩) ?rb_11
 case yb_11 => (intro w _; go_simp <;> with_reducible rfl)
 simp only [sA, sZ, sC]
 refine Zreg.one 12 (by kernel_rfl) rfl rfl fun K_ hK => ?_
 go_simp
 refine hK.out _ _ (.inr ⟨(C0.out.drew.alloc _).cell, (O0.out.drew.alloc _).cell⟩) fun _ => ?_
 clear hK
 simp only [sA, sZ, sC]
 refine Zreg.one 13 (by kernel_rfl) rfl rfl fun K_ hK => ?_
 refine wp_store_mid 107 (.tmp 9) (.tmp 21) rfl V.heap.size 0 (f1.v nilS).toArray (by simp [Act.eval]) (by simp [Act.eval]; rw [HF1.out]; rfl) (there24 NB.out (by decide)) f_size (FS.one _ _) ?_
 refine hK.out _ _ (.inl (by kernel_rfl)) fun _ => ?_
 clear hK
 try simp only [Act.put, List.setIfInBounds_toArray, List.set_cons_zero, List.set_cons_succ]
 refine Zreg.done (by kernel_rfl) ?_ _
 have VL : Hid (w.heap.size + 1 + 1 < V.heap.size) := lh Z0.out.lt
 have F2 := lh (Blk.f24 NB.out rfl f1 nilS)
 have OV := lh (Only.sets (P := fun g => g = V.heap.size) (g := V.heap.size) (.inl rfl) (f1.v nilS) ((V.alloc (.cells zF 107)).drew) 0 (Only.refl _ _))
 have C2 := lh (C1.out.only OV.out (show ¬ w.heap.size = V.heap.size by have := VL.out; omega))
 have O2 := lh (O1.out.only OV.out (show ¬ w.heap.size + 1 = V.heap.size by have := VL.out; omega))
 have Z2 := lh (Z1.out.only OV.out (show ¬ w.heap.size + 1 + 1 = V.heap.size by have := VL.out; omega))
 have B2 := lh (B1.out.trans (OV.out.below B1.out.size (fun g hg => by have := VL.out; omega)))
 generalize ((V.alloc (.cells zF 107)).drew.setCells V.heap.size 0 (f1.v nilS)) = V2 at F2 C2 O2 Z2 B2 ⊢
 have hf2 := F2.out.cell
 have hf2f := F2.out.frozen
 have ho2 := O2.out.cell
 have hc2 := C2.out.cell
 clear C0 O0 Z0 B0 C1 O1 Z1 B1 NB OV
 generalize V.heap.size = gF at F2 VL hf2 hf2f ⊢
 go_upto_region 14 with fail
 obtain ⟨f2, hf2⟩ : ∃ f2 : FS, f2 = { f1 with pc := 4 } := ⟨_, rfl⟩
 have Hf2 := lh hf2
 have F3 : Hid (Blk (V2.setCell ⟨gF, 4, none⟩ (.int .i64 4)) gF 107 (f2.v nilS).toArray) := lh (by
   have h_ := F2.out.set_ 4 (.int .i64 4)
   rw [hf2]; exact h_)
 clear hf2
 have Z3 := lh (Z2.out.far (p := ⟨gF, 4, none⟩) (show ¬ w.heap.size + 1 + 1 = gF by have := VL.out; omega) (.int .i64 4))
 have O3 := lh (O2.out.far (p := ⟨gF, 4, none⟩) (show ¬ w.heap.size + 1 = gF by have := VL.out; omega) (.int .i64 4))
 have C3 := lh (C2.out.far (p := ⟨gF, 4, none⟩) (show ¬ w.heap.size = gF by have := VL.out; omega) (.int .i64 4))
 have B3 := lh (Below.setCell B2.out (p := ⟨gF, 4, none⟩) (show w.heap.size <= gF by have := VL.out; omega) (.int .i64 4))
 clear hf2 hf2f ho2 hc2 F2 O2 Z2 B2 C2
 generalize V2.setCell ⟨gF, 4, none⟩ (.int .i64 4) = V3 at F3 Z3 O3 C3 B3 ⊢
 have ho3 := O3.out.cell
 have hc3 := C3.out.cell
 have hf3 := F3.out.cell
 have hf3f := F3.out.frozen
 clear hf3 hf3f
 by_cases hk2 : k = 2
 · have hkb : (k == 2) = true := by rw [hk2]; rfl
   clear hk2
   go_upto_region 18 with fail
   refine wp_region_lit ?_
   refine wpList_load_mid rfl 107 (.tmp 9) rfl gF 0 (by simp [Act.eval]) (f2.v nilS) _ (range24 F3.out (fun j v hj => by rw [Nat.zero_add]; simpa using hj)) Tryz.underlying107 rfl f_size ?_
   refine wpList_store_mid rfl 107 (.tmp 8) (.tmp 75) rfl (w.heap.size + 1 + 1) 0 (f2.v nilS).toArray (by simp [Act.eval, Act.put]) (by simp [Act.eval, Act.put]) (there24 Z3.out (by decide)) f_size (FS.one _ _) ?_
   have R9 := res24 (World.rangeAt_setCells_same V3 (w.heap.size + 1 + 1) 0 (f2.v nilS) (there24 Z3.out (by decide)))
   have B9 := Only.below (Only.sets (P := fun g => w.heap.size <= g) (g := w.heap.size + 1 + 1) (.inl (by omega)) (f2.v nilS) V3 0 (Only.of_below B3.out (Nat.le_refl _))) (Nat.le_refl _) (fun k h => h)
   have ez : (f2.v nilS).toArray.toList = (f2.v nilS) := rfl
   rw [ez]
   generalize V3.setCells (w.heap.size + 1 + 1) 0 (f2.v nilS) = V9 at R9 B9 ⊢
   go_wp2
   refine bodyPost_ret (v := .agg (f2.v nilS).toArray) (results_cell1 (a := 8) Tryz.results48 rfl R9) rfl ?_
   exact ⟨by rw [HR.out, Hf2.out], B9⟩
 · have hkb : (k == 2) = false := beq_false_of_ne hk2
   clear hk2
   go_upto_region 18 with fail
   refine wp_region_lit ?_
   refine wpList_load_mid rfl 107 (.tmp 9) rfl gF 0 (by simp [Act.eval]) (f2.v nilS) _ (range24 F3.out (fun j v hj => by rw [Nat.zero_add]; simpa using hj)) Tryz.underlying107 rfl f_size ?_
   refine wpList_store_mid rfl 107 (.tmp 8) (.tmp 75) rfl (w.heap.size + 1 + 1) 0 (f2.v nilS).toArray (by simp [Act.eval, Act.put]) (by simp [Act.eval, Act.put]) (there24 Z3.out (by decide)) f_size (FS.one _ _) ?_
   have R9 := res24 (World.rangeAt_setCells_same V3 (w.heap.size + 1 + 1) 0 (f2.v nilS) (there24 Z3.out (by decide)))
   have B9 := Only.below (Only.sets (P := fun g => w.heap.size <= g) (g := w.heap.size + 1 + 1) (.inl (by omega)) (f2.v nilS) V3 0 (Only.of_below B3.out (Nat.le_refl _))) (Nat.le_refl _) (fun k h => h)
   have ez : (f2.v nilS).toArray.toList = (f2.v nilS) := rfl
   rw [ez]
   generalize V3.setCells (w.heap.size + 1 + 1) 0 (f2.v nilS) = V9 at R9 B9 ⊢
   go_wp2
   refine bodyPost_ret (v := .agg (f2.v nilS).toArray) (results_cell1 (a := 8) Tryz.results48 rfl R9) rfl ?_
   exact ⟨by rw [HR.out, Hf2.out], B9⟩
set_option maxHeartbeats 4000000 in
theorem begin6_c (w : World) (k : Int) (K T M : Nat) (i vl d : Int) (a1 : 1 <= K) (a2 : K <= 64) (m1 : 2 <= M) (m2 : M <= 64) (d0 : 0 <= d) (d1 : d <= 4294967295) (v0 : 0 <= vl) (v1 : vl <= 4294967295) :
   Calls Tryz.prog 48 #[.agg #[.int .i64 k, .int .i64 K, .int .i64 T, .int .i64 M], .int .i64 i, .agg #[.int .i64 6, .int .u32 vl], .int .u32 d] w fun e w' => e = .returned (.agg ((docBg k K M i 6 vl d).v nilS).toArray) /\ Below w.heap.size w w' := by
 have B0 : Hid (Below w.heap.size w (((w.alloc (.cells #[.int .i64 k, .int .i64 K, .int .i64 T, .int .i64 M] 23)).alloc (.cells #[.int .i64 6, .int .u32 vl] 46)).alloc (.cells zF 107))) := lh ((((Below.refl _ _).alloc (Nat.le_refl _) _).alloc (by simp) _).alloc (by simp; omega) _)
 have C0 : Hid (Blk (((w.alloc (.cells #[.int .i64 k, .int .i64 K, .int .i64 T, .int .i64 M] 23)).alloc (.cells #[.int .i64 6, .int .u32 vl] 46)).alloc (.cells zF 107)) w.heap.size 23 #[.int .i64 k, .int .i64 K, .int .i64 T, .int .i64 M]) := lh (((Blk.new _ _ _).alloc _).alloc _)
 have O0 : Hid (Blk (((w.alloc (.cells #[.int .i64 k, .int .i64 K, .int .i64 T, .int .i64 M] 23)).alloc (.cells #[.int .i64 6, .int .u32 vl] 46)).alloc (.cells zF 107)) (w.heap.size + 1) 46 #[.int .i64 6, .int .u32 vl]) := lh ((blk_at (by simp)).alloc _)
 have Z0 : Hid (Blk (((w.alloc (.cells #[.int .i64 k, .int .i64 K, .int .i64 T, .int .i64 M] 23)).alloc (.cells #[.int .i64 6, .int .u32 vl] 46)).alloc (.cells zF 107)) (w.heap.size + 1 + 1) 107 #[.int .i64 0, .int .u32 0, .int .i64 0, .int .i64 0, .int .i64 0, .int .u64 0, .int .u64 0, .int .u64 0, .int .u64 0, .int .i64 0, .slice none 0 0, .bool false, .int .u64 0, .int .u64 0, .int .i64 0, .int .u32 0, .int .i64 0, .int .i64 0, .int .i64 0, .int .i64 0, .int .u64 0, .int .u64 0, .int .i64 0, .int .u32 0]) := lh (blk_at (by simp))
 obtain ⟨f1, hf1⟩ : ∃ f1 : FS, f1 = ({ FS.none with kd := 6, vl := vl, t := i, d := d % K, pc := 1 } : FS) := ⟨_, rfl⟩
 have HF1 := lh hf1
 clear hf1
 have k0 : ¬ (K : Int) = 0 := by omega
 have kN : ¬ K = 0 := by omega
 have kw : IntKind.u32.wrap (K : Int) = K := by rw [IntKind.wrap_u32]; omega
 have kt : d.tmod (K : Int) = d % (K : Int) := Int.tmod_eq_emod_of_nonneg d0
 have q0 : 0 <= d % (K : Int) := Int.emod_nonneg _ k0
 have q1 : d % (K : Int) < K := Int.emod_lt_of_pos _ (by omega)
 have kc : IntKind.i64.wrap (d % (K : Int)) = d % (K : Int) := by rw [IntKind.wrap_i64]; omega
 have HR : Hid (docBg k K M i 6 vl d = f1) := lh (by rw [HF1.out]; simp only [docBg, Int.reduceEq, if_false, and_false])
 have HM := lh (And.intro m1 m2)
 go_enter Tryz.func48, Tryz.ntmps48
 go_upto_region 1 with fail
 generalize (((w.alloc (.cells #[.int .i64 k, .int .i64 K, .int .i64 T, .int .i64 M] 23)).alloc (.cells #[.int .i64 6, .int .u32 vl] 46)).alloc (.cells zF 107)) = V at B0 C0 O0 Z0 ⊢
 have NB : Hid (Blk ((V.alloc (.cells zF 107)).drew) V.heap.size 107 #[.int .i64 0, .int .u32 0, .int .i64 0, .int .i64 0, .int .i64 0, .int .u64 0, .int .u64 0, .int .u64 0, .int .u64 0, .int .i64 0, .slice none 0 0, .bool false, .int .u64 0, .int .u64 0, .int .i64 0, .int .u32 0, .int .i64 0, .int .i64 0, .int .i64 0, .int .i64 0, .int .u64 0, .int .u64 0, .int .i64 0, .int .u32 0]) := lh ((Blk.new V _ _).drew)
 have C1 : Hid (Blk ((V.alloc (.cells zF 107)).drew) _ _ _) := lh ((C0.out.alloc (.cells zF 107)).drew)
 have O1 : Hid (Blk ((V.alloc (.cells zF 107)).drew) _ _ _) := lh ((O0.out.alloc (.cells zF 107)).drew)
 have Z1 : Hid (Blk ((V.alloc (.cells zF 107)).drew) _ _ _) := lh ((Z0.out.alloc (.cells zF 107)).drew)
 have B1 : Hid (Below w.heap.size w ((V.alloc (.cells zF 107)).drew)) := lh (below_drawn (B0.out.alloc B0.out.size (.cells zF 107)) 1)
 refine Zreg.begin_ (S := (fun w' => (∀ j, w'.cell? ⟨w.heap.size, j, none⟩ = (#[.int .i64 k, .int .i64 K, .int .i64 T, .int .i64 M] : Array Value)[j]?) /\ (∀ j, w'.cell? ⟨w.heap.size + 1, j, none⟩ = (#[.int .i64 6, .int .u32 vl] : Array Value)[j]?))) (zs := [13]) (by kernel_rfl) ?_
 show Zreg.After _ _ _ _ _ _ 14 #[false, false, false, false, false, false, false, false, false, false, false, false, false, false] _ _
 refine Zreg.tP 0 10 (x := ?xb_0) rfl rfl (by kernel_rfl) (fun _ _ _ h => h) (.inr ⟨C0.out.drew.cell, O0.out.drew.cell⟩) (Or.inl ⟨by rfl, ?yb_0⟩) ?rb_0
 case yb_0 => (intro w _; go_simp <;> with_reducible rfl)
 simp only [sA, sZ, sC]
 refine Zreg.tD 1 11 (x := ?xb_1) rfl rfl (by kernel_rfl) (fun _ _ _ h => h) (.inr ⟨C0.out.drew.cell, O0.out.drew.cell⟩) (Or.inl ⟨by rfl, ?yb_1⟩) ?rb_1
 case yb_1 => (intro w hSw; (try dsimp only at hSw); go_simp <;> with_reducible rfl)
 simp only [sA, sZ, sC]
 refine Zreg.tP 2 12 (x := ?xb_2) rfl rfl (by kernel_rfl) (fun _ _ _ h => h) (.inr ⟨C0.out.drew.cell, O0.out.drew.cell⟩) (Or.inl ⟨by rfl, ?yb_2⟩) ?rb_2
 case yb_2 => (intro w _; go_simp <;> with_reducible rfl)
 simp only [sA, sZ, sC]
 refine Zreg.tD 3 13 (x := ?xb_3) rfl rfl (by kernel_rfl) (fun _ _ _ h => h) (.inr ⟨C0.out.drew.cell, O0.out.drew.cell⟩) (Or.inl ⟨by rfl, ?yb_3⟩) ?rb_3
 case yb_3 => (intro w hSw; (try dsimp only at hSw); go_simp <;> with_reducible rfl)
 simp only [sA, sZ, sC]
 refine Zreg.tP 4 14 (x := ?xb_4) rfl rfl (by kernel_rfl) (fun _ _ _ h => h) (.inr ⟨C0.out.drew.cell, O0.out.drew.cell⟩) (Or.inl ⟨by rfl, ?yb_4⟩) ?rb_4
 case yb_4 => (intro w _; go_simp <;> with_reducible rfl)
 simp only [sA, sZ, sC]
 refine Zreg.tP 5 15 (x := ?xb_5) rfl rfl (by kernel_rfl) (fun _ _ _ h => h) (.inr ⟨C0.out.drew.cell, O0.out.drew.cell⟩) (Or.inl ⟨by rfl, ?yb_5⟩) ?rb_5
 case yb_5 => (intro w _; go_simp <;> with_reducible rfl)
 simp only [sA, sZ, sC]
 refine Zreg.tP 6 16 (x := ?xb_6) rfl rfl (by kernel_rfl) (fun _ _ _ h => h) (.inr ⟨C0.out.drew.cell, O0.out.drew.cell⟩) (Or.inl ⟨by rfl, ?yb_6⟩) ?rb_6
 case yb_6 => (intro w _; go_simp <;> with_reducible rfl)
 simp only [sA, sZ, sC]
 refine Zreg.tD 7 17 (x := ?xb_7) rfl rfl (by kernel_rfl) (fun _ _ _ h => h) (.inr ⟨C0.out.drew.cell, O0.out.drew.cell⟩) (Or.inl ⟨by rfl, ?yb_7⟩) ?rb_7
 case yb_7 => (intro w hSw; (try dsimp only at hSw); go_simp <;> with_reducible rfl)
 simp only [sA, sZ, sC]
 refine Zreg.tP 8 18 (x := ?xb_8) rfl rfl (by kernel_rfl) (fun _ _ _ h => h) (.inr ⟨C0.out.drew.cell, O0.out.drew.cell⟩) (Or.inl ⟨by rfl, ?yb_8⟩) ?rb_8
 case yb_8 => (intro w _; go_simp <;> with_reducible rfl)
 simp only [sA, sZ, sC]
 refine Zreg.tP 9 19 (x := ?xb_9) rfl rfl (by kernel_rfl) (fun _ _ _ h => h) (.inr ⟨C0.out.drew.cell, O0.out.drew.cell⟩) (Or.inl ⟨by rfl, ?yb_9⟩) ?rb_9
 case yb_9 => (intro w _; go_simp <;> with_reducible rfl)
 simp only [sA, sZ, sC]
 refine Zreg.tP 10 20 (x := ?xb_10) rfl rfl (by kernel_rfl) (fun _ _ _ h => h) (.inr ⟨C0.out.drew.cell, O0.out.drew.cell⟩) (Or.inl ⟨by rfl, ?yb_10⟩) ?rb_10
 case yb_10 => (intro w _; go_simp <;> with_reducible rfl)
 simp only [sA, sZ, sC]
 refine Zreg.tP 11 21 (x := ?xb_11) rfl rfl (by kernel_rfl) (fun _ _ _ h => h) (.inr ⟨C0.out.drew.cell, O0.out.drew.cell⟩) (Or.inl ⟨by rfl, ?yb_11⟩) ?rb_11
 case yb_11 => (intro w _; go_simp <;> with_reducible rfl)
 simp only [sA, sZ, sC]
 refine Zreg.one 12 (by kernel_rfl) rfl rfl fun K_ hK => ?_
 go_simp
 refine hK.out _ _ (.inr ⟨(C0.out.drew.alloc _).cell, (O0.out.drew.alloc _).cell⟩) fun _ => ?_
 clear hK
 simp only [sA, sZ, sC]
 refine Zreg.one 13 (by kernel_rfl) rfl rfl fun K_ hK => ?_
 refine wp_store_mid 107 (.tmp 9) (.tmp 21) rfl V.heap.size 0 (f1.v nilS).toArray (by simp [Act.eval]) (by simp [Act.eval]; rw [HF1.out]; rfl) (there24 NB.out (by decide)) f_size (FS.one _ _) ?_
 refine hK.out _ _ (.inl (by kernel_rfl)) fun _ => ?_
 clear hK
 try simp only [Act.put, List.setIfInBounds_toArray, List.set_cons_zero, List.set_cons_succ]
 refine Zreg.done (by kernel_rfl) ?_ _
 have VL : Hid (w.heap.size + 1 + 1 < V.heap.size) := lh Z0.out.lt
 have F2 := lh (Blk.f24 NB.out rfl f1 nilS)
 have OV := lh (Only.sets (P := fun g => g = V.heap.size) (g := V.heap.size) (.inl rfl) (f1.v nilS) ((V.alloc (.cells zF 107)).drew) 0 (Only.refl _ _))
 have C2 := lh (C1.out.only OV.out (show ¬ w.heap.size = V.heap.size by have := VL.out; omega))
 have O2 := lh (O1.out.only OV.out (show ¬ w.heap.size + 1 = V.heap.size by have := VL.out; omega))
 have Z2 := lh (Z1.out.only OV.out (show ¬ w.heap.size + 1 + 1 = V.heap.size by have := VL.out; omega))
 have B2 := lh (B1.out.trans (OV.out.below B1.out.size (fun g hg => by have := VL.out; omega)))
 generalize ((V.alloc (.cells zF 107)).drew.setCells V.heap.size 0 (f1.v nilS)) = V2 at F2 C2 O2 Z2 B2 ⊢
 have hf2 := F2.out.cell
 have hf2f := F2.out.frozen
 have ho2 := O2.out.cell
 have hc2 := C2.out.cell
 clear C0 O0 Z0 B0 C1 O1 Z1 B1 NB OV
 generalize V.heap.size = gF at F2 VL hf2 hf2f ⊢
 clear hf2 hf2f
 by_cases hk2 : k = 2
 · have hkb : (k == 2) = true := by rw [hk2]; rfl
   clear hk2
   go_upto_region 18 with fail
   refine wp_region_lit ?_
   refine wpList_load_mid rfl 107 (.tmp 9) rfl gF 0 (by simp [Act.eval]) (f1.v nilS) _ (range24 F2.out (fun j v hj => by rw [Nat.zero_add]; simpa using hj)) Tryz.underlying107 rfl f_size ?_
   refine wpList_store_mid rfl 107 (.tmp 8) (.tmp 75) rfl (w.heap.size + 1 + 1) 0 (f1.v nilS).toArray (by simp [Act.eval, Act.put]) (by simp [Act.eval, Act.put]) (there24 Z2.out (by decide)) f_size (FS.one _ _) ?_
   have R9 := res24 (World.rangeAt_setCells_same V2 (w.heap.size + 1 + 1) 0 (f1.v nilS) (there24 Z2.out (by decide)))
   have B9 := Only.below (Only.sets (P := fun g => w.heap.size <= g) (g := w.heap.size + 1 + 1) (.inl (by omega)) (f1.v nilS) V2 0 (Only.of_below B2.out (Nat.le_refl _))) (Nat.le_refl _) (fun k h => h)
   have ez : (f1.v nilS).toArray.toList = (f1.v nilS) := rfl
   rw [ez]
   generalize V2.setCells (w.heap.size + 1 + 1) 0 (f1.v nilS) = V9 at R9 B9 ⊢
   go_wp2
   refine bodyPost_ret (v := .agg (f1.v nilS).toArray) (results_cell1 (a := 8) Tryz.results48 rfl R9) rfl ?_
   exact ⟨by rw [HR.out], B9⟩
 · have hkb : (k == 2) = false := beq_false_of_ne hk2
   clear hk2
   go_upto_region 18 with fail
   refine wp_region_lit ?_
   refine wpList_load_mid rfl 107 (.tmp 9) rfl gF 0 (by simp [Act.eval]) (f1.v nilS) _ (range24 F2.out (fun j v hj => by rw [Nat.zero_add]; simpa using hj)) Tryz.underlying107 rfl f_size ?_
   refine wpList_store_mid rfl 107 (.tmp 8) (.tmp 75) rfl (w.heap.size + 1 + 1) 0 (f1.v nilS).toArray (by simp [Act.eval, Act.put]) (by simp [Act.eval, Act.put]) (there24 Z2.out (by decide)) f_size (FS.one _ _) ?_
   have R9 := res24 (World.rangeAt_setCells_same V2 (w.heap.size + 1 + 1) 0 (f1.v nilS) (there24 Z2.out (by decide)))
   have B9 := Only.below (Only.sets (P := fun g => w.heap.size <= g) (g := w.heap.size + 1 + 1) (.inl (by omega)) (f1.v nilS) V2 0 (Only.of_below B2.out (Nat.le_refl _))) (Nat.le_refl _) (fun k h => h)
   have ez : (f1.v nilS).toArray.toList = (f1.v nilS) := rfl
   rw [ez]
   generalize V2.setCells (w.heap.size + 1 + 1) 0 (f1.v nilS) = V9 at R9 B9 ⊢
   go_wp2
   refine bodyPost_ret (v := .agg (f1.v nilS).toArray) (results_cell1 (a := 8) Tryz.results48 rfl R9) rfl ?_
   exact ⟨by rw [HR.out], B9⟩
set_option maxHeartbeats 4000000 in
theorem begin8_c (w : World) (k : Int) (K T M : Nat) (i vl d : Int) (a1 : 1 <= K) (a2 : K <= 64) (m1 : 2 <= M) (m2 : M <= 64) (d0 : 0 <= d) (d1 : d <= 4294967295) (v0 : 0 <= vl) (v1 : vl <= 4294967295) :
   Calls Tryz.prog 48 #[.agg #[.int .i64 k, .int .i64 K, .int .i64 T, .int .i64 M], .int .i64 i, .agg #[.int .i64 8, .int .u32 vl], .int .u32 d] w fun e w' => e = .returned (.agg ((docBg k K M i 8 vl d).v nilS).toArray) /\ Below w.heap.size w w' := by
 have B0 : Hid (Below w.heap.size w (((w.alloc (.cells #[.int .i64 k, .int .i64 K, .int .i64 T, .int .i64 M] 23)).alloc (.cells #[.int .i64 8, .int .u32 vl] 46)).alloc (.cells zF 107))) := lh ((((Below.refl _ _).alloc (Nat.le_refl _) _).alloc (by simp) _).alloc (by simp; omega) _)
 have C0 : Hid (Blk (((w.alloc (.cells #[.int .i64 k, .int .i64 K, .int .i64 T, .int .i64 M] 23)).alloc (.cells #[.int .i64 8, .int .u32 vl] 46)).alloc (.cells zF 107)) w.heap.size 23 #[.int .i64 k, .int .i64 K, .int .i64 T, .int .i64 M]) := lh (((Blk.new _ _ _).alloc _).alloc _)
 have O0 : Hid (Blk (((w.alloc (.cells #[.int .i64 k, .int .i64 K, .int .i64 T, .int .i64 M] 23)).alloc (.cells #[.int .i64 8, .int .u32 vl] 46)).alloc (.cells zF 107)) (w.heap.size + 1) 46 #[.int .i64 8, .int .u32 vl]) := lh ((blk_at (by simp)).alloc _)
 have Z0 : Hid (Blk (((w.alloc (.cells #[.int .i64 k, .int .i64 K, .int .i64 T, .int .i64 M] 23)).alloc (.cells #[.int .i64 8, .int .u32 vl] 46)).alloc (.cells zF 107)) (w.heap.size + 1 + 1) 107 #[.int .i64 0, .int .u32 0, .int .i64 0, .int .i64 0, .int .i64 0, .int .u64 0, .int .u64 0, .int .u64 0, .int .u64 0, .int .i64 0, .slice none 0 0, .bool false, .int .u64 0, .int .u64 0, .int .i64 0, .int .u32 0, .int .i64 0, .int .i64 0, .int .i64 0, .int .i64 0, .int .u64 0, .int .u64 0, .int .i64 0, .int .u32 0]) := lh (blk_at (by simp))
 obtain ⟨f1, hf1⟩ : ∃ f1 : FS, f1 = ({ FS.none with kd := 8, vl := vl, t := i, d := d % K, pc := 1 } : FS) := ⟨_, rfl⟩
 have HF1 := lh hf1
 clear hf1
 have k0 : ¬ (K : Int) = 0 := by omega
 have kN : ¬ K = 0 := by omega
 have kw : IntKind.u32.wrap (K : Int) = K := by rw [IntKind.wrap_u32]; omega
 have kt : d.tmod (K : Int) = d % (K : Int) := Int.tmod_eq_emod_of_nonneg d0
 have q0 : 0 <= d % (K : Int) := Int.emod_nonneg _ k0
 have q1 : d % (K : Int) < K := Int.emod_lt_of_pos _ (by omega)
 have kc : IntKind.i64.wrap (d % (K : Int)) = d % (K : Int) := by rw [IntKind.wrap_i64]; omega
 have HR : Hid (docBg k K M i 8 vl d = ({ f1 with s := vl % (M : Int) + 1, pc := 80 } : FS)) := lh (by rw [HF1.out]; simp only [docBg, Int.reduceEq, if_false, if_true, and_false])
 have HM := lh (And.intro m1 m2)
 go_enter Tryz.func48, Tryz.ntmps48
 go_upto_region 1 with fail
 generalize (((w.alloc (.cells #[.int .i64 k, .int .i64 K, .int .i64 T, .int .i64 M] 23)).alloc (.cells #[.int .i64 8, .int .u32 vl] 46)).alloc (.cells zF 107)) = V at B0 C0 O0 Z0 ⊢
 have NB : Hid (Blk ((V.alloc (.cells zF 107)).drew) V.heap.size 107 #[.int .i64 0, .int .u32 0, .int .i64 0, .int .i64 0, .int .i64 0, .int .u64 0, .int .u64 0, .int .u64 0, .int .u64 0, .int .i64 0, .slice none 0 0, .bool false, .int .u64 0, .int .u64 0, .int .i64 0, .int .u32 0, .int .i64 0, .int .i64 0, .int .i64 0, .int .i64 0, .int .u64 0, .int .u64 0, .int .i64 0, .int .u32 0]) := lh ((Blk.new V _ _).drew)
 have C1 : Hid (Blk ((V.alloc (.cells zF 107)).drew) _ _ _) := lh ((C0.out.alloc (.cells zF 107)).drew)
 have O1 : Hid (Blk ((V.alloc (.cells zF 107)).drew) _ _ _) := lh ((O0.out.alloc (.cells zF 107)).drew)
 have Z1 : Hid (Blk ((V.alloc (.cells zF 107)).drew) _ _ _) := lh ((Z0.out.alloc (.cells zF 107)).drew)
 have B1 : Hid (Below w.heap.size w ((V.alloc (.cells zF 107)).drew)) := lh (below_drawn (B0.out.alloc B0.out.size (.cells zF 107)) 1)
 refine Zreg.begin_ (S := (fun w' => (∀ j, w'.cell? ⟨w.heap.size, j, none⟩ = (#[.int .i64 k, .int .i64 K, .int .i64 T, .int .i64 M] : Array Value)[j]?) /\ (∀ j, w'.cell? ⟨w.heap.size + 1, j, none⟩ = (#[.int .i64 8, .int .u32 vl] : Array Value)[j]?))) (zs := [13]) (by kernel_rfl) ?_
 show Zreg.After _ _ _ _ _ _ 14 #[false, false, false, false, false, false, false, false, false, false, false, false, false, false] _ _
 refine Zreg.tP 0 10 (x := ?xb_0) rfl rfl (by kernel_rfl) (fun _ _ _ h => h) (.inr ⟨C0.out.drew.cell, O0.out.drew.cell⟩) (Or.inl ⟨by rfl, ?yb_0⟩) ?rb_0
 case yb_0 => (intro w _; go_simp <;> with_reducible rfl)
 simp only [sA, sZ, sC]
 refine Zreg.tD 1 11 (x := ?xb_1) rfl rfl (by kernel_rfl) (fun _ _ _ h => h) (.inr ⟨C0.out.drew.cell, O0.out.drew.cell⟩) (Or.inl ⟨by rfl, ?yb_1⟩) ?rb_1
 case yb_1 => (intro w hSw; (try dsimp only at hSw); go_simp <;> with_reducible rfl)
 simp only [sA, sZ, sC]
 refine Zreg.tP 2 12 (x := ?xb_2) rfl rfl (by kernel_rfl) (fun _ _ _ h => h) (.inr ⟨C0.out.drew.cell, O0.out.drew.cell⟩) (Or.inl ⟨by rfl, ?yb_2⟩) ?rb_2
 case yb_2 => (intro w _; go_simp <;> with_reducible rfl)
 simp only [sA, sZ, sC]
 refine Zreg.tD 3 13 (x := ?xb_3) rfl rfl (by kernel_rfl) (fun _ _ _ h => h) (.inr ⟨C0.out.drew.cell, O0.out.drew.cell⟩) (Or.inl ⟨by rfl, ?yb_3⟩) ?rb_3
 case yb_3 => (intro w hSw; (try dsimp only at hSw); go_simp <;> with_reducible rfl)
 simp only [sA, sZ, sC]
 refine Zreg.tP 4 14 (x := ?xb_4) rfl rfl (by kernel_rfl) (fun _ _ _ h => h) (.inr ⟨C0.out.drew.cell, O0.out.drew.cell⟩) (Or.inl ⟨by rfl, ?yb_4⟩) ?rb_4
 case yb_4 => (intro w _; go_simp <;> with_reducible rfl)
 simp only [sA, sZ, sC]
 refine Zreg.tP 5 15 (x := ?xb_5) rfl rfl (by kernel_rfl) (fun _ _ _ h => h) (.inr ⟨C0.out.drew.cell, O0.out.drew.cell⟩) (Or.inl ⟨by rfl, ?yb_5⟩) ?rb_5
 case yb_5 => (intro w _; go_simp <;> with_reducible rfl)
 simp only [sA, sZ, sC]
 refine Zreg.tP 6 16 (x := ?xb_6) rfl rfl (by kernel_rfl) (fun _ _ _ h => h) (.inr ⟨C0.out.drew.cell, O0.out.drew.cell⟩) (Or.inl ⟨by rfl, ?yb_6⟩) ?rb_6
 case yb_6 => (intro w _; go_simp <;> with_reducible rfl)
 simp only [sA, sZ, sC]
 refine Zreg.tD 7 17 (x := ?xb_7) rfl rfl (by kernel_rfl) (fun _ _ _ h => h) (.inr ⟨C0.out.drew.cell, O0.out.drew.cell⟩) (Or.inl ⟨by rfl, ?yb_7⟩) ?rb_7
 case yb_7 => (intro w hSw; (try dsimp only at hSw); go_simp <;> with_reducible rfl)
 simp only [sA, sZ, sC]
 refine Zreg.tP 8 18 (x := ?xb_8) rfl rfl (by kernel_rfl) (fun _ _ _ h => h) (.inr ⟨C0.out.drew.cell, O0.out.drew.cell⟩) (Or.inl ⟨by rfl, ?yb_8⟩) ?rb_8
 case yb_8 => (intro w _; go_simp <;> with_reducible rfl)
 simp only [sA, sZ, sC]
 refine Zreg.tP 9 19 (x := ?xb_9) rfl rfl (by kernel_rfl) (fun _ _ _ h => h) (.inr ⟨C0.out.drew.cell, O0.out.drew.cell⟩) (Or.inl ⟨by rfl, ?yb_9⟩) ?rb_9
 case yb_9 => (intro w _; go_simp <;> with_reducible rfl)
 simp only [sA, sZ, sC]
 refine Zreg.tP 10 20 (x := ?xb_10) rfl rfl (by kernel_rfl) (fun _ _ _ h => h) (.inr ⟨C0.out.drew.cell, O0.out.drew.cell⟩) (Or.inl ⟨by rfl, ?yb_10⟩) ?rb_10
 case yb_10 => (intro w _; go_simp <;> with_reducible rfl)
 simp only [sA, sZ, sC]
 refine Zreg.tP 11 21 (x := ?xb_11) rfl rfl (by kernel_rfl) (fun _ _ _ h => h) (.inr ⟨C0.out.drew.cell, O0.out.drew.cell⟩) (Or.inl ⟨by rfl, ?yb_11⟩) ?rb_11
 case yb_11 => (intro w _; go_simp <;> with_reducible rfl)
 simp only [sA, sZ, sC]
 refine Zreg.one 12 (by kernel_rfl) rfl rfl fun K_ hK => ?_
 go_simp
 refine hK.out _ _ (.inr ⟨(C0.out.drew.alloc _).cell, (O0.out.drew.alloc _).cell⟩) fun _ => ?_
 clear hK
 simp only [sA, sZ, sC]
 refine Zreg.one 13 (by kernel_rfl) rfl rfl fun K_ hK => ?_
 refine wp_store_mid 107 (.tmp 9) (.tmp 21) rfl V.heap.size 0 (f1.v nilS).toArray (by simp [Act.eval]) (by simp [Act.eval]; rw [HF1.out]; rfl) (there24 NB.out (by decide)) f_size (FS.one _ _) ?_
 refine hK.out _ _ (.inl (by kernel_rfl)) fun _ => ?_
 clear hK
 try simp only [Act.put, List.setIfInBounds_toArray, List.set_cons_zero, List.set_cons_succ]
 refine Zreg.done (by kernel_rfl) ?_ _
 have VL : Hid (w.heap.size + 1 + 1 < V.heap.size) := lh Z0.out.lt
 have F2 := lh (Blk.f24 NB.out rfl f1 nilS)
 have OV := lh (Only.sets (P := fun g => g = V.heap.size) (g := V.heap.size) (.inl rfl) (f1.v nilS) ((V.alloc (.cells zF 107)).drew) 0 (Only.refl _ _))
 have C2 := lh (C1.out.only OV.out (show ¬ w.heap.size = V.heap.size by have := VL.out; omega))
 have O2 := lh (O1.out.only OV.out (show ¬ w.heap.size + 1 = V.heap.size by have := VL.out; omega))
 have Z2 := lh (Z1.out.only OV.out (show ¬ w.heap.size + 1 + 1 = V.heap.size by have := VL.out; omega))
 have B2 := lh (B1.out.trans (OV.out.below B1.out.size (fun g hg => by have := VL.out; omega)))
 generalize ((V.alloc (.cells zF 107)).drew.setCells V.heap.size 0 (f1.v nilS)) = V2 at F2 C2 O2 Z2 B2 ⊢
 have hf2 := F2.out.cell
 have hf2f := F2.out.frozen
 have ho2 := O2.out.cell
 have hc2 := C2.out.cell
 clear C0 O0 Z0 B0 C1 O1 Z1 B1 NB OV
 generalize V.heap.size = gF at F2 VL hf2 hf2f ⊢
 have mN : ¬ M = 0 := by have := HM.out; omega
 have mw : IntKind.u32.wrap (M : Int) = M := by rw [IntKind.wrap_u32]; have := HM.out; omega
 have mt : vl.tmod (M : Int) = vl % (M : Int) := Int.tmod_eq_emod_of_nonneg v0
 have m3 : 0 <= vl % (M : Int) := Int.emod_nonneg _ (by have := HM.out; omega)
 have m4 : vl % (M : Int) < M := Int.emod_lt_of_pos _ (by have := HM.out; omega)
 have m5 : vl % (M : Int) < 64 := by have := HM.out; omega
 have mc : IntKind.i64.wrap (vl % (M : Int)) = vl % (M : Int) := by rw [IntKind.wrap_i64]; omega
 go_upto_region 13 with (go_at_call 63; refine (refref_p (vl % (M : Int)) _ m3 m5).mono ?_; rintro e w' ⟨rfl, rfl⟩)
 obtain ⟨f2, hf2⟩ : ∃ f2 : FS, f2 = { f1 with s := vl % (M : Int) + 1 } := ⟨_, rfl⟩
 have Hf2 := lh hf2
 have F3 : Hid (Blk (V2.setCell ⟨gF, 5, none⟩ (.int .u64 (vl % (M : Int) + 1))) gF 107 (f2.v nilS).toArray) := lh (by
   have h_ := F2.out.set_ 5 (.int .u64 (vl % (M : Int) + 1))
   rw [hf2]; exact h_)
 clear hf2
 have Z3 := lh (Z2.out.far (p := ⟨gF, 5, none⟩) (show ¬ w.heap.size + 1 + 1 = gF by have := VL.out; omega) (.int .u64 (vl % (M : Int) + 1)))
 have O3 := lh (O2.out.far (p := ⟨gF, 5, none⟩) (show ¬ w.heap.size + 1 = gF by have := VL.out; omega) (.int .u64 (vl % (M : Int) + 1)))
 have C3 := lh (C2.out.far (p := ⟨gF, 5, none⟩) (show ¬ w.heap.size = gF by have := VL.out; omega) (.int .u64 (vl % (M : Int) + 1)))
 have B3 := lh (Below.setCell B2.out (p := ⟨gF, 5, none⟩) (show w.heap.size <= gF by have := VL.out; omega) (.int .u64 (vl % (M : Int) + 1)))
 clear hf2 hf2f ho2 hc2 F2 O2 Z2 B2 C2
 generalize V2.setCell ⟨gF, 5, none⟩ (.int .u64 (vl % (M : Int) + 1)) = V3 at F3 Z3 O3 C3 B3 ⊢
 have ho3 := O3.out.cell
 have hc3 := C3.out.cell
 have hf3 := F3.out.cell
 have hf3f := F3.out.frozen
 go_upto_region 14 with fail
 obtain ⟨f3, hf3⟩ : ∃ f3 : FS, f3 = { f2 with pc := 80 } := ⟨_, rfl⟩
 have Hf3 := lh hf3
 have F4 : Hid (Blk (V3.setCell ⟨gF, 4, none⟩ (.int .i64 80)) gF 107 (f3.v nilS).toArray) := lh (by
   have h_ := F3.out.set_ 4 (.int .i64 80)
   rw [hf3]; exact h_)
 clear hf3
 have Z4 := lh (Z3.out.far (p := ⟨gF, 4, none⟩) (show ¬ w.heap.size + 1 + 1 = gF by have := VL.out; omega) (.int .i64 80))
 have O4 := lh (O3.out.far (p := ⟨gF, 4, none⟩) (show ¬ w.heap.size + 1 = gF by have := VL.out; omega) (.int .i64 80))
 have C4 := lh (C3.out.far (p := ⟨gF, 4, none⟩) (show ¬ w.heap.size = gF by have := VL.out; omega) (.int .i64 80))
 have B4 := lh (Below.setCell B3.out (p := ⟨gF, 4, none⟩) (show w.heap.size <= gF by have := VL.out; omega) (.int .i64 80))
 clear hf3 hf3f ho3 hc3 F3 O3 Z3 B3 C3
 generalize V3.setCell ⟨gF, 4, none⟩ (.int .i64 80) = V4 at F4 Z4 O4 C4 B4 ⊢
 have ho4 := O4.out.cell
 have hc4 := C4.out.cell
 have hf4 := F4.out.cell
 have hf4f := F4.out.frozen
 clear hf4 hf4f
 by_cases hk2 : k = 2
 · have hkb : (k == 2) = true := by rw [hk2]; rfl
   clear hk2
   go_upto_region 18 with fail
   refine wp_region_lit ?_
   refine wpList_load_mid rfl 107 (.tmp 9) rfl gF 0 (by simp [Act.eval]) (f3.v nilS) _ (range24 F4.out (fun j v hj => by rw [Nat.zero_add]; simpa using hj)) Tryz.underlying107 rfl f_size ?_
   refine wpList_store_mid rfl 107 (.tmp 8) (.tmp 75) rfl (w.heap.size + 1 + 1) 0 (f3.v nilS).toArray (by simp [Act.eval, Act.put]) (by simp [Act.eval, Act.put]) (there24 Z4.out (by decide)) f_size (FS.one _ _) ?_
   have R9 := res24 (World.rangeAt_setCells_same V4 (w.heap.size + 1 + 1) 0 (f3.v nilS) (there24 Z4.out (by decide)))
   have B9 := Only.below (Only.sets (P := fun g => w.heap.size <= g) (g := w.heap.size + 1 + 1) (.inl (by omega)) (f3.v nilS) V4 0 (Only.of_below B4.out (Nat.le_refl _))) (Nat.le_refl _) (fun k h => h)
   have ez : (f3.v nilS).toArray.toList = (f3.v nilS) := rfl
   rw [ez]
   generalize V4.setCells (w.heap.size + 1 + 1) 0 (f3.v nilS) = V9 at R9 B9 ⊢
   go_wp2
   refine bodyPost_ret (v := .agg (f3.v nilS).toArray) (results_cell1 (a := 8) Tryz.results48 rfl R9) rfl ?_
   exact ⟨by rw [HR.out, Hf3.out, Hf2.out], B9⟩
 · have hkb : (k == 2) = false := beq_false_of_ne hk2
   clear hk2
   go_upto_region 18 with fail
   refine wp_region_lit ?_
   refine wpList_load_mid rfl 107 (.tmp 9) rfl gF 0 (by simp [Act.eval]) (f3.v nilS) _ (range24 F4.out (fun j v hj => by rw [Nat.zero_add]; simpa using hj)) Tryz.underlying107 rfl f_size ?_
   refine wpList_store_mid rfl 107 (.tmp 8) (.tmp 75) rfl (w.heap.size + 1 + 1) 0 (f3.v nilS).toArray (by simp [Act.eval, Act.put]) (by simp [Act.eval, Act.put]) (there24 Z4.out (by decide)) f_size (FS.one _ _) ?_
   have R9 := res24 (World.rangeAt_setCells_same V4 (w.heap.size + 1 + 1) 0 (f3.v nilS) (there24 Z4.out (by decide)))
   have B9 := Only.below (Only.sets (P := fun g => w.heap.size <= g) (g := w.heap.size + 1 + 1) (.inl (by omega)) (f3.v nilS) V4 0 (Only.of_below B4.out (Nat.le_refl _))) (Nat.le_refl _) (fun k h => h)
   have ez : (f3.v nilS).toArray.toList = (f3.v nilS) := rfl
   rw [ez]
   generalize V4.setCells (w.heap.size + 1 + 1) 0 (f3.v nilS) = V9 at R9 B9 ⊢
   go_wp2
   refine bodyPost_ret (v := .agg (f3.v nilS).toArray) (results_cell1 (a := 8) Tryz.results48 rfl R9) rfl ?_
   exact ⟨by rw [HR.out, Hf3.out, Hf2.out], B9⟩

end Go.Proofs.YtffppdcpiieapaaGreat.Machc
