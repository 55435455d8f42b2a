/- A part of the proof. -/
import Derived.Test.YtffppdcpiieapaaGreatP27
namespace Go.Proofs.YtffppdcpiieapaaGreat.Machc
open Go.RowKit Memc Newc Refc Drivec Procc Wordc Arenac
set_option linter.unusedVariables false
set_option maxRecDepth 100000

set_option maxHeartbeats 4000000 in
theorem tell84q_c (w : World) (k : Int) (K T M : Nat) (f : FS) (q : Sl) (was : Int) (dn : Bool) (hpc : f.pc = 84) (x0 : 0 <= f.s) (x1 : f.s <= 18446744073709551615) (m1 : 2 <= M) (m2 : M <= 64) (hk : k = 1) (hd : dn = true) (hkd : f.kd = 8) :
   Calls Tryz.prog 61 #[.agg #[.int .i64 k, .int .i64 K, .int .i64 T, .int .i64 M], .agg (f.v q).toArray, .int .u64 was, .bool dn] w fun e w' => e = .returned (.agg ((docTell k K T M f was dn).v q).toArray) /\ Below w.heap.size w w' := by
 obtain ⟨B0, C0, F0, Z0⟩ := pre3 w k K T M f q
 have hv4 : (f.v q).toArray[4]? = some (.int .i64 84) := by show some (Value.int .i64 f.pc) = _; rw [hpc]
 have hz : (!dn) = false := by rw [hd]; rfl
 have hv0 : (f.v q).toArray[0]? = some (.int .i64 8) := by show some (Value.int .i64 f.kd) = _; rw [hkd]
 have hz1 : (k == 1) = true := by rw [hk]; rfl
 have HT : Hid (docTell k K T M f was dn = ({ f with pc := 0 } : FS)) := lh (by rw [tell84 was dn hpc, if_pos hd, if_pos hkd])
 clear hpc
 clear hd
 clear hk
 have HKD := lh hkd
 clear hkd
 go_enter Tryz.func61, Tryz.ntmps61
 go_upto_region 1 with fail
 generalize ((w2 w k K T M f q).alloc (.cells zF 107)) = V at B0 C0 F0 Z0 ⊢
 have hc0 := C0.out.cell
 refine wp_region_lit ?_
 refine wpList_load_mid rfl 107 (.tmp 5) rfl (w.heap.size + 1) 0 (by simp [Act.eval]) (f.v q) _ (rF F0.out) Tryz.underlying107 rfl f_size ?_
 go_upto_region 213 with (first
   | (go_at_call 67; (with_reducible refine (life_d f q x0 x1 m1 m2 B0 C0 F0 Z0).mono ?_); rintro e w1 ⟨rfl, B1, F1, Z1, C1⟩; have hf1c := F1.out.cell; have hf1f := F1.out.frozen; have hc1 := C1.out.cell; clear hc0))
 refine wp_region_still_tail 9 (by kernel_rfl) (by kernel_rfl) ?_
 simp only [List.take_succ_cons, List.take_zero, List.drop_succ_cons, List.drop_zero]
 refine wpStill_load_mid rfl 107 (.tmp 5) rfl (w.heap.size + 1) 0 (by simp [Act.eval]) (f.v q) _ (rF F1.out.drew) Tryz.underlying107 rfl f_size ?_
 repeat (first
   | still_step
   | (refine wpStill_step (fun K hK => ?_); go_simp; refine ⟨_, still_of (either_p _ _ _ _), hK _ ?_⟩; clear hK K))
 refine wpStill_nil ?_
 change wpList _ _ _ _ _ w1.drew
 have F1 := lh F1.out.drew
 have Z1 := lh Z1.out.drew
 have B1 := lh (below_drawn B1.out 1)
 clear hf1c hf1f
 change Hid (Below _ _ w1.drew) at B1
 generalize w1.drew = w1 at F1 Z1 B1 ⊢
 go_wp2_with (first
   | (go_at_call 78; (with_reducible refine (to_c _ f q 0).mono ?_); rintro e w2 ⟨rfl, hb⟩; go_must (have B2 := lh (B1.out.trans (hb.mono B1.out.size)); have Z2 := lh (Z1.out.below hb Z1.out.lt)); clear hb)
   | (refine wpList_store_mid rfl 107 (.tmp 8) (.tmp 610) rfl (w.heap.size + 1 + 1) 0 (({ f with pc := 0 } : FS).v q).toArray (by simp [Act.eval]) (by simp [Act.eval]) (there24 Z2.out (by decide)) f_size (FS.one _ _) ?_))
 obtain ⟨R9, B9⟩ := fin9 (fe := ({ f with pc := 0 } : FS)) (q := q) Z2.out B2.out
 generalize w2.setCells (w.heap.size + 1 + 1) 0 (({ f with pc := 0 } : FS).v q) = V9 at R9 B9 ⊢
 refine bodyPost_ret (v := .agg (({ f with pc := 0 } : FS).v q).toArray) (results_cell1 (a := 8) Tryz.results61 rfl R9) rfl ?_
 exact ⟨by rw [HT.out], B9⟩
set_option maxHeartbeats 4000000 in
theorem tell84r_c (w : World) (k : Int) (K T M : Nat) (f : FS) (q : Sl) (was : Int) (dn : Bool) (hpc : f.pc = 84) (x0 : 0 <= f.s) (x1 : f.s <= 18446744073709551615) (m1 : 2 <= M) (m2 : M <= 64) (hk : ¬ k = 1) (hd : dn = true) (hkd : f.kd = 8) :
   Calls Tryz.prog 61 #[.agg #[.int .i64 k, .int .i64 K, .int .i64 T, .int .i64 M], .agg (f.v q).toArray, .int .u64 was, .bool dn] w fun e w' => e = .returned (.agg ((docTell k K T M f was dn).v q).toArray) /\ Below w.heap.size w w' := by
 obtain ⟨B0, C0, F0, Z0⟩ := pre3 w k K T M f q
 have hv4 : (f.v q).toArray[4]? = some (.int .i64 84) := by show some (Value.int .i64 f.pc) = _; rw [hpc]
 have hz : (!dn) = false := by rw [hd]; rfl
 have hv0 : (f.v q).toArray[0]? = some (.int .i64 8) := by show some (Value.int .i64 f.kd) = _; rw [hkd]
 have hz1 : (k == 1) = false := beq_false_of_ne hk
 have HT : Hid (docTell k K T M f was dn = ({ f with pc := 0 } : FS)) := lh (by rw [tell84 was dn hpc, if_pos hd, if_pos hkd])
 clear hpc
 clear hd
 clear hk
 have HKD := lh hkd
 clear hkd
 go_enter Tryz.func61, Tryz.ntmps61
 go_upto_region 1 with fail
 generalize ((w2 w k K T M f q).alloc (.cells zF 107)) = V at B0 C0 F0 Z0 ⊢
 have hc0 := C0.out.cell
 refine wp_region_lit ?_
 refine wpList_load_mid rfl 107 (.tmp 5) rfl (w.heap.size + 1) 0 (by simp [Act.eval]) (f.v q) _ (rF F0.out) Tryz.underlying107 rfl f_size ?_
 go_upto_region 213 with (first
   | (go_at_call 67; (with_reducible refine (life_d f q x0 x1 m1 m2 B0 C0 F0 Z0).mono ?_); rintro e w1 ⟨rfl, B1, F1, Z1, C1⟩; have hf1c := F1.out.cell; have hf1f := F1.out.frozen; have hc1 := C1.out.cell; clear hc0))
 refine wp_region_still_tail 9 (by kernel_rfl) (by kernel_rfl) ?_
 simp only [List.take_succ_cons, List.take_zero, List.drop_succ_cons, List.drop_zero]
 refine wpStill_load_mid rfl 107 (.tmp 5) rfl (w.heap.size + 1) 0 (by simp [Act.eval]) (f.v q) _ (rF F1.out.drew) Tryz.underlying107 rfl f_size ?_
 repeat (first
   | still_step
   | (refine wpStill_step (fun K hK => ?_); go_simp; refine ⟨_, still_of (either_p _ _ _ _), hK _ ?_⟩; clear hK K))
 refine wpStill_nil ?_
 change wpList _ _ _ _ _ w1.drew
 have F1 := lh F1.out.drew
 have Z1 := lh Z1.out.drew
 have B1 := lh (below_drawn B1.out 1)
 clear hf1c hf1f
 change Hid (Below _ _ w1.drew) at B1
 generalize w1.drew = w1 at F1 Z1 B1 ⊢
 go_wp2_with (first
   | (go_at_call 78; (with_reducible refine (to_c _ f q 0).mono ?_); rintro e w2 ⟨rfl, hb⟩; go_must (have B2 := lh (B1.out.trans (hb.mono B1.out.size)); have Z2 := lh (Z1.out.below hb Z1.out.lt)); clear hb)
   | (refine wpList_store_mid rfl 107 (.tmp 8) (.tmp 610) rfl (w.heap.size + 1 + 1) 0 (({ f with pc := 0 } : FS).v q).toArray (by simp [Act.eval]) (by simp [Act.eval]) (there24 Z2.out (by decide)) f_size (FS.one _ _) ?_))
 obtain ⟨R9, B9⟩ := fin9 (fe := ({ f with pc := 0 } : FS)) (q := q) Z2.out B2.out
 generalize w2.setCells (w.heap.size + 1 + 1) 0 (({ f with pc := 0 } : FS).v q) = V9 at R9 B9 ⊢
 refine bodyPost_ret (v := .agg (({ f with pc := 0 } : FS).v q).toArray) (results_cell1 (a := 8) Tryz.results61 rfl R9) rfl ?_
 exact ⟨by rw [HT.out], B9⟩
set_option maxHeartbeats 4000000 in
theorem tell31ze_c (w : World) (k : Int) (K T M : Nat) (f : FS) (q : Sl) (was : Int) (dn : Bool) (hpc : f.pc = 31) (x0 : 0 <= f.s) (x1 : f.s <= 18446744073709551615) (m1 : 2 <= M) (m2 : M <= 64) (p0 : 0 <= f.pos) (p1 : f.pos <= 100) (h0 : was = 0) (ht : f.pos + 1 = T) :
   Calls Tryz.prog 61 #[.agg #[.int .i64 k, .int .i64 K, .int .i64 T, .int .i64 M], .agg (f.v q).toArray, .int .u64 was, .bool dn] w fun e w' => e = .returned (.agg ((docTell k K T M f was dn).v q).toArray) /\ Below w.heap.size w w' := by
 obtain ⟨B0, C0, F0, Z0⟩ := pre3 w k K T M f q
 have hv4 : (f.v q).toArray[4]? = some (.int .i64 31) := by show some (Value.int .i64 f.pc) = _; rw [hpc]
 obtain ⟨ps, hps⟩ : ∃ x, x = f.pos := ⟨_, rfl⟩
 have hv9 : (f.v q).toArray[9]? = some (.int .i64 ps) := by rw [hps]; rfl
 have pw : IntKind.i64.wrap (ps + 1) = ps + 1 := by rw [IntKind.wrap_i64]; omega
 have hz : (was != 0) = false := by simpa using h0
 have hzt : (ps + 1 == (T : Int)) = true := by rw [hps, ht]; exact beq_self_eq_true _
 have HPS := lh hps
 have HT : Hid (docTell k K T M f was dn = ({ f with pos := f.pos + 1, pc := 32 } : FS)) := lh (by rw [tell31 was dn hpc, if_neg (fun h => h.1 h0), if_pos ht])
 clear hpc
 clear h0
 clear ht
 clear hps
 go_enter Tryz.func61, Tryz.ntmps61
 go_upto_region 1 with fail
 generalize ((w2 w k K T M f q).alloc (.cells zF 107)) = V at B0 C0 F0 Z0 ⊢
 have hc0 := C0.out.cell
 refine wp_region_lit ?_
 refine wpList_load_mid rfl 107 (.tmp 5) rfl (w.heap.size + 1) 0 (by simp [Act.eval]) (f.v q) _ (rF F0.out) Tryz.underlying107 rfl f_size ?_
 go_upto_region 90 with (first
   | (go_at_call 67; (with_reducible refine (life_d f q x0 x1 m1 m2 B0 C0 F0 Z0).mono ?_); rintro e w1 ⟨rfl, B1, F1, Z1, C1⟩; have hf1c := F1.out.cell; have hf1f := F1.out.frozen; have hc1 := C1.out.cell; clear hc0))
 obtain ⟨f1, hf1⟩ : ∃ f1 : FS, f1 = { f with pos := ps + 1 } := ⟨_, rfl⟩
 have Hf1 := lh hf1
 have F2 : Hid (Blk (w1.setCell ⟨w.heap.size + 1, 9, none⟩ (.int .i64 (ps + 1))) (w.heap.size + 1) 107 (f1.v q).toArray) := lh (by
   have h_ := F1.out.set_ 9 (.int .i64 (ps + 1))
   rw [hf1]; exact h_)
 clear hf1
 have Z2 := lh (Z1.out.far (p := ⟨w.heap.size + 1, 9, none⟩) (show ¬ w.heap.size + 1 + 1 = w.heap.size + 1 by omega) (.int .i64 (ps + 1)))
 have B2 := lh (Below.setCell B1.out (p := ⟨w.heap.size + 1, 9, none⟩) (show w.heap.size <= w.heap.size + 1 by omega) (.int .i64 (ps + 1)))
 have C2 := lh (C1.out.far (p := ⟨w.heap.size + 1, 9, none⟩) (show ¬ w.heap.size = w.heap.size + 1 by omega) (.int .i64 (ps + 1)))
 clear hf1c hf1f hc1 F1 Z1 B1 C1
 generalize w1.setCell ⟨w.heap.size + 1, 9, none⟩ (.int .i64 (ps + 1)) = w2 at F2 Z2 B2 C2 ⊢
 have hf2c := F2.out.cell
 have hf2f := F2.out.frozen
 have hc2 := C2.out.cell
 have hv9b : (f1.v q).toArray[9]? = some (.int .i64 (ps + 1)) := by rw [Hf1.out]; rfl
 refine wp_region_still_tail 7 (by kernel_rfl) (by kernel_rfl) ?_
 simp only [List.take_succ_cons, List.take_zero, List.drop_succ_cons, List.drop_zero]
 refine wpStill_load_mid rfl 107 (.tmp 5) rfl (w.heap.size + 1) 0 (by simp [Act.eval]) (f1.v q) _ (rF F2.out.drew) Tryz.underlying107 rfl f_size ?_
 repeat (first
   | still_step
   | (refine wpStill_step (fun K hK => ?_); go_simp; refine ⟨_, still_of (either_p _ _ _ _), hK _ ?_⟩; clear hK K))
 refine wpStill_nil ?_
 change wpList _ _ _ _ _ w2.drew
 have F2 := lh F2.out.drew
 have Z2 := lh Z2.out.drew
 have B2 := lh (below_drawn B2.out 1)
 clear hf2c hf2f
 change Hid (Below _ _ w2.drew) at B2
 generalize w2.drew = w2 at F2 Z2 B2 ⊢
 go_wp2_with (first
   | (go_at_call 78; (with_reducible refine (to_c _ f1 q 32).mono ?_); rintro e w3 ⟨rfl, hb⟩; go_must (have B3 := lh (B2.out.trans (hb.mono B2.out.size)); have Z3 := lh (Z2.out.below hb Z2.out.lt)); clear hb)
   | (refine wpList_store_mid rfl 107 (.tmp 8) (.tmp 261) rfl (w.heap.size + 1 + 1) 0 (({ f1 with pc := 32 } : FS).v q).toArray (by simp [Act.eval]) (by simp [Act.eval]) (there24 Z3.out (by decide)) f_size (FS.one _ _) ?_))
 obtain ⟨R9, B9⟩ := fin9 (fe := ({ f1 with pc := 32 } : FS)) (q := q) Z3.out B3.out
 generalize w3.setCells (w.heap.size + 1 + 1) 0 (({ f1 with pc := 32 } : FS).v q) = V9 at R9 B9 ⊢
 refine bodyPost_ret (v := .agg (({ f1 with pc := 32 } : FS).v q).toArray) (results_cell1 (a := 8) Tryz.results61 rfl R9) rfl ?_
 exact ⟨by rw [HT.out, Hf1.out, HPS.out], B9⟩
set_option maxHeartbeats 4000000 in
theorem tell31zm_c (w : World) (k : Int) (K T M : Nat) (f : FS) (q : Sl) (was : Int) (dn : Bool) (hpc : f.pc = 31) (x0 : 0 <= f.s) (x1 : f.s <= 18446744073709551615) (m1 : 2 <= M) (m2 : M <= 64) (p0 : 0 <= f.pos) (p1 : f.pos <= 100) (h0 : was = 0) (ht : ¬ f.pos + 1 = T) :
   Calls Tryz.prog 61 #[.agg #[.int .i64 k, .int .i64 K, .int .i64 T, .int .i64 M], .agg (f.v q).toArray, .int .u64 was, .bool dn] w fun e w' => e = .returned (.agg ((docTell k K T M f was dn).v q).toArray) /\ Below w.heap.size w w' := by
 obtain ⟨B0, C0, F0, Z0⟩ := pre3 w k K T M f q
 have hv4 : (f.v q).toArray[4]? = some (.int .i64 31) := by show some (Value.int .i64 f.pc) = _; rw [hpc]
 obtain ⟨ps, hps⟩ : ∃ x, x = f.pos := ⟨_, rfl⟩
 have hv9 : (f.v q).toArray[9]? = some (.int .i64 ps) := by rw [hps]; rfl
 have pw : IntKind.i64.wrap (ps + 1) = ps + 1 := by rw [IntKind.wrap_i64]; omega
 have hz : (was != 0) = false := by simpa using h0
 have hzt : (ps + 1 == (T : Int)) = false := beq_false_of_ne (by rw [hps]; exact ht)
 have HPS := lh hps
 have HT : Hid (docTell k K T M f was dn = ({ f with pos := f.pos + 1, pc := 31 } : FS)) := lh (by rw [tell31 was dn hpc, if_neg (fun h => h.1 h0), if_neg ht])
 clear hpc
 clear h0
 clear ht
 clear hps
 go_enter Tryz.func61, Tryz.ntmps61
 go_upto_region 1 with fail
 generalize ((w2 w k K T M f q).alloc (.cells zF 107)) = V at B0 C0 F0 Z0 ⊢
 have hc0 := C0.out.cell
 refine wp_region_lit ?_
 refine wpList_load_mid rfl 107 (.tmp 5) rfl (w.heap.size + 1) 0 (by simp [Act.eval]) (f.v q) _ (rF F0.out) Tryz.underlying107 rfl f_size ?_
 go_upto_region 90 with (first
   | (go_at_call 67; (with_reducible refine (life_d f q x0 x1 m1 m2 B0 C0 F0 Z0).mono ?_); rintro e w1 ⟨rfl, B1, F1, Z1, C1⟩; have hf1c := F1.out.cell; have hf1f := F1.out.frozen; have hc1 := C1.out.cell; clear hc0))
 obtain ⟨f1, hf1⟩ : ∃ f1 : FS, f1 = { f with pos := ps + 1 } := ⟨_, rfl⟩
 have Hf1 := lh hf1
 have F2 : Hid (Blk (w1.setCell ⟨w.heap.size + 1, 9, none⟩ (.int .i64 (ps + 1))) (w.heap.size + 1) 107 (f1.v q).toArray) := lh (by
   have h_ := F1.out.set_ 9 (.int .i64 (ps + 1))
   rw [hf1]; exact h_)
 clear hf1
 have Z2 := lh (Z1.out.far (p := ⟨w.heap.size + 1, 9, none⟩) (show ¬ w.heap.size + 1 + 1 = w.heap.size + 1 by omega) (.int .i64 (ps + 1)))
 have B2 := lh (Below.setCell B1.out (p := ⟨w.heap.size + 1, 9, none⟩) (show w.heap.size <= w.heap.size + 1 by omega) (.int .i64 (ps + 1)))
 have C2 := lh (C1.out.far (p := ⟨w.heap.size + 1, 9, none⟩) (show ¬ w.heap.size = w.heap.size + 1 by omega) (.int .i64 (ps + 1)))
 clear hf1c hf1f hc1 F1 Z1 B1 C1
 generalize w1.setCell ⟨w.heap.size + 1, 9, none⟩ (.int .i64 (ps + 1)) = w2 at F2 Z2 B2 C2 ⊢
 have hf2c := F2.out.cell
 have hf2f := F2.out.frozen
 have hc2 := C2.out.cell
 have hv9b : (f1.v q).toArray[9]? = some (.int .i64 (ps + 1)) := by rw [Hf1.out]; rfl
 refine wp_region_still_tail 7 (by kernel_rfl) (by kernel_rfl) ?_
 simp only [List.take_succ_cons, List.take_zero, List.drop_succ_cons, List.drop_zero]
 refine wpStill_load_mid rfl 107 (.tmp 5) rfl (w.heap.size + 1) 0 (by simp [Act.eval]) (f1.v q) _ (rF F2.out.drew) Tryz.underlying107 rfl f_size ?_
 repeat (first
   | still_step
   | (refine wpStill_step (fun K hK => ?_); go_simp; refine ⟨_, still_of (either_p _ _ _ _), hK _ ?_⟩; clear hK K))
 refine wpStill_nil ?_
 change wpList _ _ _ _ _ w2.drew
 have F2 := lh F2.out.drew
 have Z2 := lh Z2.out.drew
 have B2 := lh (below_drawn B2.out 1)
 clear hf2c hf2f
 change Hid (Below _ _ w2.drew) at B2
 generalize w2.drew = w2 at F2 Z2 B2 ⊢
 go_wp2_with (first
   | (go_at_call 78; (with_reducible refine (to_c _ f1 q 31).mono ?_); rintro e w3 ⟨rfl, hb⟩; go_must (have B3 := lh (B2.out.trans (hb.mono B2.out.size)); have Z3 := lh (Z2.out.below hb Z2.out.lt)); clear hb)
   | (refine wpList_store_mid rfl 107 (.tmp 8) (.tmp 261) rfl (w.heap.size + 1 + 1) 0 (({ f1 with pc := 31 } : FS).v q).toArray (by simp [Act.eval]) (by simp [Act.eval]) (there24 Z3.out (by decide)) f_size (FS.one _ _) ?_))
 obtain ⟨R9, B9⟩ := fin9 (fe := ({ f1 with pc := 31 } : FS)) (q := q) Z3.out B3.out
 generalize w3.setCells (w.heap.size + 1 + 1) 0 (({ f1 with pc := 31 } : FS).v q) = V9 at R9 B9 ⊢
 refine bodyPost_ret (v := .agg (({ f1 with pc := 31 } : FS).v q).toArray) (results_cell1 (a := 8) Tryz.results61 rfl R9) rfl ?_
 exact ⟨by rw [HT.out, Hf1.out, HPS.out], B9⟩
set_option maxHeartbeats 4000000 in
theorem tell31se_c (w : World) (k : Int) (K T M : Nat) (f : FS) (q : Sl) (was : Int) (dn : Bool) (hpc : f.pc = 31) (x0 : 0 <= f.s) (x1 : f.s <= 18446744073709551615) (m1 : 2 <= M) (m2 : M <= 64) (p0 : 0 <= f.pos) (p1 : f.pos <= 100) (h0 : ¬ was = 0) (h1 : was = Arenac.w64 (f.g + 1)) (ht : f.pos + 1 = T) :
   Calls Tryz.prog 61 #[.agg #[.int .i64 k, .int .i64 K, .int .i64 T, .int .i64 M], .agg (f.v q).toArray, .int .u64 was, .bool dn] w fun e w' => e = .returned (.agg ((docTell k K T M f was dn).v q).toArray) /\ Below w.heap.size w w' := by
 obtain ⟨B0, C0, F0, Z0⟩ := pre3 w k K T M f q
 have hv4 : (f.v q).toArray[4]? = some (.int .i64 31) := by show some (Value.int .i64 f.pc) = _; rw [hpc]
 have hv8 : (f.v q).toArray[8]? = some (.int .u64 f.g) := rfl
 have gw : IntKind.u64.wrap (f.g + 1) = Arenac.w64 (f.g + 1) := by rw [IntKind.wrap_u64]; rfl
 obtain ⟨ps, hps⟩ : ∃ x, x = f.pos := ⟨_, rfl⟩
 have hv9 : (f.v q).toArray[9]? = some (.int .i64 ps) := by rw [hps]; rfl
 have pw : IntKind.i64.wrap (ps + 1) = ps + 1 := by rw [IntKind.wrap_i64]; omega
 have hz : (was != 0) = true := by simpa using h0
 have hz1 : (was != Arenac.w64 (f.g + 1)) = false := by simpa using h1
 have hzt : (ps + 1 == (T : Int)) = true := by rw [hps, ht]; exact beq_self_eq_true _
 have HPS := lh hps
 have HT : Hid (docTell k K T M f was dn = ({ f with pos := f.pos + 1, pc := 32 } : FS)) := lh (by rw [tell31 was dn hpc, if_neg (fun h => h.2 h1), if_pos ht])
 clear hpc
 clear h1
 clear ht
 clear hps
 go_enter Tryz.func61, Tryz.ntmps61
 go_upto_region 1 with fail
 generalize ((w2 w k K T M f q).alloc (.cells zF 107)) = V at B0 C0 F0 Z0 ⊢
 have hc0 := C0.out.cell
 refine wp_region_lit ?_
 refine wpList_load_mid rfl 107 (.tmp 5) rfl (w.heap.size + 1) 0 (by simp [Act.eval]) (f.v q) _ (rF F0.out) Tryz.underlying107 rfl f_size ?_
 go_upto_region 90 with (first
   | (go_at_call 67; (with_reducible refine (life_d f q x0 x1 m1 m2 B0 C0 F0 Z0).mono ?_); rintro e w1 ⟨rfl, B1, F1, Z1, C1⟩; have hf1c := F1.out.cell; have hf1f := F1.out.frozen; have hc1 := C1.out.cell; clear hc0))
 obtain ⟨f1, hf1⟩ : ∃ f1 : FS, f1 = { f with pos := ps + 1 } := ⟨_, rfl⟩
 have Hf1 := lh hf1
 have F2 : Hid (Blk (w1.setCell ⟨w.heap.size + 1, 9, none⟩ (.int .i64 (ps + 1))) (w.heap.size + 1) 107 (f1.v q).toArray) := lh (by
   have h_ := F1.out.set_ 9 (.int .i64 (ps + 1))
   rw [hf1]; exact h_)
 clear hf1
 have Z2 := lh (Z1.out.far (p := ⟨w.heap.size + 1, 9, none⟩) (show ¬ w.heap.size + 1 + 1 = w.heap.size + 1 by omega) (.int .i64 (ps + 1)))
 have B2 := lh (Below.setCell B1.out (p := ⟨w.heap.size + 1, 9, none⟩) (show w.heap.size <= w.heap.size + 1 by omega) (.int .i64 (ps + 1)))
 have C2 := lh (C1.out.far (p := ⟨w.heap.size + 1, 9, none⟩) (show ¬ w.heap.size = w.heap.size + 1 by omega) (.int .i64 (ps + 1)))
 clear hf1c hf1f hc1 F1 Z1 B1 C1
 generalize w1.setCell ⟨w.heap.size + 1, 9, none⟩ (.int .i64 (ps + 1)) = w2 at F2 Z2 B2 C2 ⊢
 have hf2c := F2.out.cell
 have hf2f := F2.out.frozen
 have hc2 := C2.out.cell
 have hv9b : (f1.v q).toArray[9]? = some (.int .i64 (ps + 1)) := by rw [Hf1.out]; rfl
 refine wp_region_still_tail 7 (by kernel_rfl) (by kernel_rfl) ?_
 simp only [List.take_succ_cons, List.take_zero, List.drop_succ_cons, List.drop_zero]
 refine wpStill_load_mid rfl 107 (.tmp 5) rfl (w.heap.size + 1) 0 (by simp [Act.eval]) (f1.v q) _ (rF F2.out.drew) Tryz.underlying107 rfl f_size ?_
 repeat (first
   | still_step
   | (refine wpStill_step (fun K hK => ?_); go_simp; refine ⟨_, still_of (either_p _ _ _ _), hK _ ?_⟩; clear hK K))
 refine wpStill_nil ?_
 change wpList _ _ _ _ _ w2.drew
 have F2 := lh F2.out.drew
 have Z2 := lh Z2.out.drew
 have B2 := lh (below_drawn B2.out 1)
 clear hf2c hf2f
 change Hid (Below _ _ w2.drew) at B2
 generalize w2.drew = w2 at F2 Z2 B2 ⊢
 go_wp2_with (first
   | (go_at_call 78; (with_reducible refine (to_c _ f1 q 32).mono ?_); rintro e w3 ⟨rfl, hb⟩; go_must (have B3 := lh (B2.out.trans (hb.mono B2.out.size)); have Z3 := lh (Z2.out.below hb Z2.out.lt)); clear hb)
   | (refine wpList_store_mid rfl 107 (.tmp 8) (.tmp 261) rfl (w.heap.size + 1 + 1) 0 (({ f1 with pc := 32 } : FS).v q).toArray (by simp [Act.eval]) (by simp [Act.eval]) (there24 Z3.out (by decide)) f_size (FS.one _ _) ?_))
 obtain ⟨R9, B9⟩ := fin9 (fe := ({ f1 with pc := 32 } : FS)) (q := q) Z3.out B3.out
 generalize w3.setCells (w.heap.size + 1 + 1) 0 (({ f1 with pc := 32 } : FS).v q) = V9 at R9 B9 ⊢
 refine bodyPost_ret (v := .agg (({ f1 with pc := 32 } : FS).v q).toArray) (results_cell1 (a := 8) Tryz.results61 rfl R9) rfl ?_
 exact ⟨by rw [HT.out, Hf1.out, HPS.out], B9⟩
set_option maxHeartbeats 4000000 in
theorem tell31sm_c (w : World) (k : Int) (K T M : Nat) (f : FS) (q : Sl) (was : Int) (dn : Bool) (hpc : f.pc = 31) (x0 : 0 <= f.s) (x1 : f.s <= 18446744073709551615) (m1 : 2 <= M) (m2 : M <= 64) (p0 : 0 <= f.pos) (p1 : f.pos <= 100) (h0 : ¬ was = 0) (h1 : was = Arenac.w64 (f.g + 1)) (ht : ¬ f.pos + 1 = T) :
   Calls Tryz.prog 61 #[.agg #[.int .i64 k, .int .i64 K, .int .i64 T, .int .i64 M], .agg (f.v q).toArray, .int .u64 was, .bool dn] w fun e w' => e = .returned (.agg ((docTell k K T M f was dn).v q).toArray) /\ Below w.heap.size w w' := by
 obtain ⟨B0, C0, F0, Z0⟩ := pre3 w k K T M f q
 have hv4 : (f.v q).toArray[4]? = some (.int .i64 31) := by show some (Value.int .i64 f.pc) = _; rw [hpc]
 have hv8 : (f.v q).toArray[8]? = some (.int .u64 f.g) := rfl
 have gw : IntKind.u64.wrap (f.g + 1) = Arenac.w64 (f.g + 1) := by rw [IntKind.wrap_u64]; rfl
 obtain ⟨ps, hps⟩ : ∃ x, x = f.pos := ⟨_, rfl⟩
 have hv9 : (f.v q).toArray[9]? = some (.int .i64 ps) := by rw [hps]; rfl
 have pw : IntKind.i64.wrap (ps + 1) = ps + 1 := by rw [IntKind.wrap_i64]; omega
 have hz : (was != 0) = true := by simpa using h0
 have hz1 : (was != Arenac.w64 (f.g + 1)) = false := by simpa using h1
 have hzt : (ps + 1 == (T : Int)) = false := beq_false_of_ne (by rw [hps]; exact ht)
 have HPS := lh hps
 have HT : Hid (docTell k K T M f was dn = ({ f with pos := f.pos + 1, pc := 31 } : FS)) := lh (by rw [tell31 was dn hpc, if_neg (fun h => h.2 h1), if_neg ht])
 clear hpc
 clear h1
 clear ht
 clear hps
 go_enter Tryz.func61, Tryz.ntmps61
 go_upto_region 1 with fail
 generalize ((w2 w k K T M f q).alloc (.cells zF 107)) = V at B0 C0 F0 Z0 ⊢
 have hc0 := C0.out.cell
 refine wp_region_lit ?_
 refine wpList_load_mid rfl 107 (.tmp 5) rfl (w.heap.size + 1) 0 (by simp [Act.eval]) (f.v q) _ (rF F0.out) Tryz.underlying107 rfl f_size ?_
 go_upto_region 90 with (first
   | (go_at_call 67; (with_reducible refine (life_d f q x0 x1 m1 m2 B0 C0 F0 Z0).mono ?_); rintro e w1 ⟨rfl, B1, F1, Z1, C1⟩; have hf1c := F1.out.cell; have hf1f := F1.out.frozen; have hc1 := C1.out.cell; clear hc0))
 obtain ⟨f1, hf1⟩ : ∃ f1 : FS, f1 = { f with pos := ps + 1 } := ⟨_, rfl⟩
 have Hf1 := lh hf1
 have F2 : Hid (Blk (w1.setCell ⟨w.heap.size + 1, 9, none⟩ (.int .i64 (ps + 1))) (w.heap.size + 1) 107 (f1.v q).toArray) := lh (by
   have h_ := F1.out.set_ 9 (.int .i64 (ps + 1))
   rw [hf1]; exact h_)
 clear hf1
 have Z2 := lh (Z1.out.far (p := ⟨w.heap.size + 1, 9, none⟩) (show ¬ w.heap.size + 1 + 1 = w.heap.size + 1 by omega) (.int .i64 (ps + 1)))
 have B2 := lh (Below.setCell B1.out (p := ⟨w.heap.size + 1, 9, none⟩) (show w.heap.size <= w.heap.size + 1 by omega) (.int .i64 (ps + 1)))
 have C2 := lh (C1.out.far (p := ⟨w.heap.size + 1, 9, none⟩) (show ¬ w.heap.size = w.heap.size + 1 by omega) (.int .i64 (ps + 1)))
 clear hf1c hf1f hc1 F1 Z1 B1 C1
 generalize w1.setCell ⟨w.heap.size + 1, 9, none⟩ (.int .i64 (ps + 1)) = w2 at F2 Z2 B2 C2 ⊢
 have hf2c := F2.out.cell
 have hf2f := F2.out.frozen
 have hc2 := C2.out.cell
 have hv9b : (f1.v q).toArray[9]? = some (.int .i64 (ps + 1)) := by rw [Hf1.out]; rfl
 refine wp_region_still_tail 7 (by kernel_rfl) (by kernel_rfl) ?_
 simp only [List.take_succ_cons, List.take_zero, List.drop_succ_cons, List.drop_zero]
 refine wpStill_load_mid rfl 107 (.tmp 5) rfl (w.heap.size + 1) 0 (by simp [Act.eval]) (f1.v q) _ (rF F2.out.drew) Tryz.underlying107 rfl f_size ?_
 repeat (first
   | still_step
   | (refine wpStill_step (fun K hK => ?_); go_simp; refine ⟨_, still_of (either_p _ _ _ _), hK _ ?_⟩; clear hK K))
 refine wpStill_nil ?_
 change wpList _ _ _ _ _ w2.drew
 have F2 := lh F2.out.drew
 have Z2 := lh Z2.out.drew
 have B2 := lh (below_drawn B2.out 1)
 clear hf2c hf2f
 change Hid (Below _ _ w2.drew) at B2
 generalize w2.drew = w2 at F2 Z2 B2 ⊢
 go_wp2_with (first
   | (go_at_call 78; (with_reducible refine (to_c _ f1 q 31).mono ?_); rintro e w3 ⟨rfl, hb⟩; go_must (have B3 := lh (B2.out.trans (hb.mono B2.out.size)); have Z3 := lh (Z2.out.below hb Z2.out.lt)); clear hb)
   | (refine wpList_store_mid rfl 107 (.tmp 8) (.tmp 261) rfl (w.heap.size + 1 + 1) 0 (({ f1 with pc := 31 } : FS).v q).toArray (by simp [Act.eval]) (by simp [Act.eval]) (there24 Z3.out (by decide)) f_size (FS.one _ _) ?_))
 obtain ⟨R9, B9⟩ := fin9 (fe := ({ f1 with pc := 31 } : FS)) (q := q) Z3.out B3.out
 generalize w3.setCells (w.heap.size + 1 + 1) 0 (({ f1 with pc := 31 } : FS).v q) = V9 at R9 B9 ⊢
 refine bodyPost_ret (v := .agg (({ f1 with pc := 31 } : FS).v q).toArray) (results_cell1 (a := 8) Tryz.results61 rfl R9) rfl ?_
 exact ⟨by rw [HT.out, Hf1.out, HPS.out], B9⟩

end Go.Proofs.YtffppdcpiieapaaGreat.Machc
