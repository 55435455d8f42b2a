/- A part of the proof. -/
import Derived.Test.YtffppdcpiieapaaGreatP27
namespace Go.Proofs.YtffppdcpiieapaaGreat.Machc
open Go.RowKit Memc Newc Refc Drivec Procc Wordc Arenac
set_option linter.unusedVariables false
set_option maxRecDepth 100000

theorem wpStill_skip {P : Program} {ops : Array Oper} {w : World} {Q : Act -> Prop} {op : Oper} {rest : List Oper} {a : Act} (hg : Region.wanted op (yielded ops a.tmps) = false) (h : wpStill P ops w Q rest (a.put op.dst undef)) : wpStill P ops w Q (op :: rest) a :=
 wpStill_step (fun K hK => by rw [hg]; exact hK _ h)
theorem wpStill_take {P : Program} {ops : Array Oper} {w : World} {Q : Act -> Prop} {op : Oper} {rest : List Oper} {a : Act} (hg : Region.wanted op (yielded ops a.tmps) = true) (h : ∀ K : Act -> Prop, (∀ a, wpStill P ops w Q rest a -> K a) -> op.still P a w K) : wpStill P ops w Q (op :: rest) a :=
 wpStill_step (fun K hK => by rw [hg]; exact h K hK)
set_option maxHeartbeats 4000000 in
theorem tell81z_c (w : World) (k : Int) (K T M : Nat) (f : FS) (q : Sl) (was : Int) (dn : Bool) (hpc : f.pc = 81) (x0 : 0 <= f.s) (x1 : f.s <= 18446744073709551615) (m1 : 2 <= M) (m2 : M <= 64) (u0 : 0 <= was) (u1 : was <= 18446744073709551615) (g0 : 0 <= f.g) (g1 : f.g <= 18446744073709551615) (hl : lo was = 0) :
   Calls Tryz.prog 61 #[.agg #[.int .i64 k, .int .i64 K, .int .i64 T, .int .i64 M], .agg (f.v q).toArray, .int .u64 was, .bool dn] w fun e w' => e = .returned (.agg ((docTell k K T M f was dn).v q).toArray) /\ Below w.heap.size w w' := by
 obtain ⟨B0, C0, F0, Z0⟩ := pre3 w k K T M f q
 have hv4 : (f.v q).toArray[4]? = some (.int .i64 81) := by show some (Value.int .i64 f.pc) = _; rw [hpc]
 have hz : (lo was != 0) = false := by simpa using hl
 have HT : Hid (docTell k K T M f was dn = ({ f with w := was, pc := 83 } : FS)) := lh (by rw [tell81 was dn hpc, if_neg (fun h => h.1 hl)])
 clear hpc
 go_enter Tryz.func61, Tryz.ntmps61
 go_upto_region 1 with fail
 generalize ((w2 w k K T M f q).alloc (.cells zF 107)) = V at B0 C0 F0 Z0 ⊢
 have hc0 := C0.out.cell
 refine wp_region_lit ?_
 refine wpList_load_mid rfl 107 (.tmp 5) rfl (w.heap.size + 1) 0 (by simp [Act.eval]) (f.v q) _ (rF F0.out) Tryz.underlying107 rfl f_size ?_
 go_upto_region 202 with (first
   | (go_at_call 67; (with_reducible refine (life_d f q x0 x1 m1 m2 B0 C0 F0 Z0).mono ?_); rintro e w1 ⟨rfl, B1, F1, Z1, C1⟩; have hf1c := F1.out.cell; have hf1f := F1.out.frozen; have hc1 := C1.out.cell; clear hc0))
 refine wp_region_lit ?_
 refine wpList_load_mid rfl 107 (.tmp 5) rfl (w.heap.size + 1) 0 (by simp [Act.eval]) (f.v q) _ (rF F1.out) Tryz.underlying107 rfl f_size ?_
 go_upto_region 203 with (first
   | (go_at_call 82; (with_reducible refine (kept_c _ f q was).mono ?_); rintro e w2 ⟨rfl, hb⟩; go_must (have B2 := lh (B1.out.trans (hb.mono B1.out.size)); have Z2 := lh (Z1.out.below hb Z1.out.lt); have F2 := lh (F1.out.below hb F1.out.lt); have C2 := lh (C1.out.below hb C1.out.lt)); clear hb)
   | (refine wpList_store_mid rfl 107 (.tmp 5) (.tmp 566) rfl (w.heap.size + 1) 0 (({ f with w := was } : FS).v q).toArray (by simp [Act.eval]) (by simp [Act.eval]) (there24 F2.out (Nat.le_refl 24)) f_size (FS.one _ _) ?_))
 obtain ⟨f1, hf1⟩ : ∃ f1 : FS, f1 = ({ f with w := was } : FS) := ⟨_, rfl⟩
 have Hf1 := lh hf1
 rw [<- hf1]
 have F3 := lh (Blk.f24 F2.out rfl f1 q)
 have O3 := lh (Only.sets (P := fun g => g = (w.heap.size + 1)) (g := (w.heap.size + 1)) (.inl rfl) (f1.v q) w2 0 (Only.refl _ _))
 have Z3 := lh (Z2.out.only O3.out (show ¬ (w.heap.size + 1 + 1) = (w.heap.size + 1) by omega))
 have C3 := lh (C2.out.only O3.out (show ¬ w.heap.size = (w.heap.size + 1) by omega))
 have B3 := lh (B2.out.trans (O3.out.below B2.out.size (fun g hg => by omega)))
 clear hf1 O3 hf1c hf1f hc1 F1 F2 Z1 Z2 B1 B2 C1 C2
 generalize w2.setCells (w.heap.size + 1) 0 (f1.v q) = w3 at F3 Z3 B3 C3 ⊢
 simp only [Act.put]
 have hf3c := F3.out.cell
 have hf3f := F3.out.frozen
 have hc3 := C3.out.cell
 have hv8 : (f1.v q).toArray[8]? = some (.int .u64 f.g) := by rw [Hf1.out]; rfl
 clear hl
 refine wp_region_still_tail 13 (by kernel_rfl) (by kernel_rfl) ?_
 simp only [List.take_succ_cons, List.take_zero, List.drop_succ_cons, List.drop_zero]
 refine wpStill_load_mid rfl 107 (.tmp 5) rfl (w.heap.size + 1) 0 (by simp [Act.eval]) (f1.v q) _ (rF F3.out.drew) Tryz.underlying107 rfl f_size ?_
 still_step
 (refine wpStill_step (fun K hK => ?_); go_simp; refine ⟨_, still_of (low3_p was _ u0 u1), hK _ ?_⟩; clear hK K)
 still_step
 still_step
 (with_reducible refine wpStill_skip (by kernel_rfl) ?_); simp only [Act.put, List.setIfInBounds_toArray, List.set_cons_zero, List.set_cons_succ]
 (with_reducible refine wpStill_skip (by kernel_rfl) ?_); simp only [Act.put, List.setIfInBounds_toArray, List.set_cons_zero, List.set_cons_succ]
 (with_reducible refine wpStill_skip (by kernel_rfl) ?_); simp only [Act.put, List.setIfInBounds_toArray, List.set_cons_zero, List.set_cons_succ]
 (with_reducible refine wpStill_skip (by kernel_rfl) ?_); simp only [Act.put, List.setIfInBounds_toArray, List.set_cons_zero, List.set_cons_succ]
 (with_reducible refine wpStill_skip (by kernel_rfl) ?_); simp only [Act.put, List.setIfInBounds_toArray, List.set_cons_zero, List.set_cons_succ]
 (with_reducible refine wpStill_skip (by kernel_rfl) ?_); simp only [Act.put, List.setIfInBounds_toArray, List.set_cons_zero, List.set_cons_succ]
 still_step
 (refine wpStill_step (fun K hK => ?_); go_simp; refine ⟨_, still_of (either_p _ _ _ _), hK _ ?_⟩; clear hK K)
 refine wpStill_nil ?_
 change wpList _ _ _ _ _ w3.drew
 have F3 := lh F3.out.drew
 have Z3 := lh Z3.out.drew
 have B3 := lh (below_drawn B3.out 1)
 clear hf3c hf3f
 change Hid (Below _ _ w3.drew) at B3
 generalize w3.drew = w3 at F3 Z3 B3 ⊢
 go_wp2_with (first
   | (go_at_call 78; (with_reducible refine (to_c _ f1 q 83).mono ?_); rintro e w4 ⟨rfl, hb⟩; go_must (have B4 := lh (B3.out.trans (hb.mono B3.out.size)); have Z4 := lh (Z3.out.below hb Z3.out.lt)); clear hb)
   | (refine wpList_store_mid rfl 107 (.tmp 8) (.tmp 580) rfl (w.heap.size + 1 + 1) 0 (({ f1 with pc := 83 } : FS).v q).toArray (by simp [Act.eval]) (by simp [Act.eval]) (there24 Z4.out (by decide)) f_size (FS.one _ _) ?_))
 obtain ⟨R9, B9⟩ := fin9 (fe := ({ f1 with pc := 83 } : FS)) (q := q) Z4.out B4.out
 generalize w4.setCells (w.heap.size + 1 + 1) 0 (({ f1 with pc := 83 } : FS).v q) = V9 at R9 B9 ⊢
 refine bodyPost_ret (v := .agg (({ f1 with pc := 83 } : FS).v q).toArray) (results_cell1 (a := 8) Tryz.results61 rfl R9) rfl ?_
 exact ⟨by rw [HT.out, Hf1.out], B9⟩
set_option maxHeartbeats 4000000 in
theorem tell81n_c (w : World) (k : Int) (K T M : Nat) (f : FS) (q : Sl) (was : Int) (dn : Bool) (hpc : f.pc = 81) (x0 : 0 <= f.s) (x1 : f.s <= 18446744073709551615) (m1 : 2 <= M) (m2 : M <= 64) (u0 : 0 <= was) (u1 : was <= 18446744073709551615) (g0 : 0 <= f.g) (g1 : f.g <= 18446744073709551615) (hl : ¬ lo was = 0) (hh : ¬ hi was = lo f.g) :
   Calls Tryz.prog 61 #[.agg #[.int .i64 k, .int .i64 K, .int .i64 T, .int .i64 M], .agg (f.v q).toArray, .int .u64 was, .bool dn] w fun e w' => e = .returned (.agg ((docTell k K T M f was dn).v q).toArray) /\ Below w.heap.size w w' := by
 obtain ⟨B0, C0, F0, Z0⟩ := pre3 w k K T M f q
 have hv4 : (f.v q).toArray[4]? = some (.int .i64 81) := by show some (Value.int .i64 f.pc) = _; rw [hpc]
 have hz : (lo was != 0) = true := by simpa using hl
 have hz2 : (hi was != lo f.g) = true := by simpa using hh
 have HT : Hid (docTell k K T M f was dn = ({ f with w := was, pc := 82 } : FS)) := lh (by rw [tell81 was dn hpc, if_pos ⟨hl, hh⟩])
 clear hpc
 go_enter Tryz.func61, Tryz.ntmps61
 go_upto_region 1 with fail
 generalize ((w2 w k K T M f q).alloc (.cells zF 107)) = V at B0 C0 F0 Z0 ⊢
 have hc0 := C0.out.cell
 refine wp_region_lit ?_
 refine wpList_load_mid rfl 107 (.tmp 5) rfl (w.heap.size + 1) 0 (by simp [Act.eval]) (f.v q) _ (rF F0.out) Tryz.underlying107 rfl f_size ?_
 go_upto_region 202 with (first
   | (go_at_call 67; (with_reducible refine (life_d f q x0 x1 m1 m2 B0 C0 F0 Z0).mono ?_); rintro e w1 ⟨rfl, B1, F1, Z1, C1⟩; have hf1c := F1.out.cell; have hf1f := F1.out.frozen; have hc1 := C1.out.cell; clear hc0))
 refine wp_region_lit ?_
 refine wpList_load_mid rfl 107 (.tmp 5) rfl (w.heap.size + 1) 0 (by simp [Act.eval]) (f.v q) _ (rF F1.out) Tryz.underlying107 rfl f_size ?_
 go_upto_region 203 with (first
   | (go_at_call 82; (with_reducible refine (kept_c _ f q was).mono ?_); rintro e w2 ⟨rfl, hb⟩; go_must (have B2 := lh (B1.out.trans (hb.mono B1.out.size)); have Z2 := lh (Z1.out.below hb Z1.out.lt); have F2 := lh (F1.out.below hb F1.out.lt); have C2 := lh (C1.out.below hb C1.out.lt)); clear hb)
   | (refine wpList_store_mid rfl 107 (.tmp 5) (.tmp 566) rfl (w.heap.size + 1) 0 (({ f with w := was } : FS).v q).toArray (by simp [Act.eval]) (by simp [Act.eval]) (there24 F2.out (Nat.le_refl 24)) f_size (FS.one _ _) ?_))
 obtain ⟨f1, hf1⟩ : ∃ f1 : FS, f1 = ({ f with w := was } : FS) := ⟨_, rfl⟩
 have Hf1 := lh hf1
 rw [<- hf1]
 have F3 := lh (Blk.f24 F2.out rfl f1 q)
 have O3 := lh (Only.sets (P := fun g => g = (w.heap.size + 1)) (g := (w.heap.size + 1)) (.inl rfl) (f1.v q) w2 0 (Only.refl _ _))
 have Z3 := lh (Z2.out.only O3.out (show ¬ (w.heap.size + 1 + 1) = (w.heap.size + 1) by omega))
 have C3 := lh (C2.out.only O3.out (show ¬ w.heap.size = (w.heap.size + 1) by omega))
 have B3 := lh (B2.out.trans (O3.out.below B2.out.size (fun g hg => by omega)))
 clear hf1 O3 hf1c hf1f hc1 F1 F2 Z1 Z2 B1 B2 C1 C2
 generalize w2.setCells (w.heap.size + 1) 0 (f1.v q) = w3 at F3 Z3 B3 C3 ⊢
 simp only [Act.put]
 have hf3c := F3.out.cell
 have hf3f := F3.out.frozen
 have hc3 := C3.out.cell
 have hv8 : (f1.v q).toArray[8]? = some (.int .u64 f.g) := by rw [Hf1.out]; rfl
 clear hl
 clear hh
 refine wp_region_still_tail 13 (by kernel_rfl) (by kernel_rfl) ?_
 simp only [List.take_succ_cons, List.take_zero, List.drop_succ_cons, List.drop_zero]
 refine wpStill_load_mid rfl 107 (.tmp 5) rfl (w.heap.size + 1) 0 (by simp [Act.eval]) (f1.v q) _ (rF F3.out.drew) Tryz.underlying107 rfl f_size ?_
 still_step
 (refine wpStill_step (fun K hK => ?_); go_simp; refine ⟨_, still_of (low3_p was _ u0 u1), hK _ ?_⟩; clear hK K)
 still_step
 still_step
 (with_reducible refine wpStill_take (by kernel_rfl) (fun K hK => ?_)); go_simp; refine hK _ ?_; clear hK K
 (with_reducible refine wpStill_take (by kernel_rfl) (fun K hK => ?_)); go_simp; refine ⟨_, still_of (high3_p was _ u0 u1), hK _ ?_⟩; clear hK K
 (with_reducible refine wpStill_take (by kernel_rfl) (fun K hK => ?_)); go_simp; refine hK _ ?_; clear hK K
 (with_reducible refine wpStill_take (by kernel_rfl) (fun K hK => ?_)); go_simp; refine hK _ ?_; clear hK K
 (with_reducible refine wpStill_take (by kernel_rfl) (fun K hK => ?_)); go_simp; refine ⟨_, still_of (low3_p f.g _ g0 g1), hK _ ?_⟩; clear hK K
 (with_reducible refine wpStill_take (by kernel_rfl) (fun K hK => ?_)); go_simp; refine hK _ ?_; clear hK K
 still_step
 (refine wpStill_step (fun K hK => ?_); go_simp; refine ⟨_, still_of (either_p _ _ _ _), hK _ ?_⟩; clear hK K)
 refine wpStill_nil ?_
 change wpList _ _ _ _ _ w3.drew
 have F3 := lh F3.out.drew
 have Z3 := lh Z3.out.drew
 have B3 := lh (below_drawn B3.out 1)
 clear hf3c hf3f
 change Hid (Below _ _ w3.drew) at B3
 generalize w3.drew = w3 at F3 Z3 B3 ⊢
 go_wp2_with (first
   | (go_at_call 78; (with_reducible refine (to_c _ f1 q 82).mono ?_); rintro e w4 ⟨rfl, hb⟩; go_must (have B4 := lh (B3.out.trans (hb.mono B3.out.size)); have Z4 := lh (Z3.out.below hb Z3.out.lt)); clear hb)
   | (refine wpList_store_mid rfl 107 (.tmp 8) (.tmp 580) rfl (w.heap.size + 1 + 1) 0 (({ f1 with pc := 82 } : FS).v q).toArray (by simp [Act.eval]) (by simp [Act.eval]) (there24 Z4.out (by decide)) f_size (FS.one _ _) ?_))
 obtain ⟨R9, B9⟩ := fin9 (fe := ({ f1 with pc := 82 } : FS)) (q := q) Z4.out B4.out
 generalize w4.setCells (w.heap.size + 1 + 1) 0 (({ f1 with pc := 82 } : FS).v q) = V9 at R9 B9 ⊢
 refine bodyPost_ret (v := .agg (({ f1 with pc := 82 } : FS).v q).toArray) (results_cell1 (a := 8) Tryz.results61 rfl R9) rfl ?_
 exact ⟨by rw [HT.out, Hf1.out], B9⟩
set_option maxHeartbeats 4000000 in
theorem tell81s_c (w : World) (k : Int) (K T M : Nat) (f : FS) (q : Sl) (was : Int) (dn : Bool) (hpc : f.pc = 81) (x0 : 0 <= f.s) (x1 : f.s <= 18446744073709551615) (m1 : 2 <= M) (m2 : M <= 64) (u0 : 0 <= was) (u1 : was <= 18446744073709551615) (g0 : 0 <= f.g) (g1 : f.g <= 18446744073709551615) (hl : ¬ lo was = 0) (hh : hi was = lo f.g) :
   Calls Tryz.prog 61 #[.agg #[.int .i64 k, .int .i64 K, .int .i64 T, .int .i64 M], .agg (f.v q).toArray, .int .u64 was, .bool dn] w fun e w' => e = .returned (.agg ((docTell k K T M f was dn).v q).toArray) /\ Below w.heap.size w w' := by
 obtain ⟨B0, C0, F0, Z0⟩ := pre3 w k K T M f q
 have hv4 : (f.v q).toArray[4]? = some (.int .i64 81) := by show some (Value.int .i64 f.pc) = _; rw [hpc]
 have hz : (lo was != 0) = true := by simpa using hl
 have hz2 : (hi was != lo f.g) = false := by simpa using hh
 have HT : Hid (docTell k K T M f was dn = ({ f with w := was, pc := 83 } : FS)) := lh (by rw [tell81 was dn hpc, if_neg (fun h => h.2 hh)])
 clear hpc
 go_enter Tryz.func61, Tryz.ntmps61
 go_upto_region 1 with fail
 generalize ((w2 w k K T M f q).alloc (.cells zF 107)) = V at B0 C0 F0 Z0 ⊢
 have hc0 := C0.out.cell
 refine wp_region_lit ?_
 refine wpList_load_mid rfl 107 (.tmp 5) rfl (w.heap.size + 1) 0 (by simp [Act.eval]) (f.v q) _ (rF F0.out) Tryz.underlying107 rfl f_size ?_
 go_upto_region 202 with (first
   | (go_at_call 67; (with_reducible refine (life_d f q x0 x1 m1 m2 B0 C0 F0 Z0).mono ?_); rintro e w1 ⟨rfl, B1, F1, Z1, C1⟩; have hf1c := F1.out.cell; have hf1f := F1.out.frozen; have hc1 := C1.out.cell; clear hc0))
 refine wp_region_lit ?_
 refine wpList_load_mid rfl 107 (.tmp 5) rfl (w.heap.size + 1) 0 (by simp [Act.eval]) (f.v q) _ (rF F1.out) Tryz.underlying107 rfl f_size ?_
 go_upto_region 203 with (first
   | (go_at_call 82; (with_reducible refine (kept_c _ f q was).mono ?_); rintro e w2 ⟨rfl, hb⟩; go_must (have B2 := lh (B1.out.trans (hb.mono B1.out.size)); have Z2 := lh (Z1.out.below hb Z1.out.lt); have F2 := lh (F1.out.below hb F1.out.lt); have C2 := lh (C1.out.below hb C1.out.lt)); clear hb)
   | (refine wpList_store_mid rfl 107 (.tmp 5) (.tmp 566) rfl (w.heap.size + 1) 0 (({ f with w := was } : FS).v q).toArray (by simp [Act.eval]) (by simp [Act.eval]) (there24 F2.out (Nat.le_refl 24)) f_size (FS.one _ _) ?_))
 obtain ⟨f1, hf1⟩ : ∃ f1 : FS, f1 = ({ f with w := was } : FS) := ⟨_, rfl⟩
 have Hf1 := lh hf1
 rw [<- hf1]
 have F3 := lh (Blk.f24 F2.out rfl f1 q)
 have O3 := lh (Only.sets (P := fun g => g = (w.heap.size + 1)) (g := (w.heap.size + 1)) (.inl rfl) (f1.v q) w2 0 (Only.refl _ _))
 have Z3 := lh (Z2.out.only O3.out (show ¬ (w.heap.size + 1 + 1) = (w.heap.size + 1) by omega))
 have C3 := lh (C2.out.only O3.out (show ¬ w.heap.size = (w.heap.size + 1) by omega))
 have B3 := lh (B2.out.trans (O3.out.below B2.out.size (fun g hg => by omega)))
 clear hf1 O3 hf1c hf1f hc1 F1 F2 Z1 Z2 B1 B2 C1 C2
 generalize w2.setCells (w.heap.size + 1) 0 (f1.v q) = w3 at F3 Z3 B3 C3 ⊢
 simp only [Act.put]
 have hf3c := F3.out.cell
 have hf3f := F3.out.frozen
 have hc3 := C3.out.cell
 have hv8 : (f1.v q).toArray[8]? = some (.int .u64 f.g) := by rw [Hf1.out]; rfl
 clear hl hh
 refine wp_region_still_tail 13 (by kernel_rfl) (by kernel_rfl) ?_
 simp only [List.take_succ_cons, List.take_zero, List.drop_succ_cons, List.drop_zero]
 refine wpStill_load_mid rfl 107 (.tmp 5) rfl (w.heap.size + 1) 0 (by simp [Act.eval]) (f1.v q) _ (rF F3.out.drew) Tryz.underlying107 rfl f_size ?_
 still_step
 (refine wpStill_step (fun K hK => ?_); go_simp; refine ⟨_, still_of (low3_p was _ u0 u1), hK _ ?_⟩; clear hK K)
 still_step
 still_step
 (with_reducible refine wpStill_take (by kernel_rfl) (fun K hK => ?_)); go_simp; refine hK _ ?_; clear hK K
 (with_reducible refine wpStill_take (by kernel_rfl) (fun K hK => ?_)); go_simp; refine ⟨_, still_of (high3_p was _ u0 u1), hK _ ?_⟩; clear hK K
 (with_reducible refine wpStill_take (by kernel_rfl) (fun K hK => ?_)); go_simp; refine hK _ ?_; clear hK K
 (with_reducible refine wpStill_take (by kernel_rfl) (fun K hK => ?_)); go_simp; refine hK _ ?_; clear hK K
 (with_reducible refine wpStill_take (by kernel_rfl) (fun K hK => ?_)); go_simp; refine ⟨_, still_of (low3_p f.g _ g0 g1), hK _ ?_⟩; clear hK K
 (with_reducible refine wpStill_take (by kernel_rfl) (fun K hK => ?_)); go_simp; refine hK _ ?_; clear hK K
 still_step
 (refine wpStill_step (fun K hK => ?_); go_simp; refine ⟨_, still_of (either_p _ _ _ _), hK _ ?_⟩; clear hK K)
 refine wpStill_nil ?_
 change wpList _ _ _ _ _ w3.drew
 have F3 := lh F3.out.drew
 have Z3 := lh Z3.out.drew
 have B3 := lh (below_drawn B3.out 1)
 clear hf3c hf3f
 change Hid (Below _ _ w3.drew) at B3
 generalize w3.drew = w3 at F3 Z3 B3 ⊢
 go_wp2_with (first
   | (go_at_call 78; (with_reducible refine (to_c _ f1 q 83).mono ?_); rintro e w4 ⟨rfl, hb⟩; go_must (have B4 := lh (B3.out.trans (hb.mono B3.out.size)); have Z4 := lh (Z3.out.below hb Z3.out.lt)); clear hb)
   | (refine wpList_store_mid rfl 107 (.tmp 8) (.tmp 580) rfl (w.heap.size + 1 + 1) 0 (({ f1 with pc := 83 } : FS).v q).toArray (by simp [Act.eval]) (by simp [Act.eval]) (there24 Z4.out (by decide)) f_size (FS.one _ _) ?_))
 obtain ⟨R9, B9⟩ := fin9 (fe := ({ f1 with pc := 83 } : FS)) (q := q) Z4.out B4.out
 generalize w4.setCells (w.heap.size + 1 + 1) 0 (({ f1 with pc := 83 } : FS).v q) = V9 at R9 B9 ⊢
 refine bodyPost_ret (v := .agg (({ f1 with pc := 83 } : FS).v q).toArray) (results_cell1 (a := 8) Tryz.results61 rfl R9) rfl ?_
 exact ⟨by rw [HT.out, Hf1.out], B9⟩

end Go.Proofs.YtffppdcpiieapaaGreat.Machc

namespace Go.Proofs.YtffppdcpiieapaaGreat.Machc
open Go.RowKit Memc Newc Refc Drivec Procc Wordc Arenac
set_option linter.unusedVariables false
set_option maxRecDepth 100000

set_option maxHeartbeats 4000000 in
theorem tell86_c (w : World) (k : Int) (K T M : Nat) (f : FS) (q : Sl) (was : Int) (dn : Bool) (hpc : f.pc = 86) (x0 : 0 <= f.s) (x1 : f.s <= 18446744073709551615) (m1 : 2 <= M) (m2 : M <= 64) (u0 : 0 <= was) (u1 : was <= 18446744073709551615) (c0 : 0 <= f.chain) (c1 : f.chain <= 4294967295) :
   Calls Tryz.prog 61 #[.agg #[.int .i64 k, .int .i64 K, .int .i64 T, .int .i64 M], .agg (f.v q).toArray, .int .u64 was, .bool dn] w fun e w' => e = .returned (.agg ((docTell k K T M f was dn).v q).toArray) /\ Below w.heap.size w w' := by
 obtain ⟨B0, C0, F0, Z0⟩ := pre3 w k K T M f q
 have hv4 : (f.v q).toArray[4]? = some (.int .i64 86) := by show some (Value.int .i64 f.pc) = _; rw [hpc]
 have hv15 : (f.v q).toArray[15]? = some (.int .u32 f.chain) := rfl
 have HT : Hid (docTell k K T M f was dn = ({ f with chain := lo was, give := pk (hi was) f.chain, back := 87, pc := 95 } : FS)) := lh (by rw [tell86 was dn hpc]; rfl)
 clear hpc
 go_enter Tryz.func61, Tryz.ntmps61
 go_upto_region 1 with fail
 generalize ((w2 w k K T M f q).alloc (.cells zF 107)) = V at B0 C0 F0 Z0 ⊢
 have hc0 := C0.out.cell
 refine wp_region_lit ?_
 refine wpList_load_mid rfl 107 (.tmp 5) rfl (w.heap.size + 1) 0 (by simp [Act.eval]) (f.v q) _ (rF F0.out) Tryz.underlying107 rfl f_size ?_
 go_upto_region 215 with (first
   | (go_at_call 67; (with_reducible refine (life_d f q x0 x1 m1 m2 B0 C0 F0 Z0).mono ?_); rintro e w1 ⟨rfl, B1, F1, Z1, C1⟩; have hf1c := F1.out.cell; have hf1f := F1.out.frozen; have hc1 := C1.out.cell; clear hc0))
 refine Zreg.begin_ (S := (fun w' => (∀ j, w'.cell? ⟨w.heap.size + 1, j, none⟩ = ((f.v q).toArray : Array Value)[j]?))) (zs := [8]) (by kernel_rfl) ?_
 show Zreg.After _ _ _ _ _ _ 11 #[false, false, false, false, false, false, false, false, false, false, false] _ _
 refine Zreg.tP 0 613 (x := ?xp_0) rfl rfl (by kernel_rfl) (fun _ _ _ h => h) (.inr F1.out.drew.cell) (Or.inl ⟨by rfl, ?yp_0⟩) ?rp_0
 case yp_0 => (intro w _; go_simp <;> with_reducible rfl)
 simp only [sA, sZ, sC]
 refine Zreg.tP 2 615 (x := ?xp_2) rfl rfl (by kernel_rfl) (fun _ _ _ h => h) (.inr F1.out.drew.cell) (Or.inl ⟨by rfl, ?yp_2⟩) ?rp_2
 case yp_2 => (intro w _; go_simp <;> with_reducible rfl)
 simp only [sA, sZ, sC]
 refine Zreg.tP 4 617 (x := ?xp_4) rfl rfl (by kernel_rfl) (fun _ _ _ h => h) (.inr F1.out.drew.cell) (Or.inl ⟨by rfl, ?yp_4⟩) ?rp_4
 case yp_4 => (intro w _; go_simp <;> with_reducible rfl)
 simp only [sA, sZ, sC]
 refine Zreg.tD 5 618 (x := ?xp_5) rfl rfl (by kernel_rfl) (fun _ _ _ h => h) (.inr F1.out.drew.cell) (Or.inl ⟨by rfl, ?yp_5⟩) ?rp_5
 case yp_5 => (intro w hSw; (try dsimp only at hSw); go_simp <;> with_reducible rfl)
 simp only [sA, sZ, sC]
 refine Zreg.one 1 (by kernel_rfl) rfl rfl fun K_ hK => ?_
 go_simp
 go_at_call 75
 (with_reducible refine (low3_p was _ u0 u1).mono ?_)
 rintro e w' ⟨rfl, rfl⟩
 refine hK.out _ _ (.inr F1.out.drew.cell) fun _ => ?_
 clear hK
 simp only [sA, sZ, sC]
 refine Zreg.tP 7 620 (x := ?xp_7) rfl rfl (by kernel_rfl) (fun _ _ _ h => h) (.inr F1.out.drew.cell) (Or.inl ⟨by rfl, ?yp_7⟩) ?rp_7
 case yp_7 => (intro w _; go_simp <;> with_reducible rfl)
 simp only [sA, sZ, sC]
 refine Zreg.one 3 (by kernel_rfl) rfl rfl fun K_ hK => ?_
 go_simp
 go_at_call 74
 (with_reducible refine (high3_p was _ u0 u1).mono ?_)
 rintro e w' ⟨rfl, rfl⟩
 refine hK.out _ _ (.inr F1.out.drew.cell) fun _ => ?_
 clear hK
 simp only [sA, sZ, sC]
 refine Zreg.one 6 (by kernel_rfl) rfl rfl fun K_ hK => ?_
 go_simp
 go_at_call 69
 (with_reducible refine (pack3_c (hi was) f.chain _ (by unfold hi; omega) (by unfold hi; omega) c0 c1).mono ?_)
 rintro e w' ⟨rfl, rfl⟩
 refine hK.out _ _ (.inr F1.out.drew.cell) fun _ => ?_
 clear hK
 simp only [sA, sZ, sC]
 refine Zreg.one 8 (by kernel_rfl) rfl rfl fun K_ hK => ?_
 go_simp
 refine hK.out _ _ (.inl (by kernel_rfl)) fun _ => ?_
 clear hK
 simp only [sA, sZ, sC]
 refine Zreg.tP 9 621 (x := ?xp_9) rfl rfl (by kernel_rfl) (fun _ _ _ h => h) (.inl (by kernel_rfl)) (Or.inl ⟨by rfl, ?yp_9⟩) ?rp_9
 case yp_9 => (intro w _; go_simp <;> with_reducible rfl)
 simp only [sA, sZ, sC]
 refine Zreg.one 10 (by kernel_rfl) rfl rfl fun K_ hK => ?_
 go_simp
 refine hK.out _ _ (.inl (by kernel_rfl)) fun _ => ?_
 clear hK
 simp only [sA, sZ, sC]
 refine Zreg.done (by kernel_rfl) ?_ _
 obtain ⟨f1, hf1⟩ : ∃ f1 : FS, f1 = { f with chain := lo was, give := pk (hi was) f.chain } := ⟨_, rfl⟩
 have Hf1 := lh hf1
 have F2 : Hid (Blk ((w1.setCell ⟨w.heap.size + 1, 15, none⟩ (.int .u32 (lo was))).setCell ⟨w.heap.size + 1, 13, none⟩ (.int .u64 (pk (hi was) f.chain))).drew (w.heap.size + 1) 107 (f1.v q).toArray) := lh (by
   have h_ := ((F1.out.set_ 15 (.int .u32 (lo was))).set_ 13 (.int .u64 (pk (hi was) f.chain))).drew
   rw [hf1]; exact h_)
 clear hf1
 have Z2 := lh ((Z1.out.far (p := ⟨w.heap.size + 1, 15, none⟩) (show ¬ w.heap.size + 1 + 1 = w.heap.size + 1 by omega) (.int .u32 (lo was))).far (p := ⟨w.heap.size + 1, 13, none⟩) (show ¬ w.heap.size + 1 + 1 = w.heap.size + 1 by omega) (.int .u64 (pk (hi was) f.chain))).drew
 have B2 : Hid (Below w.heap.size w ((w1.setCell ⟨w.heap.size + 1, 15, none⟩ (.int .u32 (lo was))).setCell ⟨w.heap.size + 1, 13, none⟩ (.int .u64 (pk (hi was) f.chain))).drew) := lh (below_drawn (Below.setCell (Below.setCell B1.out (p := ⟨w.heap.size + 1, 15, none⟩) (show w.heap.size <= w.heap.size + 1 by omega) (.int .u32 (lo was))) (p := ⟨w.heap.size + 1, 13, none⟩) (show w.heap.size <= w.heap.size + 1 by omega) (.int .u64 (pk (hi was) f.chain))) 1)
 generalize ((w1.setCell ⟨w.heap.size + 1, 15, none⟩ (.int .u32 (lo was))).setCell ⟨w.heap.size + 1, 13, none⟩ (.int .u64 (pk (hi was) f.chain))).drew = w2 at F2 Z2 B2 ⊢
 have hf2c := F2.out.cell
 have hv13b : (f1.v q).toArray[13]? = some (.int .u64 (pk (hi was) f.chain)) := by rw [Hf1.out]; rfl
 go_upto_region 216 with fail
 refine wp_region_lit ?_
 refine wpList_load_mid rfl 107 (.tmp 5) rfl (w.heap.size + 1) 0 (by simp [Act.eval, Act.put]) (f1.v q) _ (rF F2.out) Tryz.underlying107 rfl f_size ?_
 go_wp2_with (first
   | (go_at_call 62; (with_reducible refine (gives_c _ f1 q (pk (hi was) f.chain) 87).mono ?_); rintro e w3 ⟨rfl, hb⟩; go_must (have B3 := lh (B2.out.trans (hb.mono B2.out.size)); have Z3 := lh (Z2.out.below hb Z2.out.lt)); clear hb)
   | (refine wpList_store_mid rfl 107 (.tmp 8) (.tmp 625) rfl (w.heap.size + 1 + 1) 0 (({ f1 with give := pk (hi was) f.chain, back := 87, pc := 95 } : FS).v q).toArray (by simp [Act.eval]) (by simp [Act.eval]) (there24 Z3.out (by decide)) f_size (FS.one _ _) ?_))
 obtain ⟨R9, B9⟩ := fin9 (fe := ({ f1 with give := pk (hi was) f.chain, back := 87, pc := 95 } : FS)) (q := q) Z3.out B3.out
 generalize w3.setCells (w.heap.size + 1 + 1) 0 (({ f1 with give := pk (hi was) f.chain, back := 87, pc := 95 } : FS).v q) = V9 at R9 B9 ⊢
 refine bodyPost_ret (v := .agg (({ f1 with give := pk (hi was) f.chain, back := 87, pc := 95 } : FS).v q).toArray) (results_cell1 (a := 8) Tryz.results61 rfl R9) rfl ?_
 exact ⟨by rw [HT.out, Hf1.out], B9⟩

end Go.Proofs.YtffppdcpiieapaaGreat.Machc
