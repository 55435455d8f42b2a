/- A part of the proof. -/
import Derived.Test.YtffppdcpiieapaaGreatP27
namespace Go.Proofs.YtffppdcpiieapaaGreat.Machc
open Go.RowKit Memc Newc Refc Drivec Procc Wordc Arenac
set_option linter.unusedVariables false
set_option maxRecDepth 100000

set_option maxHeartbeats 2000000 in
theorem chained0_c (w : World) (f : FS) (q : Sl) (ch bh : Int) (hc : ch = 0) :
   Calls Tryz.prog 87 #[.agg (f.v q).toArray, .int .u32 ch, .int .i64 bh] w fun e w' => e = .returned (.agg (({ f with chain := ch, behind := bh, pc := bh } : FS).v q).toArray) /\ Below w.heap.size w w' := by
 have B0 : Hid (Below w.heap.size w ((w.alloc (.cells (f.v q).toArray 107)).alloc (.cells zF 107))) := lh (((Below.refl _ _).alloc (Nat.le_refl _) _).alloc (by simp) _)
 have F0 : Hid (Blk ((w.alloc (.cells (f.v q).toArray 107)).alloc (.cells zF 107)) w.heap.size 107 (f.v q).toArray) := lh ((Blk.new _ _ _).alloc _)
 have Z0 : Hid (Blk ((w.alloc (.cells (f.v q).toArray 107)).alloc (.cells zF 107)) (w.heap.size + 1) 107 #[.int .i64 0, .int .u32 0, .int .i64 0, .int .i64 0, .int .i64 0, .int .u64 0, .int .u64 0, .int .u64 0, .int .u64 0, .int .i64 0, .slice none 0 0, .bool false, .int .u64 0, .int .u64 0, .int .i64 0, .int .u32 0, .int .i64 0, .int .i64 0, .int .i64 0, .int .i64 0, .int .u64 0, .int .u64 0, .int .i64 0, .int .u32 0]) := lh (blk_at (by simp))
 obtain ⟨f', hf'⟩ : ∃ f' : FS, f' = { f with chain := ch, behind := bh, pc := bh } := ⟨_, rfl⟩
 have HF' := lh hf'
 have hz : (ch == 0) = true := by rw [hc]; rfl
 clear hf' hc
 go_enter Tryz.func87, Tryz.ntmps87
 go_upto_region 1 with fail
 generalize ((w.alloc (.cells (f.v q).toArray 107)).alloc (.cells zF 107)) = V at B0 F0 Z0 ⊢
 have hf0 := F0.out.cell
 have hf0f := F0.out.frozen
 go_upto_region 6 with fail
 have F1 : Hid (Blk ((((V.setCell ⟨w.heap.size, 15, none⟩ (.int .u32 ch)).setCell ⟨w.heap.size, 16, none⟩ (.int .i64 bh)).setCell ⟨w.heap.size, 4, none⟩ (.int .i64 86)).setCell ⟨w.heap.size, 4, none⟩ (.int .i64 bh)) w.heap.size 107 ((f'.v q).toArray)) := lh (by
   have h_ := ((((F0.out.set_ 15 (.int .u32 ch)).set_ 16 (.int .i64 bh)).set_ 4 (.int .i64 86)).set_ 4 (.int .i64 bh))
   rw [HF'.out]; simpa only [FS.v, List.setIfInBounds_toArray, List.set_cons_zero, List.set_cons_succ] using h_)
 have Z1 := lh ((((Z0.out.far (p := ⟨w.heap.size, 15, none⟩) (show ¬ w.heap.size + 1 = w.heap.size by omega) (.int .u32 ch)).far (p := ⟨w.heap.size, 16, none⟩) (show ¬ w.heap.size + 1 = w.heap.size by omega) (.int .i64 bh)).far (p := ⟨w.heap.size, 4, none⟩) (show ¬ w.heap.size + 1 = w.heap.size by omega) (.int .i64 86)).far (p := ⟨w.heap.size, 4, none⟩) (show ¬ w.heap.size + 1 = w.heap.size by omega) (.int .i64 bh))
 have B1 := lh (Below.setCell (Below.setCell (Below.setCell (Below.setCell B0.out (p := ⟨w.heap.size, 15, none⟩) (Nat.le_refl _) (.int .u32 ch)) (p := ⟨w.heap.size, 16, none⟩) (Nat.le_refl _) (.int .i64 bh)) (p := ⟨w.heap.size, 4, none⟩) (Nat.le_refl _) (.int .i64 86)) (p := ⟨w.heap.size, 4, none⟩) (Nat.le_refl _) (.int .i64 bh))
 clear hf0 hf0f F0 Z0 B0
 generalize ((((V.setCell ⟨w.heap.size, 15, none⟩ (.int .u32 ch)).setCell ⟨w.heap.size, 16, none⟩ (.int .i64 bh)).setCell ⟨w.heap.size, 4, none⟩ (.int .i64 86)).setCell ⟨w.heap.size, 4, none⟩ (.int .i64 bh)) = V1 at F1 Z1 B1 ⊢
 refine wp_region_lit ?_
 refine wpList_load_mid rfl 107 (.tmp 3) rfl w.heap.size 0 (by simp [Act.eval]) (f'.v q) _ (rF F1.out) Tryz.underlying107 rfl f_size ?_
 refine wpList_store_mid rfl 107 (.tmp 6) (.tmp 16) rfl (w.heap.size + 1) 0 ((f'.v q)).toArray (by simp [Act.eval, Act.put]) (by simp [Act.eval, Act.put]) (there24 Z1.out (by decide)) f_size (FS.one _ _) ?_
 have R9 := res24 (World.rangeAt_setCells_same V1 (w.heap.size + 1) 0 (f'.v q) (there24 Z1.out (by decide)))
 have B9 := Only.below (Only.sets (P := fun g => w.heap.size <= g) (g := w.heap.size + 1) (.inl (by omega)) (f'.v q) V1 0 (Only.of_below B1.out (Nat.le_refl _))) (Nat.le_refl _) (fun k h => h)
 have ez : ((f'.v q)).toArray.toList = (f'.v q) := rfl
 rw [ez]
 generalize V1.setCells (w.heap.size + 1) 0 (f'.v q) = V2 at R9 B9 ⊢
 go_wp2
 refine bodyPost_ret (v := .agg (f'.v q).toArray) (results_cell1 (a := 6) Tryz.results87 rfl R9) rfl ?_
 exact ⟨by rw [HF'.out], B9⟩
set_option maxHeartbeats 2000000 in
theorem chained1_c (w : World) (f : FS) (q : Sl) (ch bh : Int) (hc : ¬ ch = 0) :
   Calls Tryz.prog 87 #[.agg (f.v q).toArray, .int .u32 ch, .int .i64 bh] w fun e w' => e = .returned (.agg (({ f with chain := ch, behind := bh, pc := 86 } : FS).v q).toArray) /\ Below w.heap.size w w' := by
 have B0 : Hid (Below w.heap.size w ((w.alloc (.cells (f.v q).toArray 107)).alloc (.cells zF 107))) := lh (((Below.refl _ _).alloc (Nat.le_refl _) _).alloc (by simp) _)
 have F0 : Hid (Blk ((w.alloc (.cells (f.v q).toArray 107)).alloc (.cells zF 107)) w.heap.size 107 (f.v q).toArray) := lh ((Blk.new _ _ _).alloc _)
 have Z0 : Hid (Blk ((w.alloc (.cells (f.v q).toArray 107)).alloc (.cells zF 107)) (w.heap.size + 1) 107 #[.int .i64 0, .int .u32 0, .int .i64 0, .int .i64 0, .int .i64 0, .int .u64 0, .int .u64 0, .int .u64 0, .int .u64 0, .int .i64 0, .slice none 0 0, .bool false, .int .u64 0, .int .u64 0, .int .i64 0, .int .u32 0, .int .i64 0, .int .i64 0, .int .i64 0, .int .i64 0, .int .u64 0, .int .u64 0, .int .i64 0, .int .u32 0]) := lh (blk_at (by simp))
 obtain ⟨f', hf'⟩ : ∃ f' : FS, f' = { f with chain := ch, behind := bh, pc := 86 } := ⟨_, rfl⟩
 have HF' := lh hf'
 have hz : (ch == 0) = false := beq_false_of_ne hc
 clear hf' hc
 go_enter Tryz.func87, Tryz.ntmps87
 go_upto_region 1 with fail
 generalize ((w.alloc (.cells (f.v q).toArray 107)).alloc (.cells zF 107)) = V at B0 F0 Z0 ⊢
 have hf0 := F0.out.cell
 have hf0f := F0.out.frozen
 go_upto_region 6 with fail
 have F1 : Hid (Blk (((V.setCell ⟨w.heap.size, 15, none⟩ (.int .u32 ch)).setCell ⟨w.heap.size, 16, none⟩ (.int .i64 bh)).setCell ⟨w.heap.size, 4, none⟩ (.int .i64 86)) w.heap.size 107 ((f'.v q).toArray)) := lh (by
   have h_ := (((F0.out.set_ 15 (.int .u32 ch)).set_ 16 (.int .i64 bh)).set_ 4 (.int .i64 86))
   rw [HF'.out]; simpa only [FS.v, List.setIfInBounds_toArray, List.set_cons_zero, List.set_cons_succ] using h_)
 have Z1 := lh (((Z0.out.far (p := ⟨w.heap.size, 15, none⟩) (show ¬ w.heap.size + 1 = w.heap.size by omega) (.int .u32 ch)).far (p := ⟨w.heap.size, 16, none⟩) (show ¬ w.heap.size + 1 = w.heap.size by omega) (.int .i64 bh)).far (p := ⟨w.heap.size, 4, none⟩) (show ¬ w.heap.size + 1 = w.heap.size by omega) (.int .i64 86))
 have B1 := lh (Below.setCell (Below.setCell (Below.setCell B0.out (p := ⟨w.heap.size, 15, none⟩) (Nat.le_refl _) (.int .u32 ch)) (p := ⟨w.heap.size, 16, none⟩) (Nat.le_refl _) (.int .i64 bh)) (p := ⟨w.heap.size, 4, none⟩) (Nat.le_refl _) (.int .i64 86))
 clear hf0 hf0f F0 Z0 B0
 generalize (((V.setCell ⟨w.heap.size, 15, none⟩ (.int .u32 ch)).setCell ⟨w.heap.size, 16, none⟩ (.int .i64 bh)).setCell ⟨w.heap.size, 4, none⟩ (.int .i64 86)) = V1 at F1 Z1 B1 ⊢
 refine wp_region_lit ?_
 refine wpList_load_mid rfl 107 (.tmp 3) rfl w.heap.size 0 (by simp [Act.eval]) (f'.v q) _ (rF F1.out) Tryz.underlying107 rfl f_size ?_
 refine wpList_store_mid rfl 107 (.tmp 6) (.tmp 16) rfl (w.heap.size + 1) 0 ((f'.v q)).toArray (by simp [Act.eval, Act.put]) (by simp [Act.eval, Act.put]) (there24 Z1.out (by decide)) f_size (FS.one _ _) ?_
 have R9 := res24 (World.rangeAt_setCells_same V1 (w.heap.size + 1) 0 (f'.v q) (there24 Z1.out (by decide)))
 have B9 := Only.below (Only.sets (P := fun g => w.heap.size <= g) (g := w.heap.size + 1) (.inl (by omega)) (f'.v q) V1 0 (Only.of_below B1.out (Nat.le_refl _))) (Nat.le_refl _) (fun k h => h)
 have ez : ((f'.v q)).toArray.toList = (f'.v q) := rfl
 rw [ez]
 generalize V1.setCells (w.heap.size + 1) 0 (f'.v q) = V2 at R9 B9 ⊢
 go_wp2
 refine bodyPost_ret (v := .agg (f'.v q).toArray) (results_cell1 (a := 6) Tryz.results87 rfl R9) rfl ?_
 exact ⟨by rw [HF'.out], B9⟩
theorem chained_p (w : World) (f : FS) (q : Sl) (ch bh : Int) : Calls Tryz.prog 87 #[.agg (f.v q).toArray, .int .u32 ch, .int .i64 bh] w fun e w' => e = .returned (.agg ((f.chained ch bh).v q).toArray) /\ Below w.heap.size w w' := by
 by_cases h : ch = 0
 · have e : f.chained ch bh = { f with chain := ch, behind := bh, pc := bh } := by unfold FS.chained; rw [if_pos h]
   rw [e]; exact chained0_c w f q ch bh h
 · have e : f.chained ch bh = { f with chain := ch, behind := bh, pc := 86 } := by unfold FS.chained; rw [if_neg h]
   rw [e]; exact chained1_c w f q ch bh h
set_option maxHeartbeats 4000000 in
theorem tell35t_c (w : World) (k : Int) (K T M : Nat) (f : FS) (q : Sl) (was : Int) (dn : Bool) (hpc : f.pc = 35) (x0 : 0 <= f.s) (x1 : f.s <= 18446744073709551615) (m1 : 2 <= M) (m2 : M <= 64) (v0 : 0 <= f.w) (v1 : f.w <= 18446744073709551615) (hd : dn = true) :
   Calls Tryz.prog 61 #[.agg #[.int .i64 k, .int .i64 K, .int .i64 T, .int .i64 M], .agg (f.v q).toArray, .int .u64 was, .bool dn] w fun e w' => e = .returned (.agg ((docTell k K T M f was dn).v q).toArray) /\ Below w.heap.size w w' := by
 obtain ⟨B0, C0, F0, Z0⟩ := pre3 w k K T M f q
 have hv4 : (f.v q).toArray[4]? = some (.int .i64 35) := by show some (Value.int .i64 f.pc) = _; rw [hpc]
 have hz : dn = true := hd
 have hv6 : (f.v q).toArray[6]? = some (.int .u64 f.w) := rfl
 have HT : Hid (docTell k K T M f was dn = (f.chained (lo f.w) 0)) := lh (by rw [tell35 was dn hpc, if_pos hd])
 clear hpc
 clear hd
 go_enter Tryz.func61, Tryz.ntmps61
 go_upto_region 1 with fail
 generalize ((w2 w k K T M f q).alloc (.cells zF 107)) = V at B0 C0 F0 Z0 ⊢
 have hc0 := C0.out.cell
 refine wp_region_lit ?_
 refine wpList_load_mid rfl 107 (.tmp 5) rfl (w.heap.size + 1) 0 (by simp [Act.eval]) (f.v q) _ (rF F0.out) Tryz.underlying107 rfl f_size ?_
 go_upto_region 100 with (first
   | (go_at_call 67; (with_reducible refine (life_d f q x0 x1 m1 m2 B0 C0 F0 Z0).mono ?_); rintro e w1 ⟨rfl, B1, F1, Z1, C1⟩; have hf1c := F1.out.cell; have hf1f := F1.out.frozen; have hc1 := C1.out.cell; clear hc0))
 refine wp_region_still_tail 4 (by kernel_rfl) (by kernel_rfl) ?_
 simp only [List.take_succ_cons, List.take_zero, List.drop_succ_cons, List.drop_zero]
 refine wpStill_load_mid rfl 107 (.tmp 5) rfl (w.heap.size + 1) 0 (by simp [Act.eval]) (f.v q) _ (rF F1.out.drew) Tryz.underlying107 rfl f_size ?_
 repeat (first
   | still_step
   | (refine wpStill_step (fun K hK => ?_); go_simp; refine ⟨_, still_of (low3_p f.w _ v0 v1), hK _ ?_⟩; clear hK K))
 refine wpStill_nil ?_
 change wpList _ _ _ _ _ w1.drew
 have F1 := lh F1.out.drew
 have Z1 := lh Z1.out.drew
 have B1 := lh (below_drawn B1.out 1)
 clear hf1c hf1f
 change Hid (Below _ _ w1.drew) at B1
 generalize w1.drew = w1 at F1 Z1 B1 ⊢
 go_wp2_with (first
   | (go_at_call 87; (with_reducible refine (chained_p _ f q (lo f.w) 0).mono ?_); rintro e w2 ⟨rfl, hb⟩; go_must (have B2 := lh (B1.out.trans (hb.mono B1.out.size)); have Z2 := lh (Z1.out.below hb Z1.out.lt)); clear hb)
   | (refine wpList_store_mid rfl 107 (.tmp 8) (.tmp 298) rfl (w.heap.size + 1 + 1) 0 ((f.chained (lo f.w) 0).v q).toArray (by simp [Act.eval]) (by simp [Act.eval]) (there24 Z2.out (by decide)) f_size (FS.one _ _) ?_))
 obtain ⟨R9, B9⟩ := fin9 (fe := (f.chained (lo f.w) 0)) (q := q) Z2.out B2.out
 generalize w2.setCells (w.heap.size + 1 + 1) 0 ((f.chained (lo f.w) 0).v q) = V9 at R9 B9 ⊢
 refine bodyPost_ret (v := .agg ((f.chained (lo f.w) 0).v q).toArray) (results_cell1 (a := 8) Tryz.results61 rfl R9) rfl ?_
 exact ⟨by rw [HT.out], B9⟩
set_option maxHeartbeats 4000000 in
theorem tell82t_c (w : World) (k : Int) (K T M : Nat) (f : FS) (q : Sl) (was : Int) (dn : Bool) (hpc : f.pc = 82) (x0 : 0 <= f.s) (x1 : f.s <= 18446744073709551615) (m1 : 2 <= M) (m2 : M <= 64) (v0 : 0 <= f.w) (v1 : f.w <= 18446744073709551615) (hd : dn = true) :
   Calls Tryz.prog 61 #[.agg #[.int .i64 k, .int .i64 K, .int .i64 T, .int .i64 M], .agg (f.v q).toArray, .int .u64 was, .bool dn] w fun e w' => e = .returned (.agg ((docTell k K T M f was dn).v q).toArray) /\ Below w.heap.size w w' := by
 obtain ⟨B0, C0, F0, Z0⟩ := pre3 w k K T M f q
 have hv4 : (f.v q).toArray[4]? = some (.int .i64 82) := by show some (Value.int .i64 f.pc) = _; rw [hpc]
 have hz : dn = true := hd
 have hv6 : (f.v q).toArray[6]? = some (.int .u64 f.w) := rfl
 have HT : Hid (docTell k K T M f was dn = (f.chained (lo f.w) 81)) := lh (by rw [tell82 was dn hpc, if_pos hd])
 clear hpc
 clear hd
 go_enter Tryz.func61, Tryz.ntmps61
 go_upto_region 1 with fail
 generalize ((w2 w k K T M f q).alloc (.cells zF 107)) = V at B0 C0 F0 Z0 ⊢
 have hc0 := C0.out.cell
 refine wp_region_lit ?_
 refine wpList_load_mid rfl 107 (.tmp 5) rfl (w.heap.size + 1) 0 (by simp [Act.eval]) (f.v q) _ (rF F0.out) Tryz.underlying107 rfl f_size ?_
 go_upto_region 206 with (first
   | (go_at_call 67; (with_reducible refine (life_d f q x0 x1 m1 m2 B0 C0 F0 Z0).mono ?_); rintro e w1 ⟨rfl, B1, F1, Z1, C1⟩; have hf1c := F1.out.cell; have hf1f := F1.out.frozen; have hc1 := C1.out.cell; clear hc0))
 refine wp_region_still_tail 4 (by kernel_rfl) (by kernel_rfl) ?_
 simp only [List.take_succ_cons, List.take_zero, List.drop_succ_cons, List.drop_zero]
 refine wpStill_load_mid rfl 107 (.tmp 5) rfl (w.heap.size + 1) 0 (by simp [Act.eval]) (f.v q) _ (rF F1.out.drew) Tryz.underlying107 rfl f_size ?_
 repeat (first
   | still_step
   | (refine wpStill_step (fun K hK => ?_); go_simp; refine ⟨_, still_of (low3_p f.w _ v0 v1), hK _ ?_⟩; clear hK K))
 refine wpStill_nil ?_
 change wpList _ _ _ _ _ w1.drew
 have F1 := lh F1.out.drew
 have Z1 := lh Z1.out.drew
 have B1 := lh (below_drawn B1.out 1)
 clear hf1c hf1f
 change Hid (Below _ _ w1.drew) at B1
 generalize w1.drew = w1 at F1 Z1 B1 ⊢
 go_wp2_with (first
   | (go_at_call 87; (with_reducible refine (chained_p _ f q (lo f.w) 81).mono ?_); rintro e w2 ⟨rfl, hb⟩; go_must (have B2 := lh (B1.out.trans (hb.mono B1.out.size)); have Z2 := lh (Z1.out.below hb Z1.out.lt)); clear hb)
   | (refine wpList_store_mid rfl 107 (.tmp 8) (.tmp 588) rfl (w.heap.size + 1 + 1) 0 ((f.chained (lo f.w) 81).v q).toArray (by simp [Act.eval]) (by simp [Act.eval]) (there24 Z2.out (by decide)) f_size (FS.one _ _) ?_))
 obtain ⟨R9, B9⟩ := fin9 (fe := (f.chained (lo f.w) 81)) (q := q) Z2.out B2.out
 generalize w2.setCells (w.heap.size + 1 + 1) 0 ((f.chained (lo f.w) 81).v q) = V9 at R9 B9 ⊢
 refine bodyPost_ret (v := .agg ((f.chained (lo f.w) 81).v q).toArray) (results_cell1 (a := 8) Tryz.results61 rfl R9) rfl ?_
 exact ⟨by rw [HT.out], B9⟩
set_option maxHeartbeats 4000000 in
theorem tell97c_c (w : World) (k : Int) (K T M : Nat) (f : FS) (q : Sl) (was : Int) (dn : Bool) (hpc : f.pc = 97) (x0 : 0 <= f.s) (x1 : f.s <= 18446744073709551615) (m1 : 2 <= M) (m2 : M <= 64) (hd : dn = true) (hbb : f.back = 87) :
   Calls Tryz.prog 61 #[.agg #[.int .i64 k, .int .i64 K, .int .i64 T, .int .i64 M], .agg (f.v q).toArray, .int .u64 was, .bool dn] w fun e w' => e = .returned (.agg ((docTell k K T M f was dn).v q).toArray) /\ Below w.heap.size w w' := by
 obtain ⟨B0, C0, F0, Z0⟩ := pre3 w k K T M f q
 have hv4 : (f.v q).toArray[4]? = some (.int .i64 97) := by show some (Value.int .i64 f.pc) = _; rw [hpc]
 have hv14 : (f.v q).toArray[14]? = some (.int .i64 87) := by show some (Value.int .i64 f.back) = _; rw [hbb]
 obtain ⟨c0, hc0⟩ : ∃ x, x = f.chain := ⟨_, rfl⟩
 obtain ⟨b0, hb0⟩ : ∃ x, x = f.behind := ⟨_, rfl⟩
 have hv15 : (f.v q).toArray[15]? = some (.int .u32 c0) := by rw [hc0]; rfl
 have hv16 : (f.v q).toArray[16]? = some (.int .i64 b0) := by rw [hb0]; rfl
 have hz : (!dn) = false := by rw [hd]; rfl
 have HCB := lh (And.intro hc0 hb0)
 have HT : Hid (docTell k K T M f was dn = (f.chained f.chain f.behind)) := lh (by rw [tell97 was dn hpc, if_pos hd, if_pos hbb])
 clear hpc
 clear hd
 clear hbb
 clear hc0
 clear hb0
 go_enter Tryz.func61, Tryz.ntmps61
 go_upto_region 1 with fail
 generalize ((w2 w k K T M f q).alloc (.cells zF 107)) = V at B0 C0 F0 Z0 ⊢
 have hc0 := C0.out.cell
 refine wp_region_lit ?_
 refine wpList_load_mid rfl 107 (.tmp 5) rfl (w.heap.size + 1) 0 (by simp [Act.eval]) (f.v q) _ (rF F0.out) Tryz.underlying107 rfl f_size ?_
 go_upto_region 240 with (first
   | (go_at_call 67; (with_reducible refine (life_d f q x0 x1 m1 m2 B0 C0 F0 Z0).mono ?_); rintro e w1 ⟨rfl, B1, F1, Z1, C1⟩; have hf1c := F1.out.cell; have hf1f := F1.out.frozen; have hc1 := C1.out.cell; clear hc0))
 refine wp_region_lit ?_
 refine wpList_load_mid rfl 107 (.tmp 5) rfl (w.heap.size + 1) 0 (by simp [Act.eval]) (f.v q) _ (rF F1.out) Tryz.underlying107 rfl f_size ?_
 go_wp2_with (first
   | (go_at_call 87; (with_reducible refine (chained_p _ f q c0 b0).mono ?_); rintro e w2 ⟨rfl, hb⟩; go_must (have B2 := lh (B1.out.trans (hb.mono B1.out.size)); have Z2 := lh (Z1.out.below hb Z1.out.lt)); clear hb)
   | (refine wpList_store_mid rfl 107 (.tmp 8) (.tmp 696) rfl (w.heap.size + 1 + 1) 0 ((f.chained c0 b0).v q).toArray (by simp [Act.eval]) (by simp [Act.eval]) (there24 Z2.out (by decide)) f_size (FS.one _ _) ?_))
 obtain ⟨R9, B9⟩ := fin9 (fe := (f.chained c0 b0)) (q := q) Z2.out B2.out
 generalize w2.setCells (w.heap.size + 1 + 1) 0 ((f.chained c0 b0).v q) = V9 at R9 B9 ⊢
 refine bodyPost_ret (v := .agg ((f.chained c0 b0).v q).toArray) (results_cell1 (a := 8) Tryz.results61 rfl R9) rfl ?_
 exact ⟨by rw [HT.out, HCB.out.1, HCB.out.2], B9⟩

end Go.Proofs.YtffppdcpiieapaaGreat.Machc
