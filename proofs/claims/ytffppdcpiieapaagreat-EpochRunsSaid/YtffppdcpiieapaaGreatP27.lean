/- A part of the proof. -/
import Derived.Test.YtffppdcpiieapaaGreatP21
import Derived.Test.YtffppdcpiieapaaGreatP23
import Derived.Test.YtffppdcpiieapaaGreatP26
namespace Go.Proofs.YtffppdcpiieapaaGreat.Machc
open Go.RowKit Memc Newc Refc Drivec Procc Wordc Arenac
set_option linter.unusedVariables false
set_option maxRecDepth 100000

theorem rF {w : World} {g : Nat} {f : FS} {q : Sl} (h : Blk w g 107 (f.v q).toArray) : w.rangeAt g 0 (f.v q) := range24 h (fun j v hj => by rw [Nat.zero_add]; simpa using hj)
theorem pre3 (w : World) (k : Int) (K T M : Nat) (f : FS) (q : Sl) : Hid (Below w.heap.size w ((w2 w k K T M f q).alloc (.cells zF 107))) /\ Hid (Blk ((w2 w k K T M f q).alloc (.cells zF 107)) w.heap.size 23 #[.int .i64 k, .int .i64 K, .int .i64 T, .int .i64 M]) /\ Hid (Blk ((w2 w k K T M f q).alloc (.cells zF 107)) (w.heap.size + 1) 107 (f.v q).toArray) /\ Hid (Blk ((w2 w k K T M f q).alloc (.cells zF 107)) (w.heap.size + 1 + 1) 107 zF) :=
 ⟨lh ((((Below.refl _ _).alloc (Nat.le_refl _) _).alloc (by simp) _).alloc (by simp; omega) _), lh (((Blk.new _ _ _).alloc _).alloc _), lh ((blk_at (by simp)).alloc _), lh (blk_at (by simp))⟩
theorem life_d {w V : World} {k : Int} {K T M : Nat} (f : FS) (q : Sl) (x0 : 0 <= f.s) (x1 : f.s <= 18446744073709551615) (m1 : 2 <= M) (m2 : M <= 64) (B0 : Hid (Below w.heap.size w V)) (C0 : Hid (Blk V w.heap.size 23 #[.int .i64 k, .int .i64 K, .int .i64 T, .int .i64 M])) (F0 : Hid (Blk V (w.heap.size + 1) 107 (f.v q).toArray)) (Z0 : Hid (Blk V (w.heap.size + 1 + 1) 107 zF)) :
 Calls Tryz.prog 67 #[.agg (f.v q).toArray, .agg #[.int .i64 k, .int .i64 K, .int .i64 T, .int .i64 M]] V fun e w' => e = .returned (.int .u32 (lifeM k M f)) /\ Hid (Below w.heap.size w w') /\ Hid (Blk w' (w.heap.size + 1) 107 (f.v q).toArray) /\ Hid (Blk w' (w.heap.size + 1 + 1) 107 zF) /\ Hid (Blk w' w.heap.size 23 #[.int .i64 k, .int .i64 K, .int .i64 T, .int .i64 M]) :=
 (life_c V k K T M f q x0 x1 m1 m2).mono (fun e w' h => ⟨h.1, lh (B0.out.trans (h.2.mono B0.out.size)), lh (F0.out.below h.2 F0.out.lt), lh (Z0.out.below h.2 Z0.out.lt), lh (C0.out.below h.2 C0.out.lt)⟩)
theorem fin9 {w w3 : World} {fe : FS} {q : Sl} (hz : Blk w3 (w.heap.size + 1 + 1) 107 zF) (hb : Below w.heap.size w w3) : (loadVar 107 ⟨(w.heap.size + 1 + 1), 0, none⟩).run Tryz.prog (w3.setCells (w.heap.size + 1 + 1) 0 (fe.v q)) = .ok (.agg (fe.v q).toArray) (w3.setCells (w.heap.size + 1 + 1) 0 (fe.v q)) /\ Below w.heap.size w (w3.setCells (w.heap.size + 1 + 1) 0 (fe.v q)) :=
 ⟨res24 (World.rangeAt_setCells_same w3 (w.heap.size + 1 + 1) 0 (fe.v q) (there24 hz (by decide))), Only.below (Only.sets (P := fun g => w.heap.size <= g) (g := (w.heap.size + 1 + 1)) (.inl (by omega)) (fe.v q) w3 0 (Only.of_below hb (Nat.le_refl _))) (Nat.le_refl _) (fun k h => h)⟩

theorem either_p (w : World) (b : Bool) (x y : Int) : Calls Tryz.prog 77 #[.bool b, .int .i64 x, .int .i64 y] w fun e w' => e = .returned (.int .i64 (if b = true then x else y)) /\ w = w' := by
 cases b
 all_goals
   go_enter Tryz.func77, Tryz.ntmps77
   go_wp2
   go_ret
   exact ⟨rfl, rfl⟩
set_option maxHeartbeats 4000000 in
theorem tell1_c (w : World) (k : Int) (K T M : Nat) (f : FS) (q : Sl) (was : Int) (dn : Bool) (hpc : f.pc = 1) (x0 : 0 <= f.s) (x1 : f.s <= 18446744073709551615) (m1 : 2 <= M) (m2 : M <= 64) :
   Calls Tryz.prog 61 #[.agg #[.int .i64 k, .int .i64 K, .int .i64 T, .int .i64 M], .agg (f.v q).toArray, .int .u64 was, .bool dn] w fun e w' => e = .returned (.agg ((docTell k K T M f was dn).v q).toArray) /\ Below w.heap.size w w' := by
 obtain ⟨B0, C0, F0, Z0⟩ := pre3 w k K T M f q
 have hv4 : (f.v q).toArray[4]? = some (.int .i64 1) := by show some (Value.int .i64 f.pc) = _; rw [hpc]
 have HT : Hid (docTell k K T M f was dn = ({ f with g := was, pc := 2 } : FS)) := lh (by rw [tell1 was dn hpc])
 clear hpc
 go_enter Tryz.func61, Tryz.ntmps61
 go_upto_region 1 with fail
 generalize ((w2 w k K T M f q).alloc (.cells zF 107)) = V at B0 C0 F0 Z0 ⊢
 have hc0 := C0.out.cell
 refine wp_region_lit ?_
 refine wpList_load_mid rfl 107 (.tmp 5) rfl (w.heap.size + 1) 0 (by simp [Act.eval]) (f.v q) _ (rF F0.out) Tryz.underlying107 rfl f_size ?_
 go_upto_region 8 with (first
   | (go_at_call 67; (with_reducible refine (life_d f q x0 x1 m1 m2 B0 C0 F0 Z0).mono ?_); rintro e w1 ⟨rfl, B1, F1, Z1, C1⟩; have hf1c := F1.out.cell; have hf1f := F1.out.frozen; have hc1 := C1.out.cell; clear hc0))
 obtain ⟨f1, hf1⟩ : ∃ f1 : FS, f1 = { f with g := was } := ⟨_, rfl⟩
 have Hf1 := lh hf1
 have F2 : Hid (Blk (w1.setCell ⟨w.heap.size + 1, 8, none⟩ (.int .u64 was)) (w.heap.size + 1) 107 (f1.v q).toArray) := lh (by
   have h_ := F1.out.set_ 8 (.int .u64 was)
   rw [hf1]; exact h_)
 clear hf1
 have Z2 := lh (Z1.out.far (p := ⟨w.heap.size + 1, 8, none⟩) (show ¬ w.heap.size + 1 + 1 = w.heap.size + 1 by omega) (.int .u64 was))
 have B2 := lh (Below.setCell B1.out (p := ⟨w.heap.size + 1, 8, none⟩) (show w.heap.size <= w.heap.size + 1 by omega) (.int .u64 was))
 clear hf1c hf1f hc1 F1 Z1 B1 C1
 generalize w1.setCell ⟨w.heap.size + 1, 8, none⟩ (.int .u64 was) = w2 at F2 Z2 B2 ⊢
 have hf2c := F2.out.cell
 have hf2f := F2.out.frozen
 clear hf2c hf2f
 refine wp_region_lit ?_
 refine wpList_load_mid rfl 107 (.tmp 5) rfl (w.heap.size + 1) 0 (by simp [Act.eval]) (f1.v q) _ (rF F2.out) Tryz.underlying107 rfl f_size ?_
 go_wp2_with (first
   | (go_at_call 78; (with_reducible refine (to_c _ f1 q 2).mono ?_); rintro e w3 ⟨rfl, hb⟩; go_must (have B3 := lh (B2.out.trans (hb.mono B2.out.size)); have Z3 := lh (Z2.out.below hb Z2.out.lt)); clear hb)
   | (refine wpList_store_mid rfl 107 (.tmp 8) (.tmp 28) rfl (w.heap.size + 1 + 1) 0 (({ f1 with pc := 2 } : FS).v q).toArray (by simp [Act.eval]) (by simp [Act.eval]) (there24 Z3.out (by decide)) f_size (FS.one _ _) ?_))
 obtain ⟨R9, B9⟩ := fin9 (fe := ({ f1 with pc := 2 } : FS)) (q := q) Z3.out B3.out
 generalize w3.setCells (w.heap.size + 1 + 1) 0 (({ f1 with pc := 2 } : FS).v q) = V9 at R9 B9 ⊢
 refine bodyPost_ret (v := .agg (({ f1 with pc := 2 } : FS).v q).toArray) (results_cell1 (a := 8) Tryz.results61 rfl R9) rfl ?_
 exact ⟨by rw [HT.out, Hf1.out], B9⟩
set_option maxHeartbeats 4000000 in
theorem tell80_c (w : World) (k : Int) (K T M : Nat) (f : FS) (q : Sl) (was : Int) (dn : Bool) (hpc : f.pc = 80) (x0 : 0 <= f.s) (x1 : f.s <= 18446744073709551615) (m1 : 2 <= M) (m2 : M <= 64) :
   Calls Tryz.prog 61 #[.agg #[.int .i64 k, .int .i64 K, .int .i64 T, .int .i64 M], .agg (f.v q).toArray, .int .u64 was, .bool dn] w fun e w' => e = .returned (.agg ((docTell k K T M f was dn).v q).toArray) /\ Below w.heap.size w w' := by
 obtain ⟨B0, C0, F0, Z0⟩ := pre3 w k K T M f q
 have hv4 : (f.v q).toArray[4]? = some (.int .i64 80) := by show some (Value.int .i64 f.pc) = _; rw [hpc]
 have HT : Hid (docTell k K T M f was dn = ({ f with g := was, pc := 81 } : FS)) := lh (by rw [tell80 was dn hpc])
 clear hpc
 go_enter Tryz.func61, Tryz.ntmps61
 go_upto_region 1 with fail
 generalize ((w2 w k K T M f q).alloc (.cells zF 107)) = V at B0 C0 F0 Z0 ⊢
 have hc0 := C0.out.cell
 refine wp_region_lit ?_
 refine wpList_load_mid rfl 107 (.tmp 5) rfl (w.heap.size + 1) 0 (by simp [Act.eval]) (f.v q) _ (rF F0.out) Tryz.underlying107 rfl f_size ?_
 go_upto_region 200 with (first
   | (go_at_call 67; (with_reducible refine (life_d f q x0 x1 m1 m2 B0 C0 F0 Z0).mono ?_); rintro e w1 ⟨rfl, B1, F1, Z1, C1⟩; have hf1c := F1.out.cell; have hf1f := F1.out.frozen; have hc1 := C1.out.cell; clear hc0))
 obtain ⟨f1, hf1⟩ : ∃ f1 : FS, f1 = { f with g := was } := ⟨_, rfl⟩
 have Hf1 := lh hf1
 have F2 : Hid (Blk (w1.setCell ⟨w.heap.size + 1, 8, none⟩ (.int .u64 was)) (w.heap.size + 1) 107 (f1.v q).toArray) := lh (by
   have h_ := F1.out.set_ 8 (.int .u64 was)
   rw [hf1]; exact h_)
 clear hf1
 have Z2 := lh (Z1.out.far (p := ⟨w.heap.size + 1, 8, none⟩) (show ¬ w.heap.size + 1 + 1 = w.heap.size + 1 by omega) (.int .u64 was))
 have B2 := lh (Below.setCell B1.out (p := ⟨w.heap.size + 1, 8, none⟩) (show w.heap.size <= w.heap.size + 1 by omega) (.int .u64 was))
 clear hf1c hf1f hc1 F1 Z1 B1 C1
 generalize w1.setCell ⟨w.heap.size + 1, 8, none⟩ (.int .u64 was) = w2 at F2 Z2 B2 ⊢
 have hf2c := F2.out.cell
 have hf2f := F2.out.frozen
 clear hf2c hf2f
 refine wp_region_lit ?_
 refine wpList_load_mid rfl 107 (.tmp 5) rfl (w.heap.size + 1) 0 (by simp [Act.eval]) (f1.v q) _ (rF F2.out) Tryz.underlying107 rfl f_size ?_
 go_wp2_with (first
   | (go_at_call 78; (with_reducible refine (to_c _ f1 q 81).mono ?_); rintro e w3 ⟨rfl, hb⟩; go_must (have B3 := lh (B2.out.trans (hb.mono B2.out.size)); have Z3 := lh (Z2.out.below hb Z2.out.lt)); clear hb)
   | (refine wpList_store_mid rfl 107 (.tmp 8) (.tmp 561) rfl (w.heap.size + 1 + 1) 0 (({ f1 with pc := 81 } : FS).v q).toArray (by simp [Act.eval]) (by simp [Act.eval]) (there24 Z3.out (by decide)) f_size (FS.one _ _) ?_))
 obtain ⟨R9, B9⟩ := fin9 (fe := ({ f1 with pc := 81 } : FS)) (q := q) Z3.out B3.out
 generalize w3.setCells (w.heap.size + 1 + 1) 0 (({ f1 with pc := 81 } : FS).v q) = V9 at R9 B9 ⊢
 refine bodyPost_ret (v := .agg (({ f1 with pc := 81 } : FS).v q).toArray) (results_cell1 (a := 8) Tryz.results61 rfl R9) rfl ?_
 exact ⟨by rw [HT.out, Hf1.out], B9⟩
set_option maxHeartbeats 4000000 in
theorem tell33_c (w : World) (k : Int) (K T M : Nat) (f : FS) (q : Sl) (was : Int) (dn : Bool) (hpc : f.pc = 33) (x0 : 0 <= f.s) (x1 : f.s <= 18446744073709551615) (m1 : 2 <= M) (m2 : M <= 64) :
   Calls Tryz.prog 61 #[.agg #[.int .i64 k, .int .i64 K, .int .i64 T, .int .i64 M], .agg (f.v q).toArray, .int .u64 was, .bool dn] w fun e w' => e = .returned (.agg ((docTell k K T M f was dn).v q).toArray) /\ Below w.heap.size w w' := by
 obtain ⟨B0, C0, F0, Z0⟩ := pre3 w k K T M f q
 have hv4 : (f.v q).toArray[4]? = some (.int .i64 33) := by show some (Value.int .i64 f.pc) = _; rw [hpc]
 have HT : Hid (docTell k K T M f was dn = ({ f with g := was, pc := 34 } : FS)) := lh (by rw [tell33 was dn hpc])
 clear hpc
 go_enter Tryz.func61, Tryz.ntmps61
 go_upto_region 1 with fail
 generalize ((w2 w k K T M f q).alloc (.cells zF 107)) = V at B0 C0 F0 Z0 ⊢
 have hc0 := C0.out.cell
 refine wp_region_lit ?_
 refine wpList_load_mid rfl 107 (.tmp 5) rfl (w.heap.size + 1) 0 (by simp [Act.eval]) (f.v q) _ (rF F0.out) Tryz.underlying107 rfl f_size ?_
 go_upto_region 95 with (first
   | (go_at_call 67; (with_reducible refine (life_d f q x0 x1 m1 m2 B0 C0 F0 Z0).mono ?_); rintro e w1 ⟨rfl, B1, F1, Z1, C1⟩; have hf1c := F1.out.cell; have hf1f := F1.out.frozen; have hc1 := C1.out.cell; clear hc0))
 obtain ⟨f1, hf1⟩ : ∃ f1 : FS, f1 = { f with g := was } := ⟨_, rfl⟩
 have Hf1 := lh hf1
 have F2 : Hid (Blk (w1.setCell ⟨w.heap.size + 1, 8, none⟩ (.int .u64 was)) (w.heap.size + 1) 107 (f1.v q).toArray) := lh (by
   have h_ := F1.out.set_ 8 (.int .u64 was)
   rw [hf1]; exact h_)
 clear hf1
 have Z2 := lh (Z1.out.far (p := ⟨w.heap.size + 1, 8, none⟩) (show ¬ w.heap.size + 1 + 1 = w.heap.size + 1 by omega) (.int .u64 was))
 have B2 := lh (Below.setCell B1.out (p := ⟨w.heap.size + 1, 8, none⟩) (show w.heap.size <= w.heap.size + 1 by omega) (.int .u64 was))
 clear hf1c hf1f hc1 F1 Z1 B1 C1
 generalize w1.setCell ⟨w.heap.size + 1, 8, none⟩ (.int .u64 was) = w2 at F2 Z2 B2 ⊢
 have hf2c := F2.out.cell
 have hf2f := F2.out.frozen
 clear hf2c hf2f
 refine wp_region_lit ?_
 refine wpList_load_mid rfl 107 (.tmp 5) rfl (w.heap.size + 1) 0 (by simp [Act.eval]) (f1.v q) _ (rF F2.out) Tryz.underlying107 rfl f_size ?_
 go_wp2_with (first
   | (go_at_call 78; (with_reducible refine (to_c _ f1 q 34).mono ?_); rintro e w3 ⟨rfl, hb⟩; go_must (have B3 := lh (B2.out.trans (hb.mono B2.out.size)); have Z3 := lh (Z2.out.below hb Z2.out.lt)); clear hb)
   | (refine wpList_store_mid rfl 107 (.tmp 8) (.tmp 271) rfl (w.heap.size + 1 + 1) 0 (({ f1 with pc := 34 } : FS).v q).toArray (by simp [Act.eval]) (by simp [Act.eval]) (there24 Z3.out (by decide)) f_size (FS.one _ _) ?_))
 obtain ⟨R9, B9⟩ := fin9 (fe := ({ f1 with pc := 34 } : FS)) (q := q) Z3.out B3.out
 generalize w3.setCells (w.heap.size + 1 + 1) 0 (({ f1 with pc := 34 } : FS).v q) = V9 at R9 B9 ⊢
 refine bodyPost_ret (v := .agg (({ f1 with pc := 34 } : FS).v q).toArray) (results_cell1 (a := 8) Tryz.results61 rfl R9) rfl ?_
 exact ⟨by rw [HT.out, Hf1.out], B9⟩
set_option maxHeartbeats 4000000 in
theorem tell2_c (w : World) (k : Int) (K T M : Nat) (f : FS) (q : Sl) (was : Int) (dn : Bool) (hpc : f.pc = 2) (x0 : 0 <= f.s) (x1 : f.s <= 18446744073709551615) (m1 : 2 <= M) (m2 : M <= 64) :
   Calls Tryz.prog 61 #[.agg #[.int .i64 k, .int .i64 K, .int .i64 T, .int .i64 M], .agg (f.v q).toArray, .int .u64 was, .bool dn] w fun e w' => e = .returned (.agg ((docTell k K T M f was dn).v q).toArray) /\ Below w.heap.size w w' := by
 obtain ⟨B0, C0, F0, Z0⟩ := pre3 w k K T M f q
 have hv4 : (f.v q).toArray[4]? = some (.int .i64 2) := by show some (Value.int .i64 f.pc) = _; rw [hpc]
 have HT : Hid (docTell k K T M f was dn = ({ f with pc := 3 } : FS)) := lh (by rw [tell2 was dn hpc])
 clear hpc
 go_enter Tryz.func61, Tryz.ntmps61
 go_upto_region 1 with fail
 generalize ((w2 w k K T M f q).alloc (.cells zF 107)) = V at B0 C0 F0 Z0 ⊢
 have hc0 := C0.out.cell
 refine wp_region_lit ?_
 refine wpList_load_mid rfl 107 (.tmp 5) rfl (w.heap.size + 1) 0 (by simp [Act.eval]) (f.v q) _ (rF F0.out) Tryz.underlying107 rfl f_size ?_
 go_upto_region 10 with (first
   | (go_at_call 67; (with_reducible refine (life_d f q x0 x1 m1 m2 B0 C0 F0 Z0).mono ?_); rintro e w1 ⟨rfl, B1, F1, Z1, C1⟩; have hf1c := F1.out.cell; have hf1f := F1.out.frozen; have hc1 := C1.out.cell; clear hc0))
 refine wp_region_lit ?_
 refine wpList_load_mid rfl 107 (.tmp 5) rfl (w.heap.size + 1) 0 (by simp [Act.eval]) (f.v q) _ (rF F1.out) Tryz.underlying107 rfl f_size ?_
 go_wp2_with (first
   | (go_at_call 78; (with_reducible refine (to_c _ f q 3).mono ?_); rintro e w2 ⟨rfl, hb⟩; go_must (have B2 := lh (B1.out.trans (hb.mono B1.out.size)); have Z2 := lh (Z1.out.below hb Z1.out.lt)); clear hb)
   | (refine wpList_store_mid rfl 107 (.tmp 8) (.tmp 32) rfl (w.heap.size + 1 + 1) 0 (({ f with pc := 3 } : FS).v q).toArray (by simp [Act.eval]) (by simp [Act.eval]) (there24 Z2.out (by decide)) f_size (FS.one _ _) ?_))
 obtain ⟨R9, B9⟩ := fin9 (fe := ({ f with pc := 3 } : FS)) (q := q) Z2.out B2.out
 generalize w2.setCells (w.heap.size + 1 + 1) 0 (({ f with pc := 3 } : FS).v q) = V9 at R9 B9 ⊢
 refine bodyPost_ret (v := .agg (({ f with pc := 3 } : FS).v q).toArray) (results_cell1 (a := 8) Tryz.results61 rfl R9) rfl ?_
 exact ⟨by rw [HT.out], B9⟩
set_option maxHeartbeats 4000000 in
theorem tell4_c (w : World) (k : Int) (K T M : Nat) (f : FS) (q : Sl) (was : Int) (dn : Bool) (hpc : f.pc = 4) (x0 : 0 <= f.s) (x1 : f.s <= 18446744073709551615) (m1 : 2 <= M) (m2 : M <= 64) :
   Calls Tryz.prog 61 #[.agg #[.int .i64 k, .int .i64 K, .int .i64 T, .int .i64 M], .agg (f.v q).toArray, .int .u64 was, .bool dn] w fun e w' => e = .returned (.agg ((docTell k K T M f was dn).v q).toArray) /\ Below w.heap.size w w' := by
 obtain ⟨B0, C0, F0, Z0⟩ := pre3 w k K T M f q
 have hv4 : (f.v q).toArray[4]? = some (.int .i64 4) := by show some (Value.int .i64 f.pc) = _; rw [hpc]
 have HT : Hid (docTell k K T M f was dn = ({ f with pc := 0 } : FS)) := lh (by rw [tell4 was dn hpc])
 clear hpc
 go_enter Tryz.func61, Tryz.ntmps61
 go_upto_region 1 with fail
 generalize ((w2 w k K T M f q).alloc (.cells zF 107)) = V at B0 C0 F0 Z0 ⊢
 have hc0 := C0.out.cell
 refine wp_region_lit ?_
 refine wpList_load_mid rfl 107 (.tmp 5) rfl (w.heap.size + 1) 0 (by simp [Act.eval]) (f.v q) _ (rF F0.out) Tryz.underlying107 rfl f_size ?_
 go_upto_region 19 with (first
   | (go_at_call 67; (with_reducible refine (life_d f q x0 x1 m1 m2 B0 C0 F0 Z0).mono ?_); rintro e w1 ⟨rfl, B1, F1, Z1, C1⟩; have hf1c := F1.out.cell; have hf1f := F1.out.frozen; have hc1 := C1.out.cell; clear hc0))
 refine wp_region_lit ?_
 refine wpList_load_mid rfl 107 (.tmp 5) rfl (w.heap.size + 1) 0 (by simp [Act.eval]) (f.v q) _ (rF F1.out) Tryz.underlying107 rfl f_size ?_
 go_wp2_with (first
   | (go_at_call 78; (with_reducible refine (to_c _ f q 0).mono ?_); rintro e w2 ⟨rfl, hb⟩; go_must (have B2 := lh (B1.out.trans (hb.mono B1.out.size)); have Z2 := lh (Z1.out.below hb Z1.out.lt)); clear hb)
   | (refine wpList_store_mid rfl 107 (.tmp 8) (.tmp 65) rfl (w.heap.size + 1 + 1) 0 (({ f with pc := 0 } : FS).v q).toArray (by simp [Act.eval]) (by simp [Act.eval]) (there24 Z2.out (by decide)) f_size (FS.one _ _) ?_))
 obtain ⟨R9, B9⟩ := fin9 (fe := ({ f with pc := 0 } : FS)) (q := q) Z2.out B2.out
 generalize w2.setCells (w.heap.size + 1 + 1) 0 (({ f with pc := 0 } : FS).v q) = V9 at R9 B9 ⊢
 refine bodyPost_ret (v := .agg (({ f with pc := 0 } : FS).v q).toArray) (results_cell1 (a := 8) Tryz.results61 rfl R9) rfl ?_
 exact ⟨by rw [HT.out], B9⟩
set_option maxHeartbeats 4000000 in
theorem tell32_c (w : World) (k : Int) (K T M : Nat) (f : FS) (q : Sl) (was : Int) (dn : Bool) (hpc : f.pc = 32) (x0 : 0 <= f.s) (x1 : f.s <= 18446744073709551615) (m1 : 2 <= M) (m2 : M <= 64) :
   Calls Tryz.prog 61 #[.agg #[.int .i64 k, .int .i64 K, .int .i64 T, .int .i64 M], .agg (f.v q).toArray, .int .u64 was, .bool dn] w fun e w' => e = .returned (.agg ((docTell k K T M f was dn).v q).toArray) /\ Below w.heap.size w w' := by
 obtain ⟨B0, C0, F0, Z0⟩ := pre3 w k K T M f q
 have hv4 : (f.v q).toArray[4]? = some (.int .i64 32) := by show some (Value.int .i64 f.pc) = _; rw [hpc]
 have HT : Hid (docTell k K T M f was dn = ({ f with pc := 33 } : FS)) := lh (by rw [tell32 was dn hpc])
 clear hpc
 go_enter Tryz.func61, Tryz.ntmps61
 go_upto_region 1 with fail
 generalize ((w2 w k K T M f q).alloc (.cells zF 107)) = V at B0 C0 F0 Z0 ⊢
 have hc0 := C0.out.cell
 refine wp_region_lit ?_
 refine wpList_load_mid rfl 107 (.tmp 5) rfl (w.heap.size + 1) 0 (by simp [Act.eval]) (f.v q) _ (rF F0.out) Tryz.underlying107 rfl f_size ?_
 go_upto_region 92 with (first
   | (go_at_call 67; (with_reducible refine (life_d f q x0 x1 m1 m2 B0 C0 F0 Z0).mono ?_); rintro e w1 ⟨rfl, B1, F1, Z1, C1⟩; have hf1c := F1.out.cell; have hf1f := F1.out.frozen; have hc1 := C1.out.cell; clear hc0))
 refine wp_region_lit ?_
 refine wpList_load_mid rfl 107 (.tmp 5) rfl (w.heap.size + 1) 0 (by simp [Act.eval]) (f.v q) _ (rF F1.out) Tryz.underlying107 rfl f_size ?_
 go_wp2_with (first
   | (go_at_call 78; (with_reducible refine (to_c _ f q 33).mono ?_); rintro e w2 ⟨rfl, hb⟩; go_must (have B2 := lh (B1.out.trans (hb.mono B1.out.size)); have Z2 := lh (Z1.out.below hb Z1.out.lt)); clear hb)
   | (refine wpList_store_mid rfl 107 (.tmp 8) (.tmp 265) rfl (w.heap.size + 1 + 1) 0 (({ f with pc := 33 } : FS).v q).toArray (by simp [Act.eval]) (by simp [Act.eval]) (there24 Z2.out (by decide)) f_size (FS.one _ _) ?_))
 obtain ⟨R9, B9⟩ := fin9 (fe := ({ f with pc := 33 } : FS)) (q := q) Z2.out B2.out
 generalize w2.setCells (w.heap.size + 1 + 1) 0 (({ f with pc := 33 } : FS).v q) = V9 at R9 B9 ⊢
 refine bodyPost_ret (v := .agg (({ f with pc := 33 } : FS).v q).toArray) (results_cell1 (a := 8) Tryz.results61 rfl R9) rfl ?_
 exact ⟨by rw [HT.out], B9⟩
set_option maxHeartbeats 4000000 in
theorem tell83_c (w : World) (k : Int) (K T M : Nat) (f : FS) (q : Sl) (was : Int) (dn : Bool) (hpc : f.pc = 83) (x0 : 0 <= f.s) (x1 : f.s <= 18446744073709551615) (m1 : 2 <= M) (m2 : M <= 64) :
   Calls Tryz.prog 61 #[.agg #[.int .i64 k, .int .i64 K, .int .i64 T, .int .i64 M], .agg (f.v q).toArray, .int .u64 was, .bool dn] w fun e w' => e = .returned (.agg ((docTell k K T M f was dn).v q).toArray) /\ Below w.heap.size w w' := by
 obtain ⟨B0, C0, F0, Z0⟩ := pre3 w k K T M f q
 have hv4 : (f.v q).toArray[4]? = some (.int .i64 83) := by show some (Value.int .i64 f.pc) = _; rw [hpc]
 have HT : Hid (docTell k K T M f was dn = ({ f with pc := 84 } : FS)) := lh (by rw [tell83 was dn hpc])
 clear hpc
 go_enter Tryz.func61, Tryz.ntmps61
 go_upto_region 1 with fail
 generalize ((w2 w k K T M f q).alloc (.cells zF 107)) = V at B0 C0 F0 Z0 ⊢
 have hc0 := C0.out.cell
 refine wp_region_lit ?_
 refine wpList_load_mid rfl 107 (.tmp 5) rfl (w.heap.size + 1) 0 (by simp [Act.eval]) (f.v q) _ (rF F0.out) Tryz.underlying107 rfl f_size ?_
 go_upto_region 209 with (first
   | (go_at_call 67; (with_reducible refine (life_d f q x0 x1 m1 m2 B0 C0 F0 Z0).mono ?_); rintro e w1 ⟨rfl, B1, F1, Z1, C1⟩; have hf1c := F1.out.cell; have hf1f := F1.out.frozen; have hc1 := C1.out.cell; clear hc0))
 refine wp_region_lit ?_
 refine wpList_load_mid rfl 107 (.tmp 5) rfl (w.heap.size + 1) 0 (by simp [Act.eval]) (f.v q) _ (rF F1.out) Tryz.underlying107 rfl f_size ?_
 go_wp2_with (first
   | (go_at_call 78; (with_reducible refine (to_c _ f q 84).mono ?_); rintro e w2 ⟨rfl, hb⟩; go_must (have B2 := lh (B1.out.trans (hb.mono B1.out.size)); have Z2 := lh (Z1.out.below hb Z1.out.lt)); clear hb)
   | (refine wpList_store_mid rfl 107 (.tmp 8) (.tmp 594) rfl (w.heap.size + 1 + 1) 0 (({ f with pc := 84 } : FS).v q).toArray (by simp [Act.eval]) (by simp [Act.eval]) (there24 Z2.out (by decide)) f_size (FS.one _ _) ?_))
 obtain ⟨R9, B9⟩ := fin9 (fe := ({ f with pc := 84 } : FS)) (q := q) Z2.out B2.out
 generalize w2.setCells (w.heap.size + 1 + 1) 0 (({ f with pc := 84 } : FS).v q) = V9 at R9 B9 ⊢
 refine bodyPost_ret (v := .agg (({ f with pc := 84 } : FS).v q).toArray) (results_cell1 (a := 8) Tryz.results61 rfl R9) rfl ?_
 exact ⟨by rw [HT.out], B9⟩
set_option maxHeartbeats 4000000 in
theorem tell82f_c (w : World) (k : Int) (K T M : Nat) (f : FS) (q : Sl) (was : Int) (dn : Bool) (hpc : f.pc = 82) (x0 : 0 <= f.s) (x1 : f.s <= 18446744073709551615) (m1 : 2 <= M) (m2 : M <= 64) (hd : dn = false) :
   Calls Tryz.prog 61 #[.agg #[.int .i64 k, .int .i64 K, .int .i64 T, .int .i64 M], .agg (f.v q).toArray, .int .u64 was, .bool dn] w fun e w' => e = .returned (.agg ((docTell k K T M f was dn).v q).toArray) /\ Below w.heap.size w w' := by
 obtain ⟨B0, C0, F0, Z0⟩ := pre3 w k K T M f q
 have hv4 : (f.v q).toArray[4]? = some (.int .i64 82) := by show some (Value.int .i64 f.pc) = _; rw [hpc]
 have hz : dn = false := hd
 have HT : Hid (docTell k K T M f was dn = ({ f with pc := 81 } : FS)) := lh (by rw [tell82 was dn hpc, if_neg (by rw [hd]; decide)])
 clear hpc
 clear hd
 go_enter Tryz.func61, Tryz.ntmps61
 go_upto_region 1 with fail
 generalize ((w2 w k K T M f q).alloc (.cells zF 107)) = V at B0 C0 F0 Z0 ⊢
 have hc0 := C0.out.cell
 refine wp_region_lit ?_
 refine wpList_load_mid rfl 107 (.tmp 5) rfl (w.heap.size + 1) 0 (by simp [Act.eval]) (f.v q) _ (rF F0.out) Tryz.underlying107 rfl f_size ?_
 go_upto_region 207 with (first
   | (go_at_call 67; (with_reducible refine (life_d f q x0 x1 m1 m2 B0 C0 F0 Z0).mono ?_); rintro e w1 ⟨rfl, B1, F1, Z1, C1⟩; have hf1c := F1.out.cell; have hf1f := F1.out.frozen; have hc1 := C1.out.cell; clear hc0))
 refine wp_region_lit ?_
 refine wpList_load_mid rfl 107 (.tmp 5) rfl (w.heap.size + 1) 0 (by simp [Act.eval]) (f.v q) _ (rF F1.out) Tryz.underlying107 rfl f_size ?_
 go_wp2_with (first
   | (go_at_call 78; (with_reducible refine (to_c _ f q 81).mono ?_); rintro e w2 ⟨rfl, hb⟩; go_must (have B2 := lh (B1.out.trans (hb.mono B1.out.size)); have Z2 := lh (Z1.out.below hb Z1.out.lt)); clear hb)
   | (refine wpList_store_mid rfl 107 (.tmp 8) (.tmp 590) rfl (w.heap.size + 1 + 1) 0 (({ f with pc := 81 } : FS).v q).toArray (by simp [Act.eval]) (by simp [Act.eval]) (there24 Z2.out (by decide)) f_size (FS.one _ _) ?_))
 obtain ⟨R9, B9⟩ := fin9 (fe := ({ f with pc := 81 } : FS)) (q := q) Z2.out B2.out
 generalize w2.setCells (w.heap.size + 1 + 1) 0 (({ f with pc := 81 } : FS).v q) = V9 at R9 B9 ⊢
 refine bodyPost_ret (v := .agg (({ f with pc := 81 } : FS).v q).toArray) (results_cell1 (a := 8) Tryz.results61 rfl R9) rfl ?_
 exact ⟨by rw [HT.out], B9⟩
set_option maxHeartbeats 4000000 in
theorem tell35f_c (w : World) (k : Int) (K T M : Nat) (f : FS) (q : Sl) (was : Int) (dn : Bool) (hpc : f.pc = 35) (x0 : 0 <= f.s) (x1 : f.s <= 18446744073709551615) (m1 : 2 <= M) (m2 : M <= 64) (hd : dn = false) :
   Calls Tryz.prog 61 #[.agg #[.int .i64 k, .int .i64 K, .int .i64 T, .int .i64 M], .agg (f.v q).toArray, .int .u64 was, .bool dn] w fun e w' => e = .returned (.agg ((docTell k K T M f was dn).v q).toArray) /\ Below w.heap.size w w' := by
 obtain ⟨B0, C0, F0, Z0⟩ := pre3 w k K T M f q
 have hv4 : (f.v q).toArray[4]? = some (.int .i64 35) := by show some (Value.int .i64 f.pc) = _; rw [hpc]
 have hz : dn = false := hd
 have HT : Hid (docTell k K T M f was dn = ({ f with pc := 0 } : FS)) := lh (by rw [tell35 was dn hpc, if_neg (by rw [hd]; decide)])
 clear hpc
 clear hd
 go_enter Tryz.func61, Tryz.ntmps61
 go_upto_region 1 with fail
 generalize ((w2 w k K T M f q).alloc (.cells zF 107)) = V at B0 C0 F0 Z0 ⊢
 have hc0 := C0.out.cell
 refine wp_region_lit ?_
 refine wpList_load_mid rfl 107 (.tmp 5) rfl (w.heap.size + 1) 0 (by simp [Act.eval]) (f.v q) _ (rF F0.out) Tryz.underlying107 rfl f_size ?_
 go_upto_region 101 with (first
   | (go_at_call 67; (with_reducible refine (life_d f q x0 x1 m1 m2 B0 C0 F0 Z0).mono ?_); rintro e w1 ⟨rfl, B1, F1, Z1, C1⟩; have hf1c := F1.out.cell; have hf1f := F1.out.frozen; have hc1 := C1.out.cell; clear hc0))
 refine wp_region_lit ?_
 refine wpList_load_mid rfl 107 (.tmp 5) rfl (w.heap.size + 1) 0 (by simp [Act.eval]) (f.v q) _ (rF F1.out) Tryz.underlying107 rfl f_size ?_
 go_wp2_with (first
   | (go_at_call 78; (with_reducible refine (to_c _ f q 0).mono ?_); rintro e w2 ⟨rfl, hb⟩; go_must (have B2 := lh (B1.out.trans (hb.mono B1.out.size)); have Z2 := lh (Z1.out.below hb Z1.out.lt)); clear hb)
   | (refine wpList_store_mid rfl 107 (.tmp 8) (.tmp 300) rfl (w.heap.size + 1 + 1) 0 (({ f with pc := 0 } : FS).v q).toArray (by simp [Act.eval]) (by simp [Act.eval]) (there24 Z2.out (by decide)) f_size (FS.one _ _) ?_))
 obtain ⟨R9, B9⟩ := fin9 (fe := ({ f with pc := 0 } : FS)) (q := q) Z2.out B2.out
 generalize w2.setCells (w.heap.size + 1 + 1) 0 (({ f with pc := 0 } : FS).v q) = V9 at R9 B9 ⊢
 refine bodyPost_ret (v := .agg (({ f with pc := 0 } : FS).v q).toArray) (results_cell1 (a := 8) Tryz.results61 rfl R9) rfl ?_
 exact ⟨by rw [HT.out], B9⟩
set_option maxHeartbeats 4000000 in
theorem tell84f_c (w : World) (k : Int) (K T M : Nat) (f : FS) (q : Sl) (was : Int) (dn : Bool) (hpc : f.pc = 84) (x0 : 0 <= f.s) (x1 : f.s <= 18446744073709551615) (m1 : 2 <= M) (m2 : M <= 64) (hd : dn = false) :
   Calls Tryz.prog 61 #[.agg #[.int .i64 k, .int .i64 K, .int .i64 T, .int .i64 M], .agg (f.v q).toArray, .int .u64 was, .bool dn] w fun e w' => e = .returned (.agg ((docTell k K T M f was dn).v q).toArray) /\ Below w.heap.size w w' := by
 obtain ⟨B0, C0, F0, Z0⟩ := pre3 w k K T M f q
 have hv4 : (f.v q).toArray[4]? = some (.int .i64 84) := by show some (Value.int .i64 f.pc) = _; rw [hpc]
 have hz : (!dn) = true := by rw [hd]; rfl
 have HT : Hid (docTell k K T M f was dn = ({ f with pc := 81 } : FS)) := lh (by rw [tell84 was dn hpc, if_neg (by rw [hd]; decide)])
 clear hpc
 clear hd
 go_enter Tryz.func61, Tryz.ntmps61
 go_upto_region 1 with fail
 generalize ((w2 w k K T M f q).alloc (.cells zF 107)) = V at B0 C0 F0 Z0 ⊢
 have hc0 := C0.out.cell
 refine wp_region_lit ?_
 refine wpList_load_mid rfl 107 (.tmp 5) rfl (w.heap.size + 1) 0 (by simp [Act.eval]) (f.v q) _ (rF F0.out) Tryz.underlying107 rfl f_size ?_
 go_upto_region 212 with (first
   | (go_at_call 67; (with_reducible refine (life_d f q x0 x1 m1 m2 B0 C0 F0 Z0).mono ?_); rintro e w1 ⟨rfl, B1, F1, Z1, C1⟩; have hf1c := F1.out.cell; have hf1f := F1.out.frozen; have hc1 := C1.out.cell; clear hc0))
 refine wp_region_lit ?_
 refine wpList_load_mid rfl 107 (.tmp 5) rfl (w.heap.size + 1) 0 (by simp [Act.eval]) (f.v q) _ (rF F1.out) Tryz.underlying107 rfl f_size ?_
 go_wp2_with (first
   | (go_at_call 78; (with_reducible refine (to_c _ f q 81).mono ?_); rintro e w2 ⟨rfl, hb⟩; go_must (have B2 := lh (B1.out.trans (hb.mono B1.out.size)); have Z2 := lh (Z1.out.below hb Z1.out.lt)); clear hb)
   | (refine wpList_store_mid rfl 107 (.tmp 8) (.tmp 600) rfl (w.heap.size + 1 + 1) 0 (({ f with pc := 81 } : FS).v q).toArray (by simp [Act.eval]) (by simp [Act.eval]) (there24 Z2.out (by decide)) f_size (FS.one _ _) ?_))
 obtain ⟨R9, B9⟩ := fin9 (fe := ({ f with pc := 81 } : FS)) (q := q) Z2.out B2.out
 generalize w2.setCells (w.heap.size + 1 + 1) 0 (({ f with pc := 81 } : FS).v q) = V9 at R9 B9 ⊢
 refine bodyPost_ret (v := .agg (({ f with pc := 81 } : FS).v q).toArray) (results_cell1 (a := 8) Tryz.results61 rfl R9) rfl ?_
 exact ⟨by rw [HT.out], B9⟩
set_option maxHeartbeats 4000000 in
theorem tell30_c (w : World) (k : Int) (K T M : Nat) (f : FS) (q : Sl) (was : Int) (dn : Bool) (hpc : f.pc = 30) (x0 : 0 <= f.s) (x1 : f.s <= 18446744073709551615) (m1 : 2 <= M) (m2 : M <= 64) :
   Calls Tryz.prog 61 #[.agg #[.int .i64 k, .int .i64 K, .int .i64 T, .int .i64 M], .agg (f.v q).toArray, .int .u64 was, .bool dn] w fun e w' => e = .returned (.agg ((docTell k K T M f was dn).v q).toArray) /\ Below w.heap.size w w' := by
 obtain ⟨B0, C0, F0, Z0⟩ := pre3 w k K T M f q
 have hv4 : (f.v q).toArray[4]? = some (.int .i64 30) := by show some (Value.int .i64 f.pc) = _; rw [hpc]
 have HT : Hid (docTell k K T M f was dn = ({ f with g := was, pos := 0, pc := 31 } : FS)) := lh (by rw [tell30 was dn hpc])
 clear hpc
 go_enter Tryz.func61, Tryz.ntmps61
 go_upto_region 1 with fail
 generalize ((w2 w k K T M f q).alloc (.cells zF 107)) = V at B0 C0 F0 Z0 ⊢
 have hc0 := C0.out.cell
 refine wp_region_lit ?_
 refine wpList_load_mid rfl 107 (.tmp 5) rfl (w.heap.size + 1) 0 (by simp [Act.eval]) (f.v q) _ (rF F0.out) Tryz.underlying107 rfl f_size ?_
 go_upto_region 84 with (first
   | (go_at_call 67; (with_reducible refine (life_d f q x0 x1 m1 m2 B0 C0 F0 Z0).mono ?_); rintro e w1 ⟨rfl, B1, F1, Z1, C1⟩; have hf1c := F1.out.cell; have hf1f := F1.out.frozen; have hc1 := C1.out.cell; clear hc0))
 obtain ⟨f1, hf1⟩ : ∃ f1 : FS, f1 = { f with g := was } := ⟨_, rfl⟩
 have Hf1 := lh hf1
 have F2 : Hid (Blk (w1.setCell ⟨w.heap.size + 1, 8, none⟩ (.int .u64 was)) (w.heap.size + 1) 107 (f1.v q).toArray) := lh (by
   have h_ := F1.out.set_ 8 (.int .u64 was)
   rw [hf1]; exact h_)
 clear hf1
 have Z2 := lh (Z1.out.far (p := ⟨w.heap.size + 1, 8, none⟩) (show ¬ w.heap.size + 1 + 1 = w.heap.size + 1 by omega) (.int .u64 was))
 have B2 := lh (Below.setCell B1.out (p := ⟨w.heap.size + 1, 8, none⟩) (show w.heap.size <= w.heap.size + 1 by omega) (.int .u64 was))
 clear hf1c hf1f hc1 F1 Z1 B1 C1
 generalize w1.setCell ⟨w.heap.size + 1, 8, none⟩ (.int .u64 was) = w2 at F2 Z2 B2 ⊢
 have hf2c := F2.out.cell
 have hf2f := F2.out.frozen
 go_upto_region 85 with fail
 obtain ⟨f2, hf2⟩ : ∃ f2 : FS, f2 = { f1 with pos := 0 } := ⟨_, rfl⟩
 have Hf2 := lh hf2
 have F3 : Hid (Blk (w2.setCell ⟨w.heap.size + 1, 9, none⟩ (.int .i64 0)) (w.heap.size + 1) 107 (f2.v q).toArray) := lh (by
   have h_ := F2.out.set_ 9 (.int .i64 0)
   rw [hf2]; exact h_)
 clear hf2
 have Z3 := lh (Z2.out.far (p := ⟨w.heap.size + 1, 9, none⟩) (show ¬ w.heap.size + 1 + 1 = w.heap.size + 1 by omega) (.int .i64 0))
 have B3 := lh (Below.setCell B2.out (p := ⟨w.heap.size + 1, 9, none⟩) (show w.heap.size <= w.heap.size + 1 by omega) (.int .i64 0))
 clear hf2c hf2f F2 Z2 B2
 generalize w2.setCell ⟨w.heap.size + 1, 9, none⟩ (.int .i64 0) = w3 at F3 Z3 B3 ⊢
 have hf3c := F3.out.cell
 have hf3f := F3.out.frozen
 clear hf3c hf3f
 refine wp_region_lit ?_
 refine wpList_load_mid rfl 107 (.tmp 5) rfl (w.heap.size + 1) 0 (by simp [Act.eval]) (f2.v q) _ (rF F3.out) Tryz.underlying107 rfl f_size ?_
 go_wp2_with (first
   | (go_at_call 78; (with_reducible refine (to_c _ f2 q 31).mono ?_); rintro e w4 ⟨rfl, hb⟩; go_must (have B4 := lh (B3.out.trans (hb.mono B3.out.size)); have Z4 := lh (Z3.out.below hb Z3.out.lt)); clear hb)
   | (refine wpList_store_mid rfl 107 (.tmp 8) (.tmp 236) rfl (w.heap.size + 1 + 1) 0 (({ f2 with pc := 31 } : FS).v q).toArray (by simp [Act.eval]) (by simp [Act.eval]) (there24 Z4.out (by decide)) f_size (FS.one _ _) ?_))
 obtain ⟨R9, B9⟩ := fin9 (fe := ({ f2 with pc := 31 } : FS)) (q := q) Z4.out B4.out
 generalize w4.setCells (w.heap.size + 1 + 1) 0 (({ f2 with pc := 31 } : FS).v q) = V9 at R9 B9 ⊢
 refine bodyPost_ret (v := .agg (({ f2 with pc := 31 } : FS).v q).toArray) (results_cell1 (a := 8) Tryz.results61 rfl R9) rfl ?_
 exact ⟨by rw [HT.out, Hf2.out, Hf1.out], B9⟩
set_option maxHeartbeats 4000000 in
theorem tell3a_c (w : World) (k : Int) (K T M : Nat) (f : FS) (q : Sl) (was : Int) (dn : Bool) (hpc : f.pc = 3) (x0 : 0 <= f.s) (x1 : f.s <= 18446744073709551615) (m1 : 2 <= M) (m2 : M <= 64) (hne : ¬ was = f.g) :
   Calls Tryz.prog 61 #[.agg #[.int .i64 k, .int .i64 K, .int .i64 T, .int .i64 M], .agg (f.v q).toArray, .int .u64 was, .bool dn] w fun e w' => e = .returned (.agg ((docTell k K T M f was dn).v q).toArray) /\ Below w.heap.size w w' := by
 obtain ⟨B0, C0, F0, Z0⟩ := pre3 w k K T M f q
 have hv4 : (f.v q).toArray[4]? = some (.int .i64 3) := by show some (Value.int .i64 f.pc) = _; rw [hpc]
 obtain ⟨gg, hgg⟩ : ∃ x, x = f.g := ⟨_, rfl⟩
 have hv8 : (f.v q).toArray[8]? = some (.int .u64 gg) := by rw [hgg]; rfl
 have hz : (was == gg) = false := beq_false_of_ne (by rw [hgg]; exact hne)
 have HT : Hid (docTell k K T M f was dn = ({ f with g := was, pc := 2 } : FS)) := lh (by rw [tell3 was dn hpc, if_pos hne])
 clear hpc
 clear hne
 clear hgg
 go_enter Tryz.func61, Tryz.ntmps61
 go_upto_region 1 with fail
 generalize ((w2 w k K T M f q).alloc (.cells zF 107)) = V at B0 C0 F0 Z0 ⊢
 have hc0 := C0.out.cell
 refine wp_region_lit ?_
 refine wpList_load_mid rfl 107 (.tmp 5) rfl (w.heap.size + 1) 0 (by simp [Act.eval]) (f.v q) _ (rF F0.out) Tryz.underlying107 rfl f_size ?_
 go_upto_region 14 with (first
   | (go_at_call 67; (with_reducible refine (life_d f q x0 x1 m1 m2 B0 C0 F0 Z0).mono ?_); rintro e w1 ⟨rfl, B1, F1, Z1, C1⟩; have hf1c := F1.out.cell; have hf1f := F1.out.frozen; have hc1 := C1.out.cell; clear hc0))
 obtain ⟨f1, hf1⟩ : ∃ f1 : FS, f1 = { f with g := was } := ⟨_, rfl⟩
 have Hf1 := lh hf1
 have F2 : Hid (Blk (w1.setCell ⟨w.heap.size + 1, 8, none⟩ (.int .u64 was)) (w.heap.size + 1) 107 (f1.v q).toArray) := lh (by
   have h_ := F1.out.set_ 8 (.int .u64 was)
   rw [hf1]; exact h_)
 clear hf1
 have Z2 := lh (Z1.out.far (p := ⟨w.heap.size + 1, 8, none⟩) (show ¬ w.heap.size + 1 + 1 = w.heap.size + 1 by omega) (.int .u64 was))
 have B2 := lh (Below.setCell B1.out (p := ⟨w.heap.size + 1, 8, none⟩) (show w.heap.size <= w.heap.size + 1 by omega) (.int .u64 was))
 clear hf1c hf1f hc1 F1 Z1 B1 C1
 generalize w1.setCell ⟨w.heap.size + 1, 8, none⟩ (.int .u64 was) = w2 at F2 Z2 B2 ⊢
 have hf2c := F2.out.cell
 have hf2f := F2.out.frozen
 clear hf2c hf2f
 refine wp_region_lit ?_
 refine wpList_load_mid rfl 107 (.tmp 5) rfl (w.heap.size + 1) 0 (by simp [Act.eval]) (f1.v q) _ (rF F2.out) Tryz.underlying107 rfl f_size ?_
 go_wp2_with (first
   | (go_at_call 78; (with_reducible refine (to_c _ f1 q 2).mono ?_); rintro e w3 ⟨rfl, hb⟩; go_must (have B3 := lh (B2.out.trans (hb.mono B2.out.size)); have Z3 := lh (Z2.out.below hb Z2.out.lt)); clear hb)
   | (refine wpList_store_mid rfl 107 (.tmp 8) (.tmp 42) rfl (w.heap.size + 1 + 1) 0 (({ f1 with pc := 2 } : FS).v q).toArray (by simp [Act.eval]) (by simp [Act.eval]) (there24 Z3.out (by decide)) f_size (FS.one _ _) ?_))
 obtain ⟨R9, B9⟩ := fin9 (fe := ({ f1 with pc := 2 } : FS)) (q := q) Z3.out B3.out
 generalize w3.setCells (w.heap.size + 1 + 1) 0 (({ f1 with pc := 2 } : FS).v q) = V9 at R9 B9 ⊢
 refine bodyPost_ret (v := .agg (({ f1 with pc := 2 } : FS).v q).toArray) (results_cell1 (a := 8) Tryz.results61 rfl R9) rfl ?_
 exact ⟨by rw [HT.out, Hf1.out], B9⟩
set_option maxHeartbeats 4000000 in
theorem tell3h_c (w : World) (k : Int) (K T M : Nat) (f : FS) (q : Sl) (was : Int) (dn : Bool) (hpc : f.pc = 3) (x0 : 0 <= f.s) (x1 : f.s <= 18446744073709551615) (m1 : 2 <= M) (m2 : M <= 64) (hne : was = f.g) (hkd : f.kd = 6) :
   Calls Tryz.prog 61 #[.agg #[.int .i64 k, .int .i64 K, .int .i64 T, .int .i64 M], .agg (f.v q).toArray, .int .u64 was, .bool dn] w fun e w' => e = .returned (.agg ((docTell k K T M f was dn).v q).toArray) /\ Below w.heap.size w w' := by
 obtain ⟨B0, C0, F0, Z0⟩ := pre3 w k K T M f q
 have hv4 : (f.v q).toArray[4]? = some (.int .i64 3) := by show some (Value.int .i64 f.pc) = _; rw [hpc]
 obtain ⟨gg, hgg⟩ : ∃ x, x = f.g := ⟨_, rfl⟩
 have hv8 : (f.v q).toArray[8]? = some (.int .u64 gg) := by rw [hgg]; rfl
 have hv0 : (f.v q).toArray[0]? = some (.int .i64 6) := by show some (Value.int .i64 f.kd) = _; rw [hkd]
 have hz : (was == gg) = true := by rw [hgg, hne]; exact beq_self_eq_true _
 have HT : Hid (docTell k K T M f was dn = ({ f with pc := 0 } : FS)) := lh (by rw [tell3 was dn hpc, if_neg (fun h => h hne), if_pos hkd])
 clear hpc
 clear hne
 clear hgg
 have HKD := lh hkd
 clear hkd
 go_enter Tryz.func61, Tryz.ntmps61
 go_upto_region 1 with fail
 generalize ((w2 w k K T M f q).alloc (.cells zF 107)) = V at B0 C0 F0 Z0 ⊢
 have hc0 := C0.out.cell
 refine wp_region_lit ?_
 refine wpList_load_mid rfl 107 (.tmp 5) rfl (w.heap.size + 1) 0 (by simp [Act.eval]) (f.v q) _ (rF F0.out) Tryz.underlying107 rfl f_size ?_
 go_upto_region 16 with (first
   | (go_at_call 67; (with_reducible refine (life_d f q x0 x1 m1 m2 B0 C0 F0 Z0).mono ?_); rintro e w1 ⟨rfl, B1, F1, Z1, C1⟩; have hf1c := F1.out.cell; have hf1f := F1.out.frozen; have hc1 := C1.out.cell; clear hc0))
 refine wp_region_lit ?_
 refine wpList_load_mid rfl 107 (.tmp 5) rfl (w.heap.size + 1) 0 (by simp [Act.eval]) (f.v q) _ (rF F1.out) Tryz.underlying107 rfl f_size ?_
 go_wp2_with (first
   | (go_at_call 78; (with_reducible refine (to_c _ f q 0).mono ?_); rintro e w2 ⟨rfl, hb⟩; go_must (have B2 := lh (B1.out.trans (hb.mono B1.out.size)); have Z2 := lh (Z1.out.below hb Z1.out.lt)); clear hb)
   | (refine wpList_store_mid rfl 107 (.tmp 8) (.tmp 47) rfl (w.heap.size + 1 + 1) 0 (({ f with pc := 0 } : FS).v q).toArray (by simp [Act.eval]) (by simp [Act.eval]) (there24 Z2.out (by decide)) f_size (FS.one _ _) ?_))
 obtain ⟨R9, B9⟩ := fin9 (fe := ({ f with pc := 0 } : FS)) (q := q) Z2.out B2.out
 generalize w2.setCells (w.heap.size + 1 + 1) 0 (({ f with pc := 0 } : FS).v q) = V9 at R9 B9 ⊢
 refine bodyPost_ret (v := .agg (({ f with pc := 0 } : FS).v q).toArray) (results_cell1 (a := 8) Tryz.results61 rfl R9) rfl ?_
 exact ⟨by rw [HT.out], B9⟩
set_option maxHeartbeats 4000000 in
theorem tell31a_c (w : World) (k : Int) (K T M : Nat) (f : FS) (q : Sl) (was : Int) (dn : Bool) (hpc : f.pc = 31) (x0 : 0 <= f.s) (x1 : f.s <= 18446744073709551615) (m1 : 2 <= M) (m2 : M <= 64) (h0 : ¬ was = 0) (h1 : ¬ was = Arenac.w64 (f.g + 1)) :
   Calls Tryz.prog 61 #[.agg #[.int .i64 k, .int .i64 K, .int .i64 T, .int .i64 M], .agg (f.v q).toArray, .int .u64 was, .bool dn] w fun e w' => e = .returned (.agg ((docTell k K T M f was dn).v q).toArray) /\ Below w.heap.size w w' := by
 obtain ⟨B0, C0, F0, Z0⟩ := pre3 w k K T M f q
 have hv4 : (f.v q).toArray[4]? = some (.int .i64 31) := by show some (Value.int .i64 f.pc) = _; rw [hpc]
 have hv8 : (f.v q).toArray[8]? = some (.int .u64 f.g) := rfl
 have gw : IntKind.u64.wrap (f.g + 1) = Arenac.w64 (f.g + 1) := by rw [IntKind.wrap_u64]; rfl
 have hz : (was != 0) = true := by simpa using h0
 have hz1 : (was != Arenac.w64 (f.g + 1)) = true := by simpa using h1
 have HT : Hid (docTell k K T M f was dn = ({ f with pc := 33 } : FS)) := lh (by rw [tell31 was dn hpc, if_pos ⟨h0, h1⟩])
 clear hpc
 go_enter Tryz.func61, Tryz.ntmps61
 go_upto_region 1 with fail
 generalize ((w2 w k K T M f q).alloc (.cells zF 107)) = V at B0 C0 F0 Z0 ⊢
 have hc0 := C0.out.cell
 refine wp_region_lit ?_
 refine wpList_load_mid rfl 107 (.tmp 5) rfl (w.heap.size + 1) 0 (by simp [Act.eval]) (f.v q) _ (rF F0.out) Tryz.underlying107 rfl f_size ?_
 go_upto_region 88 with (first
   | (go_at_call 67; (with_reducible refine (life_d f q x0 x1 m1 m2 B0 C0 F0 Z0).mono ?_); rintro e w1 ⟨rfl, B1, F1, Z1, C1⟩; have hf1c := F1.out.cell; have hf1f := F1.out.frozen; have hc1 := C1.out.cell; clear hc0))
 refine wp_region_lit ?_
 refine wpList_load_mid rfl 107 (.tmp 5) rfl (w.heap.size + 1) 0 (by simp [Act.eval]) (f.v q) _ (rF F1.out) Tryz.underlying107 rfl f_size ?_
 go_wp2_with (first
   | (go_at_call 78; (with_reducible refine (to_c _ f q 33).mono ?_); rintro e w2 ⟨rfl, hb⟩; go_must (have B2 := lh (B1.out.trans (hb.mono B1.out.size)); have Z2 := lh (Z1.out.below hb Z1.out.lt)); clear hb)
   | (refine wpList_store_mid rfl 107 (.tmp 8) (.tmp 249) rfl (w.heap.size + 1 + 1) 0 (({ f with pc := 33 } : FS).v q).toArray (by simp [Act.eval]) (by simp [Act.eval]) (there24 Z2.out (by decide)) f_size (FS.one _ _) ?_))
 obtain ⟨R9, B9⟩ := fin9 (fe := ({ f with pc := 33 } : FS)) (q := q) Z2.out B2.out
 generalize w2.setCells (w.heap.size + 1 + 1) 0 (({ f with pc := 33 } : FS).v q) = V9 at R9 B9 ⊢
 refine bodyPost_ret (v := .agg (({ f with pc := 33 } : FS).v q).toArray) (results_cell1 (a := 8) Tryz.results61 rfl R9) rfl ?_
 exact ⟨by rw [HT.out], B9⟩

end Go.Proofs.YtffppdcpiieapaaGreat.Machc
