/- A part of the proof. -/
import Derived.Test.YtffppdcpiieapaaGreatP21
namespace Go.Proofs.YtffppdcpiieapaaGreat.Machc
open Go.RowKit Memc Newc Drivec Procc Wordc Arenac
set_option linter.unusedVariables false
set_option maxRecDepth 100000

set_option maxHeartbeats 2000000 in
theorem ask1_c (w : World) (k K T : Int) (M : Nat) (f : FS) (q : Sl) (hpc : f.pc = 1) (x0 : 0 <= f.s) (x1 : f.s <= 18446744073709551615) (m1 : 2 <= M) (m2 : M <= 64) :
   Calls Tryz.prog 59 #[.agg #[.int .i64 k, .int .i64 K, .int .i64 T, .int .i64 M], .agg (f.v q).toArray] w fun e w' => e = .returned (.agg #[.int .i64 1, .int .i64 1, .int .i64 0, .int .u64 0, .int .u64 0]) /\ Below w.heap.size w w' := by
 obtain ⟨B0, C0, F0, A0⟩ := pre3a w k K T M f q
 have hv4 : (f.v q).toArray[4]? = some (.int .i64 1) := by show some (Value.int .i64 f.pc) = _; rw [hpc]
 clear hpc
 go_enter Tryz.func59, Tryz.ntmps59
 go_upto_region 1 with fail
 generalize ((w2 w k K T M f q).alloc (.cells #[.int .i64 0, .int .i64 0, .int .i64 0, .int .u64 0, .int .u64 0] 66)) = V at B0 C0 F0 A0 ⊢
 have hc0 := C0.out.cell
 refine wp_region_lit ?_
 refine wpList_load_mid rfl 107 (.tmp 3) rfl (w.heap.size + 1) 0 (by simp [Act.eval]) (f.v q) _ (range24 F0.out (fun j v hj => by rw [Nat.zero_add]; simpa using hj)) Tryz.underlying107 rfl f_size ?_
 go_wp2_with (first
   | (go_at_call 67; (with_reducible refine (life_a f q x0 x1 m1 m2 B0 F0 A0).mono ?_); rintro e w1 ⟨rfl, B1, F1, A1⟩; have hf1 := F1.out.cell; have ha1 := A1.out.cell; have ha1f := A1.out.frozen; clear hc0))
 obtain ⟨A9, B9⟩ := fin5 A1 B1 (.int .i64 1) (.int .i64 1) (.int .i64 0) (.int .u64 0) (.int .u64 0)
 clear hf1 ha1 ha1f
 generalize (((((w1.setCell ⟨w.heap.size + 1 + 1, 0, none⟩ (.int .i64 1)).setCell ⟨w.heap.size + 1 + 1, 1, none⟩ (.int .i64 1)).setCell ⟨w.heap.size + 1 + 1, 2, none⟩ (.int .i64 0)).setCell ⟨w.heap.size + 1 + 1, 3, none⟩ (.int .u64 0)).setCell ⟨w.heap.size + 1 + 1, 4, none⟩ (.int .u64 0)) = V9 at A9 B9 ⊢
 have ha9 := A9.out.cell
 refine bodyPost_ret (v := .agg #[.int .i64 1, .int .i64 1, .int .i64 0, .int .u64 0, .int .u64 0]) (by simp [results, Tryz.results59, go_sem, ha9]) rfl ?_
 exact ⟨rfl, B9.out⟩
set_option maxHeartbeats 2000000 in
theorem ask3_c (w : World) (k K T : Int) (M : Nat) (f : FS) (q : Sl) (hpc : f.pc = 3) (x0 : 0 <= f.s) (x1 : f.s <= 18446744073709551615) (m1 : 2 <= M) (m2 : M <= 64) :
   Calls Tryz.prog 59 #[.agg #[.int .i64 k, .int .i64 K, .int .i64 T, .int .i64 M], .agg (f.v q).toArray] w fun e w' => e = .returned (.agg #[.int .i64 1, .int .i64 1, .int .i64 0, .int .u64 0, .int .u64 0]) /\ Below w.heap.size w w' := by
 obtain ⟨B0, C0, F0, A0⟩ := pre3a w k K T M f q
 have hv4 : (f.v q).toArray[4]? = some (.int .i64 3) := by show some (Value.int .i64 f.pc) = _; rw [hpc]
 clear hpc
 go_enter Tryz.func59, Tryz.ntmps59
 go_upto_region 1 with fail
 generalize ((w2 w k K T M f q).alloc (.cells #[.int .i64 0, .int .i64 0, .int .i64 0, .int .u64 0, .int .u64 0] 66)) = V at B0 C0 F0 A0 ⊢
 have hc0 := C0.out.cell
 refine wp_region_lit ?_
 refine wpList_load_mid rfl 107 (.tmp 3) rfl (w.heap.size + 1) 0 (by simp [Act.eval]) (f.v q) _ (range24 F0.out (fun j v hj => by rw [Nat.zero_add]; simpa using hj)) Tryz.underlying107 rfl f_size ?_
 go_wp2_with (first
   | (go_at_call 67; (with_reducible refine (life_a f q x0 x1 m1 m2 B0 F0 A0).mono ?_); rintro e w1 ⟨rfl, B1, F1, A1⟩; have hf1 := F1.out.cell; have ha1 := A1.out.cell; have ha1f := A1.out.frozen; clear hc0))
 obtain ⟨A9, B9⟩ := fin5 A1 B1 (.int .i64 1) (.int .i64 1) (.int .i64 0) (.int .u64 0) (.int .u64 0)
 clear hf1 ha1 ha1f
 generalize (((((w1.setCell ⟨w.heap.size + 1 + 1, 0, none⟩ (.int .i64 1)).setCell ⟨w.heap.size + 1 + 1, 1, none⟩ (.int .i64 1)).setCell ⟨w.heap.size + 1 + 1, 2, none⟩ (.int .i64 0)).setCell ⟨w.heap.size + 1 + 1, 3, none⟩ (.int .u64 0)).setCell ⟨w.heap.size + 1 + 1, 4, none⟩ (.int .u64 0)) = V9 at A9 B9 ⊢
 have ha9 := A9.out.cell
 refine bodyPost_ret (v := .agg #[.int .i64 1, .int .i64 1, .int .i64 0, .int .u64 0, .int .u64 0]) (by simp [results, Tryz.results59, go_sem, ha9]) rfl ?_
 exact ⟨rfl, B9.out⟩
set_option maxHeartbeats 2000000 in
theorem ask30_c (w : World) (k K T : Int) (M : Nat) (f : FS) (q : Sl) (hpc : f.pc = 30) (x0 : 0 <= f.s) (x1 : f.s <= 18446744073709551615) (m1 : 2 <= M) (m2 : M <= 64) :
   Calls Tryz.prog 59 #[.agg #[.int .i64 k, .int .i64 K, .int .i64 T, .int .i64 M], .agg (f.v q).toArray] w fun e w' => e = .returned (.agg #[.int .i64 1, .int .i64 1, .int .i64 0, .int .u64 0, .int .u64 0]) /\ Below w.heap.size w w' := by
 obtain ⟨B0, C0, F0, A0⟩ := pre3a w k K T M f q
 have hv4 : (f.v q).toArray[4]? = some (.int .i64 30) := by show some (Value.int .i64 f.pc) = _; rw [hpc]
 clear hpc
 go_enter Tryz.func59, Tryz.ntmps59
 go_upto_region 1 with fail
 generalize ((w2 w k K T M f q).alloc (.cells #[.int .i64 0, .int .i64 0, .int .i64 0, .int .u64 0, .int .u64 0] 66)) = V at B0 C0 F0 A0 ⊢
 have hc0 := C0.out.cell
 refine wp_region_lit ?_
 refine wpList_load_mid rfl 107 (.tmp 3) rfl (w.heap.size + 1) 0 (by simp [Act.eval]) (f.v q) _ (range24 F0.out (fun j v hj => by rw [Nat.zero_add]; simpa using hj)) Tryz.underlying107 rfl f_size ?_
 go_wp2_with (first
   | (go_at_call 67; (with_reducible refine (life_a f q x0 x1 m1 m2 B0 F0 A0).mono ?_); rintro e w1 ⟨rfl, B1, F1, A1⟩; have hf1 := F1.out.cell; have ha1 := A1.out.cell; have ha1f := A1.out.frozen; clear hc0))
 obtain ⟨A9, B9⟩ := fin5 A1 B1 (.int .i64 1) (.int .i64 1) (.int .i64 0) (.int .u64 0) (.int .u64 0)
 clear hf1 ha1 ha1f
 generalize (((((w1.setCell ⟨w.heap.size + 1 + 1, 0, none⟩ (.int .i64 1)).setCell ⟨w.heap.size + 1 + 1, 1, none⟩ (.int .i64 1)).setCell ⟨w.heap.size + 1 + 1, 2, none⟩ (.int .i64 0)).setCell ⟨w.heap.size + 1 + 1, 3, none⟩ (.int .u64 0)).setCell ⟨w.heap.size + 1 + 1, 4, none⟩ (.int .u64 0)) = V9 at A9 B9 ⊢
 have ha9 := A9.out.cell
 refine bodyPost_ret (v := .agg #[.int .i64 1, .int .i64 1, .int .i64 0, .int .u64 0, .int .u64 0]) (by simp [results, Tryz.results59, go_sem, ha9]) rfl ?_
 exact ⟨rfl, B9.out⟩
set_option maxHeartbeats 2000000 in
theorem ask33_c (w : World) (k K T : Int) (M : Nat) (f : FS) (q : Sl) (hpc : f.pc = 33) (x0 : 0 <= f.s) (x1 : f.s <= 18446744073709551615) (m1 : 2 <= M) (m2 : M <= 64) :
   Calls Tryz.prog 59 #[.agg #[.int .i64 k, .int .i64 K, .int .i64 T, .int .i64 M], .agg (f.v q).toArray] w fun e w' => e = .returned (.agg #[.int .i64 1, .int .i64 1, .int .i64 0, .int .u64 0, .int .u64 0]) /\ Below w.heap.size w w' := by
 obtain ⟨B0, C0, F0, A0⟩ := pre3a w k K T M f q
 have hv4 : (f.v q).toArray[4]? = some (.int .i64 33) := by show some (Value.int .i64 f.pc) = _; rw [hpc]
 clear hpc
 go_enter Tryz.func59, Tryz.ntmps59
 go_upto_region 1 with fail
 generalize ((w2 w k K T M f q).alloc (.cells #[.int .i64 0, .int .i64 0, .int .i64 0, .int .u64 0, .int .u64 0] 66)) = V at B0 C0 F0 A0 ⊢
 have hc0 := C0.out.cell
 refine wp_region_lit ?_
 refine wpList_load_mid rfl 107 (.tmp 3) rfl (w.heap.size + 1) 0 (by simp [Act.eval]) (f.v q) _ (range24 F0.out (fun j v hj => by rw [Nat.zero_add]; simpa using hj)) Tryz.underlying107 rfl f_size ?_
 go_wp2_with (first
   | (go_at_call 67; (with_reducible refine (life_a f q x0 x1 m1 m2 B0 F0 A0).mono ?_); rintro e w1 ⟨rfl, B1, F1, A1⟩; have hf1 := F1.out.cell; have ha1 := A1.out.cell; have ha1f := A1.out.frozen; clear hc0))
 obtain ⟨A9, B9⟩ := fin5 A1 B1 (.int .i64 1) (.int .i64 1) (.int .i64 0) (.int .u64 0) (.int .u64 0)
 clear hf1 ha1 ha1f
 generalize (((((w1.setCell ⟨w.heap.size + 1 + 1, 0, none⟩ (.int .i64 1)).setCell ⟨w.heap.size + 1 + 1, 1, none⟩ (.int .i64 1)).setCell ⟨w.heap.size + 1 + 1, 2, none⟩ (.int .i64 0)).setCell ⟨w.heap.size + 1 + 1, 3, none⟩ (.int .u64 0)).setCell ⟨w.heap.size + 1 + 1, 4, none⟩ (.int .u64 0)) = V9 at A9 B9 ⊢
 have ha9 := A9.out.cell
 refine bodyPost_ret (v := .agg #[.int .i64 1, .int .i64 1, .int .i64 0, .int .u64 0, .int .u64 0]) (by simp [results, Tryz.results59, go_sem, ha9]) rfl ?_
 exact ⟨rfl, B9.out⟩
set_option maxHeartbeats 2000000 in
theorem ask80_c (w : World) (k K T : Int) (M : Nat) (f : FS) (q : Sl) (hpc : f.pc = 80) (x0 : 0 <= f.s) (x1 : f.s <= 18446744073709551615) (m1 : 2 <= M) (m2 : M <= 64) :
   Calls Tryz.prog 59 #[.agg #[.int .i64 k, .int .i64 K, .int .i64 T, .int .i64 M], .agg (f.v q).toArray] w fun e w' => e = .returned (.agg #[.int .i64 1, .int .i64 1, .int .i64 0, .int .u64 0, .int .u64 0]) /\ Below w.heap.size w w' := by
 obtain ⟨B0, C0, F0, A0⟩ := pre3a w k K T M f q
 have hv4 : (f.v q).toArray[4]? = some (.int .i64 80) := by show some (Value.int .i64 f.pc) = _; rw [hpc]
 clear hpc
 go_enter Tryz.func59, Tryz.ntmps59
 go_upto_region 1 with fail
 generalize ((w2 w k K T M f q).alloc (.cells #[.int .i64 0, .int .i64 0, .int .i64 0, .int .u64 0, .int .u64 0] 66)) = V at B0 C0 F0 A0 ⊢
 have hc0 := C0.out.cell
 refine wp_region_lit ?_
 refine wpList_load_mid rfl 107 (.tmp 3) rfl (w.heap.size + 1) 0 (by simp [Act.eval]) (f.v q) _ (range24 F0.out (fun j v hj => by rw [Nat.zero_add]; simpa using hj)) Tryz.underlying107 rfl f_size ?_
 go_wp2_with (first
   | (go_at_call 67; (with_reducible refine (life_a f q x0 x1 m1 m2 B0 F0 A0).mono ?_); rintro e w1 ⟨rfl, B1, F1, A1⟩; have hf1 := F1.out.cell; have ha1 := A1.out.cell; have ha1f := A1.out.frozen; clear hc0))
 obtain ⟨A9, B9⟩ := fin5 A1 B1 (.int .i64 1) (.int .i64 1) (.int .i64 0) (.int .u64 0) (.int .u64 0)
 clear hf1 ha1 ha1f
 generalize (((((w1.setCell ⟨w.heap.size + 1 + 1, 0, none⟩ (.int .i64 1)).setCell ⟨w.heap.size + 1 + 1, 1, none⟩ (.int .i64 1)).setCell ⟨w.heap.size + 1 + 1, 2, none⟩ (.int .i64 0)).setCell ⟨w.heap.size + 1 + 1, 3, none⟩ (.int .u64 0)).setCell ⟨w.heap.size + 1 + 1, 4, none⟩ (.int .u64 0)) = V9 at A9 B9 ⊢
 have ha9 := A9.out.cell
 refine bodyPost_ret (v := .agg #[.int .i64 1, .int .i64 1, .int .i64 0, .int .u64 0, .int .u64 0]) (by simp [results, Tryz.results59, go_sem, ha9]) rfl ?_
 exact ⟨rfl, B9.out⟩
set_option maxHeartbeats 2000000 in
theorem ask2_c (w : World) (k K T : Int) (M : Nat) (f : FS) (q : Sl) (hpc : f.pc = 2) (x0 : 0 <= f.s) (x1 : f.s <= 18446744073709551615) (m1 : 2 <= M) (m2 : M <= 64) (g0 : 0 <= f.g) (g1 : f.g <= 18446744073709551615) :
   Calls Tryz.prog 59 #[.agg #[.int .i64 k, .int .i64 K, .int .i64 T, .int .i64 M], .agg (f.v q).toArray] w fun e w' => e = .returned (.agg #[.int .i64 2, .int .i64 4, .int .i64 f.t, .int .u64 0, .int .u64 (Arenac.w64 (f.g + 1))]) /\ Below w.heap.size w w' := by
 obtain ⟨B0, C0, F0, A0⟩ := pre3a w k K T M f q
 have hv4 : (f.v q).toArray[4]? = some (.int .i64 2) := by show some (Value.int .i64 f.pc) = _; rw [hpc]
 have hv3 : (f.v q).toArray[2]? = some (.int .i64 f.t) := rfl
 have hv8 : (f.v q).toArray[8]? = some (.int .u64 f.g) := rfl
 have gw : IntKind.u64.wrap (f.g + 1) = Arenac.w64 (f.g + 1) := by rw [IntKind.wrap_u64]; rfl
 clear hpc
 go_enter Tryz.func59, Tryz.ntmps59
 go_upto_region 1 with fail
 generalize ((w2 w k K T M f q).alloc (.cells #[.int .i64 0, .int .i64 0, .int .i64 0, .int .u64 0, .int .u64 0] 66)) = V at B0 C0 F0 A0 ⊢
 have hc0 := C0.out.cell
 refine wp_region_lit ?_
 refine wpList_load_mid rfl 107 (.tmp 3) rfl (w.heap.size + 1) 0 (by simp [Act.eval]) (f.v q) _ (range24 F0.out (fun j v hj => by rw [Nat.zero_add]; simpa using hj)) Tryz.underlying107 rfl f_size ?_
 go_wp2_with (first
   | (go_at_call 67; (with_reducible refine (life_a f q x0 x1 m1 m2 B0 F0 A0).mono ?_); rintro e w1 ⟨rfl, B1, F1, A1⟩; have hf1 := F1.out.cell; have ha1 := A1.out.cell; have ha1f := A1.out.frozen; clear hc0))
 obtain ⟨A9, B9⟩ := fin5 A1 B1 (.int .i64 2) (.int .i64 4) (.int .i64 f.t) (.int .u64 0) (.int .u64 (Arenac.w64 (f.g + 1)))
 clear hf1 ha1 ha1f
 generalize (((((w1.setCell ⟨w.heap.size + 1 + 1, 0, none⟩ (.int .i64 2)).setCell ⟨w.heap.size + 1 + 1, 1, none⟩ (.int .i64 4)).setCell ⟨w.heap.size + 1 + 1, 2, none⟩ (.int .i64 f.t)).setCell ⟨w.heap.size + 1 + 1, 3, none⟩ (.int .u64 0)).setCell ⟨w.heap.size + 1 + 1, 4, none⟩ (.int .u64 (Arenac.w64 (f.g + 1)))) = V9 at A9 B9 ⊢
 have ha9 := A9.out.cell
 refine bodyPost_ret (v := .agg #[.int .i64 2, .int .i64 4, .int .i64 f.t, .int .u64 0, .int .u64 (Arenac.w64 (f.g + 1))]) (by simp [results, Tryz.results59, go_sem, ha9]) rfl ?_
 exact ⟨rfl, B9.out⟩
set_option maxHeartbeats 2000000 in
theorem ask4_c (w : World) (k K T : Int) (M : Nat) (f : FS) (q : Sl) (hpc : f.pc = 4) (x0 : 0 <= f.s) (x1 : f.s <= 18446744073709551615) (m1 : 2 <= M) (m2 : M <= 64) :
   Calls Tryz.prog 59 #[.agg #[.int .i64 k, .int .i64 K, .int .i64 T, .int .i64 M], .agg (f.v q).toArray] w fun e w' => e = .returned (.agg #[.int .i64 2, .int .i64 4, .int .i64 f.t, .int .u64 0, .int .u64 0]) /\ Below w.heap.size w w' := by
 obtain ⟨B0, C0, F0, A0⟩ := pre3a w k K T M f q
 have hv4 : (f.v q).toArray[4]? = some (.int .i64 4) := by show some (Value.int .i64 f.pc) = _; rw [hpc]
 have hv3 : (f.v q).toArray[2]? = some (.int .i64 f.t) := rfl
 clear hpc
 go_enter Tryz.func59, Tryz.ntmps59
 go_upto_region 1 with fail
 generalize ((w2 w k K T M f q).alloc (.cells #[.int .i64 0, .int .i64 0, .int .i64 0, .int .u64 0, .int .u64 0] 66)) = V at B0 C0 F0 A0 ⊢
 have hc0 := C0.out.cell
 refine wp_region_lit ?_
 refine wpList_load_mid rfl 107 (.tmp 3) rfl (w.heap.size + 1) 0 (by simp [Act.eval]) (f.v q) _ (range24 F0.out (fun j v hj => by rw [Nat.zero_add]; simpa using hj)) Tryz.underlying107 rfl f_size ?_
 go_wp2_with (first
   | (go_at_call 67; (with_reducible refine (life_a f q x0 x1 m1 m2 B0 F0 A0).mono ?_); rintro e w1 ⟨rfl, B1, F1, A1⟩; have hf1 := F1.out.cell; have ha1 := A1.out.cell; have ha1f := A1.out.frozen; clear hc0))
 obtain ⟨A9, B9⟩ := fin5 A1 B1 (.int .i64 2) (.int .i64 4) (.int .i64 f.t) (.int .u64 0) (.int .u64 0)
 clear hf1 ha1 ha1f
 generalize (((((w1.setCell ⟨w.heap.size + 1 + 1, 0, none⟩ (.int .i64 2)).setCell ⟨w.heap.size + 1 + 1, 1, none⟩ (.int .i64 4)).setCell ⟨w.heap.size + 1 + 1, 2, none⟩ (.int .i64 f.t)).setCell ⟨w.heap.size + 1 + 1, 3, none⟩ (.int .u64 0)).setCell ⟨w.heap.size + 1 + 1, 4, none⟩ (.int .u64 0)) = V9 at A9 B9 ⊢
 have ha9 := A9.out.cell
 refine bodyPost_ret (v := .agg #[.int .i64 2, .int .i64 4, .int .i64 f.t, .int .u64 0, .int .u64 0]) (by simp [results, Tryz.results59, go_sem, ha9]) rfl ?_
 exact ⟨rfl, B9.out⟩
set_option maxHeartbeats 2000000 in
theorem ask31_c (w : World) (k K T : Int) (M : Nat) (f : FS) (q : Sl) (hpc : f.pc = 31) (x0 : 0 <= f.s) (x1 : f.s <= 18446744073709551615) (m1 : 2 <= M) (m2 : M <= 64) :
   Calls Tryz.prog 59 #[.agg #[.int .i64 k, .int .i64 K, .int .i64 T, .int .i64 M], .agg (f.v q).toArray] w fun e w' => e = .returned (.agg #[.int .i64 1, .int .i64 4, .int .i64 f.pos, .int .u64 0, .int .u64 0]) /\ Below w.heap.size w w' := by
 obtain ⟨B0, C0, F0, A0⟩ := pre3a w k K T M f q
 have hv4 : (f.v q).toArray[4]? = some (.int .i64 31) := by show some (Value.int .i64 f.pc) = _; rw [hpc]
 have hv9 : (f.v q).toArray[9]? = some (.int .i64 f.pos) := rfl
 clear hpc
 go_enter Tryz.func59, Tryz.ntmps59
 go_upto_region 1 with fail
 generalize ((w2 w k K T M f q).alloc (.cells #[.int .i64 0, .int .i64 0, .int .i64 0, .int .u64 0, .int .u64 0] 66)) = V at B0 C0 F0 A0 ⊢
 have hc0 := C0.out.cell
 refine wp_region_lit ?_
 refine wpList_load_mid rfl 107 (.tmp 3) rfl (w.heap.size + 1) 0 (by simp [Act.eval]) (f.v q) _ (range24 F0.out (fun j v hj => by rw [Nat.zero_add]; simpa using hj)) Tryz.underlying107 rfl f_size ?_
 go_wp2_with (first
   | (go_at_call 67; (with_reducible refine (life_a f q x0 x1 m1 m2 B0 F0 A0).mono ?_); rintro e w1 ⟨rfl, B1, F1, A1⟩; have hf1 := F1.out.cell; have ha1 := A1.out.cell; have ha1f := A1.out.frozen; clear hc0))
 obtain ⟨A9, B9⟩ := fin5 A1 B1 (.int .i64 1) (.int .i64 4) (.int .i64 f.pos) (.int .u64 0) (.int .u64 0)
 clear hf1 ha1 ha1f
 generalize (((((w1.setCell ⟨w.heap.size + 1 + 1, 0, none⟩ (.int .i64 1)).setCell ⟨w.heap.size + 1 + 1, 1, none⟩ (.int .i64 4)).setCell ⟨w.heap.size + 1 + 1, 2, none⟩ (.int .i64 f.pos)).setCell ⟨w.heap.size + 1 + 1, 3, none⟩ (.int .u64 0)).setCell ⟨w.heap.size + 1 + 1, 4, none⟩ (.int .u64 0)) = V9 at A9 B9 ⊢
 have ha9 := A9.out.cell
 refine bodyPost_ret (v := .agg #[.int .i64 1, .int .i64 4, .int .i64 f.pos, .int .u64 0, .int .u64 0]) (by simp [results, Tryz.results59, go_sem, ha9]) rfl ?_
 exact ⟨rfl, B9.out⟩
set_option maxHeartbeats 2000000 in
theorem ask32_c (w : World) (k K T : Int) (M : Nat) (f : FS) (q : Sl) (hpc : f.pc = 32) (x0 : 0 <= f.s) (x1 : f.s <= 18446744073709551615) (m1 : 2 <= M) (m2 : M <= 64) (g0 : 0 <= f.g) (g1 : f.g <= 18446744073709551615) :
   Calls Tryz.prog 59 #[.agg #[.int .i64 k, .int .i64 K, .int .i64 T, .int .i64 M], .agg (f.v q).toArray] w fun e w' => e = .returned (.agg #[.int .i64 3, .int .i64 1, .int .i64 0, .int .u64 f.g, .int .u64 (Arenac.w64 (f.g + 1))]) /\ Below w.heap.size w w' := by
 obtain ⟨B0, C0, F0, A0⟩ := pre3a w k K T M f q
 have hv4 : (f.v q).toArray[4]? = some (.int .i64 32) := by show some (Value.int .i64 f.pc) = _; rw [hpc]
 have hv8 : (f.v q).toArray[8]? = some (.int .u64 f.g) := rfl
 have gw : IntKind.u64.wrap (f.g + 1) = Arenac.w64 (f.g + 1) := by rw [IntKind.wrap_u64]; rfl
 clear hpc
 go_enter Tryz.func59, Tryz.ntmps59
 go_upto_region 1 with fail
 generalize ((w2 w k K T M f q).alloc (.cells #[.int .i64 0, .int .i64 0, .int .i64 0, .int .u64 0, .int .u64 0] 66)) = V at B0 C0 F0 A0 ⊢
 have hc0 := C0.out.cell
 refine wp_region_lit ?_
 refine wpList_load_mid rfl 107 (.tmp 3) rfl (w.heap.size + 1) 0 (by simp [Act.eval]) (f.v q) _ (range24 F0.out (fun j v hj => by rw [Nat.zero_add]; simpa using hj)) Tryz.underlying107 rfl f_size ?_
 go_wp2_with (first
   | (go_at_call 67; (with_reducible refine (life_a f q x0 x1 m1 m2 B0 F0 A0).mono ?_); rintro e w1 ⟨rfl, B1, F1, A1⟩; have hf1 := F1.out.cell; have ha1 := A1.out.cell; have ha1f := A1.out.frozen; clear hc0))
 obtain ⟨A9, B9⟩ := fin5 A1 B1 (.int .i64 3) (.int .i64 1) (.int .i64 0) (.int .u64 f.g) (.int .u64 (Arenac.w64 (f.g + 1)))
 clear hf1 ha1 ha1f
 generalize (((((w1.setCell ⟨w.heap.size + 1 + 1, 0, none⟩ (.int .i64 3)).setCell ⟨w.heap.size + 1 + 1, 1, none⟩ (.int .i64 1)).setCell ⟨w.heap.size + 1 + 1, 2, none⟩ (.int .i64 0)).setCell ⟨w.heap.size + 1 + 1, 3, none⟩ (.int .u64 f.g)).setCell ⟨w.heap.size + 1 + 1, 4, none⟩ (.int .u64 (Arenac.w64 (f.g + 1)))) = V9 at A9 B9 ⊢
 have ha9 := A9.out.cell
 refine bodyPost_ret (v := .agg #[.int .i64 3, .int .i64 1, .int .i64 0, .int .u64 f.g, .int .u64 (Arenac.w64 (f.g + 1))]) (by simp [results, Tryz.results59, go_sem, ha9]) rfl ?_
 exact ⟨rfl, B9.out⟩
set_option maxHeartbeats 2000000 in
theorem ask34_c (w : World) (k K T : Int) (M : Nat) (f : FS) (q : Sl) (hpc : f.pc = 34) (x0 : 0 <= f.s) (x1 : f.s <= 18446744073709551615) (m1 : 2 <= M) (m2 : M <= 64) (g0 : 0 <= f.g) (g1 : f.g <= 18446744073709551615) :
   Calls Tryz.prog 59 #[.agg #[.int .i64 k, .int .i64 K, .int .i64 T, .int .i64 M], .agg (f.v q).toArray] w fun e w' => e = .returned (.agg #[.int .i64 1, .int .i64 3, .int .i64 (Arenac.w64 (f.g + 1) % 3), .int .u64 0, .int .u64 0]) /\ Below w.heap.size w w' := by
 obtain ⟨B0, C0, F0, A0⟩ := pre3a w k K T M f q
 have hv4 : (f.v q).toArray[4]? = some (.int .i64 34) := by show some (Value.int .i64 f.pc) = _; rw [hpc]
 have hv8 : (f.v q).toArray[8]? = some (.int .u64 f.g) := rfl
 have gw : IntKind.u64.wrap (f.g + 1) = Arenac.w64 (f.g + 1) := by rw [IntKind.wrap_u64]; rfl
 have gm : (Arenac.w64 (f.g + 1)).tmod 3 = Arenac.w64 (f.g + 1) % 3 := Int.tmod_eq_emod_of_nonneg (by unfold Arenac.w64; omega)
 have gc : IntKind.i64.wrap (Arenac.w64 (f.g + 1) % 3) = Arenac.w64 (f.g + 1) % 3 := by rw [IntKind.wrap_i64]; omega
 clear hpc
 go_enter Tryz.func59, Tryz.ntmps59
 go_upto_region 1 with fail
 generalize ((w2 w k K T M f q).alloc (.cells #[.int .i64 0, .int .i64 0, .int .i64 0, .int .u64 0, .int .u64 0] 66)) = V at B0 C0 F0 A0 ⊢
 have hc0 := C0.out.cell
 refine wp_region_lit ?_
 refine wpList_load_mid rfl 107 (.tmp 3) rfl (w.heap.size + 1) 0 (by simp [Act.eval]) (f.v q) _ (range24 F0.out (fun j v hj => by rw [Nat.zero_add]; simpa using hj)) Tryz.underlying107 rfl f_size ?_
 go_wp2_with (first
   | (go_at_call 67; (with_reducible refine (life_a f q x0 x1 m1 m2 B0 F0 A0).mono ?_); rintro e w1 ⟨rfl, B1, F1, A1⟩; have hf1 := F1.out.cell; have ha1 := A1.out.cell; have ha1f := A1.out.frozen; clear hc0))
 obtain ⟨A9, B9⟩ := fin5 A1 B1 (.int .i64 1) (.int .i64 3) (.int .i64 (Arenac.w64 (f.g + 1) % 3)) (.int .u64 0) (.int .u64 0)
 clear hf1 ha1 ha1f
 generalize (((((w1.setCell ⟨w.heap.size + 1 + 1, 0, none⟩ (.int .i64 1)).setCell ⟨w.heap.size + 1 + 1, 1, none⟩ (.int .i64 3)).setCell ⟨w.heap.size + 1 + 1, 2, none⟩ (.int .i64 (Arenac.w64 (f.g + 1) % 3))).setCell ⟨w.heap.size + 1 + 1, 3, none⟩ (.int .u64 0)).setCell ⟨w.heap.size + 1 + 1, 4, none⟩ (.int .u64 0)) = V9 at A9 B9 ⊢
 have ha9 := A9.out.cell
 refine bodyPost_ret (v := .agg #[.int .i64 1, .int .i64 3, .int .i64 (Arenac.w64 (f.g + 1) % 3), .int .u64 0, .int .u64 0]) (by simp [results, Tryz.results59, go_sem, ha9]) rfl ?_
 exact ⟨rfl, B9.out⟩
set_option maxHeartbeats 2000000 in
theorem ask81_c (w : World) (k K T : Int) (M : Nat) (f : FS) (q : Sl) (hpc : f.pc = 81) (x0 : 0 <= f.s) (x1 : f.s <= 18446744073709551615) (m1 : 2 <= M) (m2 : M <= 64) (g0 : 0 <= f.g) (g1 : f.g <= 18446744073709551615) :
   Calls Tryz.prog 59 #[.agg #[.int .i64 k, .int .i64 K, .int .i64 T, .int .i64 M], .agg (f.v q).toArray] w fun e w' => e = .returned (.agg #[.int .i64 1, .int .i64 3, .int .i64 (f.g % 3), .int .u64 0, .int .u64 0]) /\ Below w.heap.size w w' := by
 obtain ⟨B0, C0, F0, A0⟩ := pre3a w k K T M f q
 have hv4 : (f.v q).toArray[4]? = some (.int .i64 81) := by show some (Value.int .i64 f.pc) = _; rw [hpc]
 have hv8 : (f.v q).toArray[8]? = some (.int .u64 f.g) := rfl
 have gm : f.g.tmod 3 = f.g % 3 := Int.tmod_eq_emod_of_nonneg g0
 have gc : IntKind.i64.wrap (f.g % 3) = f.g % 3 := by rw [IntKind.wrap_i64]; omega
 clear hpc
 go_enter Tryz.func59, Tryz.ntmps59
 go_upto_region 1 with fail
 generalize ((w2 w k K T M f q).alloc (.cells #[.int .i64 0, .int .i64 0, .int .i64 0, .int .u64 0, .int .u64 0] 66)) = V at B0 C0 F0 A0 ⊢
 have hc0 := C0.out.cell
 refine wp_region_lit ?_
 refine wpList_load_mid rfl 107 (.tmp 3) rfl (w.heap.size + 1) 0 (by simp [Act.eval]) (f.v q) _ (range24 F0.out (fun j v hj => by rw [Nat.zero_add]; simpa using hj)) Tryz.underlying107 rfl f_size ?_
 go_wp2_with (first
   | (go_at_call 67; (with_reducible refine (life_a f q x0 x1 m1 m2 B0 F0 A0).mono ?_); rintro e w1 ⟨rfl, B1, F1, A1⟩; have hf1 := F1.out.cell; have ha1 := A1.out.cell; have ha1f := A1.out.frozen; clear hc0))
 obtain ⟨A9, B9⟩ := fin5 A1 B1 (.int .i64 1) (.int .i64 3) (.int .i64 (f.g % 3)) (.int .u64 0) (.int .u64 0)
 clear hf1 ha1 ha1f
 generalize (((((w1.setCell ⟨w.heap.size + 1 + 1, 0, none⟩ (.int .i64 1)).setCell ⟨w.heap.size + 1 + 1, 1, none⟩ (.int .i64 3)).setCell ⟨w.heap.size + 1 + 1, 2, none⟩ (.int .i64 (f.g % 3))).setCell ⟨w.heap.size + 1 + 1, 3, none⟩ (.int .u64 0)).setCell ⟨w.heap.size + 1 + 1, 4, none⟩ (.int .u64 0)) = V9 at A9 B9 ⊢
 have ha9 := A9.out.cell
 refine bodyPost_ret (v := .agg #[.int .i64 1, .int .i64 3, .int .i64 (f.g % 3), .int .u64 0, .int .u64 0]) (by simp [results, Tryz.results59, go_sem, ha9]) rfl ?_
 exact ⟨rfl, B9.out⟩
set_option maxHeartbeats 2000000 in
theorem ask35_c (w : World) (k K T : Int) (M : Nat) (f : FS) (q : Sl) (hpc : f.pc = 35) (x0 : 0 <= f.s) (x1 : f.s <= 18446744073709551615) (m1 : 2 <= M) (m2 : M <= 64) (g0 : 0 <= f.g) (g1 : f.g <= 18446744073709551615) (v0 : 0 <= f.w) (v1 : f.w <= 18446744073709551615) :
   Calls Tryz.prog 59 #[.agg #[.int .i64 k, .int .i64 K, .int .i64 T, .int .i64 M], .agg (f.v q).toArray] w fun e w' => e = .returned (.agg #[.int .i64 3, .int .i64 3, .int .i64 (Arenac.w64 (f.g + 1) % 3), .int .u64 f.w, .int .u64 (pk (hi f.w) 0)]) /\ Below w.heap.size w w' := by
 obtain ⟨B0, C0, F0, A0⟩ := pre3a w k K T M f q
 have hv4 : (f.v q).toArray[4]? = some (.int .i64 35) := by show some (Value.int .i64 f.pc) = _; rw [hpc]
 have hv8 : (f.v q).toArray[8]? = some (.int .u64 f.g) := rfl
 have hv6 : (f.v q).toArray[6]? = some (.int .u64 f.w) := rfl
 have gw : IntKind.u64.wrap (f.g + 1) = Arenac.w64 (f.g + 1) := by rw [IntKind.wrap_u64]; rfl
 have gm : (Arenac.w64 (f.g + 1)).tmod 3 = Arenac.w64 (f.g + 1) % 3 := Int.tmod_eq_emod_of_nonneg (by unfold Arenac.w64; omega)
 have gc : IntKind.i64.wrap (Arenac.w64 (f.g + 1) % 3) = Arenac.w64 (f.g + 1) % 3 := by rw [IntKind.wrap_i64]; omega
 clear hpc
 go_enter Tryz.func59, Tryz.ntmps59
 go_upto_region 1 with fail
 generalize ((w2 w k K T M f q).alloc (.cells #[.int .i64 0, .int .i64 0, .int .i64 0, .int .u64 0, .int .u64 0] 66)) = V at B0 C0 F0 A0 ⊢
 have hc0 := C0.out.cell
 refine wp_region_lit ?_
 refine wpList_load_mid rfl 107 (.tmp 3) rfl (w.heap.size + 1) 0 (by simp [Act.eval]) (f.v q) _ (range24 F0.out (fun j v hj => by rw [Nat.zero_add]; simpa using hj)) Tryz.underlying107 rfl f_size ?_
 go_wp2_with (first
   | (go_at_call 67; (with_reducible refine (life_a f q x0 x1 m1 m2 B0 F0 A0).mono ?_); rintro e w1 ⟨rfl, B1, F1, A1⟩; have hf1 := F1.out.cell; have ha1 := A1.out.cell; have ha1f := A1.out.frozen; clear hc0))
 refine wp_region_still_tail 12 (by kernel_rfl) (by kernel_rfl) ?_
 simp only [List.take_succ_cons, List.take_zero, List.drop_succ_cons, List.drop_zero]
 repeat (first
   | still_step
   | (refine wpStill_step (fun K hK => ?_); go_simp; refine ⟨_, still_of (high3_p f.w _ v0 v1), hK _ ?_⟩; clear hK K)
   | (refine wpStill_step (fun K hK => ?_); go_simp; refine ⟨_, still_of (pack3_c (hi f.w) 0 _ (by unfold hi; omega) (by unfold hi; omega) (by decide) (by decide)), hK _ ?_⟩; clear hK K))
 refine wpStill_nil ?_
 change wpList _ _ _ _ _ w1.drew
 have A1 := lh A1.out.drew
 have B1 := lh (below_drawn B1.out 1)
 clear hf1 ha1 ha1f
 change Hid (Below _ _ w1.drew) at B1
 generalize w1.drew = w1 at A1 B1 ⊢
 have ha1 := A1.out.cell
 have ha1f := A1.out.frozen
 have hf1 := ha1f
 go_wp2
 obtain ⟨A9, B9⟩ := fin5 A1 B1 (.int .i64 3) (.int .i64 3) (.int .i64 (Arenac.w64 (f.g + 1) % 3)) (.int .u64 f.w) (.int .u64 (pk (hi f.w) 0))
 clear hf1 ha1 ha1f
 generalize (((((w1.setCell ⟨w.heap.size + 1 + 1, 0, none⟩ (.int .i64 3)).setCell ⟨w.heap.size + 1 + 1, 1, none⟩ (.int .i64 3)).setCell ⟨w.heap.size + 1 + 1, 2, none⟩ (.int .i64 (Arenac.w64 (f.g + 1) % 3))).setCell ⟨w.heap.size + 1 + 1, 3, none⟩ (.int .u64 f.w)).setCell ⟨w.heap.size + 1 + 1, 4, none⟩ (.int .u64 (pk (hi f.w) 0))) = V9 at A9 B9 ⊢
 have ha9 := A9.out.cell
 refine bodyPost_ret (v := .agg #[.int .i64 3, .int .i64 3, .int .i64 (Arenac.w64 (f.g + 1) % 3), .int .u64 f.w, .int .u64 (pk (hi f.w) 0)]) (by simp [results, Tryz.results59, go_sem, ha9]) rfl ?_
 exact ⟨rfl, B9.out⟩
set_option maxHeartbeats 2000000 in
theorem ask82_c (w : World) (k K T : Int) (M : Nat) (f : FS) (q : Sl) (hpc : f.pc = 82) (x0 : 0 <= f.s) (x1 : f.s <= 18446744073709551615) (m1 : 2 <= M) (m2 : M <= 64) (g0 : 0 <= f.g) (g1 : f.g <= 18446744073709551615) (v0 : 0 <= f.w) (v1 : f.w <= 18446744073709551615) :
   Calls Tryz.prog 59 #[.agg #[.int .i64 k, .int .i64 K, .int .i64 T, .int .i64 M], .agg (f.v q).toArray] w fun e w' => e = .returned (.agg #[.int .i64 3, .int .i64 3, .int .i64 (f.g % 3), .int .u64 f.w, .int .u64 (pk (hi f.w) 0)]) /\ Below w.heap.size w w' := by
 obtain ⟨B0, C0, F0, A0⟩ := pre3a w k K T M f q
 have hv4 : (f.v q).toArray[4]? = some (.int .i64 82) := by show some (Value.int .i64 f.pc) = _; rw [hpc]
 have hv8 : (f.v q).toArray[8]? = some (.int .u64 f.g) := rfl
 have hv6 : (f.v q).toArray[6]? = some (.int .u64 f.w) := rfl
 have gm : f.g.tmod 3 = f.g % 3 := Int.tmod_eq_emod_of_nonneg g0
 have gc : IntKind.i64.wrap (f.g % 3) = f.g % 3 := by rw [IntKind.wrap_i64]; omega
 clear hpc
 go_enter Tryz.func59, Tryz.ntmps59
 go_upto_region 1 with fail
 generalize ((w2 w k K T M f q).alloc (.cells #[.int .i64 0, .int .i64 0, .int .i64 0, .int .u64 0, .int .u64 0] 66)) = V at B0 C0 F0 A0 ⊢
 have hc0 := C0.out.cell
 refine wp_region_lit ?_
 refine wpList_load_mid rfl 107 (.tmp 3) rfl (w.heap.size + 1) 0 (by simp [Act.eval]) (f.v q) _ (range24 F0.out (fun j v hj => by rw [Nat.zero_add]; simpa using hj)) Tryz.underlying107 rfl f_size ?_
 go_wp2_with (first
   | (go_at_call 67; (with_reducible refine (life_a f q x0 x1 m1 m2 B0 F0 A0).mono ?_); rintro e w1 ⟨rfl, B1, F1, A1⟩; have hf1 := F1.out.cell; have ha1 := A1.out.cell; have ha1f := A1.out.frozen; clear hc0))
 refine wp_region_still_tail 11 (by kernel_rfl) (by kernel_rfl) ?_
 simp only [List.take_succ_cons, List.take_zero, List.drop_succ_cons, List.drop_zero]
 repeat (first
   | still_step
   | (refine wpStill_step (fun K hK => ?_); go_simp; refine ⟨_, still_of (high3_p f.w _ v0 v1), hK _ ?_⟩; clear hK K)
   | (refine wpStill_step (fun K hK => ?_); go_simp; refine ⟨_, still_of (pack3_c (hi f.w) 0 _ (by unfold hi; omega) (by unfold hi; omega) (by decide) (by decide)), hK _ ?_⟩; clear hK K))
 refine wpStill_nil ?_
 change wpList _ _ _ _ _ w1.drew
 have A1 := lh A1.out.drew
 have B1 := lh (below_drawn B1.out 1)
 clear hf1 ha1 ha1f
 change Hid (Below _ _ w1.drew) at B1
 generalize w1.drew = w1 at A1 B1 ⊢
 have ha1 := A1.out.cell
 have ha1f := A1.out.frozen
 have hf1 := ha1f
 go_wp2
 obtain ⟨A9, B9⟩ := fin5 A1 B1 (.int .i64 3) (.int .i64 3) (.int .i64 (f.g % 3)) (.int .u64 f.w) (.int .u64 (pk (hi f.w) 0))
 clear hf1 ha1 ha1f
 generalize (((((w1.setCell ⟨w.heap.size + 1 + 1, 0, none⟩ (.int .i64 3)).setCell ⟨w.heap.size + 1 + 1, 1, none⟩ (.int .i64 3)).setCell ⟨w.heap.size + 1 + 1, 2, none⟩ (.int .i64 (f.g % 3))).setCell ⟨w.heap.size + 1 + 1, 3, none⟩ (.int .u64 f.w)).setCell ⟨w.heap.size + 1 + 1, 4, none⟩ (.int .u64 (pk (hi f.w) 0))) = V9 at A9 B9 ⊢
 have ha9 := A9.out.cell
 refine bodyPost_ret (v := .agg #[.int .i64 3, .int .i64 3, .int .i64 (f.g % 3), .int .u64 f.w, .int .u64 (pk (hi f.w) 0)]) (by simp [results, Tryz.results59, go_sem, ha9]) rfl ?_
 exact ⟨rfl, B9.out⟩
set_option maxHeartbeats 2000000 in
theorem ask83_c (w : World) (k K T : Int) (M : Nat) (f : FS) (q : Sl) (hpc : f.pc = 83) (x0 : 0 <= f.s) (x1 : f.s <= 18446744073709551615) (m1 : 2 <= M) (m2 : M <= 64) (v0 : 0 <= f.w) (v1 : f.w <= 18446744073709551615) :
   Calls Tryz.prog 59 #[.agg #[.int .i64 k, .int .i64 K, .int .i64 T, .int .i64 M], .agg (f.v q).toArray] w fun e w' => e = .returned (.agg #[.int .i64 2, .int .i64 7, .int .i64 (hnd f.s), .int .u64 0, .int .u64 (pk (up (hi f.s)) (lo f.w))]) /\ Below w.heap.size w w' := by
 obtain ⟨B0, C0, F0, A0⟩ := pre3a w k K T M f q
 have hv4 : (f.v q).toArray[4]? = some (.int .i64 83) := by show some (Value.int .i64 f.pc) = _; rw [hpc]
 have hv5 : (f.v q).toArray[5]? = some (.int .u64 f.s) := rfl
 have hv6 : (f.v q).toArray[6]? = some (.int .u64 f.w) := rfl
 clear hpc
 go_enter Tryz.func59, Tryz.ntmps59
 go_upto_region 1 with fail
 generalize ((w2 w k K T M f q).alloc (.cells #[.int .i64 0, .int .i64 0, .int .i64 0, .int .u64 0, .int .u64 0] 66)) = V at B0 C0 F0 A0 ⊢
 have hc0 := C0.out.cell
 refine wp_region_lit ?_
 refine wpList_load_mid rfl 107 (.tmp 3) rfl (w.heap.size + 1) 0 (by simp [Act.eval]) (f.v q) _ (range24 F0.out (fun j v hj => by rw [Nat.zero_add]; simpa using hj)) Tryz.underlying107 rfl f_size ?_
 go_wp2_with (first
   | (go_at_call 67; (with_reducible refine (life_a f q x0 x1 m1 m2 B0 F0 A0).mono ?_); rintro e w1 ⟨rfl, B1, F1, A1⟩; have hf1 := F1.out.cell; have ha1 := A1.out.cell; have ha1f := A1.out.frozen; clear hc0))
 refine wp_region_still_tail 12 (by kernel_rfl) (by kernel_rfl) ?_
 simp only [List.take_succ_cons, List.take_zero, List.drop_succ_cons, List.drop_zero]
 repeat (first
   | still_step
   | (refine wpStill_step (fun K hK => ?_); go_simp; refine ⟨_, still_of (handle3_p f.s _ x0 x1), hK _ ?_⟩; clear hK K)
   | (refine wpStill_step (fun K hK => ?_); go_simp; refine ⟨_, still_of (high3_p f.s _ x0 x1), hK _ ?_⟩; clear hK K)
   | (refine wpStill_step (fun K hK => ?_); go_simp; refine ⟨_, still_of (more_u (hi f.s) _ (by unfold hi; omega) (by unfold hi; omega)), hK _ ?_⟩; clear hK K)
   | (refine wpStill_step (fun K hK => ?_); go_simp; refine ⟨_, still_of (low3_p f.w _ v0 v1), hK _ ?_⟩; clear hK K)
   | (refine wpStill_step (fun K hK => ?_); go_simp; refine ⟨_, still_of (pack3_c (up (hi f.s)) (lo f.w) _ (by (try unfold up); (try unfold hi); omega) (by (try unfold up); (try unfold hi); omega) (by unfold lo; omega) (by unfold lo; omega)), hK _ ?_⟩; clear hK K))
 refine wpStill_nil ?_
 change wpList _ _ _ _ _ w1.drew
 have A1 := lh A1.out.drew
 have B1 := lh (below_drawn B1.out 1)
 clear hf1 ha1 ha1f
 change Hid (Below _ _ w1.drew) at B1
 generalize w1.drew = w1 at A1 B1 ⊢
 have ha1 := A1.out.cell
 have ha1f := A1.out.frozen
 have hf1 := ha1f
 go_wp2
 obtain ⟨A9, B9⟩ := fin5 A1 B1 (.int .i64 2) (.int .i64 7) (.int .i64 (hnd f.s)) (.int .u64 0) (.int .u64 (pk (up (hi f.s)) (lo f.w)))
 clear hf1 ha1 ha1f
 generalize (((((w1.setCell ⟨w.heap.size + 1 + 1, 0, none⟩ (.int .i64 2)).setCell ⟨w.heap.size + 1 + 1, 1, none⟩ (.int .i64 7)).setCell ⟨w.heap.size + 1 + 1, 2, none⟩ (.int .i64 (hnd f.s))).setCell ⟨w.heap.size + 1 + 1, 3, none⟩ (.int .u64 0)).setCell ⟨w.heap.size + 1 + 1, 4, none⟩ (.int .u64 (pk (up (hi f.s)) (lo f.w)))) = V9 at A9 B9 ⊢
 have ha9 := A9.out.cell
 refine bodyPost_ret (v := .agg #[.int .i64 2, .int .i64 7, .int .i64 (hnd f.s), .int .u64 0, .int .u64 (pk (up (hi f.s)) (lo f.w))]) (by simp [results, Tryz.results59, go_sem, ha9]) rfl ?_
 exact ⟨rfl, B9.out⟩
set_option maxHeartbeats 2000000 in
theorem ask84_c (w : World) (k K T : Int) (M : Nat) (f : FS) (q : Sl) (hpc : f.pc = 84) (x0 : 0 <= f.s) (x1 : f.s <= 18446744073709551615) (m1 : 2 <= M) (m2 : M <= 64) (g0 : 0 <= f.g) (g1 : f.g <= 18446744073709551615) (v0 : 0 <= f.w) (v1 : f.w <= 18446744073709551615) :
   Calls Tryz.prog 59 #[.agg #[.int .i64 k, .int .i64 K, .int .i64 T, .int .i64 M], .agg (f.v q).toArray] w fun e w' => e = .returned (.agg #[.int .i64 3, .int .i64 3, .int .i64 (f.g % 3), .int .u64 f.w, .int .u64 (pk (lo f.g) (lo f.s))]) /\ Below w.heap.size w w' := by
 obtain ⟨B0, C0, F0, A0⟩ := pre3a w k K T M f q
 have hv4 : (f.v q).toArray[4]? = some (.int .i64 84) := by show some (Value.int .i64 f.pc) = _; rw [hpc]
 have hv8 : (f.v q).toArray[8]? = some (.int .u64 f.g) := rfl
 have hv5 : (f.v q).toArray[5]? = some (.int .u64 f.s) := rfl
 have hv6 : (f.v q).toArray[6]? = some (.int .u64 f.w) := rfl
 have gm : f.g.tmod 3 = f.g % 3 := Int.tmod_eq_emod_of_nonneg g0
 have gc : IntKind.i64.wrap (f.g % 3) = f.g % 3 := by rw [IntKind.wrap_i64]; omega
 clear hpc
 go_enter Tryz.func59, Tryz.ntmps59
 go_upto_region 1 with fail
 generalize ((w2 w k K T M f q).alloc (.cells #[.int .i64 0, .int .i64 0, .int .i64 0, .int .u64 0, .int .u64 0] 66)) = V at B0 C0 F0 A0 ⊢
 have hc0 := C0.out.cell
 refine wp_region_lit ?_
 refine wpList_load_mid rfl 107 (.tmp 3) rfl (w.heap.size + 1) 0 (by simp [Act.eval]) (f.v q) _ (range24 F0.out (fun j v hj => by rw [Nat.zero_add]; simpa using hj)) Tryz.underlying107 rfl f_size ?_
 go_wp2_with (first
   | (go_at_call 67; (with_reducible refine (life_a f q x0 x1 m1 m2 B0 F0 A0).mono ?_); rintro e w1 ⟨rfl, B1, F1, A1⟩; have hf1 := F1.out.cell; have ha1 := A1.out.cell; have ha1f := A1.out.frozen; clear hc0))
 refine wp_region_still_tail 13 (by kernel_rfl) (by kernel_rfl) ?_
 simp only [List.take_succ_cons, List.take_zero, List.drop_succ_cons, List.drop_zero]
 repeat (first
   | still_step
   | (refine wpStill_step (fun K hK => ?_); go_simp; refine ⟨_, still_of (low3_p f.g _ g0 g1), hK _ ?_⟩; clear hK K)
   | (refine wpStill_step (fun K hK => ?_); go_simp; refine ⟨_, still_of (low3_p f.s _ x0 x1), hK _ ?_⟩; clear hK K)
   | (refine wpStill_step (fun K hK => ?_); go_simp; refine ⟨_, still_of (pack3_c (lo f.g) (lo f.s) _ (by unfold lo; omega) (by unfold lo; omega) (by unfold lo; omega) (by unfold lo; omega)), hK _ ?_⟩; clear hK K))
 refine wpStill_nil ?_
 change wpList _ _ _ _ _ w1.drew
 have A1 := lh A1.out.drew
 have B1 := lh (below_drawn B1.out 1)
 clear hf1 ha1 ha1f
 change Hid (Below _ _ w1.drew) at B1
 generalize w1.drew = w1 at A1 B1 ⊢
 have ha1 := A1.out.cell
 have ha1f := A1.out.frozen
 have hf1 := ha1f
 go_wp2
 obtain ⟨A9, B9⟩ := fin5 A1 B1 (.int .i64 3) (.int .i64 3) (.int .i64 (f.g % 3)) (.int .u64 f.w) (.int .u64 (pk (lo f.g) (lo f.s)))
 clear hf1 ha1 ha1f
 generalize (((((w1.setCell ⟨w.heap.size + 1 + 1, 0, none⟩ (.int .i64 3)).setCell ⟨w.heap.size + 1 + 1, 1, none⟩ (.int .i64 3)).setCell ⟨w.heap.size + 1 + 1, 2, none⟩ (.int .i64 (f.g % 3))).setCell ⟨w.heap.size + 1 + 1, 3, none⟩ (.int .u64 f.w)).setCell ⟨w.heap.size + 1 + 1, 4, none⟩ (.int .u64 (pk (lo f.g) (lo f.s)))) = V9 at A9 B9 ⊢
 have ha9 := A9.out.cell
 refine bodyPost_ret (v := .agg #[.int .i64 3, .int .i64 3, .int .i64 (f.g % 3), .int .u64 f.w, .int .u64 (pk (lo f.g) (lo f.s))]) (by simp [results, Tryz.results59, go_sem, ha9]) rfl ?_
 exact ⟨rfl, B9.out⟩
set_option maxHeartbeats 2000000 in
theorem ask86_c (w : World) (k K T : Int) (M : Nat) (f : FS) (q : Sl) (hpc : f.pc = 86) (x0 : 0 <= f.s) (x1 : f.s <= 18446744073709551615) (m1 : 2 <= M) (m2 : M <= 64) (c0 : 0 <= f.chain) (c1 : f.chain <= 4294967295) :
   Calls Tryz.prog 59 #[.agg #[.int .i64 k, .int .i64 K, .int .i64 T, .int .i64 M], .agg (f.v q).toArray] w fun e w' => e = .returned (.agg #[.int .i64 1, .int .i64 7, .int .i64 (f.chain - 1), .int .u64 0, .int .u64 0]) /\ Below w.heap.size w w' := by
 obtain ⟨B0, C0, F0, A0⟩ := pre3a w k K T M f q
 have hv4 : (f.v q).toArray[4]? = some (.int .i64 86) := by show some (Value.int .i64 f.pc) = _; rw [hpc]
 have hv15 : (f.v q).toArray[15]? = some (.int .u32 f.chain) := rfl
 have cc : IntKind.i64.wrap f.chain = f.chain := by rw [IntKind.wrap_i64]; omega
 have cc2 : IntKind.i64.wrap (f.chain - 1) = f.chain - 1 := by rw [IntKind.wrap_i64]; omega
 clear hpc
 go_enter Tryz.func59, Tryz.ntmps59
 go_upto_region 1 with fail
 generalize ((w2 w k K T M f q).alloc (.cells #[.int .i64 0, .int .i64 0, .int .i64 0, .int .u64 0, .int .u64 0] 66)) = V at B0 C0 F0 A0 ⊢
 have hc0 := C0.out.cell
 refine wp_region_lit ?_
 refine wpList_load_mid rfl 107 (.tmp 3) rfl (w.heap.size + 1) 0 (by simp [Act.eval]) (f.v q) _ (range24 F0.out (fun j v hj => by rw [Nat.zero_add]; simpa using hj)) Tryz.underlying107 rfl f_size ?_
 go_wp2_with (first
   | (go_at_call 67; (with_reducible refine (life_a f q x0 x1 m1 m2 B0 F0 A0).mono ?_); rintro e w1 ⟨rfl, B1, F1, A1⟩; have hf1 := F1.out.cell; have ha1 := A1.out.cell; have ha1f := A1.out.frozen; clear hc0))
 obtain ⟨A9, B9⟩ := fin5 A1 B1 (.int .i64 1) (.int .i64 7) (.int .i64 (f.chain - 1)) (.int .u64 0) (.int .u64 0)
 clear hf1 ha1 ha1f
 generalize (((((w1.setCell ⟨w.heap.size + 1 + 1, 0, none⟩ (.int .i64 1)).setCell ⟨w.heap.size + 1 + 1, 1, none⟩ (.int .i64 7)).setCell ⟨w.heap.size + 1 + 1, 2, none⟩ (.int .i64 (f.chain - 1))).setCell ⟨w.heap.size + 1 + 1, 3, none⟩ (.int .u64 0)).setCell ⟨w.heap.size + 1 + 1, 4, none⟩ (.int .u64 0)) = V9 at A9 B9 ⊢
 have ha9 := A9.out.cell
 refine bodyPost_ret (v := .agg #[.int .i64 1, .int .i64 7, .int .i64 (f.chain - 1), .int .u64 0, .int .u64 0]) (by simp [results, Tryz.results59, go_sem, ha9]) rfl ?_
 exact ⟨rfl, B9.out⟩

end Go.Proofs.YtffppdcpiieapaaGreat.Machc
