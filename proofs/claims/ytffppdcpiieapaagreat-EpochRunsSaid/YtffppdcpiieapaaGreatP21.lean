/- A part of the proof. -/
import Derived.StillTailTactics
import Derived.Test.YtffppdcpiieapaaGreatP20
namespace Go.Proofs.YtffppdcpiieapaaGreat.Machc
open Go.RowKit Memc Newc Drivec Procc Wordc Arenac
set_option linter.unusedVariables false
set_option maxRecDepth 100000

theorem more_u (x : Int) (w : World) (x0 : 0 <= x) (x1 : x <= 4294967295) : Calls Tryz.prog 71 #[.int .u32 x] w fun e w' => e = .returned (.int .u32 (up x)) /\ w = w' := more_r x w x0 x1
theorem low1_p (x : Int) (w : World) (x0 : 0 <= x) (x1 : x <= 18446744073709551615) : Calls Tryz.prog 95 #[.int .u64 x] w fun e w' => e = .returned (.int .u32 (lo x)) /\ w = w' := by
 go_enter Tryz.func95, Tryz.ntmps95
 go_wp2
 go_ret
 exact ⟨rfl, rfl⟩
theorem low3_p (x : Int) (w : World) (x0 : 0 <= x) (x1 : x <= 18446744073709551615) : Calls Tryz.prog 75 #[.int .u64 x] w fun e w' => e = .returned (.int .u32 (lo x)) /\ w = w' := by
 go_enter Tryz.func75, Tryz.ntmps75
 go_wp2_with (go_at_call 95; refine (low1_p _ _ x0 x1).mono ?_; rintro e w1 ⟨rfl, rfl⟩)
 go_ret
 exact ⟨rfl, rfl⟩
theorem high1_p (x : Int) (w : World) (x0 : 0 <= x) (x1 : x <= 18446744073709551615) : Calls Tryz.prog 94 #[.int .u64 x] w fun e w' => e = .returned (.int .u32 (hi x)) /\ w = w' := by
 go_enter Tryz.func94, Tryz.ntmps94
 go_wp2
 go_ret
 exact ⟨rfl, rfl⟩
theorem high3_p (x : Int) (w : World) (x0 : 0 <= x) (x1 : x <= 18446744073709551615) : Calls Tryz.prog 74 #[.int .u64 x] w fun e w' => e = .returned (.int .u32 (hi x)) /\ w = w' := by
 go_enter Tryz.func74, Tryz.ntmps74
 go_wp2_with (go_at_call 94; refine (high1_p _ _ x0 x1).mono ?_; rintro e w1 ⟨rfl, rfl⟩)
 go_ret
 exact ⟨rfl, rfl⟩
theorem handle3_p (x : Int) (w : World) (x0 : 0 <= x) (x1 : x <= 18446744073709551615) : Calls Tryz.prog 72 #[.int .u64 x] w fun e w' => e = .returned (.int .i64 (hnd x)) /\ w = w' := by
 have l0 : 0 <= lo x := by unfold lo; omega
 have l1 : lo x <= 4294967295 := by unfold lo; omega
 go_enter Tryz.func72, Tryz.ntmps72
 go_wp2_with (go_at_call 75; refine (low3_p _ _ x0 x1).mono ?_; rintro e w1 ⟨rfl, rfl⟩)
 go_ret
 exact ⟨rfl, rfl⟩
theorem still_of {P : Program} {f : FuncId} {args : Array Value} {w : World} {v : Value} (h : Calls P f args w fun e w' => e = .returned v /\ w = w') : Calls P f args w fun e w' => e = .returned v /\ w' = w :=
 h.mono fun _ _ h => ⟨h.1, h.2.symm⟩
set_option maxHeartbeats 2000000 in
theorem ask96_c (w : World) (k K T : Int) (M : Nat) (f : FS) (q : Sl) (hpc : f.pc = 96) (x0 : 0 <= f.s) (x1 : f.s <= 18446744073709551615) (m1 : 2 <= M) (m2 : M <= 64) (v0 : 0 <= f.w) (v1 : f.w <= 18446744073709551615) (u0 : 0 <= f.give) (u1 : f.give <= 18446744073709551615) :
   Calls Tryz.prog 59 #[.agg #[.int .i64 k, .int .i64 K, .int .i64 T, .int .i64 M], .agg (f.v q).toArray] w fun e w' => e = .returned (.agg #[.int .i64 2, .int .i64 7, .int .i64 (hnd f.give), .int .u64 0, .int .u64 (pk (hi f.give) (lo f.w))]) /\ Below w.heap.size w w' := by
 obtain ⟨B0, C0, F0, A0⟩ := pre3a w k K T M f q
 have hv4 : (f.v q).toArray[4]? = some (.int .i64 96) := by show some (Value.int .i64 f.pc) = _; rw [hpc]
 have hv6 : (f.v q).toArray[6]? = some (.int .u64 f.w) := rfl
 have hv13 : (f.v q).toArray[13]? = some (.int .u64 f.give) := rfl
 clear hpc
 go_enter Tryz.func59, Tryz.ntmps59
 go_upto_region 1 with fail
 generalize ((w2 w k K T M f q).alloc (.cells #[.int .i64 0, .int .i64 0, .int .i64 0, .int .u64 0, .int .u64 0] 66)) = V at B0 C0 F0 A0 ⊢
 have hc0 := C0.out.cell
 refine wp_region_lit ?_
 refine wpList_load_mid rfl 107 (.tmp 3) rfl (w.heap.size + 1) 0 (by simp [Act.eval]) (f.v q) _ (range24 F0.out (fun j v hj => by rw [Nat.zero_add]; simpa using hj)) Tryz.underlying107 rfl f_size ?_
 go_wp2_with (first
   | (go_at_call 67; (with_reducible refine (life_a f q x0 x1 m1 m2 B0 F0 A0).mono ?_); rintro e w1 ⟨rfl, B1, F1, A1⟩; have hf1 := F1.out.cell; have ha1 := A1.out.cell; have ha1f := A1.out.frozen; clear hc0))
 refine wp_region_still_tail 11 (by kernel_rfl) (by kernel_rfl) ?_
 simp only [List.take_succ_cons, List.take_zero, List.drop_succ_cons, List.drop_zero]
 repeat (first
   | still_step
   | (refine wpStill_step (fun K hK => ?_); go_simp; refine ⟨_, still_of (handle3_p f.give _ u0 u1), hK _ ?_⟩; clear hK K)
   | (refine wpStill_step (fun K hK => ?_); go_simp; refine ⟨_, still_of (high3_p f.give _ u0 u1), hK _ ?_⟩; clear hK K)
   | (refine wpStill_step (fun K hK => ?_); go_simp; refine ⟨_, still_of (low3_p f.w _ v0 v1), hK _ ?_⟩; clear hK K)
   | (refine wpStill_step (fun K hK => ?_); go_simp; refine ⟨_, still_of (pack3_c (hi f.give) (lo f.w) _ (by (try unfold up); (try unfold hi); omega) (by (try unfold up); (try unfold hi); omega) (by unfold lo; omega) (by unfold lo; omega)), hK _ ?_⟩; clear hK K))
 refine wpStill_nil ?_
 change wpList _ _ _ _ _ w1.drew
 have A1 := lh A1.out.drew
 have B1 := lh (below_drawn B1.out 1)
 clear hf1 ha1 ha1f
 change Hid (Below _ _ w1.drew) at B1
 generalize w1.drew = w1 at A1 B1 ⊢
 have ha1 := A1.out.cell
 have ha1f := A1.out.frozen
 have hf1 := ha1f
 go_wp2
 obtain ⟨A9, B9⟩ := fin5 A1 B1 (.int .i64 2) (.int .i64 7) (.int .i64 (hnd f.give)) (.int .u64 0) (.int .u64 (pk (hi f.give) (lo f.w)))
 clear hf1 ha1 ha1f
 generalize (((((w1.setCell ⟨w.heap.size + 1 + 1, 0, none⟩ (.int .i64 2)).setCell ⟨w.heap.size + 1 + 1, 1, none⟩ (.int .i64 7)).setCell ⟨w.heap.size + 1 + 1, 2, none⟩ (.int .i64 (hnd f.give))).setCell ⟨w.heap.size + 1 + 1, 3, none⟩ (.int .u64 0)).setCell ⟨w.heap.size + 1 + 1, 4, none⟩ (.int .u64 (pk (hi f.give) (lo f.w)))) = V9 at A9 B9 ⊢
 have ha9 := A9.out.cell
 refine bodyPost_ret (v := .agg #[.int .i64 2, .int .i64 7, .int .i64 (hnd f.give), .int .u64 0, .int .u64 (pk (hi f.give) (lo f.w))]) (by simp [results, Tryz.results59, go_sem, ha9]) rfl ?_
 exact ⟨rfl, B9.out⟩
set_option maxHeartbeats 2000000 in
theorem ask97_c (w : World) (k K T : Int) (M : Nat) (f : FS) (q : Sl) (hpc : f.pc = 97) (x0 : 0 <= f.s) (x1 : f.s <= 18446744073709551615) (m1 : 2 <= M) (m2 : M <= 64) (v0 : 0 <= f.w) (v1 : f.w <= 18446744073709551615) (u0 : 0 <= f.give) (u1 : f.give <= 18446744073709551615) :
   Calls Tryz.prog 59 #[.agg #[.int .i64 k, .int .i64 K, .int .i64 T, .int .i64 M], .agg (f.v q).toArray] w fun e w' => e = .returned (.agg #[.int .i64 3, .int .i64 2, .int .i64 0, .int .u64 f.w, .int .u64 (pk (up (hi f.w)) (lo f.give))]) /\ Below w.heap.size w w' := by
 obtain ⟨B0, C0, F0, A0⟩ := pre3a w k K T M f q
 have hv4 : (f.v q).toArray[4]? = some (.int .i64 97) := by show some (Value.int .i64 f.pc) = _; rw [hpc]
 have hv6 : (f.v q).toArray[6]? = some (.int .u64 f.w) := rfl
 have hv13 : (f.v q).toArray[13]? = some (.int .u64 f.give) := rfl
 clear hpc
 go_enter Tryz.func59, Tryz.ntmps59
 go_upto_region 1 with fail
 generalize ((w2 w k K T M f q).alloc (.cells #[.int .i64 0, .int .i64 0, .int .i64 0, .int .u64 0, .int .u64 0] 66)) = V at B0 C0 F0 A0 ⊢
 have hc0 := C0.out.cell
 refine wp_region_lit ?_
 refine wpList_load_mid rfl 107 (.tmp 3) rfl (w.heap.size + 1) 0 (by simp [Act.eval]) (f.v q) _ (range24 F0.out (fun j v hj => by rw [Nat.zero_add]; simpa using hj)) Tryz.underlying107 rfl f_size ?_
 go_wp2_with (first
   | (go_at_call 67; (with_reducible refine (life_a f q x0 x1 m1 m2 B0 F0 A0).mono ?_); rintro e w1 ⟨rfl, B1, F1, A1⟩; have hf1 := F1.out.cell; have ha1 := A1.out.cell; have ha1f := A1.out.frozen; clear hc0))
 refine wp_region_still_tail 11 (by kernel_rfl) (by kernel_rfl) ?_
 simp only [List.take_succ_cons, List.take_zero, List.drop_succ_cons, List.drop_zero]
 repeat (first
   | still_step
   | (refine wpStill_step (fun K hK => ?_); go_simp; refine ⟨_, still_of (high3_p f.w _ v0 v1), hK _ ?_⟩; clear hK K)
   | (refine wpStill_step (fun K hK => ?_); go_simp; refine ⟨_, still_of (more_u (hi f.w) _ (by unfold hi; omega) (by unfold hi; omega)), hK _ ?_⟩; clear hK K)
   | (refine wpStill_step (fun K hK => ?_); go_simp; refine ⟨_, still_of (low3_p f.give _ u0 u1), hK _ ?_⟩; clear hK K)
   | (refine wpStill_step (fun K hK => ?_); go_simp; refine ⟨_, still_of (pack3_c (up (hi f.w)) (lo f.give) _ (by (try unfold up); (try unfold hi); omega) (by (try unfold up); (try unfold hi); omega) (by unfold lo; omega) (by unfold lo; omega)), hK _ ?_⟩; clear hK K))
 refine wpStill_nil ?_
 change wpList _ _ _ _ _ w1.drew
 have A1 := lh A1.out.drew
 have B1 := lh (below_drawn B1.out 1)
 clear hf1 ha1 ha1f
 change Hid (Below _ _ w1.drew) at B1
 generalize w1.drew = w1 at A1 B1 ⊢
 have ha1 := A1.out.cell
 have ha1f := A1.out.frozen
 have hf1 := ha1f
 go_wp2
 obtain ⟨A9, B9⟩ := fin5 A1 B1 (.int .i64 3) (.int .i64 2) (.int .i64 0) (.int .u64 f.w) (.int .u64 (pk (up (hi f.w)) (lo f.give)))
 clear hf1 ha1 ha1f
 generalize (((((w1.setCell ⟨w.heap.size + 1 + 1, 0, none⟩ (.int .i64 3)).setCell ⟨w.heap.size + 1 + 1, 1, none⟩ (.int .i64 2)).setCell ⟨w.heap.size + 1 + 1, 2, none⟩ (.int .i64 0)).setCell ⟨w.heap.size + 1 + 1, 3, none⟩ (.int .u64 f.w)).setCell ⟨w.heap.size + 1 + 1, 4, none⟩ (.int .u64 (pk (up (hi f.w)) (lo f.give)))) = V9 at A9 B9 ⊢
 have ha9 := A9.out.cell
 refine bodyPost_ret (v := .agg #[.int .i64 3, .int .i64 2, .int .i64 0, .int .u64 f.w, .int .u64 (pk (up (hi f.w)) (lo f.give))]) (by simp [results, Tryz.results59, go_sem, ha9]) rfl ?_
 exact ⟨rfl, B9.out⟩

end Go.Proofs.YtffppdcpiieapaaGreat.Machc
