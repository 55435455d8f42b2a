/- The document's machines of Take and Give: what they ask for, by the document's answer. · The document's machines of Take and Give: the words that they put, by the document's answer. -/
import Derived.Deep.DeepCutAuto
import Derived.StillTailTactics
import Derived.Test.YtffppdcpiieapaaP1
import Derived.Test.YtffppdcpiieapaaP15
import Derived.Test.YtffppdcpiieapaaP16
namespace Go.Proofs.Ytffppdcpiieapaa.Machc
open Go.RowKit Go.Proofs.Ytffppdcpiieapaa.Memc Go.Proofs.Ytffppdcpiieapaa.Newc Go.Proofs.Ytffppdcpiieapaa.Drivec Go.Proofs.Ytffppdcpiieapaa.Procc Go.Proofs.Ytffppdcpiieapaa.Wordc Go.Proofs.Ytffppdcpiieapaa.Arenac
set_option linter.unusedVariables false
set_option maxRecDepth 100000

theorem low1_c (x : Int) (w : World) (x0 : 0 ≤ x) (x1 : x ≤ 18446744073709551615) : Calls Try.prog 119 #[.int .u64 x] w fun e w' => e = .returned (.int .u32 (lo x)) ∧ Below w.heap.size w w' := by
  go_enter Try.func119, Try.ntmps119
  go_wp2
  go_ret
  exact ⟨rfl, Below.refl _ _⟩
theorem low3_c (x : Int) (w : World) (x0 : 0 ≤ x) (x1 : x ≤ 18446744073709551615) : Calls Try.prog 98 #[.int .u64 x] w fun e w' => e = .returned (.int .u32 (lo x)) ∧ Below w.heap.size w w' := by
  go_enter Try.func98, Try.ntmps98
  go_wp2_with (go_at_call 119; refine (low1_c _ _ x0 x1).mono ?_; rintro e w1 ⟨rfl, hb⟩)
  go_ret
  exact ⟨rfl, hb⟩
theorem handle3_c (x : Int) (w : World) (x0 : 0 ≤ x) (x1 : x ≤ 18446744073709551615) : Calls Try.prog 95 #[.int .u64 x] w fun e w' => e = .returned (.int .i64 (lo x - 1)) ∧ Below w.heap.size w w' := by
  have l0 : 0 ≤ lo x := by unfold lo; omega
  have l1 : lo x ≤ 4294967295 := by unfold lo; omega
  go_enter Try.func95, Try.ntmps95
  go_wp2_with (go_at_call 98; refine (low3_c _ _ x0 x1).mono ?_; rintro e w1 ⟨rfl, hb⟩)
  go_ret
  exact ⟨rfl, hb⟩
theorem pack3_c (h l : Int) (w : World) (h0 : 0 ≤ h) (h1 : h ≤ 4294967295) (l0 : 0 ≤ l) (l1 : l ≤ 4294967295) : Calls Try.prog 92 #[.int .u32 h, .int .u32 l] w fun e w' => e = .returned (.int .u64 (pk h l)) ∧ w = w' := by
  go_enter Try.func92, Try.ntmps92
  go_wp2_with (go_at_call 116; refine (pack_r _ _ _ h0 h1 l0 l1).mono ?_; rintro e w' ⟨rfl, rfl⟩)
  go_ret
  exact ⟨rfl, rfl⟩
set_option maxHeartbeats 2000000 in
theorem ask90_c (w : World) (k K T : Int) (M : Nat) (f : FS) (q : Sl) (hpc : f.pc = 90) (x0 : 0 ≤ f.s) (x1 : f.s ≤ 18446744073709551615) (m1 : 2 ≤ M) (m2 : M ≤ 64) :
    Calls Try.prog 60 #[.agg #[.int .i64 k, .int .i64 K, .int .i64 T, .int .i64 M], .agg (f.v q).toArray] w fun e w' => e = .returned (.agg #[.int .i64 1, .int .i64 2, .int .i64 0, .int .u64 0, .int .u64 0]) ∧ Below w.heap.size w w' := by
  have B0 : Hid (Below w.heap.size w (((w.alloc (.cells #[.int .i64 k, .int .i64 K, .int .i64 T, .int .i64 M] 23)).alloc (.cells (f.v q).toArray 83)).alloc (.cells #[.int .i64 0, .int .i64 0, .int .i64 0, .int .u64 0, .int .u64 0] 57))) := Lib.hid ((((Below.refl _ _).alloc (Nat.le_refl _) _).alloc (by simp) _).alloc (by simp; omega) _)
  have C0 : Hid (Blk (((w.alloc (.cells #[.int .i64 k, .int .i64 K, .int .i64 T, .int .i64 M] 23)).alloc (.cells (f.v q).toArray 83)).alloc (.cells #[.int .i64 0, .int .i64 0, .int .i64 0, .int .u64 0, .int .u64 0] 57)) w.heap.size 23 #[.int .i64 k, .int .i64 K, .int .i64 T, .int .i64 M]) := Lib.hid (((Blk.new _ _ _).alloc _).alloc _)
  have F0 : Hid (Blk (((w.alloc (.cells #[.int .i64 k, .int .i64 K, .int .i64 T, .int .i64 M] 23)).alloc (.cells (f.v q).toArray 83)).alloc (.cells #[.int .i64 0, .int .i64 0, .int .i64 0, .int .u64 0, .int .u64 0] 57)) (w.heap.size + 1) 83 (f.v q).toArray) := Lib.hid ((blk_at (by simp)).alloc _)
  have A0 : Hid (Blk (((w.alloc (.cells #[.int .i64 k, .int .i64 K, .int .i64 T, .int .i64 M] 23)).alloc (.cells (f.v q).toArray 83)).alloc (.cells #[.int .i64 0, .int .i64 0, .int .i64 0, .int .u64 0, .int .u64 0] 57)) (w.heap.size + 2) 57 #[.int .i64 0, .int .i64 0, .int .i64 0, .int .u64 0, .int .u64 0]) := Lib.hid (blk_at (by simp))
  have hv4 : (f.v q).toArray[4]? = some (.int .i64 90) := by show some (Value.int .i64 f.pc) = _; rw [hpc]
  clear hpc
  go_enter Try.func60, Try.ntmps60
  go_upto_region 1 with fail
  generalize (((w.alloc (.cells #[.int .i64 k, .int .i64 K, .int .i64 T, .int .i64 M] 23)).alloc (.cells (f.v q).toArray 83)).alloc (.cells #[.int .i64 0, .int .i64 0, .int .i64 0, .int .u64 0, .int .u64 0] 57)) = V at B0 C0 F0 A0 ⊢
  have hc0 := C0.out.cell
  refine wp_region_lit ?_
  refine wpList_load_mid rfl 83 (.tmp 3) rfl (w.heap.size + 1) 0 (by simp [Act.eval]) (f.v q) _ (range24 F0.out (fun j v hj => by rw [Nat.zero_add]; simpa using hj)) Try.underlying83 rfl f_size ?_
  go_wp2_with (first
    | (go_at_call 90; (with_reducible refine (life_c _ k K T M f q x0 x1 m1 m2).mono ?_); rintro e w1 ⟨rfl, hb⟩; go_must (have B1 := Lib.hid (B0.out.trans (hb.mono B0.out.size)); have F1 := Lib.hid (F0.out.below hb F0.out.lt); have A1 := Lib.hid (A0.out.below hb A0.out.lt)); have hf1 := F1.out.cell; have ha1 := A1.out.cell; have ha1f := A1.out.frozen; clear hb hc0))
  have A9 := Lib.hid (blk5_set A1.out (.int .i64 1) (.int .i64 2) (.int .i64 0) (.int .u64 0) (.int .u64 0))
  have B9 : Hid (Below w.heap.size w (((((w1.setCell ⟨w.heap.size + 1 + 1, 0, none⟩ (.int .i64 1)).setCell ⟨w.heap.size + 1 + 1, 1, none⟩ (.int .i64 2)).setCell ⟨w.heap.size + 1 + 1, 2, none⟩ (.int .i64 0)).setCell ⟨w.heap.size + 1 + 1, 3, none⟩ (.int .u64 0)).setCell ⟨w.heap.size + 1 + 1, 4, none⟩ (.int .u64 0))) := Lib.hid (Below.setCell (Below.setCell (Below.setCell (Below.setCell (Below.setCell B1.out (p := ⟨w.heap.size + 1 + 1, 0, none⟩) (show w.heap.size ≤ w.heap.size + 1 + 1 by omega) (.int .i64 1)) (p := ⟨w.heap.size + 1 + 1, 1, none⟩) (show w.heap.size ≤ w.heap.size + 1 + 1 by omega) (.int .i64 2)) (p := ⟨w.heap.size + 1 + 1, 2, none⟩) (show w.heap.size ≤ w.heap.size + 1 + 1 by omega) (.int .i64 0)) (p := ⟨w.heap.size + 1 + 1, 3, none⟩) (show w.heap.size ≤ w.heap.size + 1 + 1 by omega) (.int .u64 0)) (p := ⟨w.heap.size + 1 + 1, 4, none⟩) (show w.heap.size ≤ w.heap.size + 1 + 1 by omega) (.int .u64 0))
  clear hf1 ha1 ha1f
  generalize (((((w1.setCell ⟨w.heap.size + 1 + 1, 0, none⟩ (.int .i64 1)).setCell ⟨w.heap.size + 1 + 1, 1, none⟩ (.int .i64 2)).setCell ⟨w.heap.size + 1 + 1, 2, none⟩ (.int .i64 0)).setCell ⟨w.heap.size + 1 + 1, 3, none⟩ (.int .u64 0)).setCell ⟨w.heap.size + 1 + 1, 4, none⟩ (.int .u64 0)) = V9 at A9 B9 ⊢
  have ha9 := A9.out.cell
  refine bodyPost_ret (v := .agg #[.int .i64 1, .int .i64 2, .int .i64 0, .int .u64 0, .int .u64 0]) (by simp [results, Try.results60, go_sem, ha9]) rfl ?_
  exact ⟨rfl, B9.out⟩
set_option maxHeartbeats 2000000 in
theorem ask95_c (w : World) (k K T : Int) (M : Nat) (f : FS) (q : Sl) (hpc : f.pc = 95) (x0 : 0 ≤ f.s) (x1 : f.s ≤ 18446744073709551615) (m1 : 2 ≤ M) (m2 : M ≤ 64) :
    Calls Try.prog 60 #[.agg #[.int .i64 k, .int .i64 K, .int .i64 T, .int .i64 M], .agg (f.v q).toArray] w fun e w' => e = .returned (.agg #[.int .i64 1, .int .i64 2, .int .i64 0, .int .u64 0, .int .u64 0]) ∧ Below w.heap.size w w' := by
  have B0 : Hid (Below w.heap.size w (((w.alloc (.cells #[.int .i64 k, .int .i64 K, .int .i64 T, .int .i64 M] 23)).alloc (.cells (f.v q).toArray 83)).alloc (.cells #[.int .i64 0, .int .i64 0, .int .i64 0, .int .u64 0, .int .u64 0] 57))) := Lib.hid ((((Below.refl _ _).alloc (Nat.le_refl _) _).alloc (by simp) _).alloc (by simp; omega) _)
  have C0 : Hid (Blk (((w.alloc (.cells #[.int .i64 k, .int .i64 K, .int .i64 T, .int .i64 M] 23)).alloc (.cells (f.v q).toArray 83)).alloc (.cells #[.int .i64 0, .int .i64 0, .int .i64 0, .int .u64 0, .int .u64 0] 57)) w.heap.size 23 #[.int .i64 k, .int .i64 K, .int .i64 T, .int .i64 M]) := Lib.hid (((Blk.new _ _ _).alloc _).alloc _)
  have F0 : Hid (Blk (((w.alloc (.cells #[.int .i64 k, .int .i64 K, .int .i64 T, .int .i64 M] 23)).alloc (.cells (f.v q).toArray 83)).alloc (.cells #[.int .i64 0, .int .i64 0, .int .i64 0, .int .u64 0, .int .u64 0] 57)) (w.heap.size + 1) 83 (f.v q).toArray) := Lib.hid ((blk_at (by simp)).alloc _)
  have A0 : Hid (Blk (((w.alloc (.cells #[.int .i64 k, .int .i64 K, .int .i64 T, .int .i64 M] 23)).alloc (.cells (f.v q).toArray 83)).alloc (.cells #[.int .i64 0, .int .i64 0, .int .i64 0, .int .u64 0, .int .u64 0] 57)) (w.heap.size + 2) 57 #[.int .i64 0, .int .i64 0, .int .i64 0, .int .u64 0, .int .u64 0]) := Lib.hid (blk_at (by simp))
  have hv4 : (f.v q).toArray[4]? = some (.int .i64 95) := by show some (Value.int .i64 f.pc) = _; rw [hpc]
  clear hpc
  go_enter Try.func60, Try.ntmps60
  go_upto_region 1 with fail
  generalize (((w.alloc (.cells #[.int .i64 k, .int .i64 K, .int .i64 T, .int .i64 M] 23)).alloc (.cells (f.v q).toArray 83)).alloc (.cells #[.int .i64 0, .int .i64 0, .int .i64 0, .int .u64 0, .int .u64 0] 57)) = V at B0 C0 F0 A0 ⊢
  have hc0 := C0.out.cell
  refine wp_region_lit ?_
  refine wpList_load_mid rfl 83 (.tmp 3) rfl (w.heap.size + 1) 0 (by simp [Act.eval]) (f.v q) _ (range24 F0.out (fun j v hj => by rw [Nat.zero_add]; simpa using hj)) Try.underlying83 rfl f_size ?_
  go_wp2_with (first
    | (go_at_call 90; (with_reducible refine (life_c _ k K T M f q x0 x1 m1 m2).mono ?_); rintro e w1 ⟨rfl, hb⟩; go_must (have B1 := Lib.hid (B0.out.trans (hb.mono B0.out.size)); have F1 := Lib.hid (F0.out.below hb F0.out.lt); have A1 := Lib.hid (A0.out.below hb A0.out.lt)); have hf1 := F1.out.cell; have ha1 := A1.out.cell; have ha1f := A1.out.frozen; clear hb hc0))
  have A9 := Lib.hid (blk5_set A1.out (.int .i64 1) (.int .i64 2) (.int .i64 0) (.int .u64 0) (.int .u64 0))
  have B9 : Hid (Below w.heap.size w (((((w1.setCell ⟨w.heap.size + 1 + 1, 0, none⟩ (.int .i64 1)).setCell ⟨w.heap.size + 1 + 1, 1, none⟩ (.int .i64 2)).setCell ⟨w.heap.size + 1 + 1, 2, none⟩ (.int .i64 0)).setCell ⟨w.heap.size + 1 + 1, 3, none⟩ (.int .u64 0)).setCell ⟨w.heap.size + 1 + 1, 4, none⟩ (.int .u64 0))) := Lib.hid (Below.setCell (Below.setCell (Below.setCell (Below.setCell (Below.setCell B1.out (p := ⟨w.heap.size + 1 + 1, 0, none⟩) (show w.heap.size ≤ w.heap.size + 1 + 1 by omega) (.int .i64 1)) (p := ⟨w.heap.size + 1 + 1, 1, none⟩) (show w.heap.size ≤ w.heap.size + 1 + 1 by omega) (.int .i64 2)) (p := ⟨w.heap.size + 1 + 1, 2, none⟩) (show w.heap.size ≤ w.heap.size + 1 + 1 by omega) (.int .i64 0)) (p := ⟨w.heap.size + 1 + 1, 3, none⟩) (show w.heap.size ≤ w.heap.size + 1 + 1 by omega) (.int .u64 0)) (p := ⟨w.heap.size + 1 + 1, 4, none⟩) (show w.heap.size ≤ w.heap.size + 1 + 1 by omega) (.int .u64 0))
  clear hf1 ha1 ha1f
  generalize (((((w1.setCell ⟨w.heap.size + 1 + 1, 0, none⟩ (.int .i64 1)).setCell ⟨w.heap.size + 1 + 1, 1, none⟩ (.int .i64 2)).setCell ⟨w.heap.size + 1 + 1, 2, none⟩ (.int .i64 0)).setCell ⟨w.heap.size + 1 + 1, 3, none⟩ (.int .u64 0)).setCell ⟨w.heap.size + 1 + 1, 4, none⟩ (.int .u64 0)) = V9 at A9 B9 ⊢
  have ha9 := A9.out.cell
  refine bodyPost_ret (v := .agg #[.int .i64 1, .int .i64 2, .int .i64 0, .int .u64 0, .int .u64 0]) (by simp [results, Try.results60, go_sem, ha9]) rfl ?_
  exact ⟨rfl, B9.out⟩
set_option maxHeartbeats 2000000 in
theorem ask91_c (w : World) (k K T : Int) (M : Nat) (f : FS) (q : Sl) (hpc : f.pc = 91) (x0 : 0 ≤ f.s) (x1 : f.s ≤ 18446744073709551615) (m1 : 2 ≤ M) (m2 : M ≤ 64) (v0 : 0 ≤ f.w) (v1 : f.w ≤ 18446744073709551615) :
    Calls Try.prog 60 #[.agg #[.int .i64 k, .int .i64 K, .int .i64 T, .int .i64 M], .agg (f.v q).toArray] w fun e w' => e = .returned (.agg #[.int .i64 1, .int .i64 7, .int .i64 (lo f.w - 1), .int .u64 0, .int .u64 0]) ∧ Below w.heap.size w w' := by
  have B0 : Hid (Below w.heap.size w (((w.alloc (.cells #[.int .i64 k, .int .i64 K, .int .i64 T, .int .i64 M] 23)).alloc (.cells (f.v q).toArray 83)).alloc (.cells #[.int .i64 0, .int .i64 0, .int .i64 0, .int .u64 0, .int .u64 0] 57))) := Lib.hid ((((Below.refl _ _).alloc (Nat.le_refl _) _).alloc (by simp) _).alloc (by simp; omega) _)
  have C0 : Hid (Blk (((w.alloc (.cells #[.int .i64 k, .int .i64 K, .int .i64 T, .int .i64 M] 23)).alloc (.cells (f.v q).toArray 83)).alloc (.cells #[.int .i64 0, .int .i64 0, .int .i64 0, .int .u64 0, .int .u64 0] 57)) w.heap.size 23 #[.int .i64 k, .int .i64 K, .int .i64 T, .int .i64 M]) := Lib.hid (((Blk.new _ _ _).alloc _).alloc _)
  have F0 : Hid (Blk (((w.alloc (.cells #[.int .i64 k, .int .i64 K, .int .i64 T, .int .i64 M] 23)).alloc (.cells (f.v q).toArray 83)).alloc (.cells #[.int .i64 0, .int .i64 0, .int .i64 0, .int .u64 0, .int .u64 0] 57)) (w.heap.size + 1) 83 (f.v q).toArray) := Lib.hid ((blk_at (by simp)).alloc _)
  have A0 : Hid (Blk (((w.alloc (.cells #[.int .i64 k, .int .i64 K, .int .i64 T, .int .i64 M] 23)).alloc (.cells (f.v q).toArray 83)).alloc (.cells #[.int .i64 0, .int .i64 0, .int .i64 0, .int .u64 0, .int .u64 0] 57)) (w.heap.size + 2) 57 #[.int .i64 0, .int .i64 0, .int .i64 0, .int .u64 0, .int .u64 0]) := Lib.hid (blk_at (by simp))
  have hv4 : (f.v q).toArray[4]? = some (.int .i64 91) := by show some (Value.int .i64 f.pc) = _; rw [hpc]
  have hv6 : (f.v q).toArray[6]? = some (.int .u64 f.w) := rfl
  have l0 : 0 ≤ lo f.w := by unfold lo; omega
  have l1 : lo f.w ≤ 4294967295 := by unfold lo; omega
  clear hpc
  go_enter Try.func60, Try.ntmps60
  go_upto_region 1 with fail
  generalize (((w.alloc (.cells #[.int .i64 k, .int .i64 K, .int .i64 T, .int .i64 M] 23)).alloc (.cells (f.v q).toArray 83)).alloc (.cells #[.int .i64 0, .int .i64 0, .int .i64 0, .int .u64 0, .int .u64 0] 57)) = V at B0 C0 F0 A0 ⊢
  have hc0 := C0.out.cell
  refine wp_region_lit ?_
  refine wpList_load_mid rfl 83 (.tmp 3) rfl (w.heap.size + 1) 0 (by simp [Act.eval]) (f.v q) _ (range24 F0.out (fun j v hj => by rw [Nat.zero_add]; simpa using hj)) Try.underlying83 rfl f_size ?_
  go_wp2_with (first
    | (go_at_call 90; (with_reducible refine (life_c _ k K T M f q x0 x1 m1 m2).mono ?_); rintro e w1 ⟨rfl, hb⟩; go_must (have B1 := Lib.hid (B0.out.trans (hb.mono B0.out.size)); have F1 := Lib.hid (F0.out.below hb F0.out.lt); have A1 := Lib.hid (A0.out.below hb A0.out.lt)); have hf1 := F1.out.cell; have ha1 := A1.out.cell; have ha1f := A1.out.frozen; clear hb hc0)
    | (go_at_call 95; (with_reducible refine (handle3_c f.w _ v0 v1).mono ?_); rintro e w2 ⟨rfl, hb⟩; go_must (have B2 := Lib.hid (B1.out.trans (hb.mono B1.out.size)); have F2 := Lib.hid (F1.out.below hb F1.out.lt); have A2 := Lib.hid (A1.out.below hb A1.out.lt)); have hf2 := F2.out.cell; have ha2 := A2.out.cell; have ha2f := A2.out.frozen; clear hb hf1 ha1 ha1f))
  have A9 := Lib.hid (blk5_set A2.out (.int .i64 1) (.int .i64 7) (.int .i64 (lo f.w - 1)) (.int .u64 0) (.int .u64 0))
  have B9 : Hid (Below w.heap.size w (((((w2.setCell ⟨w.heap.size + 1 + 1, 0, none⟩ (.int .i64 1)).setCell ⟨w.heap.size + 1 + 1, 1, none⟩ (.int .i64 7)).setCell ⟨w.heap.size + 1 + 1, 2, none⟩ (.int .i64 (lo f.w - 1))).setCell ⟨w.heap.size + 1 + 1, 3, none⟩ (.int .u64 0)).setCell ⟨w.heap.size + 1 + 1, 4, none⟩ (.int .u64 0))) := Lib.hid (Below.setCell (Below.setCell (Below.setCell (Below.setCell (Below.setCell B2.out (p := ⟨w.heap.size + 1 + 1, 0, none⟩) (show w.heap.size ≤ w.heap.size + 1 + 1 by omega) (.int .i64 1)) (p := ⟨w.heap.size + 1 + 1, 1, none⟩) (show w.heap.size ≤ w.heap.size + 1 + 1 by omega) (.int .i64 7)) (p := ⟨w.heap.size + 1 + 1, 2, none⟩) (show w.heap.size ≤ w.heap.size + 1 + 1 by omega) (.int .i64 (lo f.w - 1))) (p := ⟨w.heap.size + 1 + 1, 3, none⟩) (show w.heap.size ≤ w.heap.size + 1 + 1 by omega) (.int .u64 0)) (p := ⟨w.heap.size + 1 + 1, 4, none⟩) (show w.heap.size ≤ w.heap.size + 1 + 1 by omega) (.int .u64 0))
  clear hf2 ha2 ha2f
  generalize (((((w2.setCell ⟨w.heap.size + 1 + 1, 0, none⟩ (.int .i64 1)).setCell ⟨w.heap.size + 1 + 1, 1, none⟩ (.int .i64 7)).setCell ⟨w.heap.size + 1 + 1, 2, none⟩ (.int .i64 (lo f.w - 1))).setCell ⟨w.heap.size + 1 + 1, 3, none⟩ (.int .u64 0)).setCell ⟨w.heap.size + 1 + 1, 4, none⟩ (.int .u64 0)) = V9 at A9 B9 ⊢
  have ha9 := A9.out.cell
  refine bodyPost_ret (v := .agg #[.int .i64 1, .int .i64 7, .int .i64 (lo f.w - 1), .int .u64 0, .int .u64 0]) (by simp [results, Try.results60, go_sem, ha9]) rfl ?_
  exact ⟨rfl, B9.out⟩

end Go.Proofs.Ytffppdcpiieapaa.Machc

namespace Go.Proofs.Ytffppdcpiieapaa.Machc
open Go.RowKit Go.Proofs.Ytffppdcpiieapaa.Memc Go.Proofs.Ytffppdcpiieapaa.Newc Go.Proofs.Ytffppdcpiieapaa.Drivec Go.Proofs.Ytffppdcpiieapaa.Procc Go.Proofs.Ytffppdcpiieapaa.Wordc Go.Proofs.Ytffppdcpiieapaa.Arenac
set_option linter.unusedVariables false
set_option maxRecDepth 100000

theorem more_u (x : Int) (w : World) (x0 : 0 ≤ x) (x1 : x ≤ 4294967295) : Calls Try.prog 94 #[.int .u32 x] w fun e w' => e = .returned (.int .u32 (up x)) ∧ w = w' := more_r x w x0 x1
theorem low1_p (x : Int) (w : World) (x0 : 0 ≤ x) (x1 : x ≤ 18446744073709551615) : Calls Try.prog 119 #[.int .u64 x] w fun e w' => e = .returned (.int .u32 (lo x)) ∧ w = w' := by
  go_enter Try.func119, Try.ntmps119
  go_wp2
  go_ret
  exact ⟨rfl, rfl⟩
theorem low3_p (x : Int) (w : World) (x0 : 0 ≤ x) (x1 : x ≤ 18446744073709551615) : Calls Try.prog 98 #[.int .u64 x] w fun e w' => e = .returned (.int .u32 (lo x)) ∧ w = w' := by
  go_enter Try.func98, Try.ntmps98
  go_wp2_with (go_at_call 119; refine (low1_p _ _ x0 x1).mono ?_; rintro e w1 ⟨rfl, rfl⟩)
  go_ret
  exact ⟨rfl, rfl⟩
theorem high1_p (x : Int) (w : World) (x0 : 0 ≤ x) (x1 : x ≤ 18446744073709551615) : Calls Try.prog 118 #[.int .u64 x] w fun e w' => e = .returned (.int .u32 (hi x)) ∧ w = w' := by
  go_enter Try.func118, Try.ntmps118
  go_wp2
  go_ret
  exact ⟨rfl, rfl⟩
theorem high3_p (x : Int) (w : World) (x0 : 0 ≤ x) (x1 : x ≤ 18446744073709551615) : Calls Try.prog 97 #[.int .u64 x] w fun e w' => e = .returned (.int .u32 (hi x)) ∧ w = w' := by
  go_enter Try.func97, Try.ntmps97
  go_wp2_with (go_at_call 118; refine (high1_p _ _ x0 x1).mono ?_; rintro e w1 ⟨rfl, rfl⟩)
  go_ret
  exact ⟨rfl, rfl⟩
theorem handle3_p (x : Int) (w : World) (x0 : 0 ≤ x) (x1 : x ≤ 18446744073709551615) : Calls Try.prog 95 #[.int .u64 x] w fun e w' => e = .returned (.int .i64 (hnd x)) ∧ w = w' := by
  have l0 : 0 ≤ lo x := by unfold lo; omega
  have l1 : lo x ≤ 4294967295 := by unfold lo; omega
  go_enter Try.func95, Try.ntmps95
  go_wp2_with (go_at_call 98; refine (low3_p _ _ x0 x1).mono ?_; rintro e w1 ⟨rfl, rfl⟩)
  go_ret
  exact ⟨rfl, rfl⟩
theorem still_of {P : Program} {f : FuncId} {args : Array Value} {w : World} {v : Value} (h : Calls P f args w fun e w' => e = .returned v ∧ w = w') : Calls P f args w fun e w' => e = .returned v ∧ w' = w :=
  h.mono fun _ _ h => ⟨h.1, h.2.symm⟩
set_option maxHeartbeats 2000000 in
theorem ask92_c (w : World) (k K T : Int) (M : Nat) (f : FS) (q : Sl) (hpc : f.pc = 92) (x0 : 0 ≤ f.s) (x1 : f.s ≤ 18446744073709551615) (m1 : 2 ≤ M) (m2 : M ≤ 64) (v0 : 0 ≤ f.w) (v1 : f.w ≤ 18446744073709551615) (u0 : 0 ≤ f.l) (u1 : f.l ≤ 18446744073709551615) :
    Calls Try.prog 60 #[.agg #[.int .i64 k, .int .i64 K, .int .i64 T, .int .i64 M], .agg (f.v q).toArray] w fun e w' => e = .returned (.agg #[.int .i64 3, .int .i64 2, .int .i64 0, .int .u64 f.w, .int .u64 (pk (up (hi f.w)) (lo f.l))]) ∧ Below w.heap.size w w' := by
  have B0 : Hid (Below w.heap.size w (((w.alloc (.cells #[.int .i64 k, .int .i64 K, .int .i64 T, .int .i64 M] 23)).alloc (.cells (f.v q).toArray 83)).alloc (.cells #[.int .i64 0, .int .i64 0, .int .i64 0, .int .u64 0, .int .u64 0] 57))) := Lib.hid ((((Below.refl _ _).alloc (Nat.le_refl _) _).alloc (by simp) _).alloc (by simp; omega) _)
  have C0 : Hid (Blk (((w.alloc (.cells #[.int .i64 k, .int .i64 K, .int .i64 T, .int .i64 M] 23)).alloc (.cells (f.v q).toArray 83)).alloc (.cells #[.int .i64 0, .int .i64 0, .int .i64 0, .int .u64 0, .int .u64 0] 57)) w.heap.size 23 #[.int .i64 k, .int .i64 K, .int .i64 T, .int .i64 M]) := Lib.hid (((Blk.new _ _ _).alloc _).alloc _)
  have F0 : Hid (Blk (((w.alloc (.cells #[.int .i64 k, .int .i64 K, .int .i64 T, .int .i64 M] 23)).alloc (.cells (f.v q).toArray 83)).alloc (.cells #[.int .i64 0, .int .i64 0, .int .i64 0, .int .u64 0, .int .u64 0] 57)) (w.heap.size + 1) 83 (f.v q).toArray) := Lib.hid ((blk_at (by simp)).alloc _)
  have A0 : Hid (Blk (((w.alloc (.cells #[.int .i64 k, .int .i64 K, .int .i64 T, .int .i64 M] 23)).alloc (.cells (f.v q).toArray 83)).alloc (.cells #[.int .i64 0, .int .i64 0, .int .i64 0, .int .u64 0, .int .u64 0] 57)) (w.heap.size + 2) 57 #[.int .i64 0, .int .i64 0, .int .i64 0, .int .u64 0, .int .u64 0]) := Lib.hid (blk_at (by simp))
  have hv4 : (f.v q).toArray[4]? = some (.int .i64 92) := by show some (Value.int .i64 f.pc) = _; rw [hpc]
  have hv6 : (f.v q).toArray[6]? = some (.int .u64 f.w) := rfl
  have hv7 : (f.v q).toArray[7]? = some (.int .u64 f.l) := rfl
  clear hpc
  go_enter Try.func60, Try.ntmps60
  go_upto_region 1 with fail
  generalize (((w.alloc (.cells #[.int .i64 k, .int .i64 K, .int .i64 T, .int .i64 M] 23)).alloc (.cells (f.v q).toArray 83)).alloc (.cells #[.int .i64 0, .int .i64 0, .int .i64 0, .int .u64 0, .int .u64 0] 57)) = V at B0 C0 F0 A0 ⊢
  have hc0 := C0.out.cell
  refine wp_region_lit ?_
  refine wpList_load_mid rfl 83 (.tmp 3) rfl (w.heap.size + 1) 0 (by simp [Act.eval]) (f.v q) _ (range24 F0.out (fun j v hj => by rw [Nat.zero_add]; simpa using hj)) Try.underlying83 rfl f_size ?_
  go_wp2_with (first
    | (go_at_call 90; (with_reducible refine (life_c _ k K T M f q x0 x1 m1 m2).mono ?_); rintro e w1 ⟨rfl, hb⟩; go_must (have B1 := Lib.hid (B0.out.trans (hb.mono B0.out.size)); have F1 := Lib.hid (F0.out.below hb F0.out.lt); have A1 := Lib.hid (A0.out.below hb A0.out.lt)); have hf1 := F1.out.cell; have ha1 := A1.out.cell; have ha1f := A1.out.frozen; clear hb hc0))
  refine wp_region_still_tail 11 (by kernel_rfl) (by kernel_rfl) ?_
  simp only [List.take_succ_cons, List.take_zero, List.drop_succ_cons, List.drop_zero]
  repeat (first
    | still_step
    | (refine wpStill_step (fun K hK => ?_); go_simp; refine ⟨_, still_of (high3_p f.w _ v0 v1), hK _ ?_⟩; clear hK K)
    | (refine wpStill_step (fun K hK => ?_); go_simp; refine ⟨_, still_of (more_u (hi f.w) _ (by unfold hi; omega) (by unfold hi; omega)), hK _ ?_⟩; clear hK K)
    | (refine wpStill_step (fun K hK => ?_); go_simp; refine ⟨_, still_of (low3_p f.l _ u0 u1), hK _ ?_⟩; clear hK K)
    | (refine wpStill_step (fun K hK => ?_); go_simp; refine ⟨_, still_of (pack3_c (up (hi f.w)) (lo f.l) _ (by (try unfold up); (try unfold hi); omega) (by (try unfold up); (try unfold hi); omega) (by unfold lo; omega) (by unfold lo; omega)), hK _ ?_⟩; clear hK K))
  refine wpStill_nil ?_
  change wpList _ _ _ _ _ w1.drew
  have A1 := Lib.hid A1.out.drew
  have B1 := Lib.hid (below_drawn B1.out 1)
  clear hf1 ha1 ha1f
  change Hid (Below _ _ w1.drew) at B1
  generalize w1.drew = w1 at A1 B1 ⊢
  have ha1 := A1.out.cell
  have ha1f := A1.out.frozen
  have hf1 := ha1f
  go_wp2
  have A9 := Lib.hid (blk5_set A1.out (.int .i64 3) (.int .i64 2) (.int .i64 0) (.int .u64 f.w) (.int .u64 (pk (up (hi f.w)) (lo f.l))))
  have B9 : Hid (Below w.heap.size w (((((w1.setCell ⟨w.heap.size + 1 + 1, 0, none⟩ (.int .i64 3)).setCell ⟨w.heap.size + 1 + 1, 1, none⟩ (.int .i64 2)).setCell ⟨w.heap.size + 1 + 1, 2, none⟩ (.int .i64 0)).setCell ⟨w.heap.size + 1 + 1, 3, none⟩ (.int .u64 f.w)).setCell ⟨w.heap.size + 1 + 1, 4, none⟩ (.int .u64 (pk (up (hi f.w)) (lo f.l))))) := Lib.hid (Below.setCell (Below.setCell (Below.setCell (Below.setCell (Below.setCell B1.out (p := ⟨w.heap.size + 1 + 1, 0, none⟩) (show w.heap.size ≤ w.heap.size + 1 + 1 by omega) (.int .i64 3)) (p := ⟨w.heap.size + 1 + 1, 1, none⟩) (show w.heap.size ≤ w.heap.size + 1 + 1 by omega) (.int .i64 2)) (p := ⟨w.heap.size + 1 + 1, 2, none⟩) (show w.heap.size ≤ w.heap.size + 1 + 1 by omega) (.int .i64 0)) (p := ⟨w.heap.size + 1 + 1, 3, none⟩) (show w.heap.size ≤ w.heap.size + 1 + 1 by omega) (.int .u64 f.w)) (p := ⟨w.heap.size + 1 + 1, 4, none⟩) (show w.heap.size ≤ w.heap.size + 1 + 1 by omega) (.int .u64 (pk (up (hi f.w)) (lo f.l))))
  clear hf1 ha1 ha1f
  generalize (((((w1.setCell ⟨w.heap.size + 1 + 1, 0, none⟩ (.int .i64 3)).setCell ⟨w.heap.size + 1 + 1, 1, none⟩ (.int .i64 2)).setCell ⟨w.heap.size + 1 + 1, 2, none⟩ (.int .i64 0)).setCell ⟨w.heap.size + 1 + 1, 3, none⟩ (.int .u64 f.w)).setCell ⟨w.heap.size + 1 + 1, 4, none⟩ (.int .u64 (pk (up (hi f.w)) (lo f.l)))) = V9 at A9 B9 ⊢
  have ha9 := A9.out.cell
  refine bodyPost_ret (v := .agg #[.int .i64 3, .int .i64 2, .int .i64 0, .int .u64 f.w, .int .u64 (pk (up (hi f.w)) (lo f.l))]) (by simp [results, Try.results60, go_sem, ha9]) rfl ?_
  exact ⟨rfl, B9.out⟩
set_option maxHeartbeats 2000000 in
theorem ask96_c (w : World) (k K T : Int) (M : Nat) (f : FS) (q : Sl) (hpc : f.pc = 96) (x0 : 0 ≤ f.s) (x1 : f.s ≤ 18446744073709551615) (m1 : 2 ≤ M) (m2 : M ≤ 64) (v0 : 0 ≤ f.w) (v1 : f.w ≤ 18446744073709551615) (u0 : 0 ≤ f.give) (u1 : f.give ≤ 18446744073709551615) :
    Calls Try.prog 60 #[.agg #[.int .i64 k, .int .i64 K, .int .i64 T, .int .i64 M], .agg (f.v q).toArray] w fun e w' => e = .returned (.agg #[.int .i64 2, .int .i64 7, .int .i64 (hnd f.give), .int .u64 0, .int .u64 (pk (hi f.give) (lo f.w))]) ∧ Below w.heap.size w w' := by
  have B0 : Hid (Below w.heap.size w (((w.alloc (.cells #[.int .i64 k, .int .i64 K, .int .i64 T, .int .i64 M] 23)).alloc (.cells (f.v q).toArray 83)).alloc (.cells #[.int .i64 0, .int .i64 0, .int .i64 0, .int .u64 0, .int .u64 0] 57))) := Lib.hid ((((Below.refl _ _).alloc (Nat.le_refl _) _).alloc (by simp) _).alloc (by simp; omega) _)
  have C0 : Hid (Blk (((w.alloc (.cells #[.int .i64 k, .int .i64 K, .int .i64 T, .int .i64 M] 23)).alloc (.cells (f.v q).toArray 83)).alloc (.cells #[.int .i64 0, .int .i64 0, .int .i64 0, .int .u64 0, .int .u64 0] 57)) w.heap.size 23 #[.int .i64 k, .int .i64 K, .int .i64 T, .int .i64 M]) := Lib.hid (((Blk.new _ _ _).alloc _).alloc _)
  have F0 : Hid (Blk (((w.alloc (.cells #[.int .i64 k, .int .i64 K, .int .i64 T, .int .i64 M] 23)).alloc (.cells (f.v q).toArray 83)).alloc (.cells #[.int .i64 0, .int .i64 0, .int .i64 0, .int .u64 0, .int .u64 0] 57)) (w.heap.size + 1) 83 (f.v q).toArray) := Lib.hid ((blk_at (by simp)).alloc _)
  have A0 : Hid (Blk (((w.alloc (.cells #[.int .i64 k, .int .i64 K, .int .i64 T, .int .i64 M] 23)).alloc (.cells (f.v q).toArray 83)).alloc (.cells #[.int .i64 0, .int .i64 0, .int .i64 0, .int .u64 0, .int .u64 0] 57)) (w.heap.size + 2) 57 #[.int .i64 0, .int .i64 0, .int .i64 0, .int .u64 0, .int .u64 0]) := Lib.hid (blk_at (by simp))
  have hv4 : (f.v q).toArray[4]? = some (.int .i64 96) := by show some (Value.int .i64 f.pc) = _; rw [hpc]
  have hv6 : (f.v q).toArray[6]? = some (.int .u64 f.w) := rfl
  have hv13 : (f.v q).toArray[13]? = some (.int .u64 f.give) := rfl
  clear hpc
  go_enter Try.func60, Try.ntmps60
  go_upto_region 1 with fail
  generalize (((w.alloc (.cells #[.int .i64 k, .int .i64 K, .int .i64 T, .int .i64 M] 23)).alloc (.cells (f.v q).toArray 83)).alloc (.cells #[.int .i64 0, .int .i64 0, .int .i64 0, .int .u64 0, .int .u64 0] 57)) = V at B0 C0 F0 A0 ⊢
  have hc0 := C0.out.cell
  refine wp_region_lit ?_
  refine wpList_load_mid rfl 83 (.tmp 3) rfl (w.heap.size + 1) 0 (by simp [Act.eval]) (f.v q) _ (range24 F0.out (fun j v hj => by rw [Nat.zero_add]; simpa using hj)) Try.underlying83 rfl f_size ?_
  go_wp2_with (first
    | (go_at_call 90; (with_reducible refine (life_c _ k K T M f q x0 x1 m1 m2).mono ?_); rintro e w1 ⟨rfl, hb⟩; go_must (have B1 := Lib.hid (B0.out.trans (hb.mono B0.out.size)); have F1 := Lib.hid (F0.out.below hb F0.out.lt); have A1 := Lib.hid (A0.out.below hb A0.out.lt)); have hf1 := F1.out.cell; have ha1 := A1.out.cell; have ha1f := A1.out.frozen; clear hb hc0))
  refine wp_region_still_tail 11 (by kernel_rfl) (by kernel_rfl) ?_
  simp only [List.take_succ_cons, List.take_zero, List.drop_succ_cons, List.drop_zero]
  repeat (first
    | still_step
    | (refine wpStill_step (fun K hK => ?_); go_simp; refine ⟨_, still_of (handle3_p f.give _ u0 u1), hK _ ?_⟩; clear hK K)
    | (refine wpStill_step (fun K hK => ?_); go_simp; refine ⟨_, still_of (high3_p f.give _ u0 u1), hK _ ?_⟩; clear hK K)
    | (refine wpStill_step (fun K hK => ?_); go_simp; refine ⟨_, still_of (low3_p f.w _ v0 v1), hK _ ?_⟩; clear hK K)
    | (refine wpStill_step (fun K hK => ?_); go_simp; refine ⟨_, still_of (pack3_c (hi f.give) (lo f.w) _ (by (try unfold up); (try unfold hi); omega) (by (try unfold up); (try unfold hi); omega) (by unfold lo; omega) (by unfold lo; omega)), hK _ ?_⟩; clear hK K))
  refine wpStill_nil ?_
  change wpList _ _ _ _ _ w1.drew
  have A1 := Lib.hid A1.out.drew
  have B1 := Lib.hid (below_drawn B1.out 1)
  clear hf1 ha1 ha1f
  change Hid (Below _ _ w1.drew) at B1
  generalize w1.drew = w1 at A1 B1 ⊢
  have ha1 := A1.out.cell
  have ha1f := A1.out.frozen
  have hf1 := ha1f
  go_wp2
  have A9 := Lib.hid (blk5_set A1.out (.int .i64 2) (.int .i64 7) (.int .i64 (hnd f.give)) (.int .u64 0) (.int .u64 (pk (hi f.give) (lo f.w))))
  have B9 : Hid (Below w.heap.size w (((((w1.setCell ⟨w.heap.size + 1 + 1, 0, none⟩ (.int .i64 2)).setCell ⟨w.heap.size + 1 + 1, 1, none⟩ (.int .i64 7)).setCell ⟨w.heap.size + 1 + 1, 2, none⟩ (.int .i64 (hnd f.give))).setCell ⟨w.heap.size + 1 + 1, 3, none⟩ (.int .u64 0)).setCell ⟨w.heap.size + 1 + 1, 4, none⟩ (.int .u64 (pk (hi f.give) (lo f.w))))) := Lib.hid (Below.setCell (Below.setCell (Below.setCell (Below.setCell (Below.setCell B1.out (p := ⟨w.heap.size + 1 + 1, 0, none⟩) (show w.heap.size ≤ w.heap.size + 1 + 1 by omega) (.int .i64 2)) (p := ⟨w.heap.size + 1 + 1, 1, none⟩) (show w.heap.size ≤ w.heap.size + 1 + 1 by omega) (.int .i64 7)) (p := ⟨w.heap.size + 1 + 1, 2, none⟩) (show w.heap.size ≤ w.heap.size + 1 + 1 by omega) (.int .i64 (hnd f.give))) (p := ⟨w.heap.size + 1 + 1, 3, none⟩) (show w.heap.size ≤ w.heap.size + 1 + 1 by omega) (.int .u64 0)) (p := ⟨w.heap.size + 1 + 1, 4, none⟩) (show w.heap.size ≤ w.heap.size + 1 + 1 by omega) (.int .u64 (pk (hi f.give) (lo f.w))))
  clear hf1 ha1 ha1f
  generalize (((((w1.setCell ⟨w.heap.size + 1 + 1, 0, none⟩ (.int .i64 2)).setCell ⟨w.heap.size + 1 + 1, 1, none⟩ (.int .i64 7)).setCell ⟨w.heap.size + 1 + 1, 2, none⟩ (.int .i64 (hnd f.give))).setCell ⟨w.heap.size + 1 + 1, 3, none⟩ (.int .u64 0)).setCell ⟨w.heap.size + 1 + 1, 4, none⟩ (.int .u64 (pk (hi f.give) (lo f.w)))) = V9 at A9 B9 ⊢
  have ha9 := A9.out.cell
  refine bodyPost_ret (v := .agg #[.int .i64 2, .int .i64 7, .int .i64 (hnd f.give), .int .u64 0, .int .u64 (pk (hi f.give) (lo f.w))]) (by simp [results, Try.results60, go_sem, ha9]) rfl ?_
  exact ⟨rfl, B9.out⟩
set_option maxHeartbeats 2000000 in
theorem ask97_c (w : World) (k K T : Int) (M : Nat) (f : FS) (q : Sl) (hpc : f.pc = 97) (x0 : 0 ≤ f.s) (x1 : f.s ≤ 18446744073709551615) (m1 : 2 ≤ M) (m2 : M ≤ 64) (v0 : 0 ≤ f.w) (v1 : f.w ≤ 18446744073709551615) (u0 : 0 ≤ f.give) (u1 : f.give ≤ 18446744073709551615) :
    Calls Try.prog 60 #[.agg #[.int .i64 k, .int .i64 K, .int .i64 T, .int .i64 M], .agg (f.v q).toArray] w fun e w' => e = .returned (.agg #[.int .i64 3, .int .i64 2, .int .i64 0, .int .u64 f.w, .int .u64 (pk (up (hi f.w)) (lo f.give))]) ∧ Below w.heap.size w w' := by
  have B0 : Hid (Below w.heap.size w (((w.alloc (.cells #[.int .i64 k, .int .i64 K, .int .i64 T, .int .i64 M] 23)).alloc (.cells (f.v q).toArray 83)).alloc (.cells #[.int .i64 0, .int .i64 0, .int .i64 0, .int .u64 0, .int .u64 0] 57))) := Lib.hid ((((Below.refl _ _).alloc (Nat.le_refl _) _).alloc (by simp) _).alloc (by simp; omega) _)
  have C0 : Hid (Blk (((w.alloc (.cells #[.int .i64 k, .int .i64 K, .int .i64 T, .int .i64 M] 23)).alloc (.cells (f.v q).toArray 83)).alloc (.cells #[.int .i64 0, .int .i64 0, .int .i64 0, .int .u64 0, .int .u64 0] 57)) w.heap.size 23 #[.int .i64 k, .int .i64 K, .int .i64 T, .int .i64 M]) := Lib.hid (((Blk.new _ _ _).alloc _).alloc _)
  have F0 : Hid (Blk (((w.alloc (.cells #[.int .i64 k, .int .i64 K, .int .i64 T, .int .i64 M] 23)).alloc (.cells (f.v q).toArray 83)).alloc (.cells #[.int .i64 0, .int .i64 0, .int .i64 0, .int .u64 0, .int .u64 0] 57)) (w.heap.size + 1) 83 (f.v q).toArray) := Lib.hid ((blk_at (by simp)).alloc _)
  have A0 : Hid (Blk (((w.alloc (.cells #[.int .i64 k, .int .i64 K, .int .i64 T, .int .i64 M] 23)).alloc (.cells (f.v q).toArray 83)).alloc (.cells #[.int .i64 0, .int .i64 0, .int .i64 0, .int .u64 0, .int .u64 0] 57)) (w.heap.size + 2) 57 #[.int .i64 0, .int .i64 0, .int .i64 0, .int .u64 0, .int .u64 0]) := Lib.hid (blk_at (by simp))
  have hv4 : (f.v q).toArray[4]? = some (.int .i64 97) := by show some (Value.int .i64 f.pc) = _; rw [hpc]
  have hv6 : (f.v q).toArray[6]? = some (.int .u64 f.w) := rfl
  have hv13 : (f.v q).toArray[13]? = some (.int .u64 f.give) := rfl
  clear hpc
  go_enter Try.func60, Try.ntmps60
  go_upto_region 1 with fail
  generalize (((w.alloc (.cells #[.int .i64 k, .int .i64 K, .int .i64 T, .int .i64 M] 23)).alloc (.cells (f.v q).toArray 83)).alloc (.cells #[.int .i64 0, .int .i64 0, .int .i64 0, .int .u64 0, .int .u64 0] 57)) = V at B0 C0 F0 A0 ⊢
  have hc0 := C0.out.cell
  refine wp_region_lit ?_
  refine wpList_load_mid rfl 83 (.tmp 3) rfl (w.heap.size + 1) 0 (by simp [Act.eval]) (f.v q) _ (range24 F0.out (fun j v hj => by rw [Nat.zero_add]; simpa using hj)) Try.underlying83 rfl f_size ?_
  go_wp2_with (first
    | (go_at_call 90; (with_reducible refine (life_c _ k K T M f q x0 x1 m1 m2).mono ?_); rintro e w1 ⟨rfl, hb⟩; go_must (have B1 := Lib.hid (B0.out.trans (hb.mono B0.out.size)); have F1 := Lib.hid (F0.out.below hb F0.out.lt); have A1 := Lib.hid (A0.out.below hb A0.out.lt)); have hf1 := F1.out.cell; have ha1 := A1.out.cell; have ha1f := A1.out.frozen; clear hb hc0))
  refine wp_region_still_tail 11 (by kernel_rfl) (by kernel_rfl) ?_
  simp only [List.take_succ_cons, List.take_zero, List.drop_succ_cons, List.drop_zero]
  repeat (first
    | still_step
    | (refine wpStill_step (fun K hK => ?_); go_simp; refine ⟨_, still_of (high3_p f.w _ v0 v1), hK _ ?_⟩; clear hK K)
    | (refine wpStill_step (fun K hK => ?_); go_simp; refine ⟨_, still_of (more_u (hi f.w) _ (by unfold hi; omega) (by unfold hi; omega)), hK _ ?_⟩; clear hK K)
    | (refine wpStill_step (fun K hK => ?_); go_simp; refine ⟨_, still_of (low3_p f.give _ u0 u1), hK _ ?_⟩; clear hK K)
    | (refine wpStill_step (fun K hK => ?_); go_simp; refine ⟨_, still_of (pack3_c (up (hi f.w)) (lo f.give) _ (by (try unfold up); (try unfold hi); omega) (by (try unfold up); (try unfold hi); omega) (by unfold lo; omega) (by unfold lo; omega)), hK _ ?_⟩; clear hK K))
  refine wpStill_nil ?_
  change wpList _ _ _ _ _ w1.drew
  have A1 := Lib.hid A1.out.drew
  have B1 := Lib.hid (below_drawn B1.out 1)
  clear hf1 ha1 ha1f
  change Hid (Below _ _ w1.drew) at B1
  generalize w1.drew = w1 at A1 B1 ⊢
  have ha1 := A1.out.cell
  have ha1f := A1.out.frozen
  have hf1 := ha1f
  go_wp2
  have A9 := Lib.hid (blk5_set A1.out (.int .i64 3) (.int .i64 2) (.int .i64 0) (.int .u64 f.w) (.int .u64 (pk (up (hi f.w)) (lo f.give))))
  have B9 : Hid (Below w.heap.size w (((((w1.setCell ⟨w.heap.size + 1 + 1, 0, none⟩ (.int .i64 3)).setCell ⟨w.heap.size + 1 + 1, 1, none⟩ (.int .i64 2)).setCell ⟨w.heap.size + 1 + 1, 2, none⟩ (.int .i64 0)).setCell ⟨w.heap.size + 1 + 1, 3, none⟩ (.int .u64 f.w)).setCell ⟨w.heap.size + 1 + 1, 4, none⟩ (.int .u64 (pk (up (hi f.w)) (lo f.give))))) := Lib.hid (Below.setCell (Below.setCell (Below.setCell (Below.setCell (Below.setCell B1.out (p := ⟨w.heap.size + 1 + 1, 0, none⟩) (show w.heap.size ≤ w.heap.size + 1 + 1 by omega) (.int .i64 3)) (p := ⟨w.heap.size + 1 + 1, 1, none⟩) (show w.heap.size ≤ w.heap.size + 1 + 1 by omega) (.int .i64 2)) (p := ⟨w.heap.size + 1 + 1, 2, none⟩) (show w.heap.size ≤ w.heap.size + 1 + 1 by omega) (.int .i64 0)) (p := ⟨w.heap.size + 1 + 1, 3, none⟩) (show w.heap.size ≤ w.heap.size + 1 + 1 by omega) (.int .u64 f.w)) (p := ⟨w.heap.size + 1 + 1, 4, none⟩) (show w.heap.size ≤ w.heap.size + 1 + 1 by omega) (.int .u64 (pk (up (hi f.w)) (lo f.give))))
  clear hf1 ha1 ha1f
  generalize (((((w1.setCell ⟨w.heap.size + 1 + 1, 0, none⟩ (.int .i64 3)).setCell ⟨w.heap.size + 1 + 1, 1, none⟩ (.int .i64 2)).setCell ⟨w.heap.size + 1 + 1, 2, none⟩ (.int .i64 0)).setCell ⟨w.heap.size + 1 + 1, 3, none⟩ (.int .u64 f.w)).setCell ⟨w.heap.size + 1 + 1, 4, none⟩ (.int .u64 (pk (up (hi f.w)) (lo f.give)))) = V9 at A9 B9 ⊢
  have ha9 := A9.out.cell
  refine bodyPost_ret (v := .agg #[.int .i64 3, .int .i64 2, .int .i64 0, .int .u64 f.w, .int .u64 (pk (up (hi f.w)) (lo f.give))]) (by simp [results, Try.results60, go_sem, ha9]) rfl ?_
  exact ⟨rfl, B9.out⟩

end Go.Proofs.Ytffppdcpiieapaa.Machc
