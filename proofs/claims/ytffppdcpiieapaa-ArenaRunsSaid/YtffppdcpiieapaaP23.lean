/- What a call is behind its accesses, by the document's answer. -/
import Derived.Test.YtffppdcpiieapaaP20
import Derived.Test.YtffppdcpiieapaaP22
namespace Go.Proofs.Ytffppdcpiieapaa.Machc
open Go.RowKit Go.Proofs.Ytffppdcpiieapaa.Memc Go.Proofs.Ytffppdcpiieapaa.Newc Go.Proofs.Ytffppdcpiieapaa.Refc Go.Proofs.Ytffppdcpiieapaa.Drivec Go.Proofs.Ytffppdcpiieapaa.Procc Go.Proofs.Ytffppdcpiieapaa.Wordc Go.Proofs.Ytffppdcpiieapaa.Arenac
set_option linter.unusedVariables false
set_option maxRecDepth 100000

set_option maxHeartbeats 4000000 in
theorem tell90a_c (w : World) (k : Int) (K T M : Nat) (f : FS) (q : Sl) (was : Int) (dn : Bool) (hpc : f.pc = 90) (x0 : 0 ≤ f.s) (x1 : f.s ≤ 18446744073709551615) (m1 : 2 ≤ M) (m2 : M ≤ 64) (u0 : 0 ≤ was) (u1 : was ≤ 18446744073709551615) (hl : lo was = 0) (hkd : f.kd = 4) :
    Calls Try.prog 62 #[.agg #[.int .i64 k, .int .i64 K, .int .i64 T, .int .i64 M], .agg (f.v q).toArray, .int .u64 was, .bool dn] w fun e w' => e = .returned (.agg ((docTell k K T M f was dn).v q).toArray) ∧ Below w.heap.size w w' := by
  have B0 : Hid (Below w.heap.size w (((w.alloc (.cells #[.int .i64 k, .int .i64 K, .int .i64 T, .int .i64 M] 23)).alloc (.cells (f.v q).toArray 83)).alloc (.cells #[.int .i64 0, .int .u32 0, .int .i64 0, .int .i64 0, .int .i64 0, .int .u64 0, .int .u64 0, .int .u64 0, .int .u64 0, .int .i64 0, .slice none 0 0, .bool false, .int .u64 0, .int .u64 0, .int .i64 0, .int .u32 0, .int .i64 0, .int .i64 0, .int .i64 0, .int .i64 0, .int .u64 0, .int .u64 0, .int .i64 0, .int .u32 0] 83))) := Lib.hid ((((Below.refl _ _).alloc (Nat.le_refl _) _).alloc (by simp) _).alloc (by simp; omega) _)
  have C0 : Hid (Blk (((w.alloc (.cells #[.int .i64 k, .int .i64 K, .int .i64 T, .int .i64 M] 23)).alloc (.cells (f.v q).toArray 83)).alloc (.cells #[.int .i64 0, .int .u32 0, .int .i64 0, .int .i64 0, .int .i64 0, .int .u64 0, .int .u64 0, .int .u64 0, .int .u64 0, .int .i64 0, .slice none 0 0, .bool false, .int .u64 0, .int .u64 0, .int .i64 0, .int .u32 0, .int .i64 0, .int .i64 0, .int .i64 0, .int .i64 0, .int .u64 0, .int .u64 0, .int .i64 0, .int .u32 0] 83)) w.heap.size 23 #[.int .i64 k, .int .i64 K, .int .i64 T, .int .i64 M]) := Lib.hid (((Blk.new _ _ _).alloc _).alloc _)
  have F0 : Hid (Blk (((w.alloc (.cells #[.int .i64 k, .int .i64 K, .int .i64 T, .int .i64 M] 23)).alloc (.cells (f.v q).toArray 83)).alloc (.cells #[.int .i64 0, .int .u32 0, .int .i64 0, .int .i64 0, .int .i64 0, .int .u64 0, .int .u64 0, .int .u64 0, .int .u64 0, .int .i64 0, .slice none 0 0, .bool false, .int .u64 0, .int .u64 0, .int .i64 0, .int .u32 0, .int .i64 0, .int .i64 0, .int .i64 0, .int .i64 0, .int .u64 0, .int .u64 0, .int .i64 0, .int .u32 0] 83)) (w.heap.size + 1) 83 (f.v q).toArray) := Lib.hid ((blk_at (by simp)).alloc _)
  have Z0 : Hid (Blk (((w.alloc (.cells #[.int .i64 k, .int .i64 K, .int .i64 T, .int .i64 M] 23)).alloc (.cells (f.v q).toArray 83)).alloc (.cells #[.int .i64 0, .int .u32 0, .int .i64 0, .int .i64 0, .int .i64 0, .int .u64 0, .int .u64 0, .int .u64 0, .int .u64 0, .int .i64 0, .slice none 0 0, .bool false, .int .u64 0, .int .u64 0, .int .i64 0, .int .u32 0, .int .i64 0, .int .i64 0, .int .i64 0, .int .i64 0, .int .u64 0, .int .u64 0, .int .i64 0, .int .u32 0] 83)) (w.heap.size + 1 + 1) 83 #[.int .i64 0, .int .u32 0, .int .i64 0, .int .i64 0, .int .i64 0, .int .u64 0, .int .u64 0, .int .u64 0, .int .u64 0, .int .i64 0, .slice none 0 0, .bool false, .int .u64 0, .int .u64 0, .int .i64 0, .int .u32 0, .int .i64 0, .int .i64 0, .int .i64 0, .int .i64 0, .int .u64 0, .int .u64 0, .int .i64 0, .int .u32 0]) := Lib.hid (blk_at (by simp))
  have hv4 : (f.v q).toArray[4]? = some (.int .i64 90) := by show some (Value.int .i64 f.pc) = _; rw [hpc]
  have hz : (lo was == 0) = true := by rw [hl]; rfl
  have HT : Hid (docTell k K T M f was dn = ({ f with code := 4, pc := 0 } : FS)) := Lib.hid (by rw [tell90 was dn hpc, if_pos hl]; unfold FS.ends; rw [if_neg (fun h => h.2 hkd), if_pos (.inr hkd)])
  clear hpc
  clear hl
  have HKD := Lib.hid hkd
  clear hkd
  go_enter Try.func62, Try.ntmps62
  go_upto_region 1 with fail
  generalize (((w.alloc (.cells #[.int .i64 k, .int .i64 K, .int .i64 T, .int .i64 M] 23)).alloc (.cells (f.v q).toArray 83)).alloc (.cells #[.int .i64 0, .int .u32 0, .int .i64 0, .int .i64 0, .int .i64 0, .int .u64 0, .int .u64 0, .int .u64 0, .int .u64 0, .int .i64 0, .slice none 0 0, .bool false, .int .u64 0, .int .u64 0, .int .i64 0, .int .u32 0, .int .i64 0, .int .i64 0, .int .i64 0, .int .i64 0, .int .u64 0, .int .u64 0, .int .i64 0, .int .u32 0] 83)) = V at B0 C0 F0 Z0 ⊢
  have hc0 := C0.out.cell
  refine wp_region_lit ?_
  refine wpList_load_mid rfl 83 (.tmp 5) rfl (w.heap.size + 1) 0 (by simp [Act.eval]) (f.v q) _ (range24 F0.out (fun j v hj => by rw [Nat.zero_add]; simpa using hj)) Try.underlying83 rfl f_size ?_
  go_upto_region 219 with (first
    | (go_at_call 90; (with_reducible refine (life_c _ k K T M f q x0 x1 m1 m2).mono ?_); rintro e w1 ⟨rfl, hb⟩; go_must (have B1 := Lib.hid (B0.out.trans (hb.mono B0.out.size)); have F1 := Lib.hid (F0.out.below hb F0.out.lt); have Z1 := Lib.hid (Z0.out.below hb Z0.out.lt); have C1 := Lib.hid (C0.out.below hb C0.out.lt)); have hf1c := F1.out.cell; have hf1f := F1.out.frozen; have hc1 := C1.out.cell; clear hb hc0)
    | (go_at_call 98; (with_reducible refine (low3_p was _ u0 u1).mono ?_); rintro e w' ⟨rfl, rfl⟩))
  refine wp_region_lit ?_
  refine wpList_load_mid rfl 83 (.tmp 5) rfl (w.heap.size + 1) 0 (by simp [Act.eval]) (f.v q) _ (range24 F1.out (fun j v hj => by rw [Nat.zero_add]; simpa using hj)) Try.underlying83 rfl f_size ?_
  go_wp2_with (first
    | (go_at_call 104; (with_reducible refine (ends4_c _ k K T M f q 4 HKD.out).mono ?_); rintro e w2 ⟨rfl, hb⟩; go_must (have B2 := Lib.hid (B1.out.trans (hb.mono B1.out.size)); have Z2 := Lib.hid (Z1.out.below hb Z1.out.lt)); clear hb)
    | (refine wpList_store_mid rfl 83 (.tmp 8) (.tmp 633) rfl (w.heap.size + 1 + 1) 0 (({ f with code := 4, pc := 0 } : FS).v q).toArray (by simp [Act.eval]) (by simp [Act.eval]) (there24 Z2.out (by decide)) f_size (FS.one _ _) ?_))
  have R9 := res24 (World.rangeAt_setCells_same w2 (w.heap.size + 1 + 1) 0 (({ f with code := 4, pc := 0 } : FS).v q) (there24 Z2.out (by decide)))
  have B9 := Only.below (Only.sets (P := fun g => w.heap.size ≤ g) (g := (w.heap.size + 1 + 1)) (.inl (by omega)) (({ f with code := 4, pc := 0 } : FS).v q) w2 0 (Only.of_below B2.out (Nat.le_refl _))) (Nat.le_refl _) (fun k h => h)
  generalize w2.setCells (w.heap.size + 1 + 1) 0 (({ f with code := 4, pc := 0 } : FS).v q) = V9 at R9 B9 ⊢
  refine bodyPost_ret (v := .agg (({ f with code := 4, pc := 0 } : FS).v q).toArray) (results_cell1 (a := 8) Try.results62 rfl R9) rfl ?_
  exact ⟨by rw [HT.out], B9⟩
set_option maxHeartbeats 4000000 in
theorem tell90b_c (w : World) (k : Int) (K T M : Nat) (f : FS) (q : Sl) (was : Int) (dn : Bool) (hpc : f.pc = 90) (x0 : 0 ≤ f.s) (x1 : f.s ≤ 18446744073709551615) (m1 : 2 ≤ M) (m2 : M ≤ 64) (u0 : 0 ≤ was) (u1 : was ≤ 18446744073709551615) (hl : ¬ lo was = 0) :
    Calls Try.prog 62 #[.agg #[.int .i64 k, .int .i64 K, .int .i64 T, .int .i64 M], .agg (f.v q).toArray, .int .u64 was, .bool dn] w fun e w' => e = .returned (.agg ((docTell k K T M f was dn).v q).toArray) ∧ Below w.heap.size w w' := by
  have B0 : Hid (Below w.heap.size w (((w.alloc (.cells #[.int .i64 k, .int .i64 K, .int .i64 T, .int .i64 M] 23)).alloc (.cells (f.v q).toArray 83)).alloc (.cells #[.int .i64 0, .int .u32 0, .int .i64 0, .int .i64 0, .int .i64 0, .int .u64 0, .int .u64 0, .int .u64 0, .int .u64 0, .int .i64 0, .slice none 0 0, .bool false, .int .u64 0, .int .u64 0, .int .i64 0, .int .u32 0, .int .i64 0, .int .i64 0, .int .i64 0, .int .i64 0, .int .u64 0, .int .u64 0, .int .i64 0, .int .u32 0] 83))) := Lib.hid ((((Below.refl _ _).alloc (Nat.le_refl _) _).alloc (by simp) _).alloc (by simp; omega) _)
  have C0 : Hid (Blk (((w.alloc (.cells #[.int .i64 k, .int .i64 K, .int .i64 T, .int .i64 M] 23)).alloc (.cells (f.v q).toArray 83)).alloc (.cells #[.int .i64 0, .int .u32 0, .int .i64 0, .int .i64 0, .int .i64 0, .int .u64 0, .int .u64 0, .int .u64 0, .int .u64 0, .int .i64 0, .slice none 0 0, .bool false, .int .u64 0, .int .u64 0, .int .i64 0, .int .u32 0, .int .i64 0, .int .i64 0, .int .i64 0, .int .i64 0, .int .u64 0, .int .u64 0, .int .i64 0, .int .u32 0] 83)) w.heap.size 23 #[.int .i64 k, .int .i64 K, .int .i64 T, .int .i64 M]) := Lib.hid (((Blk.new _ _ _).alloc _).alloc _)
  have F0 : Hid (Blk (((w.alloc (.cells #[.int .i64 k, .int .i64 K, .int .i64 T, .int .i64 M] 23)).alloc (.cells (f.v q).toArray 83)).alloc (.cells #[.int .i64 0, .int .u32 0, .int .i64 0, .int .i64 0, .int .i64 0, .int .u64 0, .int .u64 0, .int .u64 0, .int .u64 0, .int .i64 0, .slice none 0 0, .bool false, .int .u64 0, .int .u64 0, .int .i64 0, .int .u32 0, .int .i64 0, .int .i64 0, .int .i64 0, .int .i64 0, .int .u64 0, .int .u64 0, .int .i64 0, .int .u32 0] 83)) (w.heap.size + 1) 83 (f.v q).toArray) := Lib.hid ((blk_at (by simp)).alloc _)
  have Z0 : Hid (Blk (((w.alloc (.cells #[.int .i64 k, .int .i64 K, .int .i64 T, .int .i64 M] 23)).alloc (.cells (f.v q).toArray 83)).alloc (.cells #[.int .i64 0, .int .u32 0, .int .i64 0, .int .i64 0, .int .i64 0, .int .u64 0, .int .u64 0, .int .u64 0, .int .u64 0, .int .i64 0, .slice none 0 0, .bool false, .int .u64 0, .int .u64 0, .int .i64 0, .int .u32 0, .int .i64 0, .int .i64 0, .int .i64 0, .int .i64 0, .int .u64 0, .int .u64 0, .int .i64 0, .int .u32 0] 83)) (w.heap.size + 1 + 1) 83 #[.int .i64 0, .int .u32 0, .int .i64 0, .int .i64 0, .int .i64 0, .int .u64 0, .int .u64 0, .int .u64 0, .int .u64 0, .int .i64 0, .slice none 0 0, .bool false, .int .u64 0, .int .u64 0, .int .i64 0, .int .u32 0, .int .i64 0, .int .i64 0, .int .i64 0, .int .i64 0, .int .u64 0, .int .u64 0, .int .i64 0, .int .u32 0]) := Lib.hid (blk_at (by simp))
  have hv4 : (f.v q).toArray[4]? = some (.int .i64 90) := by show some (Value.int .i64 f.pc) = _; rw [hpc]
  have hz : (lo was == 0) = false := beq_false_of_ne hl
  have HT : Hid (docTell k K T M f was dn = ({ f with w := was, pc := 91 } : FS)) := Lib.hid (by rw [tell90 was dn hpc, if_neg hl])
  clear hpc
  clear hl
  go_enter Try.func62, Try.ntmps62
  go_upto_region 1 with fail
  generalize (((w.alloc (.cells #[.int .i64 k, .int .i64 K, .int .i64 T, .int .i64 M] 23)).alloc (.cells (f.v q).toArray 83)).alloc (.cells #[.int .i64 0, .int .u32 0, .int .i64 0, .int .i64 0, .int .i64 0, .int .u64 0, .int .u64 0, .int .u64 0, .int .u64 0, .int .i64 0, .slice none 0 0, .bool false, .int .u64 0, .int .u64 0, .int .i64 0, .int .u32 0, .int .i64 0, .int .i64 0, .int .i64 0, .int .i64 0, .int .u64 0, .int .u64 0, .int .i64 0, .int .u32 0] 83)) = V at B0 C0 F0 Z0 ⊢
  have hc0 := C0.out.cell
  refine wp_region_lit ?_
  refine wpList_load_mid rfl 83 (.tmp 5) rfl (w.heap.size + 1) 0 (by simp [Act.eval]) (f.v q) _ (range24 F0.out (fun j v hj => by rw [Nat.zero_add]; simpa using hj)) Try.underlying83 rfl f_size ?_
  go_upto_region 220 with (first
    | (go_at_call 90; (with_reducible refine (life_c _ k K T M f q x0 x1 m1 m2).mono ?_); rintro e w1 ⟨rfl, hb⟩; go_must (have B1 := Lib.hid (B0.out.trans (hb.mono B0.out.size)); have F1 := Lib.hid (F0.out.below hb F0.out.lt); have Z1 := Lib.hid (Z0.out.below hb Z0.out.lt); have C1 := Lib.hid (C0.out.below hb C0.out.lt)); have hf1c := F1.out.cell; have hf1f := F1.out.frozen; have hc1 := C1.out.cell; clear hb hc0)
    | (go_at_call 98; (with_reducible refine (low3_p was _ u0 u1).mono ?_); rintro e w' ⟨rfl, rfl⟩))
  refine wp_region_lit ?_
  refine wpList_load_mid rfl 83 (.tmp 5) rfl (w.heap.size + 1) 0 (by simp [Act.eval]) (f.v q) _ (range24 F1.out (fun j v hj => by rw [Nat.zero_add]; simpa using hj)) Try.underlying83 rfl f_size ?_
  go_wp2_with (first
    | (go_at_call 105; (with_reducible refine (kept_c _ f q was).mono ?_); rintro e w2 ⟨rfl, hb⟩; go_must (have B2 := Lib.hid (B1.out.trans (hb.mono B1.out.size)); have Z2 := Lib.hid (Z1.out.below hb Z1.out.lt)); clear hb)
    | (go_at_call 101; (with_reducible refine (to_c _ ({ f with w := was } : FS) q 91).mono ?_); rintro e w3 ⟨rfl, hb⟩; go_must (have B3 := Lib.hid (B2.out.trans (hb.mono B2.out.size)); have Z3 := Lib.hid (Z2.out.below hb Z2.out.lt)); clear hb)
    | (refine wpList_store_mid rfl 83 (.tmp 8) (.tmp 637) rfl (w.heap.size + 1 + 1) 0 (({ f with w := was, pc := 91 } : FS).v q).toArray (by simp [Act.eval]) (by simp [Act.eval]) (there24 Z3.out (by decide)) f_size (FS.one _ _) ?_))
  have R9 := res24 (World.rangeAt_setCells_same w3 (w.heap.size + 1 + 1) 0 (({ f with w := was, pc := 91 } : FS).v q) (there24 Z3.out (by decide)))
  have B9 := Only.below (Only.sets (P := fun g => w.heap.size ≤ g) (g := (w.heap.size + 1 + 1)) (.inl (by omega)) (({ f with w := was, pc := 91 } : FS).v q) w3 0 (Only.of_below B3.out (Nat.le_refl _))) (Nat.le_refl _) (fun k h => h)
  generalize w3.setCells (w.heap.size + 1 + 1) 0 (({ f with w := was, pc := 91 } : FS).v q) = V9 at R9 B9 ⊢
  refine bodyPost_ret (v := .agg (({ f with w := was, pc := 91 } : FS).v q).toArray) (results_cell1 (a := 8) Try.results62 rfl R9) rfl ?_
  exact ⟨by rw [HT.out], B9⟩
set_option maxHeartbeats 4000000 in
theorem tell91_c (w : World) (k : Int) (K T M : Nat) (f : FS) (q : Sl) (was : Int) (dn : Bool) (hpc : f.pc = 91) (x0 : 0 ≤ f.s) (x1 : f.s ≤ 18446744073709551615) (m1 : 2 ≤ M) (m2 : M ≤ 64) :
    Calls Try.prog 62 #[.agg #[.int .i64 k, .int .i64 K, .int .i64 T, .int .i64 M], .agg (f.v q).toArray, .int .u64 was, .bool dn] w fun e w' => e = .returned (.agg ((docTell k K T M f was dn).v q).toArray) ∧ Below w.heap.size w w' := by
  have B0 : Hid (Below w.heap.size w (((w.alloc (.cells #[.int .i64 k, .int .i64 K, .int .i64 T, .int .i64 M] 23)).alloc (.cells (f.v q).toArray 83)).alloc (.cells #[.int .i64 0, .int .u32 0, .int .i64 0, .int .i64 0, .int .i64 0, .int .u64 0, .int .u64 0, .int .u64 0, .int .u64 0, .int .i64 0, .slice none 0 0, .bool false, .int .u64 0, .int .u64 0, .int .i64 0, .int .u32 0, .int .i64 0, .int .i64 0, .int .i64 0, .int .i64 0, .int .u64 0, .int .u64 0, .int .i64 0, .int .u32 0] 83))) := Lib.hid ((((Below.refl _ _).alloc (Nat.le_refl _) _).alloc (by simp) _).alloc (by simp; omega) _)
  have C0 : Hid (Blk (((w.alloc (.cells #[.int .i64 k, .int .i64 K, .int .i64 T, .int .i64 M] 23)).alloc (.cells (f.v q).toArray 83)).alloc (.cells #[.int .i64 0, .int .u32 0, .int .i64 0, .int .i64 0, .int .i64 0, .int .u64 0, .int .u64 0, .int .u64 0, .int .u64 0, .int .i64 0, .slice none 0 0, .bool false, .int .u64 0, .int .u64 0, .int .i64 0, .int .u32 0, .int .i64 0, .int .i64 0, .int .i64 0, .int .i64 0, .int .u64 0, .int .u64 0, .int .i64 0, .int .u32 0] 83)) w.heap.size 23 #[.int .i64 k, .int .i64 K, .int .i64 T, .int .i64 M]) := Lib.hid (((Blk.new _ _ _).alloc _).alloc _)
  have F0 : Hid (Blk (((w.alloc (.cells #[.int .i64 k, .int .i64 K, .int .i64 T, .int .i64 M] 23)).alloc (.cells (f.v q).toArray 83)).alloc (.cells #[.int .i64 0, .int .u32 0, .int .i64 0, .int .i64 0, .int .i64 0, .int .u64 0, .int .u64 0, .int .u64 0, .int .u64 0, .int .i64 0, .slice none 0 0, .bool false, .int .u64 0, .int .u64 0, .int .i64 0, .int .u32 0, .int .i64 0, .int .i64 0, .int .i64 0, .int .i64 0, .int .u64 0, .int .u64 0, .int .i64 0, .int .u32 0] 83)) (w.heap.size + 1) 83 (f.v q).toArray) := Lib.hid ((blk_at (by simp)).alloc _)
  have Z0 : Hid (Blk (((w.alloc (.cells #[.int .i64 k, .int .i64 K, .int .i64 T, .int .i64 M] 23)).alloc (.cells (f.v q).toArray 83)).alloc (.cells #[.int .i64 0, .int .u32 0, .int .i64 0, .int .i64 0, .int .i64 0, .int .u64 0, .int .u64 0, .int .u64 0, .int .u64 0, .int .i64 0, .slice none 0 0, .bool false, .int .u64 0, .int .u64 0, .int .i64 0, .int .u32 0, .int .i64 0, .int .i64 0, .int .i64 0, .int .i64 0, .int .u64 0, .int .u64 0, .int .i64 0, .int .u32 0] 83)) (w.heap.size + 1 + 1) 83 #[.int .i64 0, .int .u32 0, .int .i64 0, .int .i64 0, .int .i64 0, .int .u64 0, .int .u64 0, .int .u64 0, .int .u64 0, .int .i64 0, .slice none 0 0, .bool false, .int .u64 0, .int .u64 0, .int .i64 0, .int .u32 0, .int .i64 0, .int .i64 0, .int .i64 0, .int .i64 0, .int .u64 0, .int .u64 0, .int .i64 0, .int .u32 0]) := Lib.hid (blk_at (by simp))
  have hv4 : (f.v q).toArray[4]? = some (.int .i64 91) := by show some (Value.int .i64 f.pc) = _; rw [hpc]
  have HT : Hid (docTell k K T M f was dn = ({ f with l := was, pc := 92 } : FS)) := Lib.hid (by rw [tell91 was dn hpc])
  clear hpc
  go_enter Try.func62, Try.ntmps62
  go_upto_region 1 with fail
  generalize (((w.alloc (.cells #[.int .i64 k, .int .i64 K, .int .i64 T, .int .i64 M] 23)).alloc (.cells (f.v q).toArray 83)).alloc (.cells #[.int .i64 0, .int .u32 0, .int .i64 0, .int .i64 0, .int .i64 0, .int .u64 0, .int .u64 0, .int .u64 0, .int .u64 0, .int .i64 0, .slice none 0 0, .bool false, .int .u64 0, .int .u64 0, .int .i64 0, .int .u32 0, .int .i64 0, .int .i64 0, .int .i64 0, .int .i64 0, .int .u64 0, .int .u64 0, .int .i64 0, .int .u32 0] 83)) = V at B0 C0 F0 Z0 ⊢
  have hc0 := C0.out.cell
  refine wp_region_lit ?_
  refine wpList_load_mid rfl 83 (.tmp 5) rfl (w.heap.size + 1) 0 (by simp [Act.eval]) (f.v q) _ (range24 F0.out (fun j v hj => by rw [Nat.zero_add]; simpa using hj)) Try.underlying83 rfl f_size ?_
  go_upto_region 223 with (first
    | (go_at_call 90; (with_reducible refine (life_c _ k K T M f q x0 x1 m1 m2).mono ?_); rintro e w1 ⟨rfl, hb⟩; go_must (have B1 := Lib.hid (B0.out.trans (hb.mono B0.out.size)); have F1 := Lib.hid (F0.out.below hb F0.out.lt); have Z1 := Lib.hid (Z0.out.below hb Z0.out.lt); have C1 := Lib.hid (C0.out.below hb C0.out.lt)); have hf1c := F1.out.cell; have hf1f := F1.out.frozen; have hc1 := C1.out.cell; clear hb hc0))
  obtain ⟨f1, hf1⟩ : ∃ f1 : FS, f1 = { f with l := was } := ⟨_, rfl⟩
  have Hf1 := Lib.hid hf1
  have F2 : Hid (Blk (w1.setCell ⟨w.heap.size + 1, 7, none⟩ (.int .u64 was)) (w.heap.size + 1) 83 (f1.v q).toArray) := Lib.hid (by
    have h_ := F1.out.set_ 7 (.int .u64 was)
    rw [hf1]; exact h_)
  clear hf1
  have Z2 := Lib.hid (Z1.out.far (p := ⟨w.heap.size + 1, 7, none⟩) (show ¬ w.heap.size + 1 + 1 = w.heap.size + 1 by omega) (.int .u64 was))
  have B2 := Lib.hid (Below.setCell B1.out (p := ⟨w.heap.size + 1, 7, none⟩) (show w.heap.size ≤ w.heap.size + 1 by omega) (.int .u64 was))
  clear hf1c hf1f hc1 F1 Z1 B1 C1
  generalize w1.setCell ⟨w.heap.size + 1, 7, none⟩ (.int .u64 was) = w2 at F2 Z2 B2 ⊢
  have hf2c := F2.out.cell
  have hf2f := F2.out.frozen
  clear hf2c hf2f
  refine wp_region_lit ?_
  refine wpList_load_mid rfl 83 (.tmp 5) rfl (w.heap.size + 1) 0 (by simp [Act.eval]) (f1.v q) _ (range24 F2.out (fun j v hj => by rw [Nat.zero_add]; simpa using hj)) Try.underlying83 rfl f_size ?_
  go_wp2_with (first
    | (go_at_call 101; (with_reducible refine (to_c _ f1 q 92).mono ?_); rintro e w3 ⟨rfl, hb⟩; go_must (have B3 := Lib.hid (B2.out.trans (hb.mono B2.out.size)); have Z3 := Lib.hid (Z2.out.below hb Z2.out.lt)); clear hb)
    | (refine wpList_store_mid rfl 83 (.tmp 8) (.tmp 643) rfl (w.heap.size + 1 + 1) 0 (({ f1 with pc := 92 } : FS).v q).toArray (by simp [Act.eval]) (by simp [Act.eval]) (there24 Z3.out (by decide)) f_size (FS.one _ _) ?_))
  have R9 := res24 (World.rangeAt_setCells_same w3 (w.heap.size + 1 + 1) 0 (({ f1 with pc := 92 } : FS).v q) (there24 Z3.out (by decide)))
  have B9 := Only.below (Only.sets (P := fun g => w.heap.size ≤ g) (g := (w.heap.size + 1 + 1)) (.inl (by omega)) (({ f1 with pc := 92 } : FS).v q) w3 0 (Only.of_below B3.out (Nat.le_refl _))) (Nat.le_refl _) (fun k h => h)
  generalize w3.setCells (w.heap.size + 1 + 1) 0 (({ f1 with pc := 92 } : FS).v q) = V9 at R9 B9 ⊢
  refine bodyPost_ret (v := .agg (({ f1 with pc := 92 } : FS).v q).toArray) (results_cell1 (a := 8) Try.results62 rfl R9) rfl ?_
  exact ⟨by rw [HT.out, Hf1.out], B9⟩
set_option maxHeartbeats 4000000 in
theorem tell92f_c (w : World) (k : Int) (K T M : Nat) (f : FS) (q : Sl) (was : Int) (dn : Bool) (hpc : f.pc = 92) (x0 : 0 ≤ f.s) (x1 : f.s ≤ 18446744073709551615) (m1 : 2 ≤ M) (m2 : M ≤ 64) (hd : dn = false) :
    Calls Try.prog 62 #[.agg #[.int .i64 k, .int .i64 K, .int .i64 T, .int .i64 M], .agg (f.v q).toArray, .int .u64 was, .bool dn] w fun e w' => e = .returned (.agg ((docTell k K T M f was dn).v q).toArray) ∧ Below w.heap.size w w' := by
  have B0 : Hid (Below w.heap.size w (((w.alloc (.cells #[.int .i64 k, .int .i64 K, .int .i64 T, .int .i64 M] 23)).alloc (.cells (f.v q).toArray 83)).alloc (.cells #[.int .i64 0, .int .u32 0, .int .i64 0, .int .i64 0, .int .i64 0, .int .u64 0, .int .u64 0, .int .u64 0, .int .u64 0, .int .i64 0, .slice none 0 0, .bool false, .int .u64 0, .int .u64 0, .int .i64 0, .int .u32 0, .int .i64 0, .int .i64 0, .int .i64 0, .int .i64 0, .int .u64 0, .int .u64 0, .int .i64 0, .int .u32 0] 83))) := Lib.hid ((((Below.refl _ _).alloc (Nat.le_refl _) _).alloc (by simp) _).alloc (by simp; omega) _)
  have C0 : Hid (Blk (((w.alloc (.cells #[.int .i64 k, .int .i64 K, .int .i64 T, .int .i64 M] 23)).alloc (.cells (f.v q).toArray 83)).alloc (.cells #[.int .i64 0, .int .u32 0, .int .i64 0, .int .i64 0, .int .i64 0, .int .u64 0, .int .u64 0, .int .u64 0, .int .u64 0, .int .i64 0, .slice none 0 0, .bool false, .int .u64 0, .int .u64 0, .int .i64 0, .int .u32 0, .int .i64 0, .int .i64 0, .int .i64 0, .int .i64 0, .int .u64 0, .int .u64 0, .int .i64 0, .int .u32 0] 83)) w.heap.size 23 #[.int .i64 k, .int .i64 K, .int .i64 T, .int .i64 M]) := Lib.hid (((Blk.new _ _ _).alloc _).alloc _)
  have F0 : Hid (Blk (((w.alloc (.cells #[.int .i64 k, .int .i64 K, .int .i64 T, .int .i64 M] 23)).alloc (.cells (f.v q).toArray 83)).alloc (.cells #[.int .i64 0, .int .u32 0, .int .i64 0, .int .i64 0, .int .i64 0, .int .u64 0, .int .u64 0, .int .u64 0, .int .u64 0, .int .i64 0, .slice none 0 0, .bool false, .int .u64 0, .int .u64 0, .int .i64 0, .int .u32 0, .int .i64 0, .int .i64 0, .int .i64 0, .int .i64 0, .int .u64 0, .int .u64 0, .int .i64 0, .int .u32 0] 83)) (w.heap.size + 1) 83 (f.v q).toArray) := Lib.hid ((blk_at (by simp)).alloc _)
  have Z0 : Hid (Blk (((w.alloc (.cells #[.int .i64 k, .int .i64 K, .int .i64 T, .int .i64 M] 23)).alloc (.cells (f.v q).toArray 83)).alloc (.cells #[.int .i64 0, .int .u32 0, .int .i64 0, .int .i64 0, .int .i64 0, .int .u64 0, .int .u64 0, .int .u64 0, .int .u64 0, .int .i64 0, .slice none 0 0, .bool false, .int .u64 0, .int .u64 0, .int .i64 0, .int .u32 0, .int .i64 0, .int .i64 0, .int .i64 0, .int .i64 0, .int .u64 0, .int .u64 0, .int .i64 0, .int .u32 0] 83)) (w.heap.size + 1 + 1) 83 #[.int .i64 0, .int .u32 0, .int .i64 0, .int .i64 0, .int .i64 0, .int .u64 0, .int .u64 0, .int .u64 0, .int .u64 0, .int .i64 0, .slice none 0 0, .bool false, .int .u64 0, .int .u64 0, .int .i64 0, .int .u32 0, .int .i64 0, .int .i64 0, .int .i64 0, .int .i64 0, .int .u64 0, .int .u64 0, .int .i64 0, .int .u32 0]) := Lib.hid (blk_at (by simp))
  have hv4 : (f.v q).toArray[4]? = some (.int .i64 92) := by show some (Value.int .i64 f.pc) = _; rw [hpc]
  have hz : (!dn) = true := by rw [hd]; rfl
  have HT : Hid (docTell k K T M f was dn = ({ f with pc := 90 } : FS)) := Lib.hid (by rw [tell92 was dn hpc, if_neg (by rw [hd]; decide)])
  clear hpc
  clear hd
  go_enter Try.func62, Try.ntmps62
  go_upto_region 1 with fail
  generalize (((w.alloc (.cells #[.int .i64 k, .int .i64 K, .int .i64 T, .int .i64 M] 23)).alloc (.cells (f.v q).toArray 83)).alloc (.cells #[.int .i64 0, .int .u32 0, .int .i64 0, .int .i64 0, .int .i64 0, .int .u64 0, .int .u64 0, .int .u64 0, .int .u64 0, .int .i64 0, .slice none 0 0, .bool false, .int .u64 0, .int .u64 0, .int .i64 0, .int .u32 0, .int .i64 0, .int .i64 0, .int .i64 0, .int .i64 0, .int .u64 0, .int .u64 0, .int .i64 0, .int .u32 0] 83)) = V at B0 C0 F0 Z0 ⊢
  have hc0 := C0.out.cell
  refine wp_region_lit ?_
  refine wpList_load_mid rfl 83 (.tmp 5) rfl (w.heap.size + 1) 0 (by simp [Act.eval]) (f.v q) _ (range24 F0.out (fun j v hj => by rw [Nat.zero_add]; simpa using hj)) Try.underlying83 rfl f_size ?_
  go_upto_region 226 with (first
    | (go_at_call 90; (with_reducible refine (life_c _ k K T M f q x0 x1 m1 m2).mono ?_); rintro e w1 ⟨rfl, hb⟩; go_must (have B1 := Lib.hid (B0.out.trans (hb.mono B0.out.size)); have F1 := Lib.hid (F0.out.below hb F0.out.lt); have Z1 := Lib.hid (Z0.out.below hb Z0.out.lt); have C1 := Lib.hid (C0.out.below hb C0.out.lt)); have hf1c := F1.out.cell; have hf1f := F1.out.frozen; have hc1 := C1.out.cell; clear hb hc0))
  refine wp_region_lit ?_
  refine wpList_load_mid rfl 83 (.tmp 5) rfl (w.heap.size + 1) 0 (by simp [Act.eval]) (f.v q) _ (range24 F1.out (fun j v hj => by rw [Nat.zero_add]; simpa using hj)) Try.underlying83 rfl f_size ?_
  go_wp2_with (first
    | (go_at_call 101; (with_reducible refine (to_c _ f q 90).mono ?_); rintro e w2 ⟨rfl, hb⟩; go_must (have B2 := Lib.hid (B1.out.trans (hb.mono B1.out.size)); have Z2 := Lib.hid (Z1.out.below hb Z1.out.lt)); clear hb)
    | (refine wpList_store_mid rfl 83 (.tmp 8) (.tmp 649) rfl (w.heap.size + 1 + 1) 0 (({ f with pc := 90 } : FS).v q).toArray (by simp [Act.eval]) (by simp [Act.eval]) (there24 Z2.out (by decide)) f_size (FS.one _ _) ?_))
  have R9 := res24 (World.rangeAt_setCells_same w2 (w.heap.size + 1 + 1) 0 (({ f with pc := 90 } : FS).v q) (there24 Z2.out (by decide)))
  have B9 := Only.below (Only.sets (P := fun g => w.heap.size ≤ g) (g := (w.heap.size + 1 + 1)) (.inl (by omega)) (({ f with pc := 90 } : FS).v q) w2 0 (Only.of_below B2.out (Nat.le_refl _))) (Nat.le_refl _) (fun k h => h)
  generalize w2.setCells (w.heap.size + 1 + 1) 0 (({ f with pc := 90 } : FS).v q) = V9 at R9 B9 ⊢
  refine bodyPost_ret (v := .agg (({ f with pc := 90 } : FS).v q).toArray) (results_cell1 (a := 8) Try.results62 rfl R9) rfl ?_
  exact ⟨by rw [HT.out], B9⟩
set_option maxHeartbeats 4000000 in
theorem tell95_c (w : World) (k : Int) (K T M : Nat) (f : FS) (q : Sl) (was : Int) (dn : Bool) (hpc : f.pc = 95) (x0 : 0 ≤ f.s) (x1 : f.s ≤ 18446744073709551615) (m1 : 2 ≤ M) (m2 : M ≤ 64) :
    Calls Try.prog 62 #[.agg #[.int .i64 k, .int .i64 K, .int .i64 T, .int .i64 M], .agg (f.v q).toArray, .int .u64 was, .bool dn] w fun e w' => e = .returned (.agg ((docTell k K T M f was dn).v q).toArray) ∧ Below w.heap.size w w' := by
  have B0 : Hid (Below w.heap.size w (((w.alloc (.cells #[.int .i64 k, .int .i64 K, .int .i64 T, .int .i64 M] 23)).alloc (.cells (f.v q).toArray 83)).alloc (.cells #[.int .i64 0, .int .u32 0, .int .i64 0, .int .i64 0, .int .i64 0, .int .u64 0, .int .u64 0, .int .u64 0, .int .u64 0, .int .i64 0, .slice none 0 0, .bool false, .int .u64 0, .int .u64 0, .int .i64 0, .int .u32 0, .int .i64 0, .int .i64 0, .int .i64 0, .int .i64 0, .int .u64 0, .int .u64 0, .int .i64 0, .int .u32 0] 83))) := Lib.hid ((((Below.refl _ _).alloc (Nat.le_refl _) _).alloc (by simp) _).alloc (by simp; omega) _)
  have C0 : Hid (Blk (((w.alloc (.cells #[.int .i64 k, .int .i64 K, .int .i64 T, .int .i64 M] 23)).alloc (.cells (f.v q).toArray 83)).alloc (.cells #[.int .i64 0, .int .u32 0, .int .i64 0, .int .i64 0, .int .i64 0, .int .u64 0, .int .u64 0, .int .u64 0, .int .u64 0, .int .i64 0, .slice none 0 0, .bool false, .int .u64 0, .int .u64 0, .int .i64 0, .int .u32 0, .int .i64 0, .int .i64 0, .int .i64 0, .int .i64 0, .int .u64 0, .int .u64 0, .int .i64 0, .int .u32 0] 83)) w.heap.size 23 #[.int .i64 k, .int .i64 K, .int .i64 T, .int .i64 M]) := Lib.hid (((Blk.new _ _ _).alloc _).alloc _)
  have F0 : Hid (Blk (((w.alloc (.cells #[.int .i64 k, .int .i64 K, .int .i64 T, .int .i64 M] 23)).alloc (.cells (f.v q).toArray 83)).alloc (.cells #[.int .i64 0, .int .u32 0, .int .i64 0, .int .i64 0, .int .i64 0, .int .u64 0, .int .u64 0, .int .u64 0, .int .u64 0, .int .i64 0, .slice none 0 0, .bool false, .int .u64 0, .int .u64 0, .int .i64 0, .int .u32 0, .int .i64 0, .int .i64 0, .int .i64 0, .int .i64 0, .int .u64 0, .int .u64 0, .int .i64 0, .int .u32 0] 83)) (w.heap.size + 1) 83 (f.v q).toArray) := Lib.hid ((blk_at (by simp)).alloc _)
  have Z0 : Hid (Blk (((w.alloc (.cells #[.int .i64 k, .int .i64 K, .int .i64 T, .int .i64 M] 23)).alloc (.cells (f.v q).toArray 83)).alloc (.cells #[.int .i64 0, .int .u32 0, .int .i64 0, .int .i64 0, .int .i64 0, .int .u64 0, .int .u64 0, .int .u64 0, .int .u64 0, .int .i64 0, .slice none 0 0, .bool false, .int .u64 0, .int .u64 0, .int .i64 0, .int .u32 0, .int .i64 0, .int .i64 0, .int .i64 0, .int .i64 0, .int .u64 0, .int .u64 0, .int .i64 0, .int .u32 0] 83)) (w.heap.size + 1 + 1) 83 #[.int .i64 0, .int .u32 0, .int .i64 0, .int .i64 0, .int .i64 0, .int .u64 0, .int .u64 0, .int .u64 0, .int .u64 0, .int .i64 0, .slice none 0 0, .bool false, .int .u64 0, .int .u64 0, .int .i64 0, .int .u32 0, .int .i64 0, .int .i64 0, .int .i64 0, .int .i64 0, .int .u64 0, .int .u64 0, .int .i64 0, .int .u32 0]) := Lib.hid (blk_at (by simp))
  have hv4 : (f.v q).toArray[4]? = some (.int .i64 95) := by show some (Value.int .i64 f.pc) = _; rw [hpc]
  have HT : Hid (docTell k K T M f was dn = ({ f with w := was, pc := 96 } : FS)) := Lib.hid (by rw [tell95 was dn hpc])
  clear hpc
  go_enter Try.func62, Try.ntmps62
  go_upto_region 1 with fail
  generalize (((w.alloc (.cells #[.int .i64 k, .int .i64 K, .int .i64 T, .int .i64 M] 23)).alloc (.cells (f.v q).toArray 83)).alloc (.cells #[.int .i64 0, .int .u32 0, .int .i64 0, .int .i64 0, .int .i64 0, .int .u64 0, .int .u64 0, .int .u64 0, .int .u64 0, .int .i64 0, .slice none 0 0, .bool false, .int .u64 0, .int .u64 0, .int .i64 0, .int .u32 0, .int .i64 0, .int .i64 0, .int .i64 0, .int .i64 0, .int .u64 0, .int .u64 0, .int .i64 0, .int .u32 0] 83)) = V at B0 C0 F0 Z0 ⊢
  have hc0 := C0.out.cell
  refine wp_region_lit ?_
  refine wpList_load_mid rfl 83 (.tmp 5) rfl (w.heap.size + 1) 0 (by simp [Act.eval]) (f.v q) _ (range24 F0.out (fun j v hj => by rw [Nat.zero_add]; simpa using hj)) Try.underlying83 rfl f_size ?_
  go_upto_region 233 with (first
    | (go_at_call 90; (with_reducible refine (life_c _ k K T M f q x0 x1 m1 m2).mono ?_); rintro e w1 ⟨rfl, hb⟩; go_must (have B1 := Lib.hid (B0.out.trans (hb.mono B0.out.size)); have F1 := Lib.hid (F0.out.below hb F0.out.lt); have Z1 := Lib.hid (Z0.out.below hb Z0.out.lt); have C1 := Lib.hid (C0.out.below hb C0.out.lt)); have hf1c := F1.out.cell; have hf1f := F1.out.frozen; have hc1 := C1.out.cell; clear hb hc0))
  refine wp_region_lit ?_
  refine wpList_load_mid rfl 83 (.tmp 5) rfl (w.heap.size + 1) 0 (by simp [Act.eval]) (f.v q) _ (range24 F1.out (fun j v hj => by rw [Nat.zero_add]; simpa using hj)) Try.underlying83 rfl f_size ?_
  go_wp2_with (first
    | (go_at_call 105; (with_reducible refine (kept_c _ f q was).mono ?_); rintro e w2 ⟨rfl, hb⟩; go_must (have B2 := Lib.hid (B1.out.trans (hb.mono B1.out.size)); have Z2 := Lib.hid (Z1.out.below hb Z1.out.lt)); clear hb)
    | (go_at_call 101; (with_reducible refine (to_c _ ({ f with w := was } : FS) q 96).mono ?_); rintro e w3 ⟨rfl, hb⟩; go_must (have B3 := Lib.hid (B2.out.trans (hb.mono B2.out.size)); have Z3 := Lib.hid (Z2.out.below hb Z2.out.lt)); clear hb)
    | (refine wpList_store_mid rfl 83 (.tmp 8) (.tmp 677) rfl (w.heap.size + 1 + 1) 0 (({ f with w := was, pc := 96 } : FS).v q).toArray (by simp [Act.eval]) (by simp [Act.eval]) (there24 Z3.out (by decide)) f_size (FS.one _ _) ?_))
  have R9 := res24 (World.rangeAt_setCells_same w3 (w.heap.size + 1 + 1) 0 (({ f with w := was, pc := 96 } : FS).v q) (there24 Z3.out (by decide)))
  have B9 := Only.below (Only.sets (P := fun g => w.heap.size ≤ g) (g := (w.heap.size + 1 + 1)) (.inl (by omega)) (({ f with w := was, pc := 96 } : FS).v q) w3 0 (Only.of_below B3.out (Nat.le_refl _))) (Nat.le_refl _) (fun k h => h)
  generalize w3.setCells (w.heap.size + 1 + 1) 0 (({ f with w := was, pc := 96 } : FS).v q) = V9 at R9 B9 ⊢
  refine bodyPost_ret (v := .agg (({ f with w := was, pc := 96 } : FS).v q).toArray) (results_cell1 (a := 8) Try.results62 rfl R9) rfl ?_
  exact ⟨by rw [HT.out], B9⟩
set_option maxHeartbeats 4000000 in
theorem tell96_c (w : World) (k : Int) (K T M : Nat) (f : FS) (q : Sl) (was : Int) (dn : Bool) (hpc : f.pc = 96) (x0 : 0 ≤ f.s) (x1 : f.s ≤ 18446744073709551615) (m1 : 2 ≤ M) (m2 : M ≤ 64) :
    Calls Try.prog 62 #[.agg #[.int .i64 k, .int .i64 K, .int .i64 T, .int .i64 M], .agg (f.v q).toArray, .int .u64 was, .bool dn] w fun e w' => e = .returned (.agg ((docTell k K T M f was dn).v q).toArray) ∧ Below w.heap.size w w' := by
  have B0 : Hid (Below w.heap.size w (((w.alloc (.cells #[.int .i64 k, .int .i64 K, .int .i64 T, .int .i64 M] 23)).alloc (.cells (f.v q).toArray 83)).alloc (.cells #[.int .i64 0, .int .u32 0, .int .i64 0, .int .i64 0, .int .i64 0, .int .u64 0, .int .u64 0, .int .u64 0, .int .u64 0, .int .i64 0, .slice none 0 0, .bool false, .int .u64 0, .int .u64 0, .int .i64 0, .int .u32 0, .int .i64 0, .int .i64 0, .int .i64 0, .int .i64 0, .int .u64 0, .int .u64 0, .int .i64 0, .int .u32 0] 83))) := Lib.hid ((((Below.refl _ _).alloc (Nat.le_refl _) _).alloc (by simp) _).alloc (by simp; omega) _)
  have C0 : Hid (Blk (((w.alloc (.cells #[.int .i64 k, .int .i64 K, .int .i64 T, .int .i64 M] 23)).alloc (.cells (f.v q).toArray 83)).alloc (.cells #[.int .i64 0, .int .u32 0, .int .i64 0, .int .i64 0, .int .i64 0, .int .u64 0, .int .u64 0, .int .u64 0, .int .u64 0, .int .i64 0, .slice none 0 0, .bool false, .int .u64 0, .int .u64 0, .int .i64 0, .int .u32 0, .int .i64 0, .int .i64 0, .int .i64 0, .int .i64 0, .int .u64 0, .int .u64 0, .int .i64 0, .int .u32 0] 83)) w.heap.size 23 #[.int .i64 k, .int .i64 K, .int .i64 T, .int .i64 M]) := Lib.hid (((Blk.new _ _ _).alloc _).alloc _)
  have F0 : Hid (Blk (((w.alloc (.cells #[.int .i64 k, .int .i64 K, .int .i64 T, .int .i64 M] 23)).alloc (.cells (f.v q).toArray 83)).alloc (.cells #[.int .i64 0, .int .u32 0, .int .i64 0, .int .i64 0, .int .i64 0, .int .u64 0, .int .u64 0, .int .u64 0, .int .u64 0, .int .i64 0, .slice none 0 0, .bool false, .int .u64 0, .int .u64 0, .int .i64 0, .int .u32 0, .int .i64 0, .int .i64 0, .int .i64 0, .int .i64 0, .int .u64 0, .int .u64 0, .int .i64 0, .int .u32 0] 83)) (w.heap.size + 1) 83 (f.v q).toArray) := Lib.hid ((blk_at (by simp)).alloc _)
  have Z0 : Hid (Blk (((w.alloc (.cells #[.int .i64 k, .int .i64 K, .int .i64 T, .int .i64 M] 23)).alloc (.cells (f.v q).toArray 83)).alloc (.cells #[.int .i64 0, .int .u32 0, .int .i64 0, .int .i64 0, .int .i64 0, .int .u64 0, .int .u64 0, .int .u64 0, .int .u64 0, .int .i64 0, .slice none 0 0, .bool false, .int .u64 0, .int .u64 0, .int .i64 0, .int .u32 0, .int .i64 0, .int .i64 0, .int .i64 0, .int .i64 0, .int .u64 0, .int .u64 0, .int .i64 0, .int .u32 0] 83)) (w.heap.size + 1 + 1) 83 #[.int .i64 0, .int .u32 0, .int .i64 0, .int .i64 0, .int .i64 0, .int .u64 0, .int .u64 0, .int .u64 0, .int .u64 0, .int .i64 0, .slice none 0 0, .bool false, .int .u64 0, .int .u64 0, .int .i64 0, .int .u32 0, .int .i64 0, .int .i64 0, .int .i64 0, .int .i64 0, .int .u64 0, .int .u64 0, .int .i64 0, .int .u32 0]) := Lib.hid (blk_at (by simp))
  have hv4 : (f.v q).toArray[4]? = some (.int .i64 96) := by show some (Value.int .i64 f.pc) = _; rw [hpc]
  have HT : Hid (docTell k K T M f was dn = ({ f with pc := 97 } : FS)) := Lib.hid (by rw [tell96 was dn hpc])
  clear hpc
  go_enter Try.func62, Try.ntmps62
  go_upto_region 1 with fail
  generalize (((w.alloc (.cells #[.int .i64 k, .int .i64 K, .int .i64 T, .int .i64 M] 23)).alloc (.cells (f.v q).toArray 83)).alloc (.cells #[.int .i64 0, .int .u32 0, .int .i64 0, .int .i64 0, .int .i64 0, .int .u64 0, .int .u64 0, .int .u64 0, .int .u64 0, .int .i64 0, .slice none 0 0, .bool false, .int .u64 0, .int .u64 0, .int .i64 0, .int .u32 0, .int .i64 0, .int .i64 0, .int .i64 0, .int .i64 0, .int .u64 0, .int .u64 0, .int .i64 0, .int .u32 0] 83)) = V at B0 C0 F0 Z0 ⊢
  have hc0 := C0.out.cell
  refine wp_region_lit ?_
  refine wpList_load_mid rfl 83 (.tmp 5) rfl (w.heap.size + 1) 0 (by simp [Act.eval]) (f.v q) _ (range24 F0.out (fun j v hj => by rw [Nat.zero_add]; simpa using hj)) Try.underlying83 rfl f_size ?_
  go_upto_region 235 with (first
    | (go_at_call 90; (with_reducible refine (life_c _ k K T M f q x0 x1 m1 m2).mono ?_); rintro e w1 ⟨rfl, hb⟩; go_must (have B1 := Lib.hid (B0.out.trans (hb.mono B0.out.size)); have F1 := Lib.hid (F0.out.below hb F0.out.lt); have Z1 := Lib.hid (Z0.out.below hb Z0.out.lt); have C1 := Lib.hid (C0.out.below hb C0.out.lt)); have hf1c := F1.out.cell; have hf1f := F1.out.frozen; have hc1 := C1.out.cell; clear hb hc0))
  refine wp_region_lit ?_
  refine wpList_load_mid rfl 83 (.tmp 5) rfl (w.heap.size + 1) 0 (by simp [Act.eval]) (f.v q) _ (range24 F1.out (fun j v hj => by rw [Nat.zero_add]; simpa using hj)) Try.underlying83 rfl f_size ?_
  go_wp2_with (first
    | (go_at_call 101; (with_reducible refine (to_c _ f q 97).mono ?_); rintro e w2 ⟨rfl, hb⟩; go_must (have B2 := Lib.hid (B1.out.trans (hb.mono B1.out.size)); have Z2 := Lib.hid (Z1.out.below hb Z1.out.lt)); clear hb)
    | (refine wpList_store_mid rfl 83 (.tmp 8) (.tmp 681) rfl (w.heap.size + 1 + 1) 0 (({ f with pc := 97 } : FS).v q).toArray (by simp [Act.eval]) (by simp [Act.eval]) (there24 Z2.out (by decide)) f_size (FS.one _ _) ?_))
  have R9 := res24 (World.rangeAt_setCells_same w2 (w.heap.size + 1 + 1) 0 (({ f with pc := 97 } : FS).v q) (there24 Z2.out (by decide)))
  have B9 := Only.below (Only.sets (P := fun g => w.heap.size ≤ g) (g := (w.heap.size + 1 + 1)) (.inl (by omega)) (({ f with pc := 97 } : FS).v q) w2 0 (Only.of_below B2.out (Nat.le_refl _))) (Nat.le_refl _) (fun k h => h)
  generalize w2.setCells (w.heap.size + 1 + 1) 0 (({ f with pc := 97 } : FS).v q) = V9 at R9 B9 ⊢
  refine bodyPost_ret (v := .agg (({ f with pc := 97 } : FS).v q).toArray) (results_cell1 (a := 8) Try.results62 rfl R9) rfl ?_
  exact ⟨by rw [HT.out], B9⟩
set_option maxHeartbeats 4000000 in
theorem tell97f_c (w : World) (k : Int) (K T M : Nat) (f : FS) (q : Sl) (was : Int) (dn : Bool) (hpc : f.pc = 97) (x0 : 0 ≤ f.s) (x1 : f.s ≤ 18446744073709551615) (m1 : 2 ≤ M) (m2 : M ≤ 64) (hd : dn = false) :
    Calls Try.prog 62 #[.agg #[.int .i64 k, .int .i64 K, .int .i64 T, .int .i64 M], .agg (f.v q).toArray, .int .u64 was, .bool dn] w fun e w' => e = .returned (.agg ((docTell k K T M f was dn).v q).toArray) ∧ Below w.heap.size w w' := by
  have B0 : Hid (Below w.heap.size w (((w.alloc (.cells #[.int .i64 k, .int .i64 K, .int .i64 T, .int .i64 M] 23)).alloc (.cells (f.v q).toArray 83)).alloc (.cells #[.int .i64 0, .int .u32 0, .int .i64 0, .int .i64 0, .int .i64 0, .int .u64 0, .int .u64 0, .int .u64 0, .int .u64 0, .int .i64 0, .slice none 0 0, .bool false, .int .u64 0, .int .u64 0, .int .i64 0, .int .u32 0, .int .i64 0, .int .i64 0, .int .i64 0, .int .i64 0, .int .u64 0, .int .u64 0, .int .i64 0, .int .u32 0] 83))) := Lib.hid ((((Below.refl _ _).alloc (Nat.le_refl _) _).alloc (by simp) _).alloc (by simp; omega) _)
  have C0 : Hid (Blk (((w.alloc (.cells #[.int .i64 k, .int .i64 K, .int .i64 T, .int .i64 M] 23)).alloc (.cells (f.v q).toArray 83)).alloc (.cells #[.int .i64 0, .int .u32 0, .int .i64 0, .int .i64 0, .int .i64 0, .int .u64 0, .int .u64 0, .int .u64 0, .int .u64 0, .int .i64 0, .slice none 0 0, .bool false, .int .u64 0, .int .u64 0, .int .i64 0, .int .u32 0, .int .i64 0, .int .i64 0, .int .i64 0, .int .i64 0, .int .u64 0, .int .u64 0, .int .i64 0, .int .u32 0] 83)) w.heap.size 23 #[.int .i64 k, .int .i64 K, .int .i64 T, .int .i64 M]) := Lib.hid (((Blk.new _ _ _).alloc _).alloc _)
  have F0 : Hid (Blk (((w.alloc (.cells #[.int .i64 k, .int .i64 K, .int .i64 T, .int .i64 M] 23)).alloc (.cells (f.v q).toArray 83)).alloc (.cells #[.int .i64 0, .int .u32 0, .int .i64 0, .int .i64 0, .int .i64 0, .int .u64 0, .int .u64 0, .int .u64 0, .int .u64 0, .int .i64 0, .slice none 0 0, .bool false, .int .u64 0, .int .u64 0, .int .i64 0, .int .u32 0, .int .i64 0, .int .i64 0, .int .i64 0, .int .i64 0, .int .u64 0, .int .u64 0, .int .i64 0, .int .u32 0] 83)) (w.heap.size + 1) 83 (f.v q).toArray) := Lib.hid ((blk_at (by simp)).alloc _)
  have Z0 : Hid (Blk (((w.alloc (.cells #[.int .i64 k, .int .i64 K, .int .i64 T, .int .i64 M] 23)).alloc (.cells (f.v q).toArray 83)).alloc (.cells #[.int .i64 0, .int .u32 0, .int .i64 0, .int .i64 0, .int .i64 0, .int .u64 0, .int .u64 0, .int .u64 0, .int .u64 0, .int .i64 0, .slice none 0 0, .bool false, .int .u64 0, .int .u64 0, .int .i64 0, .int .u32 0, .int .i64 0, .int .i64 0, .int .i64 0, .int .i64 0, .int .u64 0, .int .u64 0, .int .i64 0, .int .u32 0] 83)) (w.heap.size + 1 + 1) 83 #[.int .i64 0, .int .u32 0, .int .i64 0, .int .i64 0, .int .i64 0, .int .u64 0, .int .u64 0, .int .u64 0, .int .u64 0, .int .i64 0, .slice none 0 0, .bool false, .int .u64 0, .int .u64 0, .int .i64 0, .int .u32 0, .int .i64 0, .int .i64 0, .int .i64 0, .int .i64 0, .int .u64 0, .int .u64 0, .int .i64 0, .int .u32 0]) := Lib.hid (blk_at (by simp))
  have hv4 : (f.v q).toArray[4]? = some (.int .i64 97) := by show some (Value.int .i64 f.pc) = _; rw [hpc]
  have hz : (!dn) = true := by rw [hd]; rfl
  have HT : Hid (docTell k K T M f was dn = ({ f with pc := 95 } : FS)) := Lib.hid (by rw [tell97 was dn hpc, if_neg (by rw [hd]; decide)])
  clear hpc
  clear hd
  go_enter Try.func62, Try.ntmps62
  go_upto_region 1 with fail
  generalize (((w.alloc (.cells #[.int .i64 k, .int .i64 K, .int .i64 T, .int .i64 M] 23)).alloc (.cells (f.v q).toArray 83)).alloc (.cells #[.int .i64 0, .int .u32 0, .int .i64 0, .int .i64 0, .int .i64 0, .int .u64 0, .int .u64 0, .int .u64 0, .int .u64 0, .int .i64 0, .slice none 0 0, .bool false, .int .u64 0, .int .u64 0, .int .i64 0, .int .u32 0, .int .i64 0, .int .i64 0, .int .i64 0, .int .i64 0, .int .u64 0, .int .u64 0, .int .i64 0, .int .u32 0] 83)) = V at B0 C0 F0 Z0 ⊢
  have hc0 := C0.out.cell
  refine wp_region_lit ?_
  refine wpList_load_mid rfl 83 (.tmp 5) rfl (w.heap.size + 1) 0 (by simp [Act.eval]) (f.v q) _ (range24 F0.out (fun j v hj => by rw [Nat.zero_add]; simpa using hj)) Try.underlying83 rfl f_size ?_
  go_upto_region 238 with (first
    | (go_at_call 90; (with_reducible refine (life_c _ k K T M f q x0 x1 m1 m2).mono ?_); rintro e w1 ⟨rfl, hb⟩; go_must (have B1 := Lib.hid (B0.out.trans (hb.mono B0.out.size)); have F1 := Lib.hid (F0.out.below hb F0.out.lt); have Z1 := Lib.hid (Z0.out.below hb Z0.out.lt); have C1 := Lib.hid (C0.out.below hb C0.out.lt)); have hf1c := F1.out.cell; have hf1f := F1.out.frozen; have hc1 := C1.out.cell; clear hb hc0))
  refine wp_region_lit ?_
  refine wpList_load_mid rfl 83 (.tmp 5) rfl (w.heap.size + 1) 0 (by simp [Act.eval]) (f.v q) _ (range24 F1.out (fun j v hj => by rw [Nat.zero_add]; simpa using hj)) Try.underlying83 rfl f_size ?_
  go_wp2_with (first
    | (go_at_call 101; (with_reducible refine (to_c _ f q 95).mono ?_); rintro e w2 ⟨rfl, hb⟩; go_must (have B2 := Lib.hid (B1.out.trans (hb.mono B1.out.size)); have Z2 := Lib.hid (Z1.out.below hb Z1.out.lt)); clear hb)
    | (refine wpList_store_mid rfl 83 (.tmp 8) (.tmp 687) rfl (w.heap.size + 1 + 1) 0 (({ f with pc := 95 } : FS).v q).toArray (by simp [Act.eval]) (by simp [Act.eval]) (there24 Z2.out (by decide)) f_size (FS.one _ _) ?_))
  have R9 := res24 (World.rangeAt_setCells_same w2 (w.heap.size + 1 + 1) 0 (({ f with pc := 95 } : FS).v q) (there24 Z2.out (by decide)))
  have B9 := Only.below (Only.sets (P := fun g => w.heap.size ≤ g) (g := (w.heap.size + 1 + 1)) (.inl (by omega)) (({ f with pc := 95 } : FS).v q) w2 0 (Only.of_below B2.out (Nat.le_refl _))) (Nat.le_refl _) (fun k h => h)
  generalize w2.setCells (w.heap.size + 1 + 1) 0 (({ f with pc := 95 } : FS).v q) = V9 at R9 B9 ⊢
  refine bodyPost_ret (v := .agg (({ f with pc := 95 } : FS).v q).toArray) (results_cell1 (a := 8) Try.results62 rfl R9) rfl ?_
  exact ⟨by rw [HT.out], B9⟩

end Go.Proofs.Ytffppdcpiieapaa.Machc
