/- What Take and Give are behind their accesses, by the document's answer: small steps. · What a call is behind its accesses, by the document's answer. · How a Take ends, by the document's answer. -/
import Derived.Test.YtffppdcpiieapaaP5
import Derived.Test.YtffppdcpiieapaaP18
import Derived.Test.YtffppdcpiieapaaP20
namespace Go.Proofs.Ytffppdcpiieapaa.Machc
open Go.RowKit Go.Proofs.Ytffppdcpiieapaa.Memc Go.Proofs.Ytffppdcpiieapaa.Newc Go.Proofs.Ytffppdcpiieapaa.Refc Go.Proofs.Ytffppdcpiieapaa.Drivec Go.Proofs.Ytffppdcpiieapaa.Procc Go.Proofs.Ytffppdcpiieapaa.Wordc Go.Proofs.Ytffppdcpiieapaa.Arenac
set_option linter.unusedVariables false
set_option maxRecDepth 100000

set_option maxHeartbeats 2000000 in
theorem kept_c (w : World) (f : FS) (q : Sl) (p : Int) :
    Calls Try.prog 105 #[.agg (f.v q).toArray, .int .u64 p] w fun e w' => e = .returned (.agg ((({ f with w := p } : FS).v q)).toArray) ∧ Below w.heap.size w w' := by
  have B0 : Hid (Below w.heap.size w ((w.alloc (.cells (f.v q).toArray 83)).alloc (.cells #[.int .i64 0, .int .u32 0, .int .i64 0, .int .i64 0, .int .i64 0, .int .u64 0, .int .u64 0, .int .u64 0, .int .u64 0, .int .i64 0, .slice none 0 0, .bool false, .int .u64 0, .int .u64 0, .int .i64 0, .int .u32 0, .int .i64 0, .int .i64 0, .int .i64 0, .int .i64 0, .int .u64 0, .int .u64 0, .int .i64 0, .int .u32 0] 83))) := Lib.hid (((Below.refl _ _).alloc (Nat.le_refl _) _).alloc (by simp) _)
  have F0 : Hid (Blk ((w.alloc (.cells (f.v q).toArray 83)).alloc (.cells #[.int .i64 0, .int .u32 0, .int .i64 0, .int .i64 0, .int .i64 0, .int .u64 0, .int .u64 0, .int .u64 0, .int .u64 0, .int .i64 0, .slice none 0 0, .bool false, .int .u64 0, .int .u64 0, .int .i64 0, .int .u32 0, .int .i64 0, .int .i64 0, .int .i64 0, .int .i64 0, .int .u64 0, .int .u64 0, .int .i64 0, .int .u32 0] 83)) w.heap.size 83 (f.v q).toArray) := Lib.hid ((Blk.new _ _ _).alloc _)
  have Z0 : Hid (Blk ((w.alloc (.cells (f.v q).toArray 83)).alloc (.cells #[.int .i64 0, .int .u32 0, .int .i64 0, .int .i64 0, .int .i64 0, .int .u64 0, .int .u64 0, .int .u64 0, .int .u64 0, .int .i64 0, .slice none 0 0, .bool false, .int .u64 0, .int .u64 0, .int .i64 0, .int .u32 0, .int .i64 0, .int .i64 0, .int .i64 0, .int .i64 0, .int .u64 0, .int .u64 0, .int .i64 0, .int .u32 0] 83)) (w.heap.size + 1) 83 #[.int .i64 0, .int .u32 0, .int .i64 0, .int .i64 0, .int .i64 0, .int .u64 0, .int .u64 0, .int .u64 0, .int .u64 0, .int .i64 0, .slice none 0 0, .bool false, .int .u64 0, .int .u64 0, .int .i64 0, .int .u32 0, .int .i64 0, .int .i64 0, .int .i64 0, .int .i64 0, .int .u64 0, .int .u64 0, .int .i64 0, .int .u32 0]) := Lib.hid (blk_at (by simp))
  obtain ⟨f', hf'⟩ : ∃ f' : FS, f' = { f with w := p } := ⟨_, rfl⟩
  go_enter Try.func105, Try.ntmps105
  go_upto_region 1 with fail
  generalize ((w.alloc (.cells (f.v q).toArray 83)).alloc (.cells #[.int .i64 0, .int .u32 0, .int .i64 0, .int .i64 0, .int .i64 0, .int .u64 0, .int .u64 0, .int .u64 0, .int .u64 0, .int .i64 0, .slice none 0 0, .bool false, .int .u64 0, .int .u64 0, .int .i64 0, .int .u32 0, .int .i64 0, .int .i64 0, .int .i64 0, .int .i64 0, .int .u64 0, .int .u64 0, .int .i64 0, .int .u32 0] 83)) = V at B0 F0 Z0 ⊢
  have hf0 := F0.out.cell
  have hf0f := F0.out.frozen
  go_upto_region 2 with fail
  have F1 : Hid (Blk (V.setCell ⟨w.heap.size, 6, none⟩ (.int .u64 p)) w.heap.size 83 (((f'.v q)).toArray)) := Lib.hid (by
    have h_ := F0.out.set_ 6 (.int .u64 p)
    rw [hf']; simpa only [FS.v, List.setIfInBounds_toArray, List.set_cons_zero, List.set_cons_succ] using h_)
  have Z1 := Lib.hid (Z0.out.far (p := ⟨w.heap.size, 6, none⟩) (show ¬ w.heap.size + 1 = w.heap.size by omega) (.int .u64 p))
  have B1 := Lib.hid (Below.setCell B0.out (p := ⟨w.heap.size, 6, none⟩) (Nat.le_refl _) (.int .u64 p))
  clear hf0 hf0f F0 Z0 B0
  generalize V.setCell ⟨w.heap.size, 6, none⟩ (.int .u64 p) = V1 at F1 Z1 B1 ⊢
  refine wp_region_lit ?_
  refine wpList_load_mid rfl 83 (.tmp 2) rfl w.heap.size 0 (by simp [Act.eval]) (f'.v q) _ (range24 F1.out (fun j v hj => by rw [Nat.zero_add]; simpa using hj)) Try.underlying83 rfl f_size ?_
  refine wpList_store_mid rfl 83 (.tmp 4) (.tmp 7) rfl (w.heap.size + 1) 0 ((f'.v q)).toArray (by simp [Act.eval, Act.put]) (by simp [Act.eval, Act.put]) (there24 Z1.out (by decide)) f_size (FS.one _ _) ?_
  have R9 := res24 (World.rangeAt_setCells_same V1 (w.heap.size + 1) 0 (f'.v q) (there24 Z1.out (by decide)))
  have B9 := Only.below (Only.sets (P := fun g => w.heap.size ≤ g) (g := w.heap.size + 1) (.inl (by omega)) (f'.v q) V1 0 (Only.of_below B1.out (Nat.le_refl _))) (Nat.le_refl _) (fun k h => h)
  have ez : ((f'.v q)).toArray.toList = (f'.v q) := rfl
  rw [ez]
  generalize V1.setCells (w.heap.size + 1) 0 (f'.v q) = V2 at R9 B9 ⊢
  go_wp2
  refine bodyPost_ret (v := .agg (f'.v q).toArray) (results_cell1 (a := 4) Try.results105 rfl R9) rfl ?_
  exact ⟨by rw [hf'], B9⟩
set_option maxHeartbeats 2000000 in
theorem gives_c (w : World) (f : FS) (q : Sl) (rf back : Int) :
    Calls Try.prog 107 #[.agg (f.v q).toArray, .int .u64 rf, .int .i64 back] w fun e w' => e = .returned (.agg (({ f with give := rf, back := back, pc := 95 } : FS).v q).toArray) ∧ Below w.heap.size w w' := by
  have B0 : Hid (Below w.heap.size w ((w.alloc (.cells (f.v q).toArray 83)).alloc (.cells #[.int .i64 0, .int .u32 0, .int .i64 0, .int .i64 0, .int .i64 0, .int .u64 0, .int .u64 0, .int .u64 0, .int .u64 0, .int .i64 0, .slice none 0 0, .bool false, .int .u64 0, .int .u64 0, .int .i64 0, .int .u32 0, .int .i64 0, .int .i64 0, .int .i64 0, .int .i64 0, .int .u64 0, .int .u64 0, .int .i64 0, .int .u32 0] 83))) := Lib.hid (((Below.refl _ _).alloc (Nat.le_refl _) _).alloc (by simp) _)
  have F0 : Hid (Blk ((w.alloc (.cells (f.v q).toArray 83)).alloc (.cells #[.int .i64 0, .int .u32 0, .int .i64 0, .int .i64 0, .int .i64 0, .int .u64 0, .int .u64 0, .int .u64 0, .int .u64 0, .int .i64 0, .slice none 0 0, .bool false, .int .u64 0, .int .u64 0, .int .i64 0, .int .u32 0, .int .i64 0, .int .i64 0, .int .i64 0, .int .i64 0, .int .u64 0, .int .u64 0, .int .i64 0, .int .u32 0] 83)) w.heap.size 83 (f.v q).toArray) := Lib.hid ((Blk.new _ _ _).alloc _)
  have Z0 : Hid (Blk ((w.alloc (.cells (f.v q).toArray 83)).alloc (.cells #[.int .i64 0, .int .u32 0, .int .i64 0, .int .i64 0, .int .i64 0, .int .u64 0, .int .u64 0, .int .u64 0, .int .u64 0, .int .i64 0, .slice none 0 0, .bool false, .int .u64 0, .int .u64 0, .int .i64 0, .int .u32 0, .int .i64 0, .int .i64 0, .int .i64 0, .int .i64 0, .int .u64 0, .int .u64 0, .int .i64 0, .int .u32 0] 83)) (w.heap.size + 1) 83 #[.int .i64 0, .int .u32 0, .int .i64 0, .int .i64 0, .int .i64 0, .int .u64 0, .int .u64 0, .int .u64 0, .int .u64 0, .int .i64 0, .slice none 0 0, .bool false, .int .u64 0, .int .u64 0, .int .i64 0, .int .u32 0, .int .i64 0, .int .i64 0, .int .i64 0, .int .i64 0, .int .u64 0, .int .u64 0, .int .i64 0, .int .u32 0]) := Lib.hid (blk_at (by simp))
  obtain ⟨f', hf'⟩ : ∃ f' : FS, f' = { f with give := rf, back := back, pc := 95 } := ⟨_, rfl⟩
  go_enter Try.func107, Try.ntmps107
  go_upto_region 1 with fail
  generalize ((w.alloc (.cells (f.v q).toArray 83)).alloc (.cells #[.int .i64 0, .int .u32 0, .int .i64 0, .int .i64 0, .int .i64 0, .int .u64 0, .int .u64 0, .int .u64 0, .int .u64 0, .int .i64 0, .slice none 0 0, .bool false, .int .u64 0, .int .u64 0, .int .i64 0, .int .u32 0, .int .i64 0, .int .i64 0, .int .i64 0, .int .i64 0, .int .u64 0, .int .u64 0, .int .i64 0, .int .u32 0] 83)) = V at B0 F0 Z0 ⊢
  have hf0 := F0.out.cell
  have hf0f := F0.out.frozen
  go_upto_region 4 with fail
  have F1 : Hid (Blk (((V.setCell ⟨w.heap.size, 13, none⟩ (.int .u64 rf)).setCell ⟨w.heap.size, 14, none⟩ (.int .i64 back)).setCell ⟨w.heap.size, 4, none⟩ (.int .i64 95)) w.heap.size 83 ((f'.v q).toArray)) := Lib.hid (by
    have h_ := (((F0.out.set_ 13 (.int .u64 rf)).set_ 14 (.int .i64 back)).set_ 4 (.int .i64 95))
    rw [hf']; simpa only [FS.v, List.setIfInBounds_toArray, List.set_cons_zero, List.set_cons_succ] using h_)
  have Z1 := Lib.hid (((Z0.out.far (p := ⟨w.heap.size, 13, none⟩) (show ¬ w.heap.size + 1 = w.heap.size by omega) (.int .u64 rf)).far (p := ⟨w.heap.size, 14, none⟩) (show ¬ w.heap.size + 1 = w.heap.size by omega) (.int .i64 back)).far (p := ⟨w.heap.size, 4, none⟩) (show ¬ w.heap.size + 1 = w.heap.size by omega) (.int .i64 95))
  have B1 := Lib.hid (Below.setCell (Below.setCell (Below.setCell B0.out (p := ⟨w.heap.size, 13, none⟩) (Nat.le_refl _) (.int .u64 rf)) (p := ⟨w.heap.size, 14, none⟩) (Nat.le_refl _) (.int .i64 back)) (p := ⟨w.heap.size, 4, none⟩) (Nat.le_refl _) (.int .i64 95))
  clear hf0 hf0f F0 Z0 B0
  generalize (((V.setCell ⟨w.heap.size, 13, none⟩ (.int .u64 rf)).setCell ⟨w.heap.size, 14, none⟩ (.int .i64 back)).setCell ⟨w.heap.size, 4, none⟩ (.int .i64 95)) = V1 at F1 Z1 B1 ⊢
  refine wp_region_lit ?_
  refine wpList_load_mid rfl 83 (.tmp 3) rfl w.heap.size 0 (by simp [Act.eval]) (f'.v q) _ (range24 F1.out (fun j v hj => by rw [Nat.zero_add]; simpa using hj)) Try.underlying83 rfl f_size ?_
  refine wpList_store_mid rfl 83 (.tmp 6) (.tmp 12) rfl (w.heap.size + 1) 0 ((f'.v q)).toArray (by simp [Act.eval, Act.put]) (by simp [Act.eval, Act.put]) (there24 Z1.out (by decide)) f_size (FS.one _ _) ?_
  have R9 := res24 (World.rangeAt_setCells_same V1 (w.heap.size + 1) 0 (f'.v q) (there24 Z1.out (by decide)))
  have B9 := Only.below (Only.sets (P := fun g => w.heap.size ≤ g) (g := w.heap.size + 1) (.inl (by omega)) (f'.v q) V1 0 (Only.of_below B1.out (Nat.le_refl _))) (Nat.le_refl _) (fun k h => h)
  have ez : ((f'.v q)).toArray.toList = (f'.v q) := rfl
  rw [ez]
  generalize V1.setCells (w.heap.size + 1) 0 (f'.v q) = V2 at R9 B9 ⊢
  go_wp2
  refine bodyPost_ret (v := .agg (f'.v q).toArray) (results_cell1 (a := 6) Try.results107 rfl R9) rfl ?_
  exact ⟨by rw [hf'], B9⟩

end Go.Proofs.Ytffppdcpiieapaa.Machc

namespace Go.Proofs.Ytffppdcpiieapaa.Machc
open Go.RowKit Go.Proofs.Ytffppdcpiieapaa.Memc Go.Proofs.Ytffppdcpiieapaa.Newc Go.Proofs.Ytffppdcpiieapaa.Refc Go.Proofs.Ytffppdcpiieapaa.Drivec Go.Proofs.Ytffppdcpiieapaa.Procc Go.Proofs.Ytffppdcpiieapaa.Wordc Go.Proofs.Ytffppdcpiieapaa.Arenac
set_option linter.unusedVariables false
set_option maxRecDepth 100000

set_option maxHeartbeats 4000000 in
theorem begin4_c (w : World) (k : Int) (K T M : Nat) (i vl d : Int) (a1 : 1 ≤ K) (a2 : K ≤ 64) (m1 : 2 ≤ M) (m2 : M ≤ 64) (d0 : 0 ≤ d) (d1 : d ≤ 4294967295) (v0 : 0 ≤ vl) (v1 : vl ≤ 4294967295) :
    Calls Try.prog 73 #[.agg #[.int .i64 k, .int .i64 K, .int .i64 T, .int .i64 M], .int .i64 i, .agg #[.int .i64 4, .int .u32 vl], .int .u32 d] w fun e w' => e = .returned (.agg ((docBg k K M i 4 vl d).v nilS).toArray) ∧ Below w.heap.size w w' := by
  have B0 : Hid (Below w.heap.size w (((w.alloc (.cells #[.int .i64 k, .int .i64 K, .int .i64 T, .int .i64 M] 23)).alloc (.cells #[.int .i64 4, .int .u32 vl] 63)).alloc (.cells #[.int .i64 0, .int .u32 0, .int .i64 0, .int .i64 0, .int .i64 0, .int .u64 0, .int .u64 0, .int .u64 0, .int .u64 0, .int .i64 0, .slice none 0 0, .bool false, .int .u64 0, .int .u64 0, .int .i64 0, .int .u32 0, .int .i64 0, .int .i64 0, .int .i64 0, .int .i64 0, .int .u64 0, .int .u64 0, .int .i64 0, .int .u32 0] 83))) := Lib.hid ((((Below.refl _ _).alloc (Nat.le_refl _) _).alloc (by simp) _).alloc (by simp; omega) _)
  have C0 : Hid (Blk (((w.alloc (.cells #[.int .i64 k, .int .i64 K, .int .i64 T, .int .i64 M] 23)).alloc (.cells #[.int .i64 4, .int .u32 vl] 63)).alloc (.cells #[.int .i64 0, .int .u32 0, .int .i64 0, .int .i64 0, .int .i64 0, .int .u64 0, .int .u64 0, .int .u64 0, .int .u64 0, .int .i64 0, .slice none 0 0, .bool false, .int .u64 0, .int .u64 0, .int .i64 0, .int .u32 0, .int .i64 0, .int .i64 0, .int .i64 0, .int .i64 0, .int .u64 0, .int .u64 0, .int .i64 0, .int .u32 0] 83)) w.heap.size 23 #[.int .i64 k, .int .i64 K, .int .i64 T, .int .i64 M]) := Lib.hid (((Blk.new _ _ _).alloc _).alloc _)
  have O0 : Hid (Blk (((w.alloc (.cells #[.int .i64 k, .int .i64 K, .int .i64 T, .int .i64 M] 23)).alloc (.cells #[.int .i64 4, .int .u32 vl] 63)).alloc (.cells #[.int .i64 0, .int .u32 0, .int .i64 0, .int .i64 0, .int .i64 0, .int .u64 0, .int .u64 0, .int .u64 0, .int .u64 0, .int .i64 0, .slice none 0 0, .bool false, .int .u64 0, .int .u64 0, .int .i64 0, .int .u32 0, .int .i64 0, .int .i64 0, .int .i64 0, .int .i64 0, .int .u64 0, .int .u64 0, .int .i64 0, .int .u32 0] 83)) (w.heap.size + 1) 63 #[.int .i64 4, .int .u32 vl]) := Lib.hid ((blk_at (by simp)).alloc _)
  have Z0 : Hid (Blk (((w.alloc (.cells #[.int .i64 k, .int .i64 K, .int .i64 T, .int .i64 M] 23)).alloc (.cells #[.int .i64 4, .int .u32 vl] 63)).alloc (.cells #[.int .i64 0, .int .u32 0, .int .i64 0, .int .i64 0, .int .i64 0, .int .u64 0, .int .u64 0, .int .u64 0, .int .u64 0, .int .i64 0, .slice none 0 0, .bool false, .int .u64 0, .int .u64 0, .int .i64 0, .int .u32 0, .int .i64 0, .int .i64 0, .int .i64 0, .int .i64 0, .int .u64 0, .int .u64 0, .int .i64 0, .int .u32 0] 83)) (w.heap.size + 1 + 1) 83 #[.int .i64 0, .int .u32 0, .int .i64 0, .int .i64 0, .int .i64 0, .int .u64 0, .int .u64 0, .int .u64 0, .int .u64 0, .int .i64 0, .slice none 0 0, .bool false, .int .u64 0, .int .u64 0, .int .i64 0, .int .u32 0, .int .i64 0, .int .i64 0, .int .i64 0, .int .i64 0, .int .u64 0, .int .u64 0, .int .i64 0, .int .u32 0]) := Lib.hid (blk_at (by simp))
  obtain ⟨f1, hf1⟩ : ∃ f1 : FS, f1 = ({ FS.none with kd := 4, vl := vl, t := i, d := d % K, pc := 1 } : FS) := ⟨_, rfl⟩
  have HF1 := Lib.hid hf1
  clear hf1
  have k0 : ¬ (K : Int) = 0 := by omega
  have kN : ¬ K = 0 := by omega
  have kw : IntKind.u32.wrap (K : Int) = K := by rw [IntKind.wrap_u32]; omega
  have kt : d.tmod (K : Int) = d % (K : Int) := Int.tmod_eq_emod_of_nonneg d0
  have q0 : 0 ≤ d % (K : Int) := Int.emod_nonneg _ k0
  have q1 : d % (K : Int) < K := Int.emod_lt_of_pos _ (by omega)
  have kc : IntKind.i64.wrap (d % (K : Int)) = d % (K : Int) := by rw [IntKind.wrap_i64]; omega
  have HR : Hid (docBg k K M i 4 vl d = ({ f1 with pc := 90 } : FS)) := Lib.hid (by rw [HF1.out]; simp only [docBg, Int.reduceEq, if_false, if_true])
  have HM := Lib.hid (And.intro m1 m2)
  go_enter Try.func73, Try.ntmps73
  go_upto_region 1 with fail
  generalize (((w.alloc (.cells #[.int .i64 k, .int .i64 K, .int .i64 T, .int .i64 M] 23)).alloc (.cells #[.int .i64 4, .int .u32 vl] 63)).alloc (.cells #[.int .i64 0, .int .u32 0, .int .i64 0, .int .i64 0, .int .i64 0, .int .u64 0, .int .u64 0, .int .u64 0, .int .u64 0, .int .i64 0, .slice none 0 0, .bool false, .int .u64 0, .int .u64 0, .int .i64 0, .int .u32 0, .int .i64 0, .int .i64 0, .int .i64 0, .int .i64 0, .int .u64 0, .int .u64 0, .int .i64 0, .int .u32 0] 83)) = V at B0 C0 O0 Z0 ⊢
  have NB : Hid (Blk ((V.alloc (.cells #[.int .i64 0, .int .u32 0, .int .i64 0, .int .i64 0, .int .i64 0, .int .u64 0, .int .u64 0, .int .u64 0, .int .u64 0, .int .i64 0, .slice none 0 0, .bool false, .int .u64 0, .int .u64 0, .int .i64 0, .int .u32 0, .int .i64 0, .int .i64 0, .int .i64 0, .int .i64 0, .int .u64 0, .int .u64 0, .int .i64 0, .int .u32 0] 83)).drew) V.heap.size 83 #[.int .i64 0, .int .u32 0, .int .i64 0, .int .i64 0, .int .i64 0, .int .u64 0, .int .u64 0, .int .u64 0, .int .u64 0, .int .i64 0, .slice none 0 0, .bool false, .int .u64 0, .int .u64 0, .int .i64 0, .int .u32 0, .int .i64 0, .int .i64 0, .int .i64 0, .int .i64 0, .int .u64 0, .int .u64 0, .int .i64 0, .int .u32 0]) := Lib.hid ((Blk.new V _ _).drew)
  have C1 : Hid (Blk ((V.alloc (.cells #[.int .i64 0, .int .u32 0, .int .i64 0, .int .i64 0, .int .i64 0, .int .u64 0, .int .u64 0, .int .u64 0, .int .u64 0, .int .i64 0, .slice none 0 0, .bool false, .int .u64 0, .int .u64 0, .int .i64 0, .int .u32 0, .int .i64 0, .int .i64 0, .int .i64 0, .int .i64 0, .int .u64 0, .int .u64 0, .int .i64 0, .int .u32 0] 83)).drew) _ _ _) := Lib.hid ((C0.out.alloc (.cells #[.int .i64 0, .int .u32 0, .int .i64 0, .int .i64 0, .int .i64 0, .int .u64 0, .int .u64 0, .int .u64 0, .int .u64 0, .int .i64 0, .slice none 0 0, .bool false, .int .u64 0, .int .u64 0, .int .i64 0, .int .u32 0, .int .i64 0, .int .i64 0, .int .i64 0, .int .i64 0, .int .u64 0, .int .u64 0, .int .i64 0, .int .u32 0] 83)).drew)
  have O1 : Hid (Blk ((V.alloc (.cells #[.int .i64 0, .int .u32 0, .int .i64 0, .int .i64 0, .int .i64 0, .int .u64 0, .int .u64 0, .int .u64 0, .int .u64 0, .int .i64 0, .slice none 0 0, .bool false, .int .u64 0, .int .u64 0, .int .i64 0, .int .u32 0, .int .i64 0, .int .i64 0, .int .i64 0, .int .i64 0, .int .u64 0, .int .u64 0, .int .i64 0, .int .u32 0] 83)).drew) _ _ _) := Lib.hid ((O0.out.alloc (.cells #[.int .i64 0, .int .u32 0, .int .i64 0, .int .i64 0, .int .i64 0, .int .u64 0, .int .u64 0, .int .u64 0, .int .u64 0, .int .i64 0, .slice none 0 0, .bool false, .int .u64 0, .int .u64 0, .int .i64 0, .int .u32 0, .int .i64 0, .int .i64 0, .int .i64 0, .int .i64 0, .int .u64 0, .int .u64 0, .int .i64 0, .int .u32 0] 83)).drew)
  have Z1 : Hid (Blk ((V.alloc (.cells #[.int .i64 0, .int .u32 0, .int .i64 0, .int .i64 0, .int .i64 0, .int .u64 0, .int .u64 0, .int .u64 0, .int .u64 0, .int .i64 0, .slice none 0 0, .bool false, .int .u64 0, .int .u64 0, .int .i64 0, .int .u32 0, .int .i64 0, .int .i64 0, .int .i64 0, .int .i64 0, .int .u64 0, .int .u64 0, .int .i64 0, .int .u32 0] 83)).drew) _ _ _) := Lib.hid ((Z0.out.alloc (.cells #[.int .i64 0, .int .u32 0, .int .i64 0, .int .i64 0, .int .i64 0, .int .u64 0, .int .u64 0, .int .u64 0, .int .u64 0, .int .i64 0, .slice none 0 0, .bool false, .int .u64 0, .int .u64 0, .int .i64 0, .int .u32 0, .int .i64 0, .int .i64 0, .int .i64 0, .int .i64 0, .int .u64 0, .int .u64 0, .int .i64 0, .int .u32 0] 83)).drew)
  have B1 : Hid (Below w.heap.size w ((V.alloc (.cells #[.int .i64 0, .int .u32 0, .int .i64 0, .int .i64 0, .int .i64 0, .int .u64 0, .int .u64 0, .int .u64 0, .int .u64 0, .int .i64 0, .slice none 0 0, .bool false, .int .u64 0, .int .u64 0, .int .i64 0, .int .u32 0, .int .i64 0, .int .i64 0, .int .i64 0, .int .i64 0, .int .u64 0, .int .u64 0, .int .i64 0, .int .u32 0] 83)).drew)) := Lib.hid (below_drawn (B0.out.alloc B0.out.size (.cells #[.int .i64 0, .int .u32 0, .int .i64 0, .int .i64 0, .int .i64 0, .int .u64 0, .int .u64 0, .int .u64 0, .int .u64 0, .int .i64 0, .slice none 0 0, .bool false, .int .u64 0, .int .u64 0, .int .i64 0, .int .u32 0, .int .i64 0, .int .i64 0, .int .i64 0, .int .i64 0, .int .u64 0, .int .u64 0, .int .i64 0, .int .u32 0] 83)) 1)
  refine Zreg.begin_ (S := (fun w' => (∀ j, w'.cell? ⟨w.heap.size, j, none⟩ = (#[.int .i64 k, .int .i64 K, .int .i64 T, .int .i64 M] : Array Value)[j]?) ∧ (∀ j, w'.cell? ⟨w.heap.size + 1, j, none⟩ = (#[.int .i64 4, .int .u32 vl] : Array Value)[j]?))) (zs := [13]) (by kernel_rfl) ?_
  show Zreg.After _ _ _ _ _ _ 14 #[false, false, false, false, false, false, false, false, false, false, false, false, false, false] _ _
  refine Zreg.takeP 0 10 (x := ?xb_0) rfl rfl (by kernel_rfl) (by kernel_rfl) (by kernel_rfl) (by kernel_rfl) (fun _ _ _ h => h) (.inr ⟨C0.out.drew.cell, O0.out.drew.cell⟩) (Or.inl ⟨by rfl, ?yb_0⟩) ?rb_0
  case yb_0 => (intro w _; go_simp <;> with_reducible rfl)
  simp only [List.setIfInBounds_toArray, List.set_cons_zero, List.set_cons_succ]
  refine Zreg.takeD 1 11 (x := ?xb_1) rfl rfl (by kernel_rfl) (by kernel_rfl) (by kernel_rfl) (by kernel_rfl) (by kernel_rfl) (by kernel_rfl) (by kernel_rfl) (fun _ _ _ h => h) (.inr ⟨C0.out.drew.cell, O0.out.drew.cell⟩) (Or.inl ⟨by rfl, ?yb_1⟩) ?rb_1
  case yb_1 => (intro w hSw; (try dsimp only at hSw); go_simp <;> with_reducible rfl)
  simp only [List.setIfInBounds_toArray, List.set_cons_zero, List.set_cons_succ]
  refine Zreg.takeP 2 12 (x := ?xb_2) rfl rfl (by kernel_rfl) (by kernel_rfl) (by kernel_rfl) (by kernel_rfl) (fun _ _ _ h => h) (.inr ⟨C0.out.drew.cell, O0.out.drew.cell⟩) (Or.inl ⟨by rfl, ?yb_2⟩) ?rb_2
  case yb_2 => (intro w _; go_simp <;> with_reducible rfl)
  simp only [List.setIfInBounds_toArray, List.set_cons_zero, List.set_cons_succ]
  refine Zreg.takeD 3 13 (x := ?xb_3) rfl rfl (by kernel_rfl) (by kernel_rfl) (by kernel_rfl) (by kernel_rfl) (by kernel_rfl) (by kernel_rfl) (by kernel_rfl) (fun _ _ _ h => h) (.inr ⟨C0.out.drew.cell, O0.out.drew.cell⟩) (Or.inl ⟨by rfl, ?yb_3⟩) ?rb_3
  case yb_3 => (intro w hSw; (try dsimp only at hSw); go_simp <;> with_reducible rfl)
  simp only [List.setIfInBounds_toArray, List.set_cons_zero, List.set_cons_succ]
  refine Zreg.takeP 4 14 (x := ?xb_4) rfl rfl (by kernel_rfl) (by kernel_rfl) (by kernel_rfl) (by kernel_rfl) (fun _ _ _ h => h) (.inr ⟨C0.out.drew.cell, O0.out.drew.cell⟩) (Or.inl ⟨by rfl, ?yb_4⟩) ?rb_4
  case yb_4 => (intro w _; go_simp <;> with_reducible rfl)
  simp only [List.setIfInBounds_toArray, List.set_cons_zero, List.set_cons_succ]
  refine Zreg.takeP 5 15 (x := ?xb_5) rfl rfl (by kernel_rfl) (by kernel_rfl) (by kernel_rfl) (by kernel_rfl) (fun _ _ _ h => h) (.inr ⟨C0.out.drew.cell, O0.out.drew.cell⟩) (Or.inl ⟨by rfl, ?yb_5⟩) ?rb_5
  case yb_5 => (intro w _; go_simp <;> with_reducible rfl)
  simp only [List.setIfInBounds_toArray, List.set_cons_zero, List.set_cons_succ]
  refine Zreg.takeP 6 16 (x := ?xb_6) rfl rfl (by kernel_rfl) (by kernel_rfl) (by kernel_rfl) (by kernel_rfl) (fun _ _ _ h => h) (.inr ⟨C0.out.drew.cell, O0.out.drew.cell⟩) (Or.inl ⟨by rfl, ?yb_6⟩) ?rb_6
  case yb_6 => (intro w _; go_simp <;> with_reducible rfl)
  simp only [List.setIfInBounds_toArray, List.set_cons_zero, List.set_cons_succ]
  refine Zreg.takeD 7 17 (x := ?xb_7) rfl rfl (by kernel_rfl) (by kernel_rfl) (by kernel_rfl) (by kernel_rfl) (by kernel_rfl) (by kernel_rfl) (by kernel_rfl) (fun _ _ _ h => h) (.inr ⟨C0.out.drew.cell, O0.out.drew.cell⟩) (Or.inl ⟨by rfl, ?yb_7⟩) ?rb_7
  case yb_7 => (intro w hSw; (try dsimp only at hSw); go_simp <;> with_reducible rfl)
  simp only [List.setIfInBounds_toArray, List.set_cons_zero, List.set_cons_succ]
  refine Zreg.takeP 8 18 (x := ?xb_8) rfl rfl (by kernel_rfl) (by kernel_rfl) (by kernel_rfl) (by kernel_rfl) (fun _ _ _ h => h) (.inr ⟨C0.out.drew.cell, O0.out.drew.cell⟩) (Or.inl ⟨by rfl, ?yb_8⟩) ?rb_8
  case yb_8 => (intro w _; go_simp <;> with_reducible rfl)
  simp only [List.setIfInBounds_toArray, List.set_cons_zero, List.set_cons_succ]
  refine Zreg.takeP 9 19 (x := ?xb_9) rfl rfl (by kernel_rfl) (by kernel_rfl) (by kernel_rfl) (by kernel_rfl) (fun _ _ _ h => h) (.inr ⟨C0.out.drew.cell, O0.out.drew.cell⟩) (Or.inl ⟨by rfl, ?yb_9⟩) ?rb_9
  case yb_9 => (intro w _; go_simp <;> with_reducible rfl)
  simp only [List.setIfInBounds_toArray, List.set_cons_zero, List.set_cons_succ]
  refine Zreg.takeP 10 20 (x := ?xb_10) rfl rfl (by kernel_rfl) (by kernel_rfl) (by kernel_rfl) (by kernel_rfl) (fun _ _ _ h => h) (.inr ⟨C0.out.drew.cell, O0.out.drew.cell⟩) (Or.inl ⟨by rfl, ?yb_10⟩) ?rb_10
  case yb_10 => (intro w _; go_simp <;> with_reducible rfl)
  simp only [List.setIfInBounds_toArray, List.set_cons_zero, List.set_cons_succ]
  refine Zreg.takeP 11 21 (x := ?xb_11) rfl rfl (by kernel_rfl) (by kernel_rfl) (by kernel_rfl) (by kernel_rfl) (fun _ _ _ h => h) (.inr ⟨C0.out.drew.cell, O0.out.drew.cell⟩) (Or.inl ⟨by rfl, ?yb_11⟩) ?rb_11
  case yb_11 => (intro w _; go_simp <;> with_reducible rfl)
  simp only [List.setIfInBounds_toArray, List.set_cons_zero, List.set_cons_succ]
  refine Zreg.one 12 (by kernel_rfl) rfl rfl fun K_ hK => ?_
  go_simp
  refine hK.out _ _ (.inr ⟨(C0.out.drew.alloc _).cell, (O0.out.drew.alloc _).cell⟩) fun _ => ?_
  clear hK
  simp only [List.setIfInBounds_toArray, List.set_cons_zero, List.set_cons_succ]
  refine Zreg.one 13 (by kernel_rfl) rfl rfl fun K_ hK => ?_
  refine wp_store_mid 83 (.tmp 9) (.tmp 21) rfl V.heap.size 0 (f1.v nilS).toArray (by simp [Act.eval]) (by simp [Act.eval]; rw [HF1.out]; rfl) (there24 NB.out (by decide)) f_size (FS.one _ _) ?_
  refine hK.out _ _ (.inl (by kernel_rfl)) fun _ => ?_
  clear hK
  try simp only [Act.put, List.setIfInBounds_toArray, List.set_cons_zero, List.set_cons_succ]
  refine Zreg.done (by kernel_rfl) ?_ _
  have VL : Hid (w.heap.size + 1 + 1 < V.heap.size) := Lib.hid Z0.out.lt
  have F2 := Lib.hid (Blk.f24 NB.out rfl f1 nilS)
  have OV := Lib.hid (Only.sets (P := fun g => g = V.heap.size) (g := V.heap.size) (.inl rfl) (f1.v nilS) ((V.alloc (.cells #[.int .i64 0, .int .u32 0, .int .i64 0, .int .i64 0, .int .i64 0, .int .u64 0, .int .u64 0, .int .u64 0, .int .u64 0, .int .i64 0, .slice none 0 0, .bool false, .int .u64 0, .int .u64 0, .int .i64 0, .int .u32 0, .int .i64 0, .int .i64 0, .int .i64 0, .int .i64 0, .int .u64 0, .int .u64 0, .int .i64 0, .int .u32 0] 83)).drew) 0 (Only.refl _ _))
  have C2 := Lib.hid (C1.out.only OV.out (show ¬ w.heap.size = V.heap.size by have := VL.out; omega))
  have O2 := Lib.hid (O1.out.only OV.out (show ¬ w.heap.size + 1 = V.heap.size by have := VL.out; omega))
  have Z2 := Lib.hid (Z1.out.only OV.out (show ¬ w.heap.size + 1 + 1 = V.heap.size by have := VL.out; omega))
  have B2 := Lib.hid (B1.out.trans (OV.out.below B1.out.size (fun g hg => by have := VL.out; omega)))
  generalize ((V.alloc (.cells #[.int .i64 0, .int .u32 0, .int .i64 0, .int .i64 0, .int .i64 0, .int .u64 0, .int .u64 0, .int .u64 0, .int .u64 0, .int .i64 0, .slice none 0 0, .bool false, .int .u64 0, .int .u64 0, .int .i64 0, .int .u32 0, .int .i64 0, .int .i64 0, .int .i64 0, .int .i64 0, .int .u64 0, .int .u64 0, .int .i64 0, .int .u32 0] 83)).drew.setCells V.heap.size 0 (f1.v nilS)) = V2 at F2 C2 O2 Z2 B2 ⊢
  have hf2 := F2.out.cell
  have hf2f := F2.out.frozen
  have ho2 := O2.out.cell
  have hc2 := C2.out.cell
  clear C0 O0 Z0 B0 C1 O1 Z1 B1 NB OV
  generalize V.heap.size = gF at F2 VL hf2 hf2f ⊢
  go_upto_region 14 with fail
  obtain ⟨f2, hf2⟩ : ∃ f2 : FS, f2 = { f1 with pc := 90 } := ⟨_, rfl⟩
  have Hf2 := Lib.hid hf2
  have F3 : Hid (Blk (V2.setCell ⟨gF, 4, none⟩ (.int .i64 90)) gF 83 (f2.v nilS).toArray) := Lib.hid (by
    have h_ := F2.out.set_ 4 (.int .i64 90)
    rw [hf2]; exact h_)
  clear hf2
  have Z3 := Lib.hid (Z2.out.far (p := ⟨gF, 4, none⟩) (show ¬ w.heap.size + 1 + 1 = gF by have := VL.out; omega) (.int .i64 90))
  have O3 := Lib.hid (O2.out.far (p := ⟨gF, 4, none⟩) (show ¬ w.heap.size + 1 = gF by have := VL.out; omega) (.int .i64 90))
  have C3 := Lib.hid (C2.out.far (p := ⟨gF, 4, none⟩) (show ¬ w.heap.size = gF by have := VL.out; omega) (.int .i64 90))
  have B3 := Lib.hid (Below.setCell B2.out (p := ⟨gF, 4, none⟩) (show w.heap.size ≤ gF by have := VL.out; omega) (.int .i64 90))
  clear hf2 hf2f ho2 hc2 F2 O2 Z2 B2 C2
  generalize V2.setCell ⟨gF, 4, none⟩ (.int .i64 90) = V3 at F3 Z3 O3 C3 B3 ⊢
  have ho3 := O3.out.cell
  have hc3 := C3.out.cell
  have hf3 := F3.out.cell
  have hf3f := F3.out.frozen
  clear hf3 hf3f
  by_cases hk2 : k = 2
  · have hkb : (k == 2) = true := by rw [hk2]; rfl
    clear hk2
    go_upto_region 18 with fail
    refine wp_region_lit ?_
    refine wpList_load_mid rfl 83 (.tmp 9) rfl gF 0 (by simp [Act.eval]) (f2.v nilS) _ (range24 F3.out (fun j v hj => by rw [Nat.zero_add]; simpa using hj)) Try.underlying83 rfl f_size ?_
    refine wpList_store_mid rfl 83 (.tmp 8) (.tmp 75) rfl (w.heap.size + 1 + 1) 0 (f2.v nilS).toArray (by simp [Act.eval, Act.put]) (by simp [Act.eval, Act.put]) (there24 Z3.out (by decide)) f_size (FS.one _ _) ?_
    have R9 := res24 (World.rangeAt_setCells_same V3 (w.heap.size + 1 + 1) 0 (f2.v nilS) (there24 Z3.out (by decide)))
    have B9 := Only.below (Only.sets (P := fun g => w.heap.size ≤ g) (g := w.heap.size + 1 + 1) (.inl (by omega)) (f2.v nilS) V3 0 (Only.of_below B3.out (Nat.le_refl _))) (Nat.le_refl _) (fun k h => h)
    have ez : (f2.v nilS).toArray.toList = (f2.v nilS) := rfl
    rw [ez]
    generalize V3.setCells (w.heap.size + 1 + 1) 0 (f2.v nilS) = V9 at R9 B9 ⊢
    go_wp2
    refine bodyPost_ret (v := .agg (f2.v nilS).toArray) (results_cell1 (a := 8) Try.results73 rfl R9) rfl ?_
    exact ⟨by rw [HR.out, Hf2.out], B9⟩
  · have hkb : (k == 2) = false := beq_false_of_ne hk2
    clear hk2
    go_upto_region 18 with fail
    refine wp_region_lit ?_
    refine wpList_load_mid rfl 83 (.tmp 9) rfl gF 0 (by simp [Act.eval]) (f2.v nilS) _ (range24 F3.out (fun j v hj => by rw [Nat.zero_add]; simpa using hj)) Try.underlying83 rfl f_size ?_
    refine wpList_store_mid rfl 83 (.tmp 8) (.tmp 75) rfl (w.heap.size + 1 + 1) 0 (f2.v nilS).toArray (by simp [Act.eval, Act.put]) (by simp [Act.eval, Act.put]) (there24 Z3.out (by decide)) f_size (FS.one _ _) ?_
    have R9 := res24 (World.rangeAt_setCells_same V3 (w.heap.size + 1 + 1) 0 (f2.v nilS) (there24 Z3.out (by decide)))
    have B9 := Only.below (Only.sets (P := fun g => w.heap.size ≤ g) (g := w.heap.size + 1 + 1) (.inl (by omega)) (f2.v nilS) V3 0 (Only.of_below B3.out (Nat.le_refl _))) (Nat.le_refl _) (fun k h => h)
    have ez : (f2.v nilS).toArray.toList = (f2.v nilS) := rfl
    rw [ez]
    generalize V3.setCells (w.heap.size + 1 + 1) 0 (f2.v nilS) = V9 at R9 B9 ⊢
    go_wp2
    refine bodyPost_ret (v := .agg (f2.v nilS).toArray) (results_cell1 (a := 8) Try.results73 rfl R9) rfl ?_
    exact ⟨by rw [HR.out, Hf2.out], B9⟩
theorem wpStill_load_mid {P : Program} {ops : Array Oper} {w : World} {Q : Act → Prop} {op : Oper} {rest : List Oper} {a : Act} (hgd : op.guard = none) (ty : TypeId) (x : Operand) (ho : op.op = .load ty x) (b o : Nat) (hx : a.eval x = .pointer (some ⟨b, o, none⟩)) (cs : List Value) (d : TypeDesc) (hc : w.rangeAt b o cs)
    (hu : P.underlying ty = some d) (hd : d.isRow = true) (hi : (P.info? ty).map (·.size) = some cs.length) (h : wpStill P ops w Q rest (a.put op.dst (.agg cs.toArray))) : wpStill P ops w Q (op :: rest) a := by
  refine wpStill_step (fun K hK => ?_)
  have hw : Region.wanted op (yielded ops a.tmps) = true := by simp [Region.wanted, hgd]
  rw [if_pos hw]
  unfold Oper.still execOp
  simp only [ho, hx, Instr.loadAt, Instr.sureAddr, Sem.run_bind, Sem.run_pure, Result.andThen_ok, run_loadVar_mid w b o ty cs d hc hu hd hi]
  exact ⟨rfl, hK _ h⟩
theorem refref_p (x : Int) (w : World) (x0 : 0 ≤ x) (x1 : x < 64) : Calls Try.prog 89 #[.int .u32 0, .int .i64 x] w fun e w' => e = .returned (.int .u64 (x + 1)) ∧ w = w' := by
  refine (ref_r 0 x w (by omega) (by omega) (by omega) (by omega)).mono (fun e w' h => ?_)
  have e1 : 0 * 4294967296 + (x + 1) % 4294967296 = x + 1 := by omega
  rw [e1] at h
  exact h
set_option maxHeartbeats 4000000 in
theorem begin5_c (w : World) (k : Int) (K T M : Nat) (i vl d : Int) (a1 : 1 ≤ K) (a2 : K ≤ 64) (m1 : 2 ≤ M) (m2 : M ≤ 64) (d0 : 0 ≤ d) (d1 : d ≤ 4294967295) (v0 : 0 ≤ vl) (v1 : vl ≤ 4294967295) :
    Calls Try.prog 73 #[.agg #[.int .i64 k, .int .i64 K, .int .i64 T, .int .i64 M], .int .i64 i, .agg #[.int .i64 5, .int .u32 vl], .int .u32 d] w fun e w' => e = .returned (.agg ((docBg k K M i 5 vl d).v nilS).toArray) ∧ Below w.heap.size w w' := by
  have B0 : Hid (Below w.heap.size w (((w.alloc (.cells #[.int .i64 k, .int .i64 K, .int .i64 T, .int .i64 M] 23)).alloc (.cells #[.int .i64 5, .int .u32 vl] 63)).alloc (.cells #[.int .i64 0, .int .u32 0, .int .i64 0, .int .i64 0, .int .i64 0, .int .u64 0, .int .u64 0, .int .u64 0, .int .u64 0, .int .i64 0, .slice none 0 0, .bool false, .int .u64 0, .int .u64 0, .int .i64 0, .int .u32 0, .int .i64 0, .int .i64 0, .int .i64 0, .int .i64 0, .int .u64 0, .int .u64 0, .int .i64 0, .int .u32 0] 83))) := Lib.hid ((((Below.refl _ _).alloc (Nat.le_refl _) _).alloc (by simp) _).alloc (by simp; omega) _)
  have C0 : Hid (Blk (((w.alloc (.cells #[.int .i64 k, .int .i64 K, .int .i64 T, .int .i64 M] 23)).alloc (.cells #[.int .i64 5, .int .u32 vl] 63)).alloc (.cells #[.int .i64 0, .int .u32 0, .int .i64 0, .int .i64 0, .int .i64 0, .int .u64 0, .int .u64 0, .int .u64 0, .int .u64 0, .int .i64 0, .slice none 0 0, .bool false, .int .u64 0, .int .u64 0, .int .i64 0, .int .u32 0, .int .i64 0, .int .i64 0, .int .i64 0, .int .i64 0, .int .u64 0, .int .u64 0, .int .i64 0, .int .u32 0] 83)) w.heap.size 23 #[.int .i64 k, .int .i64 K, .int .i64 T, .int .i64 M]) := Lib.hid (((Blk.new _ _ _).alloc _).alloc _)
  have O0 : Hid (Blk (((w.alloc (.cells #[.int .i64 k, .int .i64 K, .int .i64 T, .int .i64 M] 23)).alloc (.cells #[.int .i64 5, .int .u32 vl] 63)).alloc (.cells #[.int .i64 0, .int .u32 0, .int .i64 0, .int .i64 0, .int .i64 0, .int .u64 0, .int .u64 0, .int .u64 0, .int .u64 0, .int .i64 0, .slice none 0 0, .bool false, .int .u64 0, .int .u64 0, .int .i64 0, .int .u32 0, .int .i64 0, .int .i64 0, .int .i64 0, .int .i64 0, .int .u64 0, .int .u64 0, .int .i64 0, .int .u32 0] 83)) (w.heap.size + 1) 63 #[.int .i64 5, .int .u32 vl]) := Lib.hid ((blk_at (by simp)).alloc _)
  have Z0 : Hid (Blk (((w.alloc (.cells #[.int .i64 k, .int .i64 K, .int .i64 T, .int .i64 M] 23)).alloc (.cells #[.int .i64 5, .int .u32 vl] 63)).alloc (.cells #[.int .i64 0, .int .u32 0, .int .i64 0, .int .i64 0, .int .i64 0, .int .u64 0, .int .u64 0, .int .u64 0, .int .u64 0, .int .i64 0, .slice none 0 0, .bool false, .int .u64 0, .int .u64 0, .int .i64 0, .int .u32 0, .int .i64 0, .int .i64 0, .int .i64 0, .int .i64 0, .int .u64 0, .int .u64 0, .int .i64 0, .int .u32 0] 83)) (w.heap.size + 1 + 1) 83 #[.int .i64 0, .int .u32 0, .int .i64 0, .int .i64 0, .int .i64 0, .int .u64 0, .int .u64 0, .int .u64 0, .int .u64 0, .int .i64 0, .slice none 0 0, .bool false, .int .u64 0, .int .u64 0, .int .i64 0, .int .u32 0, .int .i64 0, .int .i64 0, .int .i64 0, .int .i64 0, .int .u64 0, .int .u64 0, .int .i64 0, .int .u32 0]) := Lib.hid (blk_at (by simp))
  obtain ⟨f1, hf1⟩ : ∃ f1 : FS, f1 = ({ FS.none with kd := 5, vl := vl, t := i, d := d % K, pc := 1 } : FS) := ⟨_, rfl⟩
  have HF1 := Lib.hid hf1
  clear hf1
  have k0 : ¬ (K : Int) = 0 := by omega
  have kN : ¬ K = 0 := by omega
  have kw : IntKind.u32.wrap (K : Int) = K := by rw [IntKind.wrap_u32]; omega
  have kt : d.tmod (K : Int) = d % (K : Int) := Int.tmod_eq_emod_of_nonneg d0
  have q0 : 0 ≤ d % (K : Int) := Int.emod_nonneg _ k0
  have q1 : d % (K : Int) < K := Int.emod_lt_of_pos _ (by omega)
  have kc : IntKind.i64.wrap (d % (K : Int)) = d % (K : Int) := by rw [IntKind.wrap_i64]; omega
  have HR : Hid (docBg k K M i 5 vl d = ({ f1 with give := vl % (M : Int) + 1, back := 0, pc := 95 } : FS)) := Lib.hid (by rw [HF1.out]; simp only [docBg, Int.reduceEq, if_false, if_true, FS.gives])
  have HM := Lib.hid (And.intro m1 m2)
  go_enter Try.func73, Try.ntmps73
  go_upto_region 1 with fail
  generalize (((w.alloc (.cells #[.int .i64 k, .int .i64 K, .int .i64 T, .int .i64 M] 23)).alloc (.cells #[.int .i64 5, .int .u32 vl] 63)).alloc (.cells #[.int .i64 0, .int .u32 0, .int .i64 0, .int .i64 0, .int .i64 0, .int .u64 0, .int .u64 0, .int .u64 0, .int .u64 0, .int .i64 0, .slice none 0 0, .bool false, .int .u64 0, .int .u64 0, .int .i64 0, .int .u32 0, .int .i64 0, .int .i64 0, .int .i64 0, .int .i64 0, .int .u64 0, .int .u64 0, .int .i64 0, .int .u32 0] 83)) = V at B0 C0 O0 Z0 ⊢
  have NB : Hid (Blk ((V.alloc (.cells #[.int .i64 0, .int .u32 0, .int .i64 0, .int .i64 0, .int .i64 0, .int .u64 0, .int .u64 0, .int .u64 0, .int .u64 0, .int .i64 0, .slice none 0 0, .bool false, .int .u64 0, .int .u64 0, .int .i64 0, .int .u32 0, .int .i64 0, .int .i64 0, .int .i64 0, .int .i64 0, .int .u64 0, .int .u64 0, .int .i64 0, .int .u32 0] 83)).drew) V.heap.size 83 #[.int .i64 0, .int .u32 0, .int .i64 0, .int .i64 0, .int .i64 0, .int .u64 0, .int .u64 0, .int .u64 0, .int .u64 0, .int .i64 0, .slice none 0 0, .bool false, .int .u64 0, .int .u64 0, .int .i64 0, .int .u32 0, .int .i64 0, .int .i64 0, .int .i64 0, .int .i64 0, .int .u64 0, .int .u64 0, .int .i64 0, .int .u32 0]) := Lib.hid ((Blk.new V _ _).drew)
  have C1 : Hid (Blk ((V.alloc (.cells #[.int .i64 0, .int .u32 0, .int .i64 0, .int .i64 0, .int .i64 0, .int .u64 0, .int .u64 0, .int .u64 0, .int .u64 0, .int .i64 0, .slice none 0 0, .bool false, .int .u64 0, .int .u64 0, .int .i64 0, .int .u32 0, .int .i64 0, .int .i64 0, .int .i64 0, .int .i64 0, .int .u64 0, .int .u64 0, .int .i64 0, .int .u32 0] 83)).drew) _ _ _) := Lib.hid ((C0.out.alloc (.cells #[.int .i64 0, .int .u32 0, .int .i64 0, .int .i64 0, .int .i64 0, .int .u64 0, .int .u64 0, .int .u64 0, .int .u64 0, .int .i64 0, .slice none 0 0, .bool false, .int .u64 0, .int .u64 0, .int .i64 0, .int .u32 0, .int .i64 0, .int .i64 0, .int .i64 0, .int .i64 0, .int .u64 0, .int .u64 0, .int .i64 0, .int .u32 0] 83)).drew)
  have O1 : Hid (Blk ((V.alloc (.cells #[.int .i64 0, .int .u32 0, .int .i64 0, .int .i64 0, .int .i64 0, .int .u64 0, .int .u64 0, .int .u64 0, .int .u64 0, .int .i64 0, .slice none 0 0, .bool false, .int .u64 0, .int .u64 0, .int .i64 0, .int .u32 0, .int .i64 0, .int .i64 0, .int .i64 0, .int .i64 0, .int .u64 0, .int .u64 0, .int .i64 0, .int .u32 0] 83)).drew) _ _ _) := Lib.hid ((O0.out.alloc (.cells #[.int .i64 0, .int .u32 0, .int .i64 0, .int .i64 0, .int .i64 0, .int .u64 0, .int .u64 0, .int .u64 0, .int .u64 0, .int .i64 0, .slice none 0 0, .bool false, .int .u64 0, .int .u64 0, .int .i64 0, .int .u32 0, .int .i64 0, .int .i64 0, .int .i64 0, .int .i64 0, .int .u64 0, .int .u64 0, .int .i64 0, .int .u32 0] 83)).drew)
  have Z1 : Hid (Blk ((V.alloc (.cells #[.int .i64 0, .int .u32 0, .int .i64 0, .int .i64 0, .int .i64 0, .int .u64 0, .int .u64 0, .int .u64 0, .int .u64 0, .int .i64 0, .slice none 0 0, .bool false, .int .u64 0, .int .u64 0, .int .i64 0, .int .u32 0, .int .i64 0, .int .i64 0, .int .i64 0, .int .i64 0, .int .u64 0, .int .u64 0, .int .i64 0, .int .u32 0] 83)).drew) _ _ _) := Lib.hid ((Z0.out.alloc (.cells #[.int .i64 0, .int .u32 0, .int .i64 0, .int .i64 0, .int .i64 0, .int .u64 0, .int .u64 0, .int .u64 0, .int .u64 0, .int .i64 0, .slice none 0 0, .bool false, .int .u64 0, .int .u64 0, .int .i64 0, .int .u32 0, .int .i64 0, .int .i64 0, .int .i64 0, .int .i64 0, .int .u64 0, .int .u64 0, .int .i64 0, .int .u32 0] 83)).drew)
  have B1 : Hid (Below w.heap.size w ((V.alloc (.cells #[.int .i64 0, .int .u32 0, .int .i64 0, .int .i64 0, .int .i64 0, .int .u64 0, .int .u64 0, .int .u64 0, .int .u64 0, .int .i64 0, .slice none 0 0, .bool false, .int .u64 0, .int .u64 0, .int .i64 0, .int .u32 0, .int .i64 0, .int .i64 0, .int .i64 0, .int .i64 0, .int .u64 0, .int .u64 0, .int .i64 0, .int .u32 0] 83)).drew)) := Lib.hid (below_drawn (B0.out.alloc B0.out.size (.cells #[.int .i64 0, .int .u32 0, .int .i64 0, .int .i64 0, .int .i64 0, .int .u64 0, .int .u64 0, .int .u64 0, .int .u64 0, .int .i64 0, .slice none 0 0, .bool false, .int .u64 0, .int .u64 0, .int .i64 0, .int .u32 0, .int .i64 0, .int .i64 0, .int .i64 0, .int .i64 0, .int .u64 0, .int .u64 0, .int .i64 0, .int .u32 0] 83)) 1)
  refine Zreg.begin_ (S := (fun w' => (∀ j, w'.cell? ⟨w.heap.size, j, none⟩ = (#[.int .i64 k, .int .i64 K, .int .i64 T, .int .i64 M] : Array Value)[j]?) ∧ (∀ j, w'.cell? ⟨w.heap.size + 1, j, none⟩ = (#[.int .i64 5, .int .u32 vl] : Array Value)[j]?))) (zs := [13]) (by kernel_rfl) ?_
  show Zreg.After _ _ _ _ _ _ 14 #[false, false, false, false, false, false, false, false, false, false, false, false, false, false] _ _
  refine Zreg.takeP 0 10 (x := ?xb_0) rfl rfl (by kernel_rfl) (by kernel_rfl) (by kernel_rfl) (by kernel_rfl) (fun _ _ _ h => h) (.inr ⟨C0.out.drew.cell, O0.out.drew.cell⟩) (Or.inl ⟨by rfl, ?yb_0⟩) ?rb_0
  case yb_0 => (intro w _; go_simp <;> with_reducible rfl)
  simp only [List.setIfInBounds_toArray, List.set_cons_zero, List.set_cons_succ]
  refine Zreg.takeD 1 11 (x := ?xb_1) rfl rfl (by kernel_rfl) (by kernel_rfl) (by kernel_rfl) (by kernel_rfl) (by kernel_rfl) (by kernel_rfl) (by kernel_rfl) (fun _ _ _ h => h) (.inr ⟨C0.out.drew.cell, O0.out.drew.cell⟩) (Or.inl ⟨by rfl, ?yb_1⟩) ?rb_1
  case yb_1 => (intro w hSw; (try dsimp only at hSw); go_simp <;> with_reducible rfl)
  simp only [List.setIfInBounds_toArray, List.set_cons_zero, List.set_cons_succ]
  refine Zreg.takeP 2 12 (x := ?xb_2) rfl rfl (by kernel_rfl) (by kernel_rfl) (by kernel_rfl) (by kernel_rfl) (fun _ _ _ h => h) (.inr ⟨C0.out.drew.cell, O0.out.drew.cell⟩) (Or.inl ⟨by rfl, ?yb_2⟩) ?rb_2
  case yb_2 => (intro w _; go_simp <;> with_reducible rfl)
  simp only [List.setIfInBounds_toArray, List.set_cons_zero, List.set_cons_succ]
  refine Zreg.takeD 3 13 (x := ?xb_3) rfl rfl (by kernel_rfl) (by kernel_rfl) (by kernel_rfl) (by kernel_rfl) (by kernel_rfl) (by kernel_rfl) (by kernel_rfl) (fun _ _ _ h => h) (.inr ⟨C0.out.drew.cell, O0.out.drew.cell⟩) (Or.inl ⟨by rfl, ?yb_3⟩) ?rb_3
  case yb_3 => (intro w hSw; (try dsimp only at hSw); go_simp <;> with_reducible rfl)
  simp only [List.setIfInBounds_toArray, List.set_cons_zero, List.set_cons_succ]
  refine Zreg.takeP 4 14 (x := ?xb_4) rfl rfl (by kernel_rfl) (by kernel_rfl) (by kernel_rfl) (by kernel_rfl) (fun _ _ _ h => h) (.inr ⟨C0.out.drew.cell, O0.out.drew.cell⟩) (Or.inl ⟨by rfl, ?yb_4⟩) ?rb_4
  case yb_4 => (intro w _; go_simp <;> with_reducible rfl)
  simp only [List.setIfInBounds_toArray, List.set_cons_zero, List.set_cons_succ]
  refine Zreg.takeP 5 15 (x := ?xb_5) rfl rfl (by kernel_rfl) (by kernel_rfl) (by kernel_rfl) (by kernel_rfl) (fun _ _ _ h => h) (.inr ⟨C0.out.drew.cell, O0.out.drew.cell⟩) (Or.inl ⟨by rfl, ?yb_5⟩) ?rb_5
  case yb_5 => (intro w _; go_simp <;> with_reducible rfl)
  simp only [List.setIfInBounds_toArray, List.set_cons_zero, List.set_cons_succ]
  refine Zreg.takeP 6 16 (x := ?xb_6) rfl rfl (by kernel_rfl) (by kernel_rfl) (by kernel_rfl) (by kernel_rfl) (fun _ _ _ h => h) (.inr ⟨C0.out.drew.cell, O0.out.drew.cell⟩) (Or.inl ⟨by rfl, ?yb_6⟩) ?rb_6
  case yb_6 => (intro w _; go_simp <;> with_reducible rfl)
  simp only [List.setIfInBounds_toArray, List.set_cons_zero, List.set_cons_succ]
  refine Zreg.takeD 7 17 (x := ?xb_7) rfl rfl (by kernel_rfl) (by kernel_rfl) (by kernel_rfl) (by kernel_rfl) (by kernel_rfl) (by kernel_rfl) (by kernel_rfl) (fun _ _ _ h => h) (.inr ⟨C0.out.drew.cell, O0.out.drew.cell⟩) (Or.inl ⟨by rfl, ?yb_7⟩) ?rb_7
  case yb_7 => (intro w hSw; (try dsimp only at hSw); go_simp <;> with_reducible rfl)
  simp only [List.setIfInBounds_toArray, List.set_cons_zero, List.set_cons_succ]
  refine Zreg.takeP 8 18 (x := ?xb_8) rfl rfl (by kernel_rfl) (by kernel_rfl) (by kernel_rfl) (by kernel_rfl) (fun _ _ _ h => h) (.inr ⟨C0.out.drew.cell, O0.out.drew.cell⟩) (Or.inl ⟨by rfl, ?yb_8⟩) ?rb_8
  case yb_8 => (intro w _; go_simp <;> with_reducible rfl)
  simp only [List.setIfInBounds_toArray, List.set_cons_zero, List.set_cons_succ]
  refine Zreg.takeP 9 19 (x := ?xb_9) rfl rfl (by kernel_rfl) (by kernel_rfl) (by kernel_rfl) (by kernel_rfl) (fun _ _ _ h => h) (.inr ⟨C0.out.drew.cell, O0.out.drew.cell⟩) (Or.inl ⟨by rfl, ?yb_9⟩) ?rb_9
  case yb_9 => (intro w _; go_simp <;> with_reducible rfl)
  simp only [List.setIfInBounds_toArray, List.set_cons_zero, List.set_cons_succ]
  refine Zreg.takeP 10 20 (x := ?xb_10) rfl rfl (by kernel_rfl) (by kernel_rfl) (by kernel_rfl) (by kernel_rfl) (fun _ _ _ h => h) (.inr ⟨C0.out.drew.cell, O0.out.drew.cell⟩) (Or.inl ⟨by rfl, ?yb_10⟩) ?rb_10
  case yb_10 => (intro w _; go_simp <;> with_reducible rfl)
  simp only [List.setIfInBounds_toArray, List.set_cons_zero, List.set_cons_succ]
  refine Zreg.takeP 11 21 (x := ?xb_11) rfl rfl (by kernel_rfl) (by kernel_rfl) (by kernel_rfl) (by kernel_rfl) (fun _ _ _ h => h) (.inr ⟨C0.out.drew.cell, O0.out.drew.cell⟩) (Or.inl ⟨by rfl, ?yb_11⟩) ?rb_11
  case yb_11 => (intro w _; go_simp <;> with_reducible rfl)
  simp only [List.setIfInBounds_toArray, List.set_cons_zero, List.set_cons_succ]
  refine Zreg.one 12 (by kernel_rfl) rfl rfl fun K_ hK => ?_
  go_simp
  refine hK.out _ _ (.inr ⟨(C0.out.drew.alloc _).cell, (O0.out.drew.alloc _).cell⟩) fun _ => ?_
  clear hK
  simp only [List.setIfInBounds_toArray, List.set_cons_zero, List.set_cons_succ]
  refine Zreg.one 13 (by kernel_rfl) rfl rfl fun K_ hK => ?_
  refine wp_store_mid 83 (.tmp 9) (.tmp 21) rfl V.heap.size 0 (f1.v nilS).toArray (by simp [Act.eval]) (by simp [Act.eval]; rw [HF1.out]; rfl) (there24 NB.out (by decide)) f_size (FS.one _ _) ?_
  refine hK.out _ _ (.inl (by kernel_rfl)) fun _ => ?_
  clear hK
  try simp only [Act.put, List.setIfInBounds_toArray, List.set_cons_zero, List.set_cons_succ]
  refine Zreg.done (by kernel_rfl) ?_ _
  have VL : Hid (w.heap.size + 1 + 1 < V.heap.size) := Lib.hid Z0.out.lt
  have F2 := Lib.hid (Blk.f24 NB.out rfl f1 nilS)
  have OV := Lib.hid (Only.sets (P := fun g => g = V.heap.size) (g := V.heap.size) (.inl rfl) (f1.v nilS) ((V.alloc (.cells #[.int .i64 0, .int .u32 0, .int .i64 0, .int .i64 0, .int .i64 0, .int .u64 0, .int .u64 0, .int .u64 0, .int .u64 0, .int .i64 0, .slice none 0 0, .bool false, .int .u64 0, .int .u64 0, .int .i64 0, .int .u32 0, .int .i64 0, .int .i64 0, .int .i64 0, .int .i64 0, .int .u64 0, .int .u64 0, .int .i64 0, .int .u32 0] 83)).drew) 0 (Only.refl _ _))
  have C2 := Lib.hid (C1.out.only OV.out (show ¬ w.heap.size = V.heap.size by have := VL.out; omega))
  have O2 := Lib.hid (O1.out.only OV.out (show ¬ w.heap.size + 1 = V.heap.size by have := VL.out; omega))
  have Z2 := Lib.hid (Z1.out.only OV.out (show ¬ w.heap.size + 1 + 1 = V.heap.size by have := VL.out; omega))
  have B2 := Lib.hid (B1.out.trans (OV.out.below B1.out.size (fun g hg => by have := VL.out; omega)))
  generalize ((V.alloc (.cells #[.int .i64 0, .int .u32 0, .int .i64 0, .int .i64 0, .int .i64 0, .int .u64 0, .int .u64 0, .int .u64 0, .int .u64 0, .int .i64 0, .slice none 0 0, .bool false, .int .u64 0, .int .u64 0, .int .i64 0, .int .u32 0, .int .i64 0, .int .i64 0, .int .i64 0, .int .i64 0, .int .u64 0, .int .u64 0, .int .i64 0, .int .u32 0] 83)).drew.setCells V.heap.size 0 (f1.v nilS)) = V2 at F2 C2 O2 Z2 B2 ⊢
  have hf2 := F2.out.cell
  have hf2f := F2.out.frozen
  have ho2 := O2.out.cell
  have hc2 := C2.out.cell
  clear C0 O0 Z0 B0 C1 O1 Z1 B1 NB OV
  generalize V.heap.size = gF at F2 VL hf2 hf2f ⊢
  go_upto_region 8 with fail
  have mN : ¬ M = 0 := by have := HM.out; omega
  have mw : IntKind.u32.wrap (M : Int) = M := by rw [IntKind.wrap_u32]; have := HM.out; omega
  have mt : vl.tmod (M : Int) = vl % (M : Int) := Int.tmod_eq_emod_of_nonneg v0
  have m3 : 0 ≤ vl % (M : Int) := Int.emod_nonneg _ (by have := HM.out; omega)
  have m4 : vl % (M : Int) < M := Int.emod_lt_of_pos _ (by have := HM.out; omega)
  have m5 : vl % (M : Int) < 64 := by have := HM.out; omega
  have mc : IntKind.i64.wrap (vl % (M : Int)) = vl % (M : Int) := by rw [IntKind.wrap_i64]; omega
  refine wp_region_still_tail 9 (by kernel_rfl) (by kernel_rfl) ?_
  simp only [List.take_succ_cons, List.take_zero, List.drop_succ_cons, List.drop_zero]
  refine wpStill_load_mid rfl 83 (.tmp 9) rfl gF 0 (by simp [Act.eval]) (f1.v nilS) _ (range24 F2.out.drew (fun j v hj => by rw [Nat.zero_add]; simpa using hj)) Try.underlying83 rfl f_size ?_
  repeat (first
    | still_step
    | (refine wpStill_step (fun K hK => ?_); go_simp; refine ⟨_, still_of (refref_p (vl % (M : Int)) _ m3 m5), hK _ ?_⟩; clear hK K))
  refine wpStill_nil ?_
  change wpList _ _ _ _ _ V2.drew
  have F3 := Lib.hid F2.out.drew
  have Z2 := Lib.hid Z2.out.drew
  have B2 : Hid (Below w.heap.size w V2.drew) := Lib.hid (below_drawn B2.out 1)
  clear hf2 hf2f ho2 hc2 F2 O2 C2
  generalize V2.drew = V2 at F3 Z2 B2 ⊢
  go_wp2_with (first
    | (go_at_call 107; (with_reducible refine (gives_c _ f1 nilS (vl % (M : Int) + 1) 0).mono ?_); rintro e V3 ⟨rfl, hb⟩; go_must (have B3 := Lib.hid (B2.out.trans (hb.mono B2.out.size)); have Z3 := Lib.hid (Z2.out.below hb Z2.out.lt)); clear hb)
    | (refine wp_store_mid 83 (.tmp 8) (.tmp 41) rfl (w.heap.size + 1 + 1) 0 (({ f1 with give := vl % (M : Int) + 1, back := 0, pc := 95 } : FS).v nilS).toArray (by simp [Act.eval]) (by simp [Act.eval]) (there24 Z3.out (by decide)) f_size (FS.one _ _) ?_)
    | (refine wpList_store_mid rfl 83 (.tmp 8) (.tmp 41) rfl (w.heap.size + 1 + 1) 0 (({ f1 with give := vl % (M : Int) + 1, back := 0, pc := 95 } : FS).v nilS).toArray (by simp [Act.eval]) (by simp [Act.eval]) (there24 Z3.out (by decide)) f_size (FS.one _ _) ?_))
  have R9 := res24 (World.rangeAt_setCells_same V3 (w.heap.size + 1 + 1) 0 (({ f1 with give := vl % (M : Int) + 1, back := 0, pc := 95 } : FS).v nilS) (there24 Z3.out (by decide)))
  have B9 := Only.below (Only.sets (P := fun g => w.heap.size ≤ g) (g := w.heap.size + 1 + 1) (.inl (by omega)) (({ f1 with give := vl % (M : Int) + 1, back := 0, pc := 95 } : FS).v nilS) V3 0 (Only.of_below B3.out (Nat.le_refl _))) (Nat.le_refl _) (fun k h => h)
  generalize V3.setCells (w.heap.size + 1 + 1) 0 (({ f1 with give := vl % (M : Int) + 1, back := 0, pc := 95 } : FS).v nilS) = V9 at R9 B9 ⊢
  refine bodyPost_ret (v := .agg (({ f1 with give := vl % (M : Int) + 1, back := 0, pc := 95 } : FS).v nilS).toArray) (results_cell1 (a := 8) Try.results73 rfl R9) rfl ?_
  exact ⟨by rw [HR.out], B9⟩

end Go.Proofs.Ytffppdcpiieapaa.Machc

namespace Go.Proofs.Ytffppdcpiieapaa.Machc
open Go.RowKit Go.Proofs.Ytffppdcpiieapaa.Memc Go.Proofs.Ytffppdcpiieapaa.Newc Go.Proofs.Ytffppdcpiieapaa.Refc Go.Proofs.Ytffppdcpiieapaa.Drivec Go.Proofs.Ytffppdcpiieapaa.Procc Go.Proofs.Ytffppdcpiieapaa.Wordc Go.Proofs.Ytffppdcpiieapaa.Arenac
set_option linter.unusedVariables false
set_option maxRecDepth 100000

set_option maxHeartbeats 2000000 in
theorem ends4_c (w : World) (k K T M : Int) (f : FS) (q : Sl) (code : Int) (hkd : f.kd = 4) :
    Calls Try.prog 104 #[.agg (f.v q).toArray, .agg #[.int .i64 k, .int .i64 K, .int .i64 T, .int .i64 M], .int .i64 code] w fun e w' => e = .returned (.agg (({ f with code := code, pc := 0 } : FS).v q).toArray) ∧ Below w.heap.size w w' := by
  have B0 : Hid (Below w.heap.size w (((w.alloc (.cells (f.v q).toArray 83)).alloc (.cells #[.int .i64 k, .int .i64 K, .int .i64 T, .int .i64 M] 23)).alloc (.cells #[.int .i64 0, .int .u32 0, .int .i64 0, .int .i64 0, .int .i64 0, .int .u64 0, .int .u64 0, .int .u64 0, .int .u64 0, .int .i64 0, .slice none 0 0, .bool false, .int .u64 0, .int .u64 0, .int .i64 0, .int .u32 0, .int .i64 0, .int .i64 0, .int .i64 0, .int .i64 0, .int .u64 0, .int .u64 0, .int .i64 0, .int .u32 0] 83))) := Lib.hid ((((Below.refl _ _).alloc (Nat.le_refl _) _).alloc (by simp) _).alloc (by simp; omega) _)
  have F0 : Hid (Blk (((w.alloc (.cells (f.v q).toArray 83)).alloc (.cells #[.int .i64 k, .int .i64 K, .int .i64 T, .int .i64 M] 23)).alloc (.cells #[.int .i64 0, .int .u32 0, .int .i64 0, .int .i64 0, .int .i64 0, .int .u64 0, .int .u64 0, .int .u64 0, .int .u64 0, .int .i64 0, .slice none 0 0, .bool false, .int .u64 0, .int .u64 0, .int .i64 0, .int .u32 0, .int .i64 0, .int .i64 0, .int .i64 0, .int .i64 0, .int .u64 0, .int .u64 0, .int .i64 0, .int .u32 0] 83)) w.heap.size 83 (f.v q).toArray) := Lib.hid (((Blk.new _ _ _).alloc _).alloc _)
  have C0 : Hid (Blk (((w.alloc (.cells (f.v q).toArray 83)).alloc (.cells #[.int .i64 k, .int .i64 K, .int .i64 T, .int .i64 M] 23)).alloc (.cells #[.int .i64 0, .int .u32 0, .int .i64 0, .int .i64 0, .int .i64 0, .int .u64 0, .int .u64 0, .int .u64 0, .int .u64 0, .int .i64 0, .slice none 0 0, .bool false, .int .u64 0, .int .u64 0, .int .i64 0, .int .u32 0, .int .i64 0, .int .i64 0, .int .i64 0, .int .i64 0, .int .u64 0, .int .u64 0, .int .i64 0, .int .u32 0] 83)) (w.heap.size + 1) 23 #[.int .i64 k, .int .i64 K, .int .i64 T, .int .i64 M]) := Lib.hid ((blk_at (by simp)).alloc _)
  have Z0 : Hid (Blk (((w.alloc (.cells (f.v q).toArray 83)).alloc (.cells #[.int .i64 k, .int .i64 K, .int .i64 T, .int .i64 M] 23)).alloc (.cells #[.int .i64 0, .int .u32 0, .int .i64 0, .int .i64 0, .int .i64 0, .int .u64 0, .int .u64 0, .int .u64 0, .int .u64 0, .int .i64 0, .slice none 0 0, .bool false, .int .u64 0, .int .u64 0, .int .i64 0, .int .u32 0, .int .i64 0, .int .i64 0, .int .i64 0, .int .i64 0, .int .u64 0, .int .u64 0, .int .i64 0, .int .u32 0] 83)) (w.heap.size + 1 + 1) 83 #[.int .i64 0, .int .u32 0, .int .i64 0, .int .i64 0, .int .i64 0, .int .u64 0, .int .u64 0, .int .u64 0, .int .u64 0, .int .i64 0, .slice none 0 0, .bool false, .int .u64 0, .int .u64 0, .int .i64 0, .int .u32 0, .int .i64 0, .int .i64 0, .int .i64 0, .int .i64 0, .int .u64 0, .int .u64 0, .int .i64 0, .int .u32 0]) := Lib.hid (blk_at (by simp))
  have hv0 : (f.v q).toArray[0]? = some (.int .i64 4) := by show some (Value.int .i64 f.kd) = _; rw [hkd]
  obtain ⟨hd, hhd⟩ : ∃ x, x = f.hold := ⟨_, rfl⟩
  have hv12 : (f.v q).toArray[12]? = some (.int .u64 hd) := by rw [hhd]; rfl
  clear hhd
  obtain ⟨f', hf'⟩ : ∃ f' : FS, f' = { f with code := code, pc := 0 } := ⟨_, rfl⟩
  clear hkd
  go_enter Try.func104, Try.ntmps104
  go_upto_region 1 with fail
  generalize (((w.alloc (.cells (f.v q).toArray 83)).alloc (.cells #[.int .i64 k, .int .i64 K, .int .i64 T, .int .i64 M] 23)).alloc (.cells #[.int .i64 0, .int .u32 0, .int .i64 0, .int .i64 0, .int .i64 0, .int .u64 0, .int .u64 0, .int .u64 0, .int .u64 0, .int .i64 0, .slice none 0 0, .bool false, .int .u64 0, .int .u64 0, .int .i64 0, .int .u32 0, .int .i64 0, .int .i64 0, .int .i64 0, .int .i64 0, .int .u64 0, .int .u64 0, .int .i64 0, .int .u32 0] 83)) = V at B0 F0 Z0 C0 ⊢
  have hf0 := F0.out.cell
  have hc0 := C0.out.cell
  have hf0f := F0.out.frozen
  go_upto_region 7 with fail
  all_goals
    have F1 : Hid (Blk (((V.setCell ⟨w.heap.size, 22, none⟩ (.int .i64 code)).setCell ⟨w.heap.size, 4, none⟩ (.int .i64 4)).setCell ⟨w.heap.size, 4, none⟩ (.int .i64 0)) w.heap.size 83 ((f'.v q).toArray)) := Lib.hid (by
      have h_ := (((F0.out.set_ 22 (.int .i64 code)).set_ 4 (.int .i64 4)).set_ 4 (.int .i64 0))
      rw [hf']; simpa only [FS.v, List.setIfInBounds_toArray, List.set_cons_zero, List.set_cons_succ] using h_)
    have Z1 := Lib.hid (((Z0.out.far (p := ⟨w.heap.size, 22, none⟩) (show ¬ w.heap.size + 1 + 1 = w.heap.size by omega) (.int .i64 code)).far (p := ⟨w.heap.size, 4, none⟩) (show ¬ w.heap.size + 1 + 1 = w.heap.size by omega) (.int .i64 4)).far (p := ⟨w.heap.size, 4, none⟩) (show ¬ w.heap.size + 1 + 1 = w.heap.size by omega) (.int .i64 0))
    have B1 := Lib.hid (Below.setCell (Below.setCell (Below.setCell B0.out (p := ⟨w.heap.size, 22, none⟩) (Nat.le_refl _) (.int .i64 code)) (p := ⟨w.heap.size, 4, none⟩) (Nat.le_refl _) (.int .i64 4)) (p := ⟨w.heap.size, 4, none⟩) (Nat.le_refl _) (.int .i64 0))
    clear hf0 hc0 hf0f F0 Z0 B0 C0
    generalize (((V.setCell ⟨w.heap.size, 22, none⟩ (.int .i64 code)).setCell ⟨w.heap.size, 4, none⟩ (.int .i64 4)).setCell ⟨w.heap.size, 4, none⟩ (.int .i64 0)) = V1 at F1 Z1 B1 ⊢
    refine wp_region_lit ?_
    refine wpList_load_mid rfl 83 (.tmp 3) rfl w.heap.size 0 (by simp [Act.eval]) (f'.v q) _ (range24 F1.out (fun j v hj => by rw [Nat.zero_add]; simpa using hj)) Try.underlying83 rfl f_size ?_
    refine wpList_store_mid rfl 83 (.tmp 6) (.tmp 28) rfl (w.heap.size + 1 + 1) 0 ((f'.v q)).toArray (by simp [Act.eval, Act.put]) (by simp [Act.eval, Act.put]) (there24 Z1.out (by decide)) f_size (FS.one _ _) ?_
    have R9 := res24 (World.rangeAt_setCells_same V1 (w.heap.size + 1 + 1) 0 (f'.v q) (there24 Z1.out (by decide)))
    have B9 := Only.below (Only.sets (P := fun g => w.heap.size ≤ g) (g := w.heap.size + 1 + 1) (.inl (by omega)) (f'.v q) V1 0 (Only.of_below B1.out (Nat.le_refl _))) (Nat.le_refl _) (fun k h => h)
    have ez : ((f'.v q)).toArray.toList = (f'.v q) := rfl
    rw [ez]
    generalize V1.setCells (w.heap.size + 1 + 1) 0 (f'.v q) = V2 at R9 B9 ⊢
    go_wp2
    refine bodyPost_ret (v := .agg (f'.v q).toArray) (results_cell1 (a := 6) Try.results104 rfl R9) rfl ?_
    exact ⟨by first | (rw [hf']; done) | (rw [hf']; rfl), B9⟩

end Go.Proofs.Ytffppdcpiieapaa.Machc
