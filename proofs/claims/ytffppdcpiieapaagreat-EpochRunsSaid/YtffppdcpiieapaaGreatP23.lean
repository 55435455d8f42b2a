/- A part of the proof. -/
import Derived.Test.YtffppdcpiieapaaGreatP5
import Derived.Test.YtffppdcpiieapaaGreatP19
import Derived.Test.YtffppdcpiieapaaGreatP20
import Derived.Test.YtffppdcpiieapaaGreatP21
namespace Go.Proofs.YtffppdcpiieapaaGreat.Machc
open Go.RowKit Memc Newc Refc Drivec Procc Wordc Arenac
set_option linter.unusedVariables false
set_option maxRecDepth 100000

set_option maxHeartbeats 2000000 in
theorem kept_c (w : World) (f : FS) (q : Sl) (p : Int) :
   Calls Tryz.prog 82 #[.agg (f.v q).toArray, .int .u64 p] w fun e w' => e = .returned (.agg ((({ f with w := p } : FS).v q)).toArray) /\ Below w.heap.size w w' := by
 have B0 : Hid (Below w.heap.size w ((w.alloc (.cells (f.v q).toArray 107)).alloc (.cells zF 107))) := lh (((Below.refl _ _).alloc (Nat.le_refl _) _).alloc (by simp) _)
 have F0 : Hid (Blk ((w.alloc (.cells (f.v q).toArray 107)).alloc (.cells zF 107)) w.heap.size 107 (f.v q).toArray) := lh ((Blk.new _ _ _).alloc _)
 have Z0 : Hid (Blk ((w.alloc (.cells (f.v q).toArray 107)).alloc (.cells zF 107)) (w.heap.size + 1) 107 #[.int .i64 0, .int .u32 0, .int .i64 0, .int .i64 0, .int .i64 0, .int .u64 0, .int .u64 0, .int .u64 0, .int .u64 0, .int .i64 0, .slice none 0 0, .bool false, .int .u64 0, .int .u64 0, .int .i64 0, .int .u32 0, .int .i64 0, .int .i64 0, .int .i64 0, .int .i64 0, .int .u64 0, .int .u64 0, .int .i64 0, .int .u32 0]) := lh (blk_at (by simp))
 obtain ⟨f', hf'⟩ : ∃ f' : FS, f' = { f with w := p } := ⟨_, rfl⟩
 go_enter Tryz.func82, Tryz.ntmps82
 go_upto_region 1 with fail
 generalize ((w.alloc (.cells (f.v q).toArray 107)).alloc (.cells zF 107)) = V at B0 F0 Z0 ⊢
 have hf0 := F0.out.cell
 have hf0f := F0.out.frozen
 go_upto_region 2 with fail
 have F1 : Hid (Blk (V.setCell ⟨w.heap.size, 6, none⟩ (.int .u64 p)) w.heap.size 107 (((f'.v q)).toArray)) := lh (by
   have h_ := F0.out.set_ 6 (.int .u64 p)
   rw [hf']; simpa only [FS.v, List.setIfInBounds_toArray, List.set_cons_zero, List.set_cons_succ] using h_)
 have Z1 := lh (Z0.out.far (p := ⟨w.heap.size, 6, none⟩) (show ¬ w.heap.size + 1 = w.heap.size by omega) (.int .u64 p))
 have B1 := lh (Below.setCell B0.out (p := ⟨w.heap.size, 6, none⟩) (Nat.le_refl _) (.int .u64 p))
 clear hf0 hf0f F0 Z0 B0
 generalize V.setCell ⟨w.heap.size, 6, none⟩ (.int .u64 p) = V1 at F1 Z1 B1 ⊢
 refine wp_region_lit ?_
 refine wpList_load_mid rfl 107 (.tmp 2) rfl w.heap.size 0 (by simp [Act.eval]) (f'.v q) _ (range24 F1.out (fun j v hj => by rw [Nat.zero_add]; simpa using hj)) Tryz.underlying107 rfl f_size ?_
 refine wpList_store_mid rfl 107 (.tmp 4) (.tmp 7) rfl (w.heap.size + 1) 0 ((f'.v q)).toArray (by simp [Act.eval, Act.put]) (by simp [Act.eval, Act.put]) (there24 Z1.out (by decide)) f_size (FS.one _ _) ?_
 have R9 := res24 (World.rangeAt_setCells_same V1 (w.heap.size + 1) 0 (f'.v q) (there24 Z1.out (by decide)))
 have B9 := Only.below (Only.sets (P := fun g => w.heap.size <= g) (g := w.heap.size + 1) (.inl (by omega)) (f'.v q) V1 0 (Only.of_below B1.out (Nat.le_refl _))) (Nat.le_refl _) (fun k h => h)
 have ez : ((f'.v q)).toArray.toList = (f'.v q) := rfl
 rw [ez]
 generalize V1.setCells (w.heap.size + 1) 0 (f'.v q) = V2 at R9 B9 ⊢
 go_wp2
 refine bodyPost_ret (v := .agg (f'.v q).toArray) (results_cell1 (a := 4) Tryz.results82 rfl R9) rfl ?_
 exact ⟨by rw [hf'], B9⟩
set_option maxHeartbeats 2000000 in
theorem gives_c (w : World) (f : FS) (q : Sl) (rf back : Int) :
   Calls Tryz.prog 62 #[.agg (f.v q).toArray, .int .u64 rf, .int .i64 back] w fun e w' => e = .returned (.agg (({ f with give := rf, back := back, pc := 95 } : FS).v q).toArray) /\ Below w.heap.size w w' := by
 have B0 : Hid (Below w.heap.size w ((w.alloc (.cells (f.v q).toArray 107)).alloc (.cells zF 107))) := lh (((Below.refl _ _).alloc (Nat.le_refl _) _).alloc (by simp) _)
 have F0 : Hid (Blk ((w.alloc (.cells (f.v q).toArray 107)).alloc (.cells zF 107)) w.heap.size 107 (f.v q).toArray) := lh ((Blk.new _ _ _).alloc _)
 have Z0 : Hid (Blk ((w.alloc (.cells (f.v q).toArray 107)).alloc (.cells zF 107)) (w.heap.size + 1) 107 #[.int .i64 0, .int .u32 0, .int .i64 0, .int .i64 0, .int .i64 0, .int .u64 0, .int .u64 0, .int .u64 0, .int .u64 0, .int .i64 0, .slice none 0 0, .bool false, .int .u64 0, .int .u64 0, .int .i64 0, .int .u32 0, .int .i64 0, .int .i64 0, .int .i64 0, .int .i64 0, .int .u64 0, .int .u64 0, .int .i64 0, .int .u32 0]) := lh (blk_at (by simp))
 obtain ⟨f', hf'⟩ : ∃ f' : FS, f' = { f with give := rf, back := back, pc := 95 } := ⟨_, rfl⟩
 go_enter Tryz.func62, Tryz.ntmps62
 go_upto_region 1 with fail
 generalize ((w.alloc (.cells (f.v q).toArray 107)).alloc (.cells zF 107)) = V at B0 F0 Z0 ⊢
 have hf0 := F0.out.cell
 have hf0f := F0.out.frozen
 go_upto_region 4 with fail
 have F1 : Hid (Blk (((V.setCell ⟨w.heap.size, 13, none⟩ (.int .u64 rf)).setCell ⟨w.heap.size, 14, none⟩ (.int .i64 back)).setCell ⟨w.heap.size, 4, none⟩ (.int .i64 95)) w.heap.size 107 ((f'.v q).toArray)) := lh (by
   have h_ := (((F0.out.set_ 13 (.int .u64 rf)).set_ 14 (.int .i64 back)).set_ 4 (.int .i64 95))
   rw [hf']; simpa only [FS.v, List.setIfInBounds_toArray, List.set_cons_zero, List.set_cons_succ] using h_)
 have Z1 := lh (((Z0.out.far (p := ⟨w.heap.size, 13, none⟩) (show ¬ w.heap.size + 1 = w.heap.size by omega) (.int .u64 rf)).far (p := ⟨w.heap.size, 14, none⟩) (show ¬ w.heap.size + 1 = w.heap.size by omega) (.int .i64 back)).far (p := ⟨w.heap.size, 4, none⟩) (show ¬ w.heap.size + 1 = w.heap.size by omega) (.int .i64 95))
 have B1 := lh (Below.setCell (Below.setCell (Below.setCell B0.out (p := ⟨w.heap.size, 13, none⟩) (Nat.le_refl _) (.int .u64 rf)) (p := ⟨w.heap.size, 14, none⟩) (Nat.le_refl _) (.int .i64 back)) (p := ⟨w.heap.size, 4, none⟩) (Nat.le_refl _) (.int .i64 95))
 clear hf0 hf0f F0 Z0 B0
 generalize (((V.setCell ⟨w.heap.size, 13, none⟩ (.int .u64 rf)).setCell ⟨w.heap.size, 14, none⟩ (.int .i64 back)).setCell ⟨w.heap.size, 4, none⟩ (.int .i64 95)) = V1 at F1 Z1 B1 ⊢
 refine wp_region_lit ?_
 refine wpList_load_mid rfl 107 (.tmp 3) rfl w.heap.size 0 (by simp [Act.eval]) (f'.v q) _ (range24 F1.out (fun j v hj => by rw [Nat.zero_add]; simpa using hj)) Tryz.underlying107 rfl f_size ?_
 refine wpList_store_mid rfl 107 (.tmp 6) (.tmp 12) rfl (w.heap.size + 1) 0 ((f'.v q)).toArray (by simp [Act.eval, Act.put]) (by simp [Act.eval, Act.put]) (there24 Z1.out (by decide)) f_size (FS.one _ _) ?_
 have R9 := res24 (World.rangeAt_setCells_same V1 (w.heap.size + 1) 0 (f'.v q) (there24 Z1.out (by decide)))
 have B9 := Only.below (Only.sets (P := fun g => w.heap.size <= g) (g := w.heap.size + 1) (.inl (by omega)) (f'.v q) V1 0 (Only.of_below B1.out (Nat.le_refl _))) (Nat.le_refl _) (fun k h => h)
 have ez : ((f'.v q)).toArray.toList = (f'.v q) := rfl
 rw [ez]
 generalize V1.setCells (w.heap.size + 1) 0 (f'.v q) = V2 at R9 B9 ⊢
 go_wp2
 refine bodyPost_ret (v := .agg (f'.v q).toArray) (results_cell1 (a := 6) Tryz.results62 rfl R9) rfl ?_
 exact ⟨by rw [hf'], B9⟩

end Go.Proofs.YtffppdcpiieapaaGreat.Machc

namespace Go.Proofs.YtffppdcpiieapaaGreat.Machc
open Go.RowKit Memc Newc Refc Drivec Procc Wordc Arenac
set_option linter.unusedVariables false
set_option maxRecDepth 100000

theorem wpStill_load_mid {P : Program} {ops : Array Oper} {w : World} {Q : Act -> Prop} {op : Oper} {rest : List Oper} {a : Act} (hgd : op.guard = none) (ty : TypeId) (x : Operand) (ho : op.op = .load ty x) (b o : Nat) (hx : a.eval x = .pointer (some ⟨b, o, none⟩)) (cs : List Value) (d : TypeDesc) (hc : w.rangeAt b o cs)
   (hu : P.underlying ty = some d) (hd : d.isRow = true) (hi : (P.info? ty).map (·.size) = some cs.length) (h : wpStill P ops w Q rest (a.put op.dst (.agg cs.toArray))) : wpStill P ops w Q (op :: rest) a := by
 refine wpStill_step (fun K hK => ?_)
 have hw : Region.wanted op (yielded ops a.tmps) = true := by simp [Region.wanted, hgd]
 rw [if_pos hw]
 unfold Oper.still execOp
 simp only [ho, hx, Instr.loadAt, Instr.sureAddr, Sem.run_bind, Sem.run_pure, Result.andThen_ok, run_loadVar_mid w b o ty cs d hc hu hd hi]
 exact ⟨rfl, hK _ h⟩
theorem refref_p (x : Int) (w : World) (x0 : 0 <= x) (x1 : x < 64) : Calls Tryz.prog 63 #[.int .u32 0, .int .i64 x] w fun e w' => e = .returned (.int .u64 (x + 1)) /\ w = w' := by
 refine (ref_r 0 x w (by omega) (by omega) (by omega) (by omega)).mono (fun e w' h => ?_)
 have e1 : 0 * 4294967296 + (x + 1) % 4294967296 = x + 1 := by omega
 rw [e1] at h
 exact h
end Go.Proofs.YtffppdcpiieapaaGreat.Machc
