/- What a call is behind its accesses, by the document's answer. · The document's machines of Take and Give, by contract. · arena.Run by contract: foreign calls are refused, the others are run. · arena.Run by contract: a run of calls none of which is foreign. · A run of calls that may not be: refused. -/
import Derived.Test.YtffppdcpiieapaaP18
import Derived.Test.YtffppdcpiieapaaP19
import Derived.Test.YtffppdcpiieapaaP20
import Derived.Test.YtffppdcpiieapaaP21
import Derived.Test.YtffppdcpiieapaaP22
import Derived.Test.YtffppdcpiieapaaP23
namespace Go.Proofs.Ytffppdcpiieapaa.Machc
open Go.RowKit Go.Proofs.Ytffppdcpiieapaa.Memc Go.Proofs.Ytffppdcpiieapaa.Newc Go.Proofs.Ytffppdcpiieapaa.Refc Go.Proofs.Ytffppdcpiieapaa.Drivec Go.Proofs.Ytffppdcpiieapaa.Procc Go.Proofs.Ytffppdcpiieapaa.Wordc Go.Proofs.Ytffppdcpiieapaa.Arenac
set_option linter.unusedVariables false
set_option maxRecDepth 100000

set_option maxHeartbeats 4000000 in
theorem tell97t_c (w : World) (k : Int) (K T M : Nat) (f : FS) (q : Sl) (was : Int) (dn : Bool) (hpc : f.pc = 97) (x0 : 0 ≤ f.s) (x1 : f.s ≤ 18446744073709551615) (m1 : 2 ≤ M) (m2 : M ≤ 64) (hd : dn = true) (hb87 : ¬ f.back = 87) :
    Calls Try.prog 62 #[.agg #[.int .i64 k, .int .i64 K, .int .i64 T, .int .i64 M], .agg (f.v q).toArray, .int .u64 was, .bool dn] w fun e w' => e = .returned (.agg ((docTell k K T M f was dn).v q).toArray) ∧ Below w.heap.size w w' := by
  have B0 : Hid (Below w.heap.size w (((w.alloc (.cells #[.int .i64 k, .int .i64 K, .int .i64 T, .int .i64 M] 23)).alloc (.cells (f.v q).toArray 83)).alloc (.cells #[.int .i64 0, .int .u32 0, .int .i64 0, .int .i64 0, .int .i64 0, .int .u64 0, .int .u64 0, .int .u64 0, .int .u64 0, .int .i64 0, .slice none 0 0, .bool false, .int .u64 0, .int .u64 0, .int .i64 0, .int .u32 0, .int .i64 0, .int .i64 0, .int .i64 0, .int .i64 0, .int .u64 0, .int .u64 0, .int .i64 0, .int .u32 0] 83))) := Lib.hid ((((Below.refl _ _).alloc (Nat.le_refl _) _).alloc (by simp) _).alloc (by simp; omega) _)
  have C0 : Hid (Blk (((w.alloc (.cells #[.int .i64 k, .int .i64 K, .int .i64 T, .int .i64 M] 23)).alloc (.cells (f.v q).toArray 83)).alloc (.cells #[.int .i64 0, .int .u32 0, .int .i64 0, .int .i64 0, .int .i64 0, .int .u64 0, .int .u64 0, .int .u64 0, .int .u64 0, .int .i64 0, .slice none 0 0, .bool false, .int .u64 0, .int .u64 0, .int .i64 0, .int .u32 0, .int .i64 0, .int .i64 0, .int .i64 0, .int .i64 0, .int .u64 0, .int .u64 0, .int .i64 0, .int .u32 0] 83)) w.heap.size 23 #[.int .i64 k, .int .i64 K, .int .i64 T, .int .i64 M]) := Lib.hid (((Blk.new _ _ _).alloc _).alloc _)
  have F0 : Hid (Blk (((w.alloc (.cells #[.int .i64 k, .int .i64 K, .int .i64 T, .int .i64 M] 23)).alloc (.cells (f.v q).toArray 83)).alloc (.cells #[.int .i64 0, .int .u32 0, .int .i64 0, .int .i64 0, .int .i64 0, .int .u64 0, .int .u64 0, .int .u64 0, .int .u64 0, .int .i64 0, .slice none 0 0, .bool false, .int .u64 0, .int .u64 0, .int .i64 0, .int .u32 0, .int .i64 0, .int .i64 0, .int .i64 0, .int .i64 0, .int .u64 0, .int .u64 0, .int .i64 0, .int .u32 0] 83)) (w.heap.size + 1) 83 (f.v q).toArray) := Lib.hid ((blk_at (by simp)).alloc _)
  have Z0 : Hid (Blk (((w.alloc (.cells #[.int .i64 k, .int .i64 K, .int .i64 T, .int .i64 M] 23)).alloc (.cells (f.v q).toArray 83)).alloc (.cells #[.int .i64 0, .int .u32 0, .int .i64 0, .int .i64 0, .int .i64 0, .int .u64 0, .int .u64 0, .int .u64 0, .int .u64 0, .int .i64 0, .slice none 0 0, .bool false, .int .u64 0, .int .u64 0, .int .i64 0, .int .u32 0, .int .i64 0, .int .i64 0, .int .i64 0, .int .i64 0, .int .u64 0, .int .u64 0, .int .i64 0, .int .u32 0] 83)) (w.heap.size + 1 + 1) 83 #[.int .i64 0, .int .u32 0, .int .i64 0, .int .i64 0, .int .i64 0, .int .u64 0, .int .u64 0, .int .u64 0, .int .u64 0, .int .i64 0, .slice none 0 0, .bool false, .int .u64 0, .int .u64 0, .int .i64 0, .int .u32 0, .int .i64 0, .int .i64 0, .int .i64 0, .int .i64 0, .int .u64 0, .int .u64 0, .int .i64 0, .int .u32 0]) := Lib.hid (blk_at (by simp))
  have hv4 : (f.v q).toArray[4]? = some (.int .i64 97) := by show some (Value.int .i64 f.pc) = _; rw [hpc]
  have hz : (!dn) = false := by rw [hd]; rfl
  obtain ⟨bk, hbk⟩ : ∃ x, x = f.back := ⟨_, rfl⟩
  have hv14 : (f.v q).toArray[14]? = some (.int .i64 bk) := by rw [hbk]; rfl
  have hz2 : (bk == 87) = false := beq_false_of_ne (by rw [hbk]; exact hb87)
  have HT : Hid (docTell k K T M f was dn = ({ f with pc := f.back } : FS)) := Lib.hid (by rw [tell97 was dn hpc, if_pos hd, if_neg hb87])
  clear hpc
  clear hd
  clear hb87
  have HBK := Lib.hid hbk
  clear hbk
  go_enter Try.func62, Try.ntmps62
  go_upto_region 1 with fail
  generalize (((w.alloc (.cells #[.int .i64 k, .int .i64 K, .int .i64 T, .int .i64 M] 23)).alloc (.cells (f.v q).toArray 83)).alloc (.cells #[.int .i64 0, .int .u32 0, .int .i64 0, .int .i64 0, .int .i64 0, .int .u64 0, .int .u64 0, .int .u64 0, .int .u64 0, .int .i64 0, .slice none 0 0, .bool false, .int .u64 0, .int .u64 0, .int .i64 0, .int .u32 0, .int .i64 0, .int .i64 0, .int .i64 0, .int .i64 0, .int .u64 0, .int .u64 0, .int .i64 0, .int .u32 0] 83)) = V at B0 C0 F0 Z0 ⊢
  have hc0 := C0.out.cell
  refine wp_region_lit ?_
  refine wpList_load_mid rfl 83 (.tmp 5) rfl (w.heap.size + 1) 0 (by simp [Act.eval]) (f.v q) _ (range24 F0.out (fun j v hj => by rw [Nat.zero_add]; simpa using hj)) Try.underlying83 rfl f_size ?_
  go_upto_region 241 with (first
    | (go_at_call 90; (with_reducible refine (life_c _ k K T M f q x0 x1 m1 m2).mono ?_); rintro e w1 ⟨rfl, hb⟩; go_must (have B1 := Lib.hid (B0.out.trans (hb.mono B0.out.size)); have F1 := Lib.hid (F0.out.below hb F0.out.lt); have Z1 := Lib.hid (Z0.out.below hb Z0.out.lt); have C1 := Lib.hid (C0.out.below hb C0.out.lt)); have hf1c := F1.out.cell; have hf1f := F1.out.frozen; have hc1 := C1.out.cell; clear hb hc0))
  refine wp_region_lit ?_
  refine wpList_load_mid rfl 83 (.tmp 5) rfl (w.heap.size + 1) 0 (by simp [Act.eval]) (f.v q) _ (range24 F1.out (fun j v hj => by rw [Nat.zero_add]; simpa using hj)) Try.underlying83 rfl f_size ?_
  go_wp2_with (first
    | (go_at_call 101; (with_reducible refine (to_c _ f q bk).mono ?_); rintro e w2 ⟨rfl, hb⟩; go_must (have B2 := Lib.hid (B1.out.trans (hb.mono B1.out.size)); have Z2 := Lib.hid (Z1.out.below hb Z1.out.lt)); clear hb)
    | (refine wpList_store_mid rfl 83 (.tmp 8) (.tmp 700) rfl (w.heap.size + 1 + 1) 0 (({ f with pc := bk } : FS).v q).toArray (by simp [Act.eval]) (by simp [Act.eval]) (there24 Z2.out (by decide)) f_size (FS.one _ _) ?_))
  have R9 := res24 (World.rangeAt_setCells_same w2 (w.heap.size + 1 + 1) 0 (({ f with pc := bk } : FS).v q) (there24 Z2.out (by decide)))
  have B9 := Only.below (Only.sets (P := fun g => w.heap.size ≤ g) (g := (w.heap.size + 1 + 1)) (.inl (by omega)) (({ f with pc := bk } : FS).v q) w2 0 (Only.of_below B2.out (Nat.le_refl _))) (Nat.le_refl _) (fun k h => h)
  generalize w2.setCells (w.heap.size + 1 + 1) 0 (({ f with pc := bk } : FS).v q) = V9 at R9 B9 ⊢
  refine bodyPost_ret (v := .agg (({ f with pc := bk } : FS).v q).toArray) (results_cell1 (a := 8) Try.results62 rfl R9) rfl ?_
  exact ⟨by rw [HT.out, HBK.out], B9⟩
set_option maxHeartbeats 4000000 in
theorem tell92t_c (w : World) (k : Int) (K T M : Nat) (f : FS) (q : Sl) (was : Int) (dn : Bool) (hpc : f.pc = 92) (x0 : 0 ≤ f.s) (x1 : f.s ≤ 18446744073709551615) (m1 : 2 ≤ M) (m2 : M ≤ 64) (v0 : 0 ≤ f.w) (v1 : f.w ≤ 18446744073709551615) (l0 : 0 ≤ f.l) (l1 : f.l ≤ 18446744073709551615) (hd : dn = true) (hkd : f.kd = 4) :
    Calls Try.prog 62 #[.agg #[.int .i64 k, .int .i64 K, .int .i64 T, .int .i64 M], .agg (f.v q).toArray, .int .u64 was, .bool dn] w fun e w' => e = .returned (.agg ((docTell k K T M f was dn).v q).toArray) ∧ Below w.heap.size w w' := by
  have B0 : Hid (Below w.heap.size w (((w.alloc (.cells #[.int .i64 k, .int .i64 K, .int .i64 T, .int .i64 M] 23)).alloc (.cells (f.v q).toArray 83)).alloc (.cells #[.int .i64 0, .int .u32 0, .int .i64 0, .int .i64 0, .int .i64 0, .int .u64 0, .int .u64 0, .int .u64 0, .int .u64 0, .int .i64 0, .slice none 0 0, .bool false, .int .u64 0, .int .u64 0, .int .i64 0, .int .u32 0, .int .i64 0, .int .i64 0, .int .i64 0, .int .i64 0, .int .u64 0, .int .u64 0, .int .i64 0, .int .u32 0] 83))) := Lib.hid ((((Below.refl _ _).alloc (Nat.le_refl _) _).alloc (by simp) _).alloc (by simp; omega) _)
  have C0 : Hid (Blk (((w.alloc (.cells #[.int .i64 k, .int .i64 K, .int .i64 T, .int .i64 M] 23)).alloc (.cells (f.v q).toArray 83)).alloc (.cells #[.int .i64 0, .int .u32 0, .int .i64 0, .int .i64 0, .int .i64 0, .int .u64 0, .int .u64 0, .int .u64 0, .int .u64 0, .int .i64 0, .slice none 0 0, .bool false, .int .u64 0, .int .u64 0, .int .i64 0, .int .u32 0, .int .i64 0, .int .i64 0, .int .i64 0, .int .i64 0, .int .u64 0, .int .u64 0, .int .i64 0, .int .u32 0] 83)) w.heap.size 23 #[.int .i64 k, .int .i64 K, .int .i64 T, .int .i64 M]) := Lib.hid (((Blk.new _ _ _).alloc _).alloc _)
  have F0 : Hid (Blk (((w.alloc (.cells #[.int .i64 k, .int .i64 K, .int .i64 T, .int .i64 M] 23)).alloc (.cells (f.v q).toArray 83)).alloc (.cells #[.int .i64 0, .int .u32 0, .int .i64 0, .int .i64 0, .int .i64 0, .int .u64 0, .int .u64 0, .int .u64 0, .int .u64 0, .int .i64 0, .slice none 0 0, .bool false, .int .u64 0, .int .u64 0, .int .i64 0, .int .u32 0, .int .i64 0, .int .i64 0, .int .i64 0, .int .i64 0, .int .u64 0, .int .u64 0, .int .i64 0, .int .u32 0] 83)) (w.heap.size + 1) 83 (f.v q).toArray) := Lib.hid ((blk_at (by simp)).alloc _)
  have Z0 : Hid (Blk (((w.alloc (.cells #[.int .i64 k, .int .i64 K, .int .i64 T, .int .i64 M] 23)).alloc (.cells (f.v q).toArray 83)).alloc (.cells #[.int .i64 0, .int .u32 0, .int .i64 0, .int .i64 0, .int .i64 0, .int .u64 0, .int .u64 0, .int .u64 0, .int .u64 0, .int .i64 0, .slice none 0 0, .bool false, .int .u64 0, .int .u64 0, .int .i64 0, .int .u32 0, .int .i64 0, .int .i64 0, .int .i64 0, .int .i64 0, .int .u64 0, .int .u64 0, .int .i64 0, .int .u32 0] 83)) (w.heap.size + 1 + 1) 83 #[.int .i64 0, .int .u32 0, .int .i64 0, .int .i64 0, .int .i64 0, .int .u64 0, .int .u64 0, .int .u64 0, .int .u64 0, .int .i64 0, .slice none 0 0, .bool false, .int .u64 0, .int .u64 0, .int .i64 0, .int .u32 0, .int .i64 0, .int .i64 0, .int .i64 0, .int .i64 0, .int .u64 0, .int .u64 0, .int .i64 0, .int .u32 0]) := Lib.hid (blk_at (by simp))
  have hv4 : (f.v q).toArray[4]? = some (.int .i64 92) := by show some (Value.int .i64 f.pc) = _; rw [hpc]
  have hz : (!dn) = false := by rw [hd]; rfl
  have hv0 : (f.v q).toArray[0]? = some (.int .i64 4) := by show some (Value.int .i64 f.kd) = _; rw [hkd]
  have hv6 : (f.v q).toArray[6]? = some (.int .u64 f.w) := rfl
  have hv7 : (f.v q).toArray[7]? = some (.int .u64 f.l) := rfl
  have HT : Hid (docTell k K T M f was dn = ({ f with hold := pk (hi f.l) (lo f.w), out := dec (lo f.w), pc := 0 } : FS)) := Lib.hid (by rw [tell92 was dn hpc, if_pos hd, if_pos hkd])
  clear hpc
  clear hd
  have HKD := Lib.hid hkd
  clear hkd
  go_enter Try.func62, Try.ntmps62
  go_upto_region 1 with fail
  generalize (((w.alloc (.cells #[.int .i64 k, .int .i64 K, .int .i64 T, .int .i64 M] 23)).alloc (.cells (f.v q).toArray 83)).alloc (.cells #[.int .i64 0, .int .u32 0, .int .i64 0, .int .i64 0, .int .i64 0, .int .u64 0, .int .u64 0, .int .u64 0, .int .u64 0, .int .i64 0, .slice none 0 0, .bool false, .int .u64 0, .int .u64 0, .int .i64 0, .int .u32 0, .int .i64 0, .int .i64 0, .int .i64 0, .int .i64 0, .int .u64 0, .int .u64 0, .int .i64 0, .int .u32 0] 83)) = V at B0 C0 F0 Z0 ⊢
  have hc0 := C0.out.cell
  refine wp_region_lit ?_
  refine wpList_load_mid rfl 83 (.tmp 5) rfl (w.heap.size + 1) 0 (by simp [Act.eval]) (f.v q) _ (range24 F0.out (fun j v hj => by rw [Nat.zero_add]; simpa using hj)) Try.underlying83 rfl f_size ?_
  go_upto_region 227 with (first
    | (go_at_call 90; (with_reducible refine (life_c _ k K T M f q x0 x1 m1 m2).mono ?_); rintro e w1 ⟨rfl, hb⟩; go_must (have B1 := Lib.hid (B0.out.trans (hb.mono B0.out.size)); have F1 := Lib.hid (F0.out.below hb F0.out.lt); have Z1 := Lib.hid (Z0.out.below hb Z0.out.lt); have C1 := Lib.hid (C0.out.below hb C0.out.lt)); have hf1c := F1.out.cell; have hf1f := F1.out.frozen; have hc1 := C1.out.cell; clear hb hc0))
  refine wp_region_still_tail 8 (by kernel_rfl) (by kernel_rfl) ?_
  simp only [List.take_succ_cons, List.take_zero, List.drop_succ_cons, List.drop_zero]
  repeat (first
    | still_step
    | (refine wpStill_step (fun K hK => ?_); go_simp; refine ⟨_, still_of (high3_p f.l _ l0 l1), hK _ ?_⟩; clear hK K)
    | (refine wpStill_step (fun K hK => ?_); go_simp; refine ⟨_, still_of (low3_p f.w _ v0 v1), hK _ ?_⟩; clear hK K)
    | (refine wpStill_step (fun K hK => ?_); go_simp; refine ⟨_, still_of (pack3_c (hi f.l) (lo f.w) _ (by unfold hi; omega) (by unfold hi; omega) (by unfold lo; omega) (by unfold lo; omega)), hK _ ?_⟩; clear hK K))
  refine wpStill_nil ?_
  change wpList _ _ _ _ _ w1.drew
  have F1 := Lib.hid F1.out.drew
  have Z1 := Lib.hid Z1.out.drew
  have C1 := Lib.hid C1.out.drew
  have B1 := Lib.hid (below_drawn B1.out 1)
  clear hf1c hf1f hc1
  change Hid (Below _ _ w1.drew) at B1
  generalize w1.drew = w1 at F1 Z1 C1 B1 ⊢
  have hf1c := F1.out.cell
  have hf1f := F1.out.frozen
  have hc1 := C1.out.cell
  go_upto_region 228 with fail
  obtain ⟨f1, hf1⟩ : ∃ f1 : FS, f1 = { f with hold := pk (hi f.l) (lo f.w) } := ⟨_, rfl⟩
  have Hf1 := Lib.hid hf1
  have F2 : Hid (Blk (w1.setCell ⟨w.heap.size + 1, 12, none⟩ (.int .u64 (pk (hi f.l) (lo f.w)))) (w.heap.size + 1) 83 (f1.v q).toArray) := Lib.hid (by
    have h_ := F1.out.set_ 12 (.int .u64 (pk (hi f.l) (lo f.w)))
    rw [hf1]; exact h_)
  clear hf1
  have Z2 := Lib.hid (Z1.out.far (p := ⟨w.heap.size + 1, 12, none⟩) (show ¬ w.heap.size + 1 + 1 = w.heap.size + 1 by omega) (.int .u64 (pk (hi f.l) (lo f.w))))
  have B2 := Lib.hid (Below.setCell B1.out (p := ⟨w.heap.size + 1, 12, none⟩) (show w.heap.size ≤ w.heap.size + 1 by omega) (.int .u64 (pk (hi f.l) (lo f.w))))
  have C2 := Lib.hid (C1.out.far (p := ⟨w.heap.size + 1, 12, none⟩) (show ¬ w.heap.size = w.heap.size + 1 by omega) (.int .u64 (pk (hi f.l) (lo f.w))))
  clear hf1c hf1f hc1 F1 Z1 B1 C1
  generalize w1.setCell ⟨w.heap.size + 1, 12, none⟩ (.int .u64 (pk (hi f.l) (lo f.w))) = w2 at F2 Z2 B2 C2 ⊢
  have hf2c := F2.out.cell
  have hf2f := F2.out.frozen
  have hc2 := C2.out.cell
  have hv0b : (f1.v q).toArray[0]? = some (.int .i64 4) := by rw [Hf1.out]; show some (Value.int .i64 f.kd) = _; rw [HKD.out]
  have hv6b : (f1.v q).toArray[6]? = some (.int .u64 f.w) := by rw [Hf1.out]; rfl
  go_upto_region 230 with (go_at_call 98; (with_reducible refine (low3_p f.w _ v0 v1).mono ?_); rintro e w' ⟨rfl, rfl⟩)
  obtain ⟨f2, hf2⟩ : ∃ f2 : FS, f2 = { f1 with out := dec (lo f.w) } := ⟨_, rfl⟩
  have Hf2 := Lib.hid hf2
  have F3 : Hid (Blk (w2.setCell ⟨w.heap.size + 1, 23, none⟩ (.int .u32 ((lo f.w - 1) % 4294967296))) (w.heap.size + 1) 83 (f2.v q).toArray) := Lib.hid (by
    have h_ := F2.out.set_ 23 (.int .u32 ((lo f.w - 1) % 4294967296))
    rw [hf2]; exact h_)
  clear hf2
  have Z3 := Lib.hid (Z2.out.far (p := ⟨w.heap.size + 1, 23, none⟩) (show ¬ w.heap.size + 1 + 1 = w.heap.size + 1 by omega) (.int .u32 ((lo f.w - 1) % 4294967296)))
  have B3 := Lib.hid (Below.setCell B2.out (p := ⟨w.heap.size + 1, 23, none⟩) (show w.heap.size ≤ w.heap.size + 1 by omega) (.int .u32 ((lo f.w - 1) % 4294967296)))
  clear hf2c hf2f hc2 F2 Z2 B2 C2
  generalize w2.setCell ⟨w.heap.size + 1, 23, none⟩ (.int .u32 ((lo f.w - 1) % 4294967296)) = w3 at F3 Z3 B3 ⊢
  have hf3c := F3.out.cell
  have hf3f := F3.out.frozen
  clear hf3c hf3f
  refine wp_region_lit ?_
  refine wpList_load_mid rfl 83 (.tmp 5) rfl (w.heap.size + 1) 0 (by simp [Act.eval]) (f2.v q) _ (range24 F3.out (fun j v hj => by rw [Nat.zero_add]; simpa using hj)) Try.underlying83 rfl f_size ?_
  go_wp2_with (first
    | (go_at_call 101; (with_reducible refine (to_c _ f2 q 0).mono ?_); rintro e w4 ⟨rfl, hb⟩; go_must (have B4 := Lib.hid (B3.out.trans (hb.mono B3.out.size)); have Z4 := Lib.hid (Z3.out.below hb Z3.out.lt)); clear hb)
    | (refine wpList_store_mid rfl 83 (.tmp 8) (.tmp 667) rfl (w.heap.size + 1 + 1) 0 (({ f2 with pc := 0 } : FS).v q).toArray (by simp [Act.eval]) (by simp [Act.eval]) (there24 Z4.out (by decide)) f_size (FS.one _ _) ?_))
  have R9 := res24 (World.rangeAt_setCells_same w4 (w.heap.size + 1 + 1) 0 (({ f2 with pc := 0 } : FS).v q) (there24 Z4.out (by decide)))
  have B9 := Only.below (Only.sets (P := fun g => w.heap.size ≤ g) (g := (w.heap.size + 1 + 1)) (.inl (by omega)) (({ f2 with pc := 0 } : FS).v q) w4 0 (Only.of_below B4.out (Nat.le_refl _))) (Nat.le_refl _) (fun k h => h)
  generalize w4.setCells (w.heap.size + 1 + 1) 0 (({ f2 with pc := 0 } : FS).v q) = V9 at R9 B9 ⊢
  refine bodyPost_ret (v := .agg (({ f2 with pc := 0 } : FS).v q).toArray) (results_cell1 (a := 8) Try.results62 rfl R9) rfl ?_
  exact ⟨by rw [HT.out, Hf2.out, Hf1.out], B9⟩

end Go.Proofs.Ytffppdcpiieapaa.Machc

namespace Go.Proofs.Ytffppdcpiieapaa.Machc
open Go.RowKit Go.Proofs.Ytffppdcpiieapaa.Memc Go.Proofs.Ytffppdcpiieapaa.Newc Go.Proofs.Ytffppdcpiieapaa.Refc Go.Proofs.Ytffppdcpiieapaa.Drivec Go.Proofs.Ytffppdcpiieapaa.Procc Go.Proofs.Ytffppdcpiieapaa.Wordc Go.Proofs.Ytffppdcpiieapaa.Arenac
set_option linter.unusedVariables false
set_option maxRecDepth 100000

theorem ar_docA (k : Int) (K T M : Nat) (m1 : 2 ≤ M) (m2 : M ≤ 64) : DocA k K T M (docZ k K T M) GA := by
  intro f hg hp W q hq
  have hs := hg.s
  have s0 : 0 ≤ f.s := by omega
  have s1 : f.s ≤ 18446744073709551615 := by omega
  obtain ⟨v0, v1⟩ := hg.w
  obtain ⟨l0, l1⟩ := hg.l
  obtain ⟨g0, g1⟩ := hg.give
  have hz : (docZ k K T M).ask f = docAsk k K M f := rfl
  rw [hz]
  rcases hg.pc with ⟨hk, h | h | h | h⟩ | ⟨hk, h | h | h | h⟩
  · rw [ask90 h]; exact ask90_c W k K T M f q h s0 s1 m1 m2
  · rw [ask91 h]; exact ask91_c W k K T M f q h s0 s1 m1 m2 v0 v1
  · rw [ask92 h]; exact ask92_c W k K T M f q h s0 s1 m1 m2 v0 v1 l0 l1
  · exact absurd h hp
  · rw [ask95 h]; exact ask95_c W k K T M f q h s0 s1 m1 m2
  · rw [ask96 h]; exact ask96_c W k K T M f q h s0 s1 m1 m2 v0 v1 g0 g1
  · rw [ask97 h]; exact ask97_c W k K T M f q h s0 s1 m1 m2 v0 v1 g0 g1
  · exact absurd h hp
theorem ar_docT (k : Int) (K T M : Nat) (m1 : 2 ≤ M) (m2 : M ≤ 64) : DocT k K T M (docZ k K T M) GA := by
  intro f hg hp W q was dn u0 u1 hq
  have hs := hg.s
  have s0 : 0 ≤ f.s := by omega
  have s1 : f.s ≤ 18446744073709551615 := by omega
  obtain ⟨v0, v1⟩ := hg.w
  obtain ⟨l0, l1⟩ := hg.l
  have hn := (ar_ok k K T M m1 m2).tell f was dn hg hp u0 u1
  have hz : (docZ k K T M).tell f was dn = docTell k K T M f was dn := rfl
  rw [hz] at hn ⊢
  have main : Calls Try.prog 62 #[.agg #[.int .i64 k, .int .i64 K, .int .i64 T, .int .i64 M], .agg (f.v q).toArray, .int .u64 was, .bool dn] W fun e w' => e = .returned (.agg ((docTell k K T M f was dn).v q).toArray) ∧ Below W.heap.size W w' := by
    rcases hg.pc with ⟨hk, h | h | h | h⟩ | ⟨hk, h | h | h | h⟩
    · by_cases hl : lo was = 0
      · exact tell90a_c W k K T M f q was dn h s0 s1 m1 m2 u0 u1 hl hk
      · exact tell90b_c W k K T M f q was dn h s0 s1 m1 m2 u0 u1 hl
    · exact tell91_c W k K T M f q was dn h s0 s1 m1 m2
    · cases dn
      · exact tell92f_c W k K T M f q was false h s0 s1 m1 m2 rfl
      · exact tell92t_c W k K T M f q was true h s0 s1 m1 m2 v0 v1 l0 l1 rfl hk
    · exact absurd h hp
    · exact tell95_c W k K T M f q was dn h s0 s1 m1 m2
    · exact tell96_c W k K T M f q was dn h s0 s1 m1 m2
    · cases dn
      · exact tell97f_c W k K T M f q was false h s0 s1 m1 m2 rfl
      · exact tell97t_c W k K T M f q was true h s0 s1 m1 m2 rfl (by rw [hg.back]; decide)
    · exact absurd h hp
  refine main.mono (fun e w' he => ⟨q, he.1, ?_, he.2, fun _ _ h => h⟩)
  have e1 : (docTell k K T M f was dn).seen = f.seen := hn.seen.trans hg.seen.symm
  rw [e1]
  exact (hq.below he.2).more he.2.size
theorem ar_docB (k : Int) (K T M : Nat) (a1 : 1 ≤ K) (a2 : K ≤ 64) (m1 : 2 ≤ M) (m2 : M ≤ 64) : DocB k K T M (docZ k K T M) okA := by
  rintro i kd vl d ⟨hkd, v0, v1⟩ d0 d1
  rcases hkd with rfl | rfl
  · exact ⟨by rw [bg4]; rfl, fun W => begin4_c W k K T M i vl d a1 a2 m1 m2 d0 d1 v0 v1⟩
  · exact ⟨by rw [bg5]; rfl, fun W => begin5_c W k K T M i vl d a1 a2 m1 m2 d0 d1 v0 v1⟩
end Go.Proofs.Ytffppdcpiieapaa.Machc

namespace Go.Proofs.Ytffppdcpiieapaa.Arenac
open Go.RowKit Go.Proofs.Ytffppdcpiieapaa.Memc Go.Proofs.Ytffppdcpiieapaa.Procc Go.Proofs.Ytffppdcpiieapaa.Machc Go.Proofs.Ytffppdcpiieapaa.Drivec Go.Proofs.Ytffppdcpiieapaa.Wordc
set_option linter.unusedVariables false
set_option maxRecDepth 100000

def fgn (x : Int × Int) : Bool := !(x.1 == 4) && !(x.1 == 5)
theorem foreign_c (w : World) (kd vl : Int) : Calls Try.prog 35 #[.agg #[.int .i64 kd, .int .u32 vl]] w fun e w' => e = .returned (.bool (fgn (kd, vl))) ∧ Below w.heap.size w w' := by
  by_cases h4 : kd = 4
  · subst h4
    go_enter Try.func35, Try.ntmps35
    go_wp2
    go_ret
    exact ⟨rfl, (Below.refl _ _).alloc (Nat.le_refl _) _⟩
  · go_enter Try.func35, Try.ntmps35
    go_wp2
    all_goals first | (exfalso; exact h4 (by assumption)) | skip
    go_ret
    exact ⟨rfl, (Below.refl _ _).alloc (Nat.le_refl _) _⟩
def FoundO (w : World) (yes : Bool) (e : Ending) (w' : World) : Prop := (∃ n : Int, -1 ≤ n ∧ n ≤ 9223372036854775807 ∧ decide (0 ≤ n) = yes ∧ e = .returned (.int .i64 n)) ∧ Below w.heap.size w w'
set_option maxHeartbeats 2000000 in
theorem index_O (s : Sl) (w : World) (B : Nat) (l : List (Int × Int)) (h : RdO w B s l) (hB : B ≤ w.heap.size) :
    Calls Try.prog 63 #[.slice s.A s.n s.c, .func (.func 35) #[] #[]] w (FoundO w (l.any fgn)) := by
  have hn0 : s.n ≤ maxLen := Nat.le_trans h.2.1 h.2.2.1
  have hn1 : (s.n : Int) ≤ 9223372036854775807 := by unfold maxLen at hn0; omega
  have HH := Lib.hid h
  have HNB := Lib.hid hB
  clear h hn0 hB
  go_enter Try.func63, Try.ntmps63
  go_wp2_with fail
  go_loopw [8] (fun i wr => ∃ j : Nat, i = .int .i64 j ∧ j ≤ s.n ∧ (∀ m x, m < j → l[m]? = some x → fgn x = false) ∧ Below w.heap.size w wr) (fun i _ => s.n - (intOf i).toNat)
  case atStart => exact ⟨0, rfl, Nat.zero_le _, fun m x hm => absurd hm (Nat.not_lt_zero _), Below.refl _ _⟩
  case round =>
    obtain ⟨j, rfl, hj, hall, hbw⟩ := hrel
    have HA := Lib.hid hall
    have HW := Lib.hid hbw
    clear hall hbw
    by_cases hlt : j < s.n
    · obtain ⟨b, off, hA, hbz, hc⟩ := HH.out.2.2.2 (by omega)
      obtain ⟨x, hx⟩ : ∃ x, l[j]? = some x := ⟨_, List.getElem?_eq_getElem (by have := HH.out.1; omega)⟩
      have hcc := hc j x hx
      have hold := fun o => HW.out.cell (p := ⟨b, o, none⟩) (Nat.lt_of_lt_of_le hbz HNB.out)
      have hc0 := (hold (off + j * 2)).trans hcc.1
      have hc1 := (hold (off + j * 2 + 1)).trans hcc.2
      have HX := Lib.hid hx
      have i0 : (0 : Int) ≤ j := by omega
      have i1 : (j : Int) < s.n := by omega
      obtain ⟨sA, sn, sc⟩ := s
      simp only at hA
      subst hA
      clear hc hx hcc hold
      obtain ⟨kd, vl⟩ := x
      simp only at hc0 hc1
      rcases hf : fgn (kd, vl) with _ | _
      · have HF := Lib.hid hf
        clear hf
        go_wp2_with (go_at_call 35; (with_reducible refine (foreign_c _ kd vl).mono ?_); rw [HF.out]; rintro e w' ⟨rfl, hb⟩; go_must (have HB2 := Lib.hid hb); clear hb)
        go_round
        case rel =>
          refine ⟨j + 1, by go_num, by omega, fun m y hm hy => ?_, HW.out.trans (HB2.out.mono HW.out.size)⟩
          by_cases hmj : m = j
          · subst hmj
            rw [HX.out] at hy
            injection hy with hy
            rw [← hy]
            exact HF.out
          · exact HA.out m y (by omega) hy
        case measure => simp [intOf]; omega
      · have HF := Lib.hid hf
        clear hf
        go_wp2_with (go_at_call 35; (with_reducible refine (foreign_c _ kd vl).mono ?_); rw [HF.out]; rintro e w' ⟨rfl, hb⟩; go_must (have HB2 := Lib.hid hb); clear hb)
        go_ret
        refine ⟨⟨j, by omega, by omega, ?_, rfl⟩, HW.out.trans (HB2.out.mono HW.out.size)⟩
        have hyt : l.any fgn = true := List.any_eq_true.2 ⟨_, List.mem_of_getElem? HX.out, HF.out⟩
        rw [hyt]
        simp
    · obtain rfl : j = s.n := by omega
      go_wp2
      go_ret
      refine ⟨⟨-1, by omega, by omega, ?_, rfl⟩, HW.out⟩
      have hyf : l.any fgn = false := by
        rw [List.any_eq_false]
        intro x hx
        obtain ⟨m, hm, rfl⟩ := List.getElem_of_mem hx
        have := HA.out m _ (by have := HH.out.1; omega) (List.getElem?_eq_getElem hm)
        simpa using this
      rw [hyf]
      rfl
set_option maxHeartbeats 2000000 in
theorem contains_O (s : Sl) (w : World) (B : Nat) (l : List (Int × Int)) (h : RdO w B s l) (hB : B ≤ w.heap.size) :
    Calls Try.prog 34 #[.slice s.A s.n s.c, .func (.func 35) #[] #[]] w fun e w' => e = .returned (.bool (l.any fgn)) ∧ Below w.heap.size w w' := by
  have HC := Lib.hid (index_O s w B l h hB)
  clear h hB
  go_enter Try.func34, Try.ntmps34
  go_wp2_with (go_at_call 63; refine (HC.out).mono ?_; rintro e w' ⟨⟨n, hn1, hn2, hn3, rfl⟩, hb⟩; have HN3 := Lib.hid (And.intro hn3 hb); clear hn3 hb)
  go_ret
  have h3 := HN3.out.1
  rw [← h3]
  exact ⟨by simp, HN3.out.2⟩
end Go.Proofs.Ytffppdcpiieapaa.Arenac

namespace Go.Proofs.Ytffppdcpiieapaa.Arenac
open Go.RowKit Go.Proofs.Ytffppdcpiieapaa.Memc Go.Proofs.Ytffppdcpiieapaa.Newc Go.Proofs.Ytffppdcpiieapaa.Procc Go.Proofs.Ytffppdcpiieapaa.Machc Go.Proofs.Ytffppdcpiieapaa.Drivec Go.Proofs.Ytffppdcpiieapaa.Wordc
set_option linter.unusedVariables false
set_option maxRecDepth 100000

theorem RdO.up {w : World} {B C : Nat} {s : Sl} {l : List (Int × Int)} (h : RdO w B s l) (hB : B ≤ C) : RdO w C s l :=
  ⟨h.1, h.2.1, h.2.2.1, fun hn => by
    obtain ⟨b, off, e, hlt, hc⟩ := h.2.2.2 hn
    exact ⟨b, off, e, Nat.lt_of_lt_of_le hlt hB, hc⟩⟩
theorem RdLO.up {w : World} {B C : Nat} {s : Sl} {ls : List (List (Int × Int))} (h : RdLO w B s ls) (hB : B ≤ C) : RdLO w C s ls :=
  ⟨h.1, h.2.1, h.2.2.1, fun hn => by
    obtain ⟨b, off, e, hlt, hc⟩ := h.2.2.2 hn
    refine ⟨b, off, e, Nat.lt_of_lt_of_le hlt hB, fun i x hx => ?_⟩
    obtain ⟨so, h1, h2⟩ := hc i x hx
    exact ⟨so, h1, RdO.up h2 hB⟩⟩
theorem RdP.up {w : World} {B C : Nat} {s : Sl} {l : List (Int × Int)} (h : RdP w B s l) (hB : B ≤ C) : RdP w C s l :=
  ⟨h.1, h.2.1, h.2.2.1, h.2.2.2.1, fun hn => by
    obtain ⟨b, off, e, hlt, hc⟩ := h.2.2.2.2 hn
    exact ⟨b, off, e, Nat.lt_of_lt_of_le hlt hB, hc⟩⟩
/-- what a layer's run comes to -/
def RanL (w : World) (s : RS) (e : Ending) (w' : World) : Prop :=
  ∃ (r : R) (sS sK : Sl) (base : Nat), e = .returned (.tuple #[.agg #[.slice sS.A sS.n sS.c, .slice sK.A sK.n sK.c, .int .u64 r.e, .int .u64 r.f, .slice r.L.A r.L.n r.L.c, .slice r.P.A r.P.n r.P.c, .int .u64 r.h, .int .u64 r.t, .slice r.K.A r.K.n r.K.c, .slice r.X.A r.X.n r.X.c, .slice r.S.A r.S.n r.S.c], .int .i64 0]) ∧ Row w' base 59 8 sS s.steps.length (flatT s.steps) ∧ Row w' base 55 7 sK s.calls.length (flatK s.calls) ∧ Endw w' base r s.m ∧ Below w.heap.size w w'
set_option maxHeartbeats 4000000 in
theorem arun_c (w : World) (k : Int) (K T M : Nat) (bo oo oc : Nat) (pA : Option Addr) (pn pc : Nat) (ls : List (List (Int × Int))) (ps : List (Int × Int))
    (k1 : 1 ≤ k) (k2 : k ≤ 3) (a1 : 1 ≤ K) (a2 : K ≤ 64) (t1 : 1 ≤ T) (t2 : T ≤ 8) (m1 : 2 ≤ M) (m2 : M ≤ 64)
    (hl : RdLO w w.heap.size ⟨some ⟨bo, oo, none⟩, T, oc⟩ ls) (hle : ∀ x ∈ ls, x.length ≤ 1000) (hp : RdP w w.heap.size ⟨pA, pn, pc⟩ ps) (hpn : ps.length ≤ 20000)
    (hf : ∀ l ∈ ls, l.any fgn = false) (hv : ∀ l ∈ ls, ∀ o ∈ l, 0 ≤ o.2 ∧ o.2 ≤ 4294967295) :
    Calls Try.prog 16 #[.agg #[.int .i64 k, .int .i64 K, .int .i64 T, .int .i64 M], .slice (some ⟨bo, oo, none⟩) T oc, .slice pA pn pc] w (RanL w (runM (docZ k K T M) ls (RS.first (newM k K T M) T) ps)) := by
  have hmf : ∀ (fn : Fn) (first cap : Array Value) (w : World), (Instr.makeFunc fn first cap).run Try.prog w = .ok (.func fn first cap) w := fun _ _ _ _ => rfl
  have hok : ∀ p ∈ ps, OkOps okA ls p.2 := fun p _ i l n o hi hn => by
    have hlm := List.mem_of_getElem? hi
    have hom := List.mem_of_getElem? hn
    have h1 := List.any_eq_false.1 (hf l hlm) o hom
    refine ⟨?_, hv l hlm o hom⟩
    unfold fgn at h1
    by_cases e4 : o.1 = 4
    · exact .inl e4
    · by_cases e5 : o.1 = 5
      · exact .inr e5
      · exfalso
        apply h1
        simp [e4, e5]
  have hrd : ∀ i, i < T → ∃ (q : Sl) (l : List (Int × Int)), w.cell? ⟨bo, oo + i, none⟩ = some (.slice q.A q.n q.c) ∧ RdO w w.heap.size q l ∧ l.any fgn = false := fun i hi => by
    obtain ⟨b', off', e, hbB, hcell⟩ := hl.2.2.2 (by show 0 < T; omega)
    injection e with e
    injection e with e1 e2
    subst e1
    subst e2
    obtain ⟨l, hx⟩ : ∃ l, ls[i]? = some l := ⟨_, List.getElem?_eq_getElem (by have h9 : T = ls.length := hl.1; omega)⟩
    obtain ⟨q, h1, h2⟩ := hcell i _ hx
    exact ⟨q, _, h1, h2, hf _ (List.mem_of_getElem? hx)⟩
  have hbz : bo < w.heap.size := by
    obtain ⟨b', off', e, hbB, hcell⟩ := hl.2.2.2 (by show 0 < T; omega)
    injection e with e
    injection e with e1 e2
    omega
  have hoc : T ≤ oc ∧ oc ≤ maxLen := ⟨hl.2.1, hl.2.2.1⟩
  have W0 : Hid (Below w.heap.size w ((w.alloc (.cells #[.int .i64 k, .int .i64 K, .int .i64 T, .int .i64 M] 23)).alloc (.cells #[.slice none 0 0, .slice none 0 0, .int .u64 0, .int .u64 0, .slice none 0 0, .slice none 0 0, .int .u64 0, .int .u64 0, .slice none 0 0, .slice none 0 0, .slice none 0 0] 35))) := Lib.hid (((Below.refl _ _).alloc (Nat.le_refl _) _).alloc (by simp) _)
  have X0 : Hid (Blk ((w.alloc (.cells #[.int .i64 k, .int .i64 K, .int .i64 T, .int .i64 M] 23)).alloc (.cells #[.slice none 0 0, .slice none 0 0, .int .u64 0, .int .u64 0, .slice none 0 0, .slice none 0 0, .int .u64 0, .int .u64 0, .slice none 0 0, .slice none 0 0, .slice none 0 0] 35)) w.heap.size 23 #[.int .i64 k, .int .i64 K, .int .i64 T, .int .i64 M]) := Lib.hid ((Blk.new _ _ _).alloc _)
  have Y0 : Hid (Blk ((w.alloc (.cells #[.int .i64 k, .int .i64 K, .int .i64 T, .int .i64 M] 23)).alloc (.cells #[.slice none 0 0, .slice none 0 0, .int .u64 0, .int .u64 0, .slice none 0 0, .slice none 0 0, .int .u64 0, .int .u64 0, .slice none 0 0, .slice none 0 0, .slice none 0 0] 35)) (w.heap.size + 1) 35 #[.slice none 0 0, .slice none 0 0, .int .u64 0, .int .u64 0, .slice none 0 0, .slice none 0 0, .int .u64 0, .int .u64 0, .slice none 0 0, .slice none 0 0, .slice none 0 0]) := Lib.hid (blk_at2 _ _ _ _ (by simp))
  have HL := Lib.hid hl
  have HP := Lib.hid hp
  have HRD := Lib.hid hrd
  have HREST := Lib.hid (And.intro hle (And.intro hpn (And.intro hok hoc)))
  clear hl hp hrd hle hpn hok hf hv hoc
  go_enter Try.func16, Try.ntmps16
  go_wp2_with fail
  generalize ((w.alloc (.cells #[.int .i64 k, .int .i64 K, .int .i64 T, .int .i64 M] 23)).alloc (.cells #[.slice none 0 0, .slice none 0 0, .int .u64 0, .int .u64 0, .slice none 0 0, .slice none 0 0, .int .u64 0, .int .u64 0, .slice none 0 0, .slice none 0 0, .slice none 0 0] 35)) = V at W0 X0 Y0 ⊢
  go_loopw [12] (fun i wr => ∃ j : Nat, i = .int .i64 j ∧ j ≤ T ∧ Below V.heap.size V wr) (fun i _ => T - (intOf i).toNat)
  case atStart => exact ⟨0, rfl, Nat.zero_le _, Below.refl _ _⟩
  case round =>
  obtain ⟨j, rfl, hj, hbw⟩ := hrel
  have WR : Hid (Below w.heap.size w wr) := Lib.hid (W0.out.trans (hbw.mono W0.out.size))
  have HW := Lib.hid hbw
  clear hbw
  by_cases hlt : j < T
  · obtain ⟨q, l, hq, hqo, hfl⟩ := HRD.out j hlt
    have hcq := (WR.out.cell (p := ⟨bo, oo + j, none⟩) hbz).trans hq
    have HQ := Lib.hid (And.intro hqo hfl)
    have i0 : (0 : Int) ≤ j := by omega
    have i1 : (j : Int) < T := by omega
    have i2 : (T : Int) ≤ 8 := by omega
    clear hq hqo hfl
    go_wp2_with (go_at_call 34; (with_reducible refine (contains_O q _ w.heap.size l (HQ.out.1.below WR.out) WR.out.size).mono ?_); rw [HQ.out.2]; rintro e w' ⟨rfl, hb⟩; go_must (have HB2 := Lib.hid hb); clear hb)
    go_roundw
    case rel => exact ⟨j + 1, by go_num, by omega, HW.out.trans (HB2.out.mono HW.out.size)⟩
    case measure => simp [intOf]; omega
  · obtain rfl : T = j := by omega
    have X4 := Lib.hid (X0.out.below HW.out X0.out.lt)
    have Y4 := Lib.hid (Y0.out.below HW.out Y0.out.lt)
    have hx4 := X4.out.cell
    go_wp2_with (go_at_call 26; go_must (refine (rung_c wr wr.heap.size 36 _ [⟨w.heap.size, 23, #[.int .i64 k, .int .i64 K, .int .i64 T, .int .i64 M]⟩] (docZ k K T M) okA GA k K T M bo oo oc pA pn pc ls ps k1 k2 a1 a2 t1 t2 m1 m2 (RdLO.up (HL.out.below WR.out) WR.out.size) HREST.out.1 (RdP.up (HP.out.below WR.out) WR.out.size) HREST.out.2.1 (Nat.le_refl _) rfl (fun x hx => by rw [List.mem_singleton.1 hx]; exact X4.out) (fun x hx => by rw [List.mem_singleton.1 hx]; simp) (ar_ok k K T M m1 m2) (run1_begins w.heap.size k K T M m1 m2) HREST.out.2.2.1).mono ?_); rintro e w6 ⟨r, sS, sK, base, rfl, hS6, hK6, hE6, hF6⟩; go_must (have S6 := Lib.hid hS6; have K6 := Lib.hid hK6; have E6 := Lib.hid hE6; have F6 := Lib.hid (hF6.below (Nat.le_refl _)); have Y6 := Lib.hid (Y4.out.below F6.out Y4.out.lt); have hy6 := Y6.out.cell; have hy6f := Y6.out.frozen); clear hS6 hK6 hE6 hF6 hx4)
    have OE : Hid (Only (fun g => g = w.heap.size + 1) w6 (((((((((((w6.setCell ⟨(w.heap.size + 1), 0, none⟩ (.slice sS.A sS.n sS.c)).setCell ⟨(w.heap.size + 1), 1, none⟩ (.slice sK.A sK.n sK.c)).setCell ⟨(w.heap.size + 1), 2, none⟩ (.int .u64 r.e)).setCell ⟨(w.heap.size + 1), 3, none⟩ (.int .u64 r.f)).setCell ⟨(w.heap.size + 1), 4, none⟩ (.slice r.L.A r.L.n r.L.c)).setCell ⟨(w.heap.size + 1), 5, none⟩ (.slice r.P.A r.P.n r.P.c)).setCell ⟨(w.heap.size + 1), 6, none⟩ (.int .u64 r.h)).setCell ⟨(w.heap.size + 1), 7, none⟩ (.int .u64 r.t)).setCell ⟨(w.heap.size + 1), 8, none⟩ (.slice r.K.A r.K.n r.K.c)).setCell ⟨(w.heap.size + 1), 9, none⟩ (.slice r.X.A r.X.n r.X.c)).setCell ⟨(w.heap.size + 1), 10, none⟩ (.slice r.S.A r.S.n r.S.c))) := Lib.hid ((Only.set_ (Only.set_ (Only.set_ (Only.set_ (Only.set_ (Only.set_ (Only.set_ (Only.set_ (Only.set_ (Only.set_ (Only.set_ (Only.refl (fun g => g = w.heap.size + 1) w6) ⟨(w.heap.size + 1), 0, none⟩ (.inl rfl) (.slice sS.A sS.n sS.c)) ⟨(w.heap.size + 1), 1, none⟩ (.inl rfl) (.slice sK.A sK.n sK.c)) ⟨(w.heap.size + 1), 2, none⟩ (.inl rfl) (.int .u64 r.e)) ⟨(w.heap.size + 1), 3, none⟩ (.inl rfl) (.int .u64 r.f)) ⟨(w.heap.size + 1), 4, none⟩ (.inl rfl) (.slice r.L.A r.L.n r.L.c)) ⟨(w.heap.size + 1), 5, none⟩ (.inl rfl) (.slice r.P.A r.P.n r.P.c)) ⟨(w.heap.size + 1), 6, none⟩ (.inl rfl) (.int .u64 r.h)) ⟨(w.heap.size + 1), 7, none⟩ (.inl rfl) (.int .u64 r.t)) ⟨(w.heap.size + 1), 8, none⟩ (.inl rfl) (.slice r.K.A r.K.n r.K.c)) ⟨(w.heap.size + 1), 9, none⟩ (.inl rfl) (.slice r.X.A r.X.n r.X.c)) ⟨(w.heap.size + 1), 10, none⟩ (.inl rfl) (.slice r.S.A r.S.n r.S.c)))
    have YE : Hid (Blk (((((((((((w6.setCell ⟨(w.heap.size + 1), 0, none⟩ (.slice sS.A sS.n sS.c)).setCell ⟨(w.heap.size + 1), 1, none⟩ (.slice sK.A sK.n sK.c)).setCell ⟨(w.heap.size + 1), 2, none⟩ (.int .u64 r.e)).setCell ⟨(w.heap.size + 1), 3, none⟩ (.int .u64 r.f)).setCell ⟨(w.heap.size + 1), 4, none⟩ (.slice r.L.A r.L.n r.L.c)).setCell ⟨(w.heap.size + 1), 5, none⟩ (.slice r.P.A r.P.n r.P.c)).setCell ⟨(w.heap.size + 1), 6, none⟩ (.int .u64 r.h)).setCell ⟨(w.heap.size + 1), 7, none⟩ (.int .u64 r.t)).setCell ⟨(w.heap.size + 1), 8, none⟩ (.slice r.K.A r.K.n r.K.c)).setCell ⟨(w.heap.size + 1), 9, none⟩ (.slice r.X.A r.X.n r.X.c)).setCell ⟨(w.heap.size + 1), 10, none⟩ (.slice r.S.A r.S.n r.S.c)) (w.heap.size + 1) 35 #[.slice sS.A sS.n sS.c, .slice sK.A sK.n sK.c, .int .u64 r.e, .int .u64 r.f, .slice r.L.A r.L.n r.L.c, .slice r.P.A r.P.n r.P.c, .int .u64 r.h, .int .u64 r.t, .slice r.K.A r.K.n r.K.c, .slice r.X.A r.X.n r.X.c, .slice r.S.A r.S.n r.S.c]) := Lib.hid (by have h_ := (Blk.set_ (Blk.set_ (Blk.set_ (Blk.set_ (Blk.set_ (Blk.set_ (Blk.set_ (Blk.set_ (Blk.set_ (Blk.set_ (Blk.set_ Y6.out 0 (.slice sS.A sS.n sS.c)) 1 (.slice sK.A sK.n sK.c)) 2 (.int .u64 r.e)) 3 (.int .u64 r.f)) 4 (.slice r.L.A r.L.n r.L.c)) 5 (.slice r.P.A r.P.n r.P.c)) 6 (.int .u64 r.h)) 7 (.int .u64 r.t)) 8 (.slice r.K.A r.K.n r.K.c)) 9 (.slice r.X.A r.X.n r.X.c)) 10 (.slice r.S.A r.S.n r.S.c)); simpa only [List.setIfInBounds_toArray, List.set_cons_zero, List.set_cons_succ] using h_)
    clear hy6 hy6f
    generalize (((((((((((w6.setCell ⟨(w.heap.size + 1), 0, none⟩ (.slice sS.A sS.n sS.c)).setCell ⟨(w.heap.size + 1), 1, none⟩ (.slice sK.A sK.n sK.c)).setCell ⟨(w.heap.size + 1), 2, none⟩ (.int .u64 r.e)).setCell ⟨(w.heap.size + 1), 3, none⟩ (.int .u64 r.f)).setCell ⟨(w.heap.size + 1), 4, none⟩ (.slice r.L.A r.L.n r.L.c)).setCell ⟨(w.heap.size + 1), 5, none⟩ (.slice r.P.A r.P.n r.P.c)).setCell ⟨(w.heap.size + 1), 6, none⟩ (.int .u64 r.h)).setCell ⟨(w.heap.size + 1), 7, none⟩ (.int .u64 r.t)).setCell ⟨(w.heap.size + 1), 8, none⟩ (.slice r.K.A r.K.n r.K.c)).setCell ⟨(w.heap.size + 1), 9, none⟩ (.slice r.X.A r.X.n r.X.c)).setCell ⟨(w.heap.size + 1), 10, none⟩ (.slice r.S.A r.S.n r.S.c)) = W8 at OE YE ⊢
    have S8 : Hid (Row W8 base 59 8 sS _ _) := Lib.hid (S6.out.only OE.out (fun g hg h => by subst h; exact S6.out.ne Y6.out (by decide) _ hg rfl))
    have K8 : Hid (Row W8 base 55 7 sK _ _) := Lib.hid (K6.out.only OE.out (fun g hg h => by subst h; exact K6.out.ne Y6.out (by decide) _ hg rfl))
    have E8 := Lib.hid (E6.out.only OE.out (fun ar hl ad had h => E6.out.ne Y6.out (by decide) (by decide) ar hl ad had h))
    have F8 : Hid (Below w.heap.size w W8) := Lib.hid ((WR.out.trans (F6.out.mono WR.out.size)).trans (OE.out.below (Nat.le_trans WR.out.size F6.out.size) (fun g hg => by omega)))
    have hy8 := YE.out.cell
    refine bodyPost_ret (v := .tuple #[.agg #[.slice sS.A sS.n sS.c, .slice sK.A sK.n sK.c, .int .u64 r.e, .int .u64 r.f, .slice r.L.A r.L.n r.L.c, .slice r.P.A r.P.n r.P.c, .int .u64 r.h, .int .u64 r.t, .slice r.K.A r.K.n r.K.c, .slice r.X.A r.X.n r.X.c, .slice r.S.A r.S.n r.S.c], .int .i64 0]) ?_ rfl ?_
    · simp [results, Try.results16, go_sem, hy8]
    · exact ⟨r, sS, sK, base, rfl, S8.out, K8.out, E8.out, F8.out⟩
end Go.Proofs.Ytffppdcpiieapaa.Arenac

namespace Go.Proofs.Ytffppdcpiieapaa.Drivec
open Go.RowKit Go.Proofs.Ytffppdcpiieapaa.Memc Go.Proofs.Ytffppdcpiieapaa.Procc Go.Proofs.Ytffppdcpiieapaa.Storec Go.Proofs.Ytffppdcpiieapaa.Newc
set_option linter.unusedVariables false
set_option maxRecDepth 100000

set_option maxHeartbeats 2000000 in
theorem drun_no (w : World) (k K T M : Int) (Bf : Nat) (bs : Array Value) (s p : Sl) (ns : List Nat) (h : Lens w s ns) (hps : p.n ≤ maxLen)
    (hno : ¬ ((Cfg.mk k K T M).may ∧ (s.n : Int) = T ∧ ns.any (fun x => decide (1000 < x)) = false ∧ p.n ≤ 20000)) :
    Calls Try.prog 26 #[.agg #[.int .i64 k, .int .i64 K, .int .i64 T, .int .i64 M], .slice s.A s.n s.c, .slice p.A p.n p.c, .func (.func Bf) #[] bs] w fun e w' => e = .returned (.tuple #[.agg #[.slice none 0 0, .slice none 0 0, .int .u64 0, .int .u64 0, .slice none 0 0, .slice none 0 0, .int .u64 0, .int .u64 0, .slice none 0 0, .slice none 0 0, .slice none 0 0], .int .i64 1]) ∧ Below w.heap.size w w' := by
  have W0 : Hid (Below w.heap.size w (((w.alloc (.cells #[.int .i64 k, .int .i64 K, .int .i64 T, .int .i64 M] 23)).alloc (.cells #[.slice none 0 0, .slice none 0 0, .int .u64 0, .int .u64 0, .slice none 0 0, .slice none 0 0, .int .u64 0, .int .u64 0, .slice none 0 0, .slice none 0 0, .slice none 0 0] 35)).alloc (.cells #[.int .i64 0] 36))) := Lib.hid ((((Below.refl _ _).alloc (Nat.le_refl _) _).alloc (by simp) _).alloc (by simp; omega) _)
  have Y0 : Hid (Blk (((w.alloc (.cells #[.int .i64 k, .int .i64 K, .int .i64 T, .int .i64 M] 23)).alloc (.cells #[.slice none 0 0, .slice none 0 0, .int .u64 0, .int .u64 0, .slice none 0 0, .slice none 0 0, .int .u64 0, .int .u64 0, .slice none 0 0, .slice none 0 0, .slice none 0 0] 35)).alloc (.cells #[.int .i64 0] 36)) (w.heap.size + 1) 35 #[.slice none 0 0, .slice none 0 0, .int .u64 0, .int .u64 0, .slice none 0 0, .slice none 0 0, .int .u64 0, .int .u64 0, .slice none 0 0, .slice none 0 0, .slice none 0 0]) := Lib.hid ((blk_at (by simp)).alloc _)
  have D0 : Hid (Blk (((w.alloc (.cells #[.int .i64 k, .int .i64 K, .int .i64 T, .int .i64 M] 23)).alloc (.cells #[.slice none 0 0, .slice none 0 0, .int .u64 0, .int .u64 0, .slice none 0 0, .slice none 0 0, .int .u64 0, .int .u64 0, .slice none 0 0, .slice none 0 0, .slice none 0 0] 35)).alloc (.cells #[.int .i64 0] 36)) (w.heap.size + 1 + 1) 36 #[.int .i64 0]) := Lib.hid (blk_at (by simp))
  have HH := Lib.hid h
  have HN := Lib.hid hno
  clear h hno
  go_enter_defers Try.func26, Try.ntmps26
  go_wp2_with (go_at_call 53; go_must (refine (mayrun_no_Op _ k K T M s p ns (HH.out.below W0.out) hps HN.out).mono ?_); rintro e w1 ⟨rfl, hb1⟩; go_must (have Y1 := Lib.hid (Y0.out.below hb1 Y0.out.lt); have D1 := Lib.hid (D0.out.below hb1 D0.out.lt); have W1 := Lib.hid (W0.out.trans (hb1.mono W0.out.size)); have hy1 := Y1.out.cell; have hy1f := Y1.out.frozen; have hd1 := D1.out.cell; have hd1f := D1.out.frozen); clear hb1)
  have OE : Hid (Only (fun g => g = w.heap.size + 1 ∨ g = w.heap.size + 1 + 1) w1 ((((((((((((w1.setCell ⟨w.heap.size + 1, 0, none⟩ (.slice none 0 0)).setCell ⟨w.heap.size + 1, 1, none⟩ (.slice none 0 0)).setCell ⟨w.heap.size + 1, 2, none⟩ (.int .u64 0)).setCell ⟨w.heap.size + 1, 3, none⟩ (.int .u64 0)).setCell ⟨w.heap.size + 1, 4, none⟩ (.slice none 0 0)).setCell ⟨w.heap.size + 1, 5, none⟩ (.slice none 0 0)).setCell ⟨w.heap.size + 1, 6, none⟩ (.int .u64 0)).setCell ⟨w.heap.size + 1, 7, none⟩ (.int .u64 0)).setCell ⟨w.heap.size + 1, 8, none⟩ (.slice none 0 0)).setCell ⟨w.heap.size + 1, 9, none⟩ (.slice none 0 0)).setCell ⟨w.heap.size + 1, 10, none⟩ (.slice none 0 0)).setCell ⟨w.heap.size + 1 + 1, 0, none⟩ (.int .i64 1))) := Lib.hid ((Only.set_ (Only.set_ (Only.set_ (Only.set_ (Only.set_ (Only.set_ (Only.set_ (Only.set_ (Only.set_ (Only.set_ (Only.set_ (Only.set_ (Only.refl (fun g => g = w.heap.size + 1 ∨ g = w.heap.size + 1 + 1) w1) ⟨w.heap.size + 1, 0, none⟩ (.inl (.inl rfl)) (.slice none 0 0)) ⟨w.heap.size + 1, 1, none⟩ (.inl (.inl rfl)) (.slice none 0 0)) ⟨w.heap.size + 1, 2, none⟩ (.inl (.inl rfl)) (.int .u64 0)) ⟨w.heap.size + 1, 3, none⟩ (.inl (.inl rfl)) (.int .u64 0)) ⟨w.heap.size + 1, 4, none⟩ (.inl (.inl rfl)) (.slice none 0 0)) ⟨w.heap.size + 1, 5, none⟩ (.inl (.inl rfl)) (.slice none 0 0)) ⟨w.heap.size + 1, 6, none⟩ (.inl (.inl rfl)) (.int .u64 0)) ⟨w.heap.size + 1, 7, none⟩ (.inl (.inl rfl)) (.int .u64 0)) ⟨w.heap.size + 1, 8, none⟩ (.inl (.inl rfl)) (.slice none 0 0)) ⟨w.heap.size + 1, 9, none⟩ (.inl (.inl rfl)) (.slice none 0 0)) ⟨w.heap.size + 1, 10, none⟩ (.inl (.inl rfl)) (.slice none 0 0)) ⟨w.heap.size + 1 + 1, 0, none⟩ (.inl (.inr rfl)) (.int .i64 1)))
  have YE : Hid (Blk ((((((((((((w1.setCell ⟨w.heap.size + 1, 0, none⟩ (.slice none 0 0)).setCell ⟨w.heap.size + 1, 1, none⟩ (.slice none 0 0)).setCell ⟨w.heap.size + 1, 2, none⟩ (.int .u64 0)).setCell ⟨w.heap.size + 1, 3, none⟩ (.int .u64 0)).setCell ⟨w.heap.size + 1, 4, none⟩ (.slice none 0 0)).setCell ⟨w.heap.size + 1, 5, none⟩ (.slice none 0 0)).setCell ⟨w.heap.size + 1, 6, none⟩ (.int .u64 0)).setCell ⟨w.heap.size + 1, 7, none⟩ (.int .u64 0)).setCell ⟨w.heap.size + 1, 8, none⟩ (.slice none 0 0)).setCell ⟨w.heap.size + 1, 9, none⟩ (.slice none 0 0)).setCell ⟨w.heap.size + 1, 10, none⟩ (.slice none 0 0)).setCell ⟨w.heap.size + 1 + 1, 0, none⟩ (.int .i64 1)) (w.heap.size + 1) 35 #[.slice none 0 0, .slice none 0 0, .int .u64 0, .int .u64 0, .slice none 0 0, .slice none 0 0, .int .u64 0, .int .u64 0, .slice none 0 0, .slice none 0 0, .slice none 0 0]) := Lib.hid (by have h_ := (Blk.far (Blk.set_ (Blk.set_ (Blk.set_ (Blk.set_ (Blk.set_ (Blk.set_ (Blk.set_ (Blk.set_ (Blk.set_ (Blk.set_ (Blk.set_ Y1.out 0 (.slice none 0 0)) 1 (.slice none 0 0)) 2 (.int .u64 0)) 3 (.int .u64 0)) 4 (.slice none 0 0)) 5 (.slice none 0 0)) 6 (.int .u64 0)) 7 (.int .u64 0)) 8 (.slice none 0 0)) 9 (.slice none 0 0)) 10 (.slice none 0 0)) (p := ⟨w.heap.size + 1 + 1, 0, none⟩) (show ¬ w.heap.size + 1 = w.heap.size + 1 + 1 by omega) (.int .i64 1)); simpa only [List.setIfInBounds_toArray, List.set_cons_zero, List.set_cons_succ] using h_)
  have DE : Hid (Blk ((((((((((((w1.setCell ⟨w.heap.size + 1, 0, none⟩ (.slice none 0 0)).setCell ⟨w.heap.size + 1, 1, none⟩ (.slice none 0 0)).setCell ⟨w.heap.size + 1, 2, none⟩ (.int .u64 0)).setCell ⟨w.heap.size + 1, 3, none⟩ (.int .u64 0)).setCell ⟨w.heap.size + 1, 4, none⟩ (.slice none 0 0)).setCell ⟨w.heap.size + 1, 5, none⟩ (.slice none 0 0)).setCell ⟨w.heap.size + 1, 6, none⟩ (.int .u64 0)).setCell ⟨w.heap.size + 1, 7, none⟩ (.int .u64 0)).setCell ⟨w.heap.size + 1, 8, none⟩ (.slice none 0 0)).setCell ⟨w.heap.size + 1, 9, none⟩ (.slice none 0 0)).setCell ⟨w.heap.size + 1, 10, none⟩ (.slice none 0 0)).setCell ⟨w.heap.size + 1 + 1, 0, none⟩ (.int .i64 1)) (w.heap.size + 1 + 1) 36 #[.int .i64 1]) := Lib.hid (by have h_ := (Blk.set_ (Blk.far (Blk.far (Blk.far (Blk.far (Blk.far (Blk.far (Blk.far (Blk.far (Blk.far (Blk.far (Blk.far D1.out (p := ⟨w.heap.size + 1, 0, none⟩) (show ¬ w.heap.size + 1 + 1 = w.heap.size + 1 by omega) (.slice none 0 0)) (p := ⟨w.heap.size + 1, 1, none⟩) (show ¬ w.heap.size + 1 + 1 = w.heap.size + 1 by omega) (.slice none 0 0)) (p := ⟨w.heap.size + 1, 2, none⟩) (show ¬ w.heap.size + 1 + 1 = w.heap.size + 1 by omega) (.int .u64 0)) (p := ⟨w.heap.size + 1, 3, none⟩) (show ¬ w.heap.size + 1 + 1 = w.heap.size + 1 by omega) (.int .u64 0)) (p := ⟨w.heap.size + 1, 4, none⟩) (show ¬ w.heap.size + 1 + 1 = w.heap.size + 1 by omega) (.slice none 0 0)) (p := ⟨w.heap.size + 1, 5, none⟩) (show ¬ w.heap.size + 1 + 1 = w.heap.size + 1 by omega) (.slice none 0 0)) (p := ⟨w.heap.size + 1, 6, none⟩) (show ¬ w.heap.size + 1 + 1 = w.heap.size + 1 by omega) (.int .u64 0)) (p := ⟨w.heap.size + 1, 7, none⟩) (show ¬ w.heap.size + 1 + 1 = w.heap.size + 1 by omega) (.int .u64 0)) (p := ⟨w.heap.size + 1, 8, none⟩) (show ¬ w.heap.size + 1 + 1 = w.heap.size + 1 by omega) (.slice none 0 0)) (p := ⟨w.heap.size + 1, 9, none⟩) (show ¬ w.heap.size + 1 + 1 = w.heap.size + 1 by omega) (.slice none 0 0)) (p := ⟨w.heap.size + 1, 10, none⟩) (show ¬ w.heap.size + 1 + 1 = w.heap.size + 1 by omega) (.slice none 0 0)) 0 (.int .i64 1)); simpa only [List.setIfInBounds_toArray, List.set_cons_zero, List.set_cons_succ] using h_)
  clear hy1 hy1f hd1 hd1f
  generalize ((((((((((((w1.setCell ⟨w.heap.size + 1, 0, none⟩ (.slice none 0 0)).setCell ⟨w.heap.size + 1, 1, none⟩ (.slice none 0 0)).setCell ⟨w.heap.size + 1, 2, none⟩ (.int .u64 0)).setCell ⟨w.heap.size + 1, 3, none⟩ (.int .u64 0)).setCell ⟨w.heap.size + 1, 4, none⟩ (.slice none 0 0)).setCell ⟨w.heap.size + 1, 5, none⟩ (.slice none 0 0)).setCell ⟨w.heap.size + 1, 6, none⟩ (.int .u64 0)).setCell ⟨w.heap.size + 1, 7, none⟩ (.int .u64 0)).setCell ⟨w.heap.size + 1, 8, none⟩ (.slice none 0 0)).setCell ⟨w.heap.size + 1, 9, none⟩ (.slice none 0 0)).setCell ⟨w.heap.size + 1, 10, none⟩ (.slice none 0 0)).setCell ⟨w.heap.size + 1 + 1, 0, none⟩ (.int .i64 1)) = W8 at OE YE DE ⊢
  have hy8 := YE.out.cell
  have hd8 := DE.out.cell
  have HE := Lib.hid (W1.out.trans (OE.out.below W1.out.size (fun g hg => by omega)))
  clear OE
  simp [bodyPostD, Leaves, results, Try.results26, go_sem, hy8, hd8]
  exact HE.out
end Go.Proofs.Ytffppdcpiieapaa.Drivec
