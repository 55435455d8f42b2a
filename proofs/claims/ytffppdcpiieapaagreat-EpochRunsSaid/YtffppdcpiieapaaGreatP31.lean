/- A part of the proof. -/
import Derived.Test.YtffppdcpiieapaaGreatP13
import Derived.Test.YtffppdcpiieapaaGreatP21
import Derived.Test.YtffppdcpiieapaaGreatP23
import Derived.Test.YtffppdcpiieapaaGreatP26
import Derived.Test.YtffppdcpiieapaaGreatP27
namespace Go.Proofs.YtffppdcpiieapaaGreat.Machc
open Go.RowKit Memc Newc Refc Drivec Procc Wordc Arenac
set_option linter.unusedVariables false
set_option maxRecDepth 100000

theorem range24s {w : World} {g : Nat} {f : FS} {q : Sl} (h : ∀ j, w.cell? ⟨g, j, none⟩ = ((f.v q).toArray : Array Value)[j]?) : w.rangeAt g 0 (f.v q) := by
 intro j v hj
 rw [Nat.zero_add, h j]
 simpa using hj
theorem oneG {P : Program} {md : Region.Mode} {ops : Array Oper} {Q : Exit -> Act -> World -> Prop} {S : World -> Prop} {zs : List Nat} (i : Nat) {o : Oper} {n : Nat} {listed : Array Bool} {a : Act} {w : World} (hr : Region.ready md ops listed = [i]) (hi : ops[i]? = some o) (hw : Region.wanted o (yielded ops a.tmps) = true)
   (h : ∀ K : Act -> World -> Prop, Hid (∀ b v, (Zreg.past zs (listed.setIfInBounds i true) = true \/ S v) -> ((Zreg.past zs (listed.setIfInBounds i true) = true \/ S v) -> Zreg.After P md ops Q S zs n (listed.setIfInBounds i true) b v) -> K b v) -> Oper.wp P o a w K Q) : Zreg.After P md ops Q S zs (n + 1) listed a w := by
 refine ⟨(fun h0 => (by rw [h0] at hr; cases hr)), fun j hj => ?_⟩
 rw [hr] at hj
 obtain rfl : j = i := by simpa using hj
 unfold wpOp
 rw [hi]
 simp only [hw, if_true]
 exact .inl (h _ (lh fun b v hS hh => ⟨hS, hh hS⟩))
set_option maxHeartbeats 4000000 in
theorem tell34z_c (w : World) (k : Int) (K T M : Nat) (f : FS) (q : Sl) (was : Int) (dn : Bool) (hpc : f.pc = 34) (x0 : 0 <= f.s) (x1 : f.s <= 18446744073709551615) (m1 : 2 <= M) (m2 : M <= 64) (u0 : 0 <= was) (u1 : was <= 18446744073709551615) (g0 : 0 <= f.g) (g1 : f.g <= 18446744073709551615) (hl : lo was = 0) :
   Calls Tryz.prog 61 #[.agg #[.int .i64 k, .int .i64 K, .int .i64 T, .int .i64 M], .agg (f.v q).toArray, .int .u64 was, .bool dn] w fun e w' => e = .returned (.agg ((docTell k K T M f was dn).v q).toArray) /\ Below w.heap.size w w' := by
 obtain ⟨B0, C0, F0, Z0⟩ := pre3 w k K T M f q
 have hv4 : (f.v q).toArray[4]? = some (.int .i64 34) := by show some (Value.int .i64 f.pc) = _; rw [hpc]
 have hv8 : (f.v q).toArray[8]? = some (.int .u64 f.g) := rfl
 have cw : IntKind.u64.wrap (hi was) = hi was := by rw [IntKind.wrap_u64]; unfold hi; omega
 have pw : IntKind.u64.wrap (hi was + 2) = hi was + 2 := by rw [IntKind.wrap_u64]; unfold hi; omega
 have hz : (lo was == 0) = true := by simpa using hl
 have HT : Hid (docTell k K T M f was dn = ({ f with w := was, pc := 0 } : FS)) := lh (by rw [tell34 was dn hpc, if_pos (.inl hl)])
 clear hpc
 go_enter Tryz.func61, Tryz.ntmps61
 go_upto_region 1 with fail
 generalize ((w2 w k K T M f q).alloc (.cells zF 107)) = V at B0 C0 F0 Z0 ⊢
 have hc0 := C0.out.cell
 refine wp_region_lit ?_
 refine wpList_load_mid rfl 107 (.tmp 5) rfl (w.heap.size + 1) 0 (by simp [Act.eval]) (f.v q) _ (rF F0.out) Tryz.underlying107 rfl f_size ?_
 go_upto_region 97 with (first
   | (go_at_call 67; (with_reducible refine (life_d f q x0 x1 m1 m2 B0 C0 F0 Z0).mono ?_); rintro e w1 ⟨rfl, B1, F1, Z1, C1⟩; have hf1c := F1.out.cell; have hf1f := F1.out.frozen; have hc1 := C1.out.cell; clear hc0))
 refine Zreg.begin_ (S := (fun w' => (∀ j, w'.cell? ⟨w.heap.size + 1, j, none⟩ = ((f.v q).toArray : Array Value)[j]?))) (zs := [17]) (by kernel_rfl) ?_
 show Zreg.After _ _ _ _ _ _ 18 #[false, false, false, false, false, false, false, false, false, false, false, false, false, false, false, false, false, false] _ _
 refine Zreg.takeD 0 274 (x := .agg (f.v q).toArray) rfl rfl (by kernel_rfl) (by kernel_rfl) (by kernel_rfl) (by kernel_rfl) (by kernel_rfl) (by kernel_rfl) (by kernel_rfl) (fun _ _ _ h => h) (.inr F1.out.drew.cell) (yieldsIf_load_mid (by rfl) 107 (.tmp 5) rfl (w.heap.size + 1) 0 (by simp [Act.eval]) (f.v q) _ (fun _ h => range24s h) Tryz.underlying107 rfl f_size) ?rz_0
 simp only [sA, sZ, sC]
 refine Zreg.tP 1 275 (x := ?xz_1) rfl rfl (by kernel_rfl) (fun _ _ _ h => h) (.inr F1.out.drew.cell) (Or.inl ⟨by rfl, ?yz_1⟩) ?rz_1
 case yz_1 => (intro w _; go_simp <;> with_reducible rfl)
 simp only [sA, sZ, sC]
 refine Zreg.tP 3 277 (x := ?xz_3) rfl rfl (by kernel_rfl) (fun _ _ _ h => h) (.inr F1.out.drew.cell) (Or.inl ⟨by rfl, ?yz_3⟩) ?rz_3
 case yz_3 => (intro w _; go_simp <;> with_reducible rfl)
 simp only [sA, sZ, sC]
 refine Zreg.one 2 (by kernel_rfl) rfl rfl fun K_ hK => ?_
 go_simp
 go_at_call 82
 (with_reducible refine (kept_c _ f q was).mono ?_)
 rintro e w2 ⟨rfl, hb⟩
 have D2 := lh hb
 clear hb
 refine hK.out _ _ (.inr (F1.out.drew.below D2.out F1.out.drew.lt).cell) fun _ => ?_
 clear hK
 try simp only [sA, sZ, sC]
 refine Zreg.one 4 (by kernel_rfl) rfl rfl fun K_ hK => ?_
 go_simp
 go_at_call 75
 (with_reducible refine (low3_p was _ u0 u1).mono ?_)
 rintro e w' ⟨rfl, rfl⟩
 refine hK.out _ _ (.inr (F1.out.drew.below D2.out F1.out.drew.lt).cell) fun _ => ?_
 clear hK
 simp only [sA, sZ, sC]
 refine Zreg.tP 5 279 (x := ?xz_5) rfl rfl (by kernel_rfl) (fun _ _ _ h => h) (.inr (F1.out.drew.below D2.out F1.out.drew.lt).cell) (Or.inl ⟨by rfl, ?yz_5⟩) ?rz_5
 case yz_5 => (intro w _; go_simp <;> with_reducible rfl)
 simp only [sA, sZ, sC]
 refine Zreg.tP 6 280 (x := ?xz_6) rfl rfl (by kernel_rfl) (fun _ _ _ h => h) (.inr (F1.out.drew.below D2.out F1.out.drew.lt).cell) (Or.inl ⟨by rfl, ?yz_6⟩) ?rz_6
 case yz_6 => (intro w _; go_simp <;> with_reducible rfl)
 simp only [sA, sZ, sC]
 refine Zreg.tD 7 281 (x := undef) rfl rfl (by kernel_rfl) (fun _ _ _ h => h) (.inr (F1.out.drew.below D2.out F1.out.drew.lt).cell) (Or.inr ⟨by kernel_rfl, rfl⟩) ?rz_7
 simp only [sA, sZ, sC]
 refine Zreg.tD 8 282 (x := undef) rfl rfl (by kernel_rfl) (fun _ _ _ h => h) (.inr (F1.out.drew.below D2.out F1.out.drew.lt).cell) (Or.inr ⟨by kernel_rfl, rfl⟩) ?rz_8
 simp only [sA, sZ, sC]
 refine Zreg.tD 9 283 (x := undef) rfl rfl (by kernel_rfl) (fun _ _ _ h => h) (.inr (F1.out.drew.below D2.out F1.out.drew.lt).cell) (Or.inr ⟨by kernel_rfl, rfl⟩) ?rz_9
 simp only [sA, sZ, sC]
 refine Zreg.tD 10 284 (x := undef) rfl rfl (by kernel_rfl) (fun _ _ _ h => h) (.inr (F1.out.drew.below D2.out F1.out.drew.lt).cell) (Or.inr ⟨by kernel_rfl, rfl⟩) ?rz_10
 simp only [sA, sZ, sC]
 refine Zreg.tD 11 285 (x := undef) rfl rfl (by kernel_rfl) (fun _ _ _ h => h) (.inr (F1.out.drew.below D2.out F1.out.drew.lt).cell) (Or.inr ⟨by kernel_rfl, rfl⟩) ?rz_11
 simp only [sA, sZ, sC]
 refine Zreg.tD 12 286 (x := undef) rfl rfl (by kernel_rfl) (fun _ _ _ h => h) (.inr (F1.out.drew.below D2.out F1.out.drew.lt).cell) (Or.inr ⟨by kernel_rfl, rfl⟩) ?rz_12
 simp only [sA, sZ, sC]
 refine Zreg.tD 13 287 (x := undef) rfl rfl (by kernel_rfl) (fun _ _ _ h => h) (.inr (F1.out.drew.below D2.out F1.out.drew.lt).cell) (Or.inr ⟨by kernel_rfl, rfl⟩) ?rz_13
 simp only [sA, sZ, sC]
 refine Zreg.tP 14 288 (x := ?xz_14) rfl rfl (by kernel_rfl) (fun _ _ _ h => h) (.inr (F1.out.drew.below D2.out F1.out.drew.lt).cell) (Or.inl ⟨by rfl, ?yz_14⟩) ?rz_14
 case yz_14 => (intro w _; go_simp <;> with_reducible rfl)
 simp only [sA, sZ, sC]
 refine Zreg.one 15 (by kernel_rfl) rfl rfl fun K_ hK => ?_
 go_simp
 go_at_call 77
 (with_reducible refine (either_p _ _ _ _).mono ?_)
 rintro e w' ⟨rfl, rfl⟩
 refine hK.out _ _ (.inr (F1.out.drew.below D2.out F1.out.drew.lt).cell) fun _ => ?_
 clear hK
 simp only [sA, sZ, sC]
 refine Zreg.one 16 (by kernel_rfl) rfl rfl fun K_ hK => ?_
 go_simp
 go_at_call 78
 (with_reducible refine (to_c _ ({ f with w := was } : FS) q 0).mono ?_)
 rintro e w3 ⟨rfl, hb⟩
 have D3 := lh hb
 clear hb
 refine hK.out _ _ (.inr ((F1.out.drew.below D2.out F1.out.drew.lt).below D3.out (F1.out.drew.below D2.out F1.out.drew.lt).lt).cell) fun _ => ?_
 clear hK
 try simp only [sA, sZ, sC]
 refine Zreg.one 17 (by kernel_rfl) rfl rfl fun K_ hK => ?_
 refine wp_store_mid 107 (.tmp 8) (.tmp 290) rfl (w.heap.size + 1 + 1) 0 (({ f with w := was, pc := 0 } : FS).v q).toArray (by simp [Act.eval]) (by simp [Act.eval]) (there24 (Z1.out.drew.below D2.out Z1.out.drew.lt |>.below D3.out (Z1.out.drew.below D2.out Z1.out.drew.lt).lt) (by decide)) f_size (FS.one _ _) ?_
 refine hK.out _ _ (.inl (by kernel_rfl)) fun _ => ?_
 clear hK
 try simp only [Act.put, List.setIfInBounds_toArray, List.set_cons_zero, List.set_cons_succ]
 refine Zreg.done (by kernel_rfl) ?_ _
 have Z3 := lh ((Z1.out.drew.below D2.out Z1.out.drew.lt).below D3.out (Z1.out.drew.below D2.out Z1.out.drew.lt).lt)
 have B3 : Hid (Below w.heap.size w w3) := lh (((below_drawn B1.out 1).trans (D2.out.mono (below_drawn B1.out 1).size)).trans (D3.out.mono (Nat.le_trans (below_drawn B1.out 1).size D2.out.size)))
 obtain ⟨R9, B9⟩ := fin9 (fe := ({ f with w := was, pc := 0 } : FS)) (q := q) Z3.out B3.out
 generalize w3.setCells (w.heap.size + 1 + 1) 0 (({ f with w := was, pc := 0 } : FS).v q) = V9 at R9 B9 ⊢
 go_wp2_with fail
 refine bodyPost_ret (v := .agg (({ f with w := was, pc := 0 } : FS).v q).toArray) (results_cell1 (a := 8) Tryz.results61 rfl R9) rfl ?_
 exact ⟨by rw [HT.out], B9⟩
set_option maxHeartbeats 4000000 in
theorem tell34n_c (w : World) (k : Int) (K T M : Nat) (f : FS) (q : Sl) (was : Int) (dn : Bool) (hpc : f.pc = 34) (x0 : 0 <= f.s) (x1 : f.s <= 18446744073709551615) (m1 : 2 <= M) (m2 : M <= 64) (u0 : 0 <= was) (u1 : was <= 18446744073709551615) (g0 : 0 <= f.g) (g1 : f.g <= 18446744073709551615) (hl : ¬ lo was = 0) (hh : hi was + 2 > f.g) :
   Calls Tryz.prog 61 #[.agg #[.int .i64 k, .int .i64 K, .int .i64 T, .int .i64 M], .agg (f.v q).toArray, .int .u64 was, .bool dn] w fun e w' => e = .returned (.agg ((docTell k K T M f was dn).v q).toArray) /\ Below w.heap.size w w' := by
 obtain ⟨B0, C0, F0, Z0⟩ := pre3 w k K T M f q
 have hv4 : (f.v q).toArray[4]? = some (.int .i64 34) := by show some (Value.int .i64 f.pc) = _; rw [hpc]
 have hv8 : (f.v q).toArray[8]? = some (.int .u64 f.g) := rfl
 have cw : IntKind.u64.wrap (hi was) = hi was := by rw [IntKind.wrap_u64]; unfold hi; omega
 have pw : IntKind.u64.wrap (hi was + 2) = hi was + 2 := by rw [IntKind.wrap_u64]; unfold hi; omega
 have hz : (lo was == 0) = false := by simpa using hl
 have hz2 : decide (hi was + 2 > f.g) = true := by simpa using hh
 have HT : Hid (docTell k K T M f was dn = ({ f with w := was, pc := 0 } : FS)) := lh (by rw [tell34 was dn hpc, if_pos (.inr hh)])
 clear hpc
 go_enter Tryz.func61, Tryz.ntmps61
 go_upto_region 1 with fail
 generalize ((w2 w k K T M f q).alloc (.cells zF 107)) = V at B0 C0 F0 Z0 ⊢
 have hc0 := C0.out.cell
 refine wp_region_lit ?_
 refine wpList_load_mid rfl 107 (.tmp 5) rfl (w.heap.size + 1) 0 (by simp [Act.eval]) (f.v q) _ (rF F0.out) Tryz.underlying107 rfl f_size ?_
 go_upto_region 97 with (first
   | (go_at_call 67; (with_reducible refine (life_d f q x0 x1 m1 m2 B0 C0 F0 Z0).mono ?_); rintro e w1 ⟨rfl, B1, F1, Z1, C1⟩; have hf1c := F1.out.cell; have hf1f := F1.out.frozen; have hc1 := C1.out.cell; clear hc0))
 refine Zreg.begin_ (S := (fun w' => (∀ j, w'.cell? ⟨w.heap.size + 1, j, none⟩ = ((f.v q).toArray : Array Value)[j]?))) (zs := [17]) (by kernel_rfl) ?_
 show Zreg.After _ _ _ _ _ _ 18 #[false, false, false, false, false, false, false, false, false, false, false, false, false, false, false, false, false, false] _ _
 refine Zreg.takeD 0 274 (x := .agg (f.v q).toArray) rfl rfl (by kernel_rfl) (by kernel_rfl) (by kernel_rfl) (by kernel_rfl) (by kernel_rfl) (by kernel_rfl) (by kernel_rfl) (fun _ _ _ h => h) (.inr F1.out.drew.cell) (yieldsIf_load_mid (by rfl) 107 (.tmp 5) rfl (w.heap.size + 1) 0 (by simp [Act.eval]) (f.v q) _ (fun _ h => range24s h) Tryz.underlying107 rfl f_size) ?rz_0
 simp only [sA, sZ, sC]
 refine Zreg.tP 1 275 (x := ?xz_1) rfl rfl (by kernel_rfl) (fun _ _ _ h => h) (.inr F1.out.drew.cell) (Or.inl ⟨by rfl, ?yz_1⟩) ?rz_1
 case yz_1 => (intro w _; go_simp <;> with_reducible rfl)
 simp only [sA, sZ, sC]
 refine Zreg.tP 3 277 (x := ?xz_3) rfl rfl (by kernel_rfl) (fun _ _ _ h => h) (.inr F1.out.drew.cell) (Or.inl ⟨by rfl, ?yz_3⟩) ?rz_3
 case yz_3 => (intro w _; go_simp <;> with_reducible rfl)
 simp only [sA, sZ, sC]
 refine Zreg.one 2 (by kernel_rfl) rfl rfl fun K_ hK => ?_
 go_simp
 go_at_call 82
 (with_reducible refine (kept_c _ f q was).mono ?_)
 rintro e w2 ⟨rfl, hb⟩
 have D2 := lh hb
 clear hb
 refine hK.out _ _ (.inr (F1.out.drew.below D2.out F1.out.drew.lt).cell) fun _ => ?_
 clear hK
 try simp only [sA, sZ, sC]
 refine Zreg.one 4 (by kernel_rfl) rfl rfl fun K_ hK => ?_
 go_simp
 go_at_call 75
 (with_reducible refine (low3_p was _ u0 u1).mono ?_)
 rintro e w' ⟨rfl, rfl⟩
 refine hK.out _ _ (.inr (F1.out.drew.below D2.out F1.out.drew.lt).cell) fun _ => ?_
 clear hK
 simp only [sA, sZ, sC]
 refine Zreg.tP 5 279 (x := ?xz_5) rfl rfl (by kernel_rfl) (fun _ _ _ h => h) (.inr (F1.out.drew.below D2.out F1.out.drew.lt).cell) (Or.inl ⟨by rfl, ?yz_5⟩) ?rz_5
 case yz_5 => (intro w _; go_simp <;> with_reducible rfl)
 simp only [sA, sZ, sC]
 refine Zreg.tP 6 280 (x := ?xz_6) rfl rfl (by kernel_rfl) (fun _ _ _ h => h) (.inr (F1.out.drew.below D2.out F1.out.drew.lt).cell) (Or.inl ⟨by rfl, ?yz_6⟩) ?rz_6
 case yz_6 => (intro w _; go_simp <;> with_reducible rfl)
 simp only [sA, sZ, sC]
 refine Zreg.tP 7 281 (x := ?xz_7) rfl rfl (by kernel_rfl) (fun _ _ _ h => h) (.inr (F1.out.drew.below D2.out F1.out.drew.lt).cell) (Or.inl ⟨by rfl, ?yz_7⟩) ?rz_7
 case yz_7 => (intro w _; go_simp <;> with_reducible rfl)
 simp only [sA, sZ, sC]
 refine Zreg.tP 11 285 (x := ?xz_11) rfl rfl (by kernel_rfl) (fun _ _ _ h => h) (.inr (F1.out.drew.below D2.out F1.out.drew.lt).cell) (Or.inl ⟨by rfl, ?yz_11⟩) ?rz_11
 case yz_11 => (intro w _; go_simp <;> with_reducible rfl)
 simp only [sA, sZ, sC]
 refine Zreg.tD 12 286 (x := ?xz_12) rfl rfl (by kernel_rfl) (fun _ _ _ h => h) (.inr (F1.out.drew.below D2.out F1.out.drew.lt).cell) (Or.inl ⟨by rfl, ?yz_12⟩) ?rz_12
 case yz_12 => (intro w hSw; (try dsimp only at hSw); go_simp <;> with_reducible rfl)
 simp only [sA, sZ, sC]
 refine oneG 8 (by kernel_rfl) rfl (by kernel_rfl) fun K_ hK => ?_
 go_simp
 go_at_call 74
 (with_reducible refine (high3_p was _ u0 u1).mono ?_)
 rintro e w' ⟨rfl, rfl⟩
 refine hK.out _ _ (.inr (F1.out.drew.below D2.out F1.out.drew.lt).cell) fun _ => ?_
 clear hK
 simp only [sA, sZ, sC]
 refine Zreg.tP 9 283 (x := ?xz_9) rfl rfl (by kernel_rfl) (fun _ _ _ h => h) (.inr (F1.out.drew.below D2.out F1.out.drew.lt).cell) (Or.inl ⟨by rfl, ?yz_9⟩) ?rz_9
 case yz_9 => (intro w _; go_simp <;> with_reducible rfl)
 simp only [sA, sZ, sC]
 refine Zreg.tP 10 284 (x := ?xz_10) rfl rfl (by kernel_rfl) (fun _ _ _ h => h) (.inr (F1.out.drew.below D2.out F1.out.drew.lt).cell) (Or.inl ⟨by rfl, ?yz_10⟩) ?rz_10
 case yz_10 => (intro w _; go_simp <;> with_reducible rfl)
 simp only [sA, sZ, sC]
 refine Zreg.tP 13 287 (x := ?xz_13) rfl rfl (by kernel_rfl) (fun _ _ _ h => h) (.inr (F1.out.drew.below D2.out F1.out.drew.lt).cell) (Or.inl ⟨by rfl, ?yz_13⟩) ?rz_13
 case yz_13 => (intro w _; go_simp <;> with_reducible rfl)
 simp only [sA, sZ, sC]
 refine Zreg.tP 14 288 (x := ?xz_14) rfl rfl (by kernel_rfl) (fun _ _ _ h => h) (.inr (F1.out.drew.below D2.out F1.out.drew.lt).cell) (Or.inl ⟨by rfl, ?yz_14⟩) ?rz_14
 case yz_14 => (intro w _; go_simp <;> with_reducible rfl)
 simp only [sA, sZ, sC]
 refine Zreg.one 15 (by kernel_rfl) rfl rfl fun K_ hK => ?_
 go_simp
 go_at_call 77
 (with_reducible refine (either_p _ _ _ _).mono ?_)
 rintro e w' ⟨rfl, rfl⟩
 refine hK.out _ _ (.inr (F1.out.drew.below D2.out F1.out.drew.lt).cell) fun _ => ?_
 clear hK
 simp only [sA, sZ, sC]
 refine Zreg.one 16 (by kernel_rfl) rfl rfl fun K_ hK => ?_
 go_simp
 go_at_call 78
 (with_reducible refine (to_c _ ({ f with w := was } : FS) q 0).mono ?_)
 rintro e w3 ⟨rfl, hb⟩
 have D3 := lh hb
 clear hb
 refine hK.out _ _ (.inr ((F1.out.drew.below D2.out F1.out.drew.lt).below D3.out (F1.out.drew.below D2.out F1.out.drew.lt).lt).cell) fun _ => ?_
 clear hK
 try simp only [sA, sZ, sC]
 refine Zreg.one 17 (by kernel_rfl) rfl rfl fun K_ hK => ?_
 refine wp_store_mid 107 (.tmp 8) (.tmp 290) rfl (w.heap.size + 1 + 1) 0 (({ f with w := was, pc := 0 } : FS).v q).toArray (by simp [Act.eval]) (by simp [Act.eval]) (there24 (Z1.out.drew.below D2.out Z1.out.drew.lt |>.below D3.out (Z1.out.drew.below D2.out Z1.out.drew.lt).lt) (by decide)) f_size (FS.one _ _) ?_
 refine hK.out _ _ (.inl (by kernel_rfl)) fun _ => ?_
 clear hK
 try simp only [Act.put, List.setIfInBounds_toArray, List.set_cons_zero, List.set_cons_succ]
 refine Zreg.done (by kernel_rfl) ?_ _
 have Z3 := lh ((Z1.out.drew.below D2.out Z1.out.drew.lt).below D3.out (Z1.out.drew.below D2.out Z1.out.drew.lt).lt)
 have B3 : Hid (Below w.heap.size w w3) := lh (((below_drawn B1.out 1).trans (D2.out.mono (below_drawn B1.out 1).size)).trans (D3.out.mono (Nat.le_trans (below_drawn B1.out 1).size D2.out.size)))
 obtain ⟨R9, B9⟩ := fin9 (fe := ({ f with w := was, pc := 0 } : FS)) (q := q) Z3.out B3.out
 generalize w3.setCells (w.heap.size + 1 + 1) 0 (({ f with w := was, pc := 0 } : FS).v q) = V9 at R9 B9 ⊢
 go_wp2_with fail
 refine bodyPost_ret (v := .agg (({ f with w := was, pc := 0 } : FS).v q).toArray) (results_cell1 (a := 8) Tryz.results61 rfl R9) rfl ?_
 exact ⟨by rw [HT.out], B9⟩
set_option maxHeartbeats 4000000 in
theorem tell34s_c (w : World) (k : Int) (K T M : Nat) (f : FS) (q : Sl) (was : Int) (dn : Bool) (hpc : f.pc = 34) (x0 : 0 <= f.s) (x1 : f.s <= 18446744073709551615) (m1 : 2 <= M) (m2 : M <= 64) (u0 : 0 <= was) (u1 : was <= 18446744073709551615) (g0 : 0 <= f.g) (g1 : f.g <= 18446744073709551615) (hl : ¬ lo was = 0) (hh : ¬ hi was + 2 > f.g) :
   Calls Tryz.prog 61 #[.agg #[.int .i64 k, .int .i64 K, .int .i64 T, .int .i64 M], .agg (f.v q).toArray, .int .u64 was, .bool dn] w fun e w' => e = .returned (.agg ((docTell k K T M f was dn).v q).toArray) /\ Below w.heap.size w w' := by
 obtain ⟨B0, C0, F0, Z0⟩ := pre3 w k K T M f q
 have hv4 : (f.v q).toArray[4]? = some (.int .i64 34) := by show some (Value.int .i64 f.pc) = _; rw [hpc]
 have hv8 : (f.v q).toArray[8]? = some (.int .u64 f.g) := rfl
 have cw : IntKind.u64.wrap (hi was) = hi was := by rw [IntKind.wrap_u64]; unfold hi; omega
 have pw : IntKind.u64.wrap (hi was + 2) = hi was + 2 := by rw [IntKind.wrap_u64]; unfold hi; omega
 have hz : (lo was == 0) = false := by simpa using hl
 have hz2 : decide (hi was + 2 > f.g) = false := by simpa using hh
 have HT : Hid (docTell k K T M f was dn = ({ f with w := was, pc := 35 } : FS)) := lh (by rw [tell34 was dn hpc, if_neg (fun h => h.elim hl hh)])
 clear hpc
 go_enter Tryz.func61, Tryz.ntmps61
 go_upto_region 1 with fail
 generalize ((w2 w k K T M f q).alloc (.cells zF 107)) = V at B0 C0 F0 Z0 ⊢
 have hc0 := C0.out.cell
 refine wp_region_lit ?_
 refine wpList_load_mid rfl 107 (.tmp 5) rfl (w.heap.size + 1) 0 (by simp [Act.eval]) (f.v q) _ (rF F0.out) Tryz.underlying107 rfl f_size ?_
 go_upto_region 97 with (first
   | (go_at_call 67; (with_reducible refine (life_d f q x0 x1 m1 m2 B0 C0 F0 Z0).mono ?_); rintro e w1 ⟨rfl, B1, F1, Z1, C1⟩; have hf1c := F1.out.cell; have hf1f := F1.out.frozen; have hc1 := C1.out.cell; clear hc0))
 refine Zreg.begin_ (S := (fun w' => (∀ j, w'.cell? ⟨w.heap.size + 1, j, none⟩ = ((f.v q).toArray : Array Value)[j]?))) (zs := [17]) (by kernel_rfl) ?_
 show Zreg.After _ _ _ _ _ _ 18 #[false, false, false, false, false, false, false, false, false, false, false, false, false, false, false, false, false, false] _ _
 refine Zreg.takeD 0 274 (x := .agg (f.v q).toArray) rfl rfl (by kernel_rfl) (by kernel_rfl) (by kernel_rfl) (by kernel_rfl) (by kernel_rfl) (by kernel_rfl) (by kernel_rfl) (fun _ _ _ h => h) (.inr F1.out.drew.cell) (yieldsIf_load_mid (by rfl) 107 (.tmp 5) rfl (w.heap.size + 1) 0 (by simp [Act.eval]) (f.v q) _ (fun _ h => range24s h) Tryz.underlying107 rfl f_size) ?rz_0
 simp only [sA, sZ, sC]
 refine Zreg.tP 1 275 (x := ?xz_1) rfl rfl (by kernel_rfl) (fun _ _ _ h => h) (.inr F1.out.drew.cell) (Or.inl ⟨by rfl, ?yz_1⟩) ?rz_1
 case yz_1 => (intro w _; go_simp <;> with_reducible rfl)
 simp only [sA, sZ, sC]
 refine Zreg.tP 3 277 (x := ?xz_3) rfl rfl (by kernel_rfl) (fun _ _ _ h => h) (.inr F1.out.drew.cell) (Or.inl ⟨by rfl, ?yz_3⟩) ?rz_3
 case yz_3 => (intro w _; go_simp <;> with_reducible rfl)
 simp only [sA, sZ, sC]
 refine Zreg.one 2 (by kernel_rfl) rfl rfl fun K_ hK => ?_
 go_simp
 go_at_call 82
 (with_reducible refine (kept_c _ f q was).mono ?_)
 rintro e w2 ⟨rfl, hb⟩
 have D2 := lh hb
 clear hb
 refine hK.out _ _ (.inr (F1.out.drew.below D2.out F1.out.drew.lt).cell) fun _ => ?_
 clear hK
 try simp only [sA, sZ, sC]
 refine Zreg.one 4 (by kernel_rfl) rfl rfl fun K_ hK => ?_
 go_simp
 go_at_call 75
 (with_reducible refine (low3_p was _ u0 u1).mono ?_)
 rintro e w' ⟨rfl, rfl⟩
 refine hK.out _ _ (.inr (F1.out.drew.below D2.out F1.out.drew.lt).cell) fun _ => ?_
 clear hK
 simp only [sA, sZ, sC]
 refine Zreg.tP 5 279 (x := ?xz_5) rfl rfl (by kernel_rfl) (fun _ _ _ h => h) (.inr (F1.out.drew.below D2.out F1.out.drew.lt).cell) (Or.inl ⟨by rfl, ?yz_5⟩) ?rz_5
 case yz_5 => (intro w _; go_simp <;> with_reducible rfl)
 simp only [sA, sZ, sC]
 refine Zreg.tP 6 280 (x := ?xz_6) rfl rfl (by kernel_rfl) (fun _ _ _ h => h) (.inr (F1.out.drew.below D2.out F1.out.drew.lt).cell) (Or.inl ⟨by rfl, ?yz_6⟩) ?rz_6
 case yz_6 => (intro w _; go_simp <;> with_reducible rfl)
 simp only [sA, sZ, sC]
 refine Zreg.tP 7 281 (x := ?xz_7) rfl rfl (by kernel_rfl) (fun _ _ _ h => h) (.inr (F1.out.drew.below D2.out F1.out.drew.lt).cell) (Or.inl ⟨by rfl, ?yz_7⟩) ?rz_7
 case yz_7 => (intro w _; go_simp <;> with_reducible rfl)
 simp only [sA, sZ, sC]
 refine Zreg.tP 11 285 (x := ?xz_11) rfl rfl (by kernel_rfl) (fun _ _ _ h => h) (.inr (F1.out.drew.below D2.out F1.out.drew.lt).cell) (Or.inl ⟨by rfl, ?yz_11⟩) ?rz_11
 case yz_11 => (intro w _; go_simp <;> with_reducible rfl)
 simp only [sA, sZ, sC]
 refine Zreg.tD 12 286 (x := ?xz_12) rfl rfl (by kernel_rfl) (fun _ _ _ h => h) (.inr (F1.out.drew.below D2.out F1.out.drew.lt).cell) (Or.inl ⟨by rfl, ?yz_12⟩) ?rz_12
 case yz_12 => (intro w hSw; (try dsimp only at hSw); go_simp <;> with_reducible rfl)
 simp only [sA, sZ, sC]
 refine oneG 8 (by kernel_rfl) rfl (by kernel_rfl) fun K_ hK => ?_
 go_simp
 go_at_call 74
 (with_reducible refine (high3_p was _ u0 u1).mono ?_)
 rintro e w' ⟨rfl, rfl⟩
 refine hK.out _ _ (.inr (F1.out.drew.below D2.out F1.out.drew.lt).cell) fun _ => ?_
 clear hK
 simp only [sA, sZ, sC]
 refine Zreg.tP 9 283 (x := ?xz_9) rfl rfl (by kernel_rfl) (fun _ _ _ h => h) (.inr (F1.out.drew.below D2.out F1.out.drew.lt).cell) (Or.inl ⟨by rfl, ?yz_9⟩) ?rz_9
 case yz_9 => (intro w _; go_simp <;> with_reducible rfl)
 simp only [sA, sZ, sC]
 refine Zreg.tP 10 284 (x := ?xz_10) rfl rfl (by kernel_rfl) (fun _ _ _ h => h) (.inr (F1.out.drew.below D2.out F1.out.drew.lt).cell) (Or.inl ⟨by rfl, ?yz_10⟩) ?rz_10
 case yz_10 => (intro w _; go_simp <;> with_reducible rfl)
 simp only [sA, sZ, sC]
 refine Zreg.tP 13 287 (x := ?xz_13) rfl rfl (by kernel_rfl) (fun _ _ _ h => h) (.inr (F1.out.drew.below D2.out F1.out.drew.lt).cell) (Or.inl ⟨by rfl, ?yz_13⟩) ?rz_13
 case yz_13 => (intro w _; go_simp <;> with_reducible rfl)
 simp only [sA, sZ, sC]
 refine Zreg.tP 14 288 (x := ?xz_14) rfl rfl (by kernel_rfl) (fun _ _ _ h => h) (.inr (F1.out.drew.below D2.out F1.out.drew.lt).cell) (Or.inl ⟨by rfl, ?yz_14⟩) ?rz_14
 case yz_14 => (intro w _; go_simp <;> with_reducible rfl)
 simp only [sA, sZ, sC]
 refine Zreg.one 15 (by kernel_rfl) rfl rfl fun K_ hK => ?_
 go_simp
 go_at_call 77
 (with_reducible refine (either_p _ _ _ _).mono ?_)
 rintro e w' ⟨rfl, rfl⟩
 refine hK.out _ _ (.inr (F1.out.drew.below D2.out F1.out.drew.lt).cell) fun _ => ?_
 clear hK
 simp only [sA, sZ, sC]
 refine Zreg.one 16 (by kernel_rfl) rfl rfl fun K_ hK => ?_
 go_simp
 go_at_call 78
 (with_reducible refine (to_c _ ({ f with w := was } : FS) q 35).mono ?_)
 rintro e w3 ⟨rfl, hb⟩
 have D3 := lh hb
 clear hb
 refine hK.out _ _ (.inr ((F1.out.drew.below D2.out F1.out.drew.lt).below D3.out (F1.out.drew.below D2.out F1.out.drew.lt).lt).cell) fun _ => ?_
 clear hK
 try simp only [sA, sZ, sC]
 refine Zreg.one 17 (by kernel_rfl) rfl rfl fun K_ hK => ?_
 refine wp_store_mid 107 (.tmp 8) (.tmp 290) rfl (w.heap.size + 1 + 1) 0 (({ f with w := was, pc := 35 } : FS).v q).toArray (by simp [Act.eval]) (by simp [Act.eval]) (there24 (Z1.out.drew.below D2.out Z1.out.drew.lt |>.below D3.out (Z1.out.drew.below D2.out Z1.out.drew.lt).lt) (by decide)) f_size (FS.one _ _) ?_
 refine hK.out _ _ (.inl (by kernel_rfl)) fun _ => ?_
 clear hK
 try simp only [Act.put, List.setIfInBounds_toArray, List.set_cons_zero, List.set_cons_succ]
 refine Zreg.done (by kernel_rfl) ?_ _
 have Z3 := lh ((Z1.out.drew.below D2.out Z1.out.drew.lt).below D3.out (Z1.out.drew.below D2.out Z1.out.drew.lt).lt)
 have B3 : Hid (Below w.heap.size w w3) := lh (((below_drawn B1.out 1).trans (D2.out.mono (below_drawn B1.out 1).size)).trans (D3.out.mono (Nat.le_trans (below_drawn B1.out 1).size D2.out.size)))
 obtain ⟨R9, B9⟩ := fin9 (fe := ({ f with w := was, pc := 35 } : FS)) (q := q) Z3.out B3.out
 generalize w3.setCells (w.heap.size + 1 + 1) 0 (({ f with w := was, pc := 35 } : FS).v q) = V9 at R9 B9 ⊢
 go_wp2_with fail
 refine bodyPost_ret (v := .agg (({ f with w := was, pc := 35 } : FS).v q).toArray) (results_cell1 (a := 8) Tryz.results61 rfl R9) rfl ?_
 exact ⟨by rw [HT.out], B9⟩

end Go.Proofs.YtffppdcpiieapaaGreat.Machc

namespace Go.Proofs.YtffppdcpiieapaaGreat.Machc
open Go.RowKit Memc Newc Refc Drivec Procc Wordc Arenac
set_option linter.unusedVariables false
set_option maxRecDepth 100000

set_option maxHeartbeats 4000000 in
theorem tell95_c (w : World) (k : Int) (K T M : Nat) (f : FS) (q : Sl) (was : Int) (dn : Bool) (hpc : f.pc = 95) (x0 : 0 <= f.s) (x1 : f.s <= 18446744073709551615) (m1 : 2 <= M) (m2 : M <= 64) :
   Calls Tryz.prog 61 #[.agg #[.int .i64 k, .int .i64 K, .int .i64 T, .int .i64 M], .agg (f.v q).toArray, .int .u64 was, .bool dn] w fun e w' => e = .returned (.agg ((docTell k K T M f was dn).v q).toArray) /\ Below w.heap.size w w' := by
 obtain ⟨B0, C0, F0, Z0⟩ := pre3 w k K T M f q
 have hv4 : (f.v q).toArray[4]? = some (.int .i64 95) := by show some (Value.int .i64 f.pc) = _; rw [hpc]
 have HT : Hid (docTell k K T M f was dn = ({ f with w := was, pc := 96 } : FS)) := lh (by rw [tell95 was dn hpc])
 clear hpc
 go_enter Tryz.func61, Tryz.ntmps61
 go_upto_region 1 with fail
 generalize ((w2 w k K T M f q).alloc (.cells zF 107)) = V at B0 C0 F0 Z0 ⊢
 have hc0 := C0.out.cell
 refine wp_region_lit ?_
 refine wpList_load_mid rfl 107 (.tmp 5) rfl (w.heap.size + 1) 0 (by simp [Act.eval]) (f.v q) _ (rF F0.out) Tryz.underlying107 rfl f_size ?_
 go_upto_region 233 with (first
   | (go_at_call 67; (with_reducible refine (life_d f q x0 x1 m1 m2 B0 C0 F0 Z0).mono ?_); rintro e w1 ⟨rfl, B1, F1, Z1, C1⟩; have hf1c := F1.out.cell; have hf1f := F1.out.frozen; have hc1 := C1.out.cell; clear hc0))
 refine wp_region_lit ?_
 refine wpList_load_mid rfl 107 (.tmp 5) rfl (w.heap.size + 1) 0 (by simp [Act.eval]) (f.v q) _ (rF F1.out) Tryz.underlying107 rfl f_size ?_
 go_wp2_with (first
   | (go_at_call 82; (with_reducible refine (kept_c _ f q was).mono ?_); rintro e w2 ⟨rfl, hb⟩; go_must (have B2 := lh (B1.out.trans (hb.mono B1.out.size)); have Z2 := lh (Z1.out.below hb Z1.out.lt)); clear hb)
   | (go_at_call 78; (with_reducible refine (to_c _ ({ f with w := was } : FS) q 96).mono ?_); rintro e w3 ⟨rfl, hb⟩; go_must (have B3 := lh (B2.out.trans (hb.mono B2.out.size)); have Z3 := lh (Z2.out.below hb Z2.out.lt)); clear hb)
   | (refine wpList_store_mid rfl 107 (.tmp 8) (.tmp 677) rfl (w.heap.size + 1 + 1) 0 (({ f with w := was, pc := 96 } : FS).v q).toArray (by simp [Act.eval]) (by simp [Act.eval]) (there24 Z3.out (by decide)) f_size (FS.one _ _) ?_))
 obtain ⟨R9, B9⟩ := fin9 (fe := ({ f with w := was, pc := 96 } : FS)) (q := q) Z3.out B3.out
 generalize w3.setCells (w.heap.size + 1 + 1) 0 (({ f with w := was, pc := 96 } : FS).v q) = V9 at R9 B9 ⊢
 refine bodyPost_ret (v := .agg (({ f with w := was, pc := 96 } : FS).v q).toArray) (results_cell1 (a := 8) Tryz.results61 rfl R9) rfl ?_
 exact ⟨by rw [HT.out], B9⟩
set_option maxHeartbeats 4000000 in
theorem tell96_c (w : World) (k : Int) (K T M : Nat) (f : FS) (q : Sl) (was : Int) (dn : Bool) (hpc : f.pc = 96) (x0 : 0 <= f.s) (x1 : f.s <= 18446744073709551615) (m1 : 2 <= M) (m2 : M <= 64) :
   Calls Tryz.prog 61 #[.agg #[.int .i64 k, .int .i64 K, .int .i64 T, .int .i64 M], .agg (f.v q).toArray, .int .u64 was, .bool dn] w fun e w' => e = .returned (.agg ((docTell k K T M f was dn).v q).toArray) /\ Below w.heap.size w w' := by
 obtain ⟨B0, C0, F0, Z0⟩ := pre3 w k K T M f q
 have hv4 : (f.v q).toArray[4]? = some (.int .i64 96) := by show some (Value.int .i64 f.pc) = _; rw [hpc]
 have HT : Hid (docTell k K T M f was dn = ({ f with pc := 97 } : FS)) := lh (by rw [tell96 was dn hpc])
 clear hpc
 go_enter Tryz.func61, Tryz.ntmps61
 go_upto_region 1 with fail
 generalize ((w2 w k K T M f q).alloc (.cells zF 107)) = V at B0 C0 F0 Z0 ⊢
 have hc0 := C0.out.cell
 refine wp_region_lit ?_
 refine wpList_load_mid rfl 107 (.tmp 5) rfl (w.heap.size + 1) 0 (by simp [Act.eval]) (f.v q) _ (rF F0.out) Tryz.underlying107 rfl f_size ?_
 go_upto_region 235 with (first
   | (go_at_call 67; (with_reducible refine (life_d f q x0 x1 m1 m2 B0 C0 F0 Z0).mono ?_); rintro e w1 ⟨rfl, B1, F1, Z1, C1⟩; have hf1c := F1.out.cell; have hf1f := F1.out.frozen; have hc1 := C1.out.cell; clear hc0))
 refine wp_region_lit ?_
 refine wpList_load_mid rfl 107 (.tmp 5) rfl (w.heap.size + 1) 0 (by simp [Act.eval]) (f.v q) _ (rF F1.out) Tryz.underlying107 rfl f_size ?_
 go_wp2_with (first
   | (go_at_call 78; (with_reducible refine (to_c _ f q 97).mono ?_); rintro e w2 ⟨rfl, hb⟩; go_must (have B2 := lh (B1.out.trans (hb.mono B1.out.size)); have Z2 := lh (Z1.out.below hb Z1.out.lt)); clear hb)
   | (refine wpList_store_mid rfl 107 (.tmp 8) (.tmp 681) rfl (w.heap.size + 1 + 1) 0 (({ f with pc := 97 } : FS).v q).toArray (by simp [Act.eval]) (by simp [Act.eval]) (there24 Z2.out (by decide)) f_size (FS.one _ _) ?_))
 obtain ⟨R9, B9⟩ := fin9 (fe := ({ f with pc := 97 } : FS)) (q := q) Z2.out B2.out
 generalize w2.setCells (w.heap.size + 1 + 1) 0 (({ f with pc := 97 } : FS).v q) = V9 at R9 B9 ⊢
 refine bodyPost_ret (v := .agg (({ f with pc := 97 } : FS).v q).toArray) (results_cell1 (a := 8) Tryz.results61 rfl R9) rfl ?_
 exact ⟨by rw [HT.out], B9⟩
set_option maxHeartbeats 4000000 in
theorem tell97f_c (w : World) (k : Int) (K T M : Nat) (f : FS) (q : Sl) (was : Int) (dn : Bool) (hpc : f.pc = 97) (x0 : 0 <= f.s) (x1 : f.s <= 18446744073709551615) (m1 : 2 <= M) (m2 : M <= 64) (hd : dn = false) :
   Calls Tryz.prog 61 #[.agg #[.int .i64 k, .int .i64 K, .int .i64 T, .int .i64 M], .agg (f.v q).toArray, .int .u64 was, .bool dn] w fun e w' => e = .returned (.agg ((docTell k K T M f was dn).v q).toArray) /\ Below w.heap.size w w' := by
 obtain ⟨B0, C0, F0, Z0⟩ := pre3 w k K T M f q
 have hv4 : (f.v q).toArray[4]? = some (.int .i64 97) := by show some (Value.int .i64 f.pc) = _; rw [hpc]
 have hz : (!dn) = true := by rw [hd]; rfl
 have HT : Hid (docTell k K T M f was dn = ({ f with pc := 95 } : FS)) := lh (by rw [tell97 was dn hpc, if_neg (by rw [hd]; decide)])
 clear hpc
 clear hd
 go_enter Tryz.func61, Tryz.ntmps61
 go_upto_region 1 with fail
 generalize ((w2 w k K T M f q).alloc (.cells zF 107)) = V at B0 C0 F0 Z0 ⊢
 have hc0 := C0.out.cell
 refine wp_region_lit ?_
 refine wpList_load_mid rfl 107 (.tmp 5) rfl (w.heap.size + 1) 0 (by simp [Act.eval]) (f.v q) _ (rF F0.out) Tryz.underlying107 rfl f_size ?_
 go_upto_region 238 with (first
   | (go_at_call 67; (with_reducible refine (life_d f q x0 x1 m1 m2 B0 C0 F0 Z0).mono ?_); rintro e w1 ⟨rfl, B1, F1, Z1, C1⟩; have hf1c := F1.out.cell; have hf1f := F1.out.frozen; have hc1 := C1.out.cell; clear hc0))
 refine wp_region_lit ?_
 refine wpList_load_mid rfl 107 (.tmp 5) rfl (w.heap.size + 1) 0 (by simp [Act.eval]) (f.v q) _ (rF F1.out) Tryz.underlying107 rfl f_size ?_
 go_wp2_with (first
   | (go_at_call 78; (with_reducible refine (to_c _ f q 95).mono ?_); rintro e w2 ⟨rfl, hb⟩; go_must (have B2 := lh (B1.out.trans (hb.mono B1.out.size)); have Z2 := lh (Z1.out.below hb Z1.out.lt)); clear hb)
   | (refine wpList_store_mid rfl 107 (.tmp 8) (.tmp 687) rfl (w.heap.size + 1 + 1) 0 (({ f with pc := 95 } : FS).v q).toArray (by simp [Act.eval]) (by simp [Act.eval]) (there24 Z2.out (by decide)) f_size (FS.one _ _) ?_))
 obtain ⟨R9, B9⟩ := fin9 (fe := ({ f with pc := 95 } : FS)) (q := q) Z2.out B2.out
 generalize w2.setCells (w.heap.size + 1 + 1) 0 (({ f with pc := 95 } : FS).v q) = V9 at R9 B9 ⊢
 refine bodyPost_ret (v := .agg (({ f with pc := 95 } : FS).v q).toArray) (results_cell1 (a := 8) Tryz.results61 rfl R9) rfl ?_
 exact ⟨by rw [HT.out], B9⟩

end Go.Proofs.YtffppdcpiieapaaGreat.Machc
