/- A part of the proof. -/
import Derived.Deep.DrawnRows
import Derived.WalkSpells
import Derived.Deep.RegionHeld3
import Derived.Test.YtffppdcpiieapaaGreatRows
import Derived.WalkKit
import Derived.RegionTactic
import Derived.Test.YtffppdcpiieapaaGreatP1
import Derived.Test.YtffppdcpiieapaaGreatP2
import Derived.Test.YtffppdcpiieapaaGreatP9
namespace Go.Proofs.YtffppdcpiieapaaGreat.Newc
open Go.RowKit Memc Wordc
set_option linter.unusedVariables false
set_option maxRecDepth 100000
attribute [local go_sem ↓] Go.wp_at_zero Go.wp_at_succ

theorem refr0_c (x : Int) (w : World) (x0 : 0 <= x) (x1 : x <= 1000) :
   Calls Tryz.prog 63 #[.int .u32 0, .int .i64 x] w fun e w' => e = .returned (.int .u64 (x + 1)) /\ w = w' :=
 (ref_r 0 x w (by omega) (by omega) (by omega) (by omega)).mono fun e w' ⟨he, hw⟩ => ⟨by rw [he]; exact ret_int (by omega), hw⟩

set_option maxRecDepth 100000 in
set_option maxHeartbeats 4000000 in
theorem refnew_yes (w : World) (k : Int) (K T M : Nat) (k1 : 1 <= k) (k2 : k <= 3) (a1 : 1 <= K) (a2 : K <= 64) (t1 : 1 <= T) (t2 : T <= 8) (m1 : 2 <= M) (m2 : M <= 64) :
   Calls Tryz.prog 58 #[.agg #[.int .i64 k, .int .i64 K, .int .i64 T, .int .i64 M]] w (Fresh5 w (newM k K T M)) := by
 have B0 : Hid (Below w.heap.size w ((w.alloc (.cells #[.int .i64 k, .int .i64 K, .int .i64 T, .int .i64 M] 23)).alloc (.cells zM 33))) :=
   lh (((Below.refl _ _).alloc (Nat.le_refl _) _).alloc (by simp) _)
 have X0 : Hid (Blk ((w.alloc (.cells #[.int .i64 k, .int .i64 K, .int .i64 T, .int .i64 M] 23)).alloc (.cells zM 33)) w.heap.size 23 #[.int .i64 k, .int .i64 K, .int .i64 T, .int .i64 M]) := lh ((Blk.new _ _ _).alloc _)
 have Y0 : Hid (Blk ((w.alloc (.cells #[.int .i64 k, .int .i64 K, .int .i64 T, .int .i64 M] 23)).alloc (.cells zM 33)) (w.heap.size + 1) 33 #[.int .u64 0, .int .u64 0, .slice none 0 0, .slice none 0 0, .int .u64 0, .int .u64 0, .slice none 0 0, .slice none 0 0, .slice none 0 0]) := lh (blk_at (by simp))
 have hmul : M * K <= 4096 := Nat.le_trans (Nat.mul_le_mul m2 a2) (by omega)
 have hmk3 := fun W => run_mk 3 3 rfl (by omega) W
 have hmkT := fun W => run_mk T (T : Int) rfl (by omega) W
 have hmkM := fun W => run_mk M (M : Int) rfl (by omega) W
 have hmkS := fun W => run_mk (M * K) ((M : Int) * (K : Int)) (by simp) (by omega) W
 have hml := mul_in M K hmul
 go_enter Tryz.func58, Tryz.ntmps58
 go_wp2_with fail
 generalize ((w.alloc (.cells #[.int .i64 k, .int .i64 K, .int .i64 T, .int .i64 M] 23)).alloc (.cells zM 33)) = w1 at B0 X0 Y0 ⊢
 have X1 := X0
 have Y1 := Y0
 have hBB := B0
 have hHc := X1.out.lt
 have hS : (World.drew w1).cell? ⟨w.heap.size, 1, none⟩ = some (.int .i64 K) /\ (World.drew w1).cell? ⟨w.heap.size, 2, none⟩ = some (.int .i64 T) /\ (World.drew w1).cell? ⟨w.heap.size, 3, none⟩ = some (.int .i64 M) :=
   ⟨X1.out.drew.cell 1, X1.out.drew.cell 2, X1.out.drew.cell 3⟩
 refine wp_region_any (by kernel_rfl) ?_
 refine wpAny_of_held (S := (fun w' => w'.cell? ⟨w.heap.size, 1, none⟩ = some (.int .i64 K) /\ w'.cell? ⟨w.heap.size, 2, none⟩ = some (.int .i64 T) /\ w'.cell? ⟨w.heap.size, 3, none⟩ = some (.int .i64 M))) _ _ _ _ ?_
 show wpAnyH _ _ _ _ _ 19 #[false, false, false, false, false, false, false, false, false, false, false, false, false, false, false, false, false, false, false] _ _
 refine take_at 1 6 (v := ?v1) rfl rfl (by kernel_rfl) (by kernel_rfl) (by kernel_rfl) (fun _ _ _ h => h) hS (Or.inl ⟨by rfl, ?y1⟩) ?r1
 case y1 => (intro w hSw; go_simp <;> with_reducible rfl)
 simp only [sA, sZ, sC]
 refine take_at 2 7 (v := ?v2) rfl rfl (by kernel_rfl) (by kernel_rfl) (by kernel_rfl) (fun _ _ _ h => h) hS (Or.inl ⟨by rfl, ?y2⟩) ?r2
 case y2 => (intro w hSw; go_simp <;> with_reducible rfl)
 simp only [sA, sZ, sC]
 refine take_at 4 9 (v := ?v4) rfl rfl (by kernel_rfl) (by kernel_rfl) (by kernel_rfl) (fun _ _ _ h => h) hS (Or.inl ⟨by rfl, ?y4⟩) ?r4
 case y4 => (intro w hSw; go_simp <;> with_reducible rfl)
 simp only [sA, sZ, sC]
 refine take_at 5 10 (v := ?v5) rfl rfl (by kernel_rfl) (by kernel_rfl) (by kernel_rfl) (fun _ _ _ h => h) hS (Or.inl ⟨by rfl, ?y5⟩) ?r5
 case y5 => (intro w hSw; go_simp <;> with_reducible rfl)
 simp only [sA, sZ, sC]
 refine take_at 7 12 (v := ?v7) rfl rfl (by kernel_rfl) (by kernel_rfl) (by kernel_rfl) (fun _ _ _ h => h) hS (Or.inl ⟨by rfl, ?y7⟩) ?r7
 case y7 => (intro w hSw; go_simp <;> with_reducible rfl)
 simp only [sA, sZ, sC]
 refine take_at 8 13 (v := ?v8) rfl rfl (by kernel_rfl) (by kernel_rfl) (by kernel_rfl) (fun _ _ _ h => h) hS (Or.inl ⟨by rfl, ?y8⟩) ?r8
 case y8 => (intro w hSw; go_simp <;> with_reducible rfl)
 simp only [sA, sZ, sC]
 refine take_at 10 15 (v := ?v10) rfl rfl (by kernel_rfl) (by kernel_rfl) (by kernel_rfl) (fun _ _ _ h => h) hS (Or.inl ⟨by rfl, ?y10⟩) ?r10
 case y10 => (intro w hSw; go_simp <;> with_reducible rfl)
 simp only [sA, sZ, sC]
 refine take_at 11 16 (v := ?v11) rfl rfl (by kernel_rfl) (by kernel_rfl) (by kernel_rfl) (fun _ _ _ h => h) hS (Or.inl ⟨by rfl, ?y11⟩) ?r11
 case y11 => (intro w hSw; go_simp <;> with_reducible rfl)
 simp only [sA, sZ, sC]
 refine take_at 12 17 (v := ?v12) rfl rfl (by kernel_rfl) (by kernel_rfl) (by kernel_rfl) (fun _ _ _ h => h) hS (Or.inl ⟨by rfl, ?y12⟩) ?r12
 case y12 => (intro w hSw; go_simp <;> with_reducible rfl)
 simp only [sA, sZ, sC]
 refine take_at 13 18 (v := ?v13) rfl rfl (by kernel_rfl) (by kernel_rfl) (by kernel_rfl) (fun _ _ _ h => h) hS (Or.inl ⟨by rfl, ?y13⟩) ?r13
 case y13 => (intro w hSw; go_simp <;> with_reducible rfl)
 simp only [sA, sZ, sC]
 refine take_at 14 19 (v := ?v14) rfl rfl (by kernel_rfl) (by kernel_rfl) (by kernel_rfl) (fun _ _ _ h => h) hS (Or.inl ⟨by rfl, ?y14⟩) ?r14
 case y14 => (intro w hSw; go_simp <;> with_reducible rfl)
 simp only [sA, sZ, sC]
 refine ordered (fun listed a W => ∃ (x : Nat -> Nat) (L : Nat -> Bool) (b d : Bool) (y0 y4 y6 y9 y12 y15 y16 y17 y18 y22 y23 y24 y25 y26 y27 y28 y29 y30 y31 y32 y33 y34 y35 y36 y37 y38 y39 y40 y41 y42 y43 y44 y45 y46 y47 y48 y49 y50 y51 y52 y53 y54 y55 y56 y57 y58 y59 : Value), listed = #[L 0, true, true, L 1, true, true, L 2, true, true, L 3, true, true, true, true, true, L 4, b, L 5, d] /\ a = ⟨#[y0, .pointer (some ⟨w.heap.size, 0, none⟩), .pointer (some ⟨w.heap.size + 1, 0, none⟩), pv L x, y4, sv L x (nn T M K) 0, y6, .int .i64 (T : Int), sv L x (nn T M K) 1, y9, .int .i64 (M : Int), sv L x (nn T M K) 2, y12, .int .i64 (M : Int), sv L x (nn T M K) 3, y15, y16, y17, y18, .int .i64 ((M : Int) * (K : Int)), sv L x (nn T M K) 4, bv b x (nn T M K), y22, y23, y24, y25, y26, y27, y28, y29, y30, y31, y32, y33, y34, y35, y36, y37, y38, y39, y40, y41, y42, y43, y44, y45, y46, y47, y48, y49, y50, y51, y52, y53, y54, y55, y56, y57, y58, y59], []⟩ /\ State w1 (nn T M K) x L b d W) ?step ?done 8 _ _ _ (Nat.le_of_eq (by kernel_rfl)) ?init hS
 case init => exact ⟨fun _ => 0, fun _ => false, false, false, _, _, _, _, _, _, _, _, _, _, _, _, _, _, _, _, _, _, _, _, _, _, _, _, _, _, _, _, _, _, _, _, _, _, _, _, _, _, _, _, _, _, _, _, _, _, _, rfl, rfl, State.start _ _ _⟩
 case step =>
   rintro listed a W i ⟨x, L, b, d, y0, y4, y6, y9, y12, y15, y16, y17, y18, y22, y23, y24, y25, y26, y27, y28, y29, y30, y31, y32, y33, y34, y35, y36, y37, y38, y39, y40, y41, y42, y43, y44, y45, y46, y47, y48, y49, y50, y51, y52, y53, y54, y55, y56, y57, y58, y59, rfl, rfl, hst⟩ hSW hi
   have hin := hi
   obtain ⟨hun, o, ho, hall⟩ := mem_ready.1 hi
   have hilt : i < 19 := (Array.getElem?_eq_some_iff.1 ho).1
   have hHW : w.heap.size < W.heap.size := Nat.lt_of_lt_of_le hHc hst.below.size
   rcases (show i = 0 \/ i = 1 \/ i = 2 \/ i = 3 \/ i = 4 \/ i = 5 \/ i = 6 \/ i = 7 \/ i = 8 \/ i = 9 \/ i = 10 \/ i = 11 \/ i = 12 \/ i = 13 \/ i = 14 \/ i = 15 \/ i = 16 \/ i = 17 \/ i = 18 by omega) with rfl | rfl | rfl | rfl | rfl | rfl | rfl | rfl | rfl | rfl | rfl | rfl | rfl | rfl | rfl | rfl | rfl | rfl | rfl
   · have hl : L 0 = false := by simpa using hun
     obtain ⟨rfl, rfl⟩ := hst.no 0 (by omega) hl
     have ST := lh (hst.row 0 (by omega) hl)
     have HSW := lh hSW
     clear hst hSW hi hin hun ho hall hl
     refine wpOp_run rfl rfl fun K' hK => ?_
     go_simp
     exact hK.out _ _ ⟨keep3 HSW.out (Below.heap_alloc _ _ _ hHW), upd x 0 W.heap.size, upd L 0 true, false, false, y0, y4, y6, y9, y12, y15, y16, y17, y18, y22, y23, y24, y25, y26, y27, y28, y29, y30, y31, y32, y33, y34, y35, y36, y37, y38, y39, y40, y41, y42, y43, y44, y45, y46, y47, y48, y49, y50, y51, y52, y53, y54, y55, y56, y57, y58, y59, by simp [upd], by simp [upd, sv, pv, bv, nn], ST.out⟩
   · simp at hun
   · simp at hun
   · have hl : L 1 = false := by simpa using hun
     obtain ⟨rfl, rfl⟩ := hst.no 1 (by omega) hl
     have ST := lh (hst.row 1 (by omega) hl)
     have HSW := lh hSW
     clear hst hSW hi hin hun ho hall hl
     refine wpOp_run rfl rfl fun K' hK => ?_
     go_simp
     exact hK.out _ _ ⟨keep3 HSW.out (Below.heap_alloc _ _ _ hHW), upd x 1 W.heap.size, upd L 1 true, false, false, y0, y4, y6, y9, y12, y15, y16, y17, y18, y22, y23, y24, y25, y26, y27, y28, y29, y30, y31, y32, y33, y34, y35, y36, y37, y38, y39, y40, y41, y42, y43, y44, y45, y46, y47, y48, y49, y50, y51, y52, y53, y54, y55, y56, y57, y58, y59, by simp [upd], by simp [upd, sv, pv, bv, nn], ST.out⟩
   · simp at hun
   · simp at hun
   · have hl : L 2 = false := by simpa using hun
     obtain ⟨rfl, rfl⟩ := hst.no 2 (by omega) hl
     have ST := lh (hst.row 2 (by omega) hl)
     have HSW := lh hSW
     clear hst hSW hi hin hun ho hall hl
     refine wpOp_run rfl rfl fun K' hK => ?_
     go_simp
     exact hK.out _ _ ⟨keep3 HSW.out (Below.heap_alloc _ _ _ hHW), upd x 2 W.heap.size, upd L 2 true, false, false, y0, y4, y6, y9, y12, y15, y16, y17, y18, y22, y23, y24, y25, y26, y27, y28, y29, y30, y31, y32, y33, y34, y35, y36, y37, y38, y39, y40, y41, y42, y43, y44, y45, y46, y47, y48, y49, y50, y51, y52, y53, y54, y55, y56, y57, y58, y59, by simp [upd], by simp [upd, sv, pv, bv, nn], ST.out⟩
   · simp at hun
   · simp at hun
   · have hl : L 3 = false := by simpa using hun
     obtain ⟨rfl, rfl⟩ := hst.no 3 (by omega) hl
     have ST := lh (hst.row 3 (by omega) hl)
     have HSW := lh hSW
     clear hst hSW hi hin hun ho hall hl
     refine wpOp_run rfl rfl fun K' hK => ?_
     go_simp
     exact hK.out _ _ ⟨keep3 HSW.out (Below.heap_alloc _ _ _ hHW), upd x 3 W.heap.size, upd L 3 true, false, false, y0, y4, y6, y9, y12, y15, y16, y17, y18, y22, y23, y24, y25, y26, y27, y28, y29, y30, y31, y32, y33, y34, y35, y36, y37, y38, y39, y40, y41, y42, y43, y44, y45, y46, y47, y48, y49, y50, y51, y52, y53, y54, y55, y56, y57, y58, y59, by simp [upd], by simp [upd, sv, pv, bv, nn], ST.out⟩
   · simp at hun
   · simp at hun
   · simp at hun
   · simp at hun
   · simp at hun
   · have hl : L 4 = false := by simpa using hun
     obtain ⟨rfl, rfl⟩ := hst.no 4 (by omega) hl
     have ST := lh (hst.row 4 (by omega) hl)
     have HSW := lh hSW
     clear hst hSW hi hin hun ho hall hl
     refine wpOp_run rfl rfl fun K' hK => ?_
     go_simp
     exact hK.out _ _ ⟨keep3 HSW.out (Below.heap_alloc _ _ _ hHW), upd x 4 W.heap.size, upd L 4 true, false, false, y0, y4, y6, y9, y12, y15, y16, y17, y18, y22, y23, y24, y25, y26, y27, y28, y29, y30, y31, y32, y33, y34, y35, y36, y37, y38, y39, y40, y41, y42, y43, y44, y45, y46, y47, y48, y49, y50, y51, y52, y53, y54, y55, y56, y57, y58, y59, by simp [upd], by simp [upd, sv, pv, bv, nn], ST.out⟩
   · have hb : b = false := by simpa using hun
     subst hb
     simp at ho
     subst ho
     have hl : ∀ j, j < 5 -> L j = true := by
       intro j hj
       rcases (show j = 0 \/ j = 1 \/ j = 2 \/ j = 3 \/ j = 4 by omega) with rfl | rfl | rfl | rfl | rfl
       · simpa using hall ⟨0, .data⟩ (by simp) rfl
       · simpa using hall ⟨3, .data⟩ (by simp) rfl
       · simpa using hall ⟨6, .data⟩ (by simp) rfl
       · simpa using hall ⟨9, .data⟩ (by simp) rfl
       · simpa using hall ⟨15, .data⟩ (by simp) rfl
     have hd : d = false := by
       cases hd : d
       · rfl
       · have := (hst.put_ hd).1; cases this
     subst hd
     have ST := lh (hst.build rfl hl)
     have HSW := lh hSW
     have e0 : sv L x (nn T M K) 0 = .slice (some ⟨x 0, 0, none⟩) 3 3 := by simp [sv, hl 0 (by omega), nn]
     have e1 : sv L x (nn T M K) 1 = .slice (some ⟨x 1, 0, none⟩) T T := by simp [sv, hl 1 (by omega), nn]
     have e2 : sv L x (nn T M K) 2 = .slice (some ⟨x 2, 0, none⟩) M M := by simp [sv, hl 2 (by omega), nn]
     have e3 : sv L x (nn T M K) 3 = .slice (some ⟨x 3, 0, none⟩) M M := by simp [sv, hl 3 (by omega), nn]
     have e4 : sv L x (nn T M K) 4 = .slice (some ⟨x 4, 0, none⟩) (M * K) (M * K) := by simp [sv, hl 4 (by omega), nn]
     clear hst hSW hi hin hun hall hl
     refine wpOp_run rfl rfl fun K' hK => ?_
     go_simp
     exact hK.out _ _ ⟨HSW.out, x, L, true, false, y0, y4, y6, y9, y12, y15, y16, y17, y18, y22, y23, y24, y25, y26, y27, y28, y29, y30, y31, y32, y33, y34, y35, y36, y37, y38, y39, y40, y41, y42, y43, y44, y45, y46, y47, y48, y49, y50, y51, y52, y53, y54, y55, y56, y57, y58, y59, by simp, by simp [e0, e1, e2, e3, e4, bv, news, nn], ST.out⟩
   · have hl : L 5 = false := by simpa using hun
     obtain rfl := hst.d_false hl
     have ST := lh (hst.new hl)
     have HSW := lh hSW
     clear hst hSW hi hin hun ho hall hl
     refine wpOp_run rfl rfl fun K' hK => ?_
     go_simp
     exact hK.out _ _ ⟨keep3 HSW.out (Below.heap_alloc _ _ _ hHW), upd x 5 W.heap.size, upd L 5 true, b, false, y0, y4, y6, y9, y12, y15, y16, y17, y18, y22, y23, y24, y25, y26, y27, y28, y29, y30, y31, y32, y33, y34, y35, y36, y37, y38, y39, y40, y41, y42, y43, y44, y45, y46, y47, y48, y49, y50, y51, y52, y53, y54, y55, y56, y57, y58, y59, by simp [upd], by simp [upd, sv, pv, bv, nn, news], ST.out⟩
   · have hd : d = false := by simpa using hun
     subst hd
     simp at ho
     subst ho
     have hb : b = true := by simpa using hall ⟨16, .data⟩ (by simp) rfl
     have hl : L 5 = true := by simpa using hall ⟨17, .data⟩ (by simp) rfl
     subst hb
     have ST := lh (hst.store hl)
     have HSW := lh hSW
     have hv := hst.var hl
     have hcv : ∀ i, W.cell? ⟨x 5, i, none⟩ = (#[.int .u64 0, .int .u64 0, .slice none 0 0, .slice none 0 0, .int .u64 0, .int .u64 0, .slice none 0 0, .slice none 0 0, .slice none 0 0] : Array Value)[i]? := hv.cell
     have hfv := hv.frozen
     have hx5 : ¬ w.heap.size = x 5 := by have := (hst.made.old hl).1; omega
     have HX5 := lh hx5
     have ep : pv L x = .pointer (some ⟨x 5, 0, none⟩) := by simp [pv, hl]
     have eb : bv true x (nn T M K) = .agg (#[.int .u64 0, .int .u64 0, .slice (some ⟨x 0, 0, none⟩) 3 3, .slice (some ⟨x 1, 0, none⟩) T T, .int .u64 0, .int .u64 0, .slice (some ⟨x 2, 0, none⟩) M M, .slice (some ⟨x 3, 0, none⟩) M M, .slice (some ⟨x 4, 0, none⟩) (M * K) (M * K)]) := by simp [bv, news, nn]
     clear hst hSW hi hin hun hall hl hv hx5
     refine wpOp_run rfl rfl fun K' hK => ?_
     go_simp
     refine hK.out _ _ ⟨keep3 HSW.out ?_, x, L, true, true, y0, y4, y6, y9, y12, y15, y16, y17, y18, y22, y23, y24, y25, y26, y27, y28, y29, y30, y31, y32, y33, y34, y35, y36, y37, y38, y39, y40, y41, y42, y43, y44, y45, y46, y47, y48, y49, y50, y51, y52, y53, y54, y55, y56, y57, y58, y59, by simp, by simp [ep, eb], ST.out⟩
     simp only [World.setCell, Array.getElem?_modify]
     have hne := HX5.out
     simp [Ne.symm hne]
 case done =>
   rintro listed a W ⟨x, L, b, d, y0, y4, y6, y9, y12, y15, y16, y17, y18, y22, y23, y24, y25, y26, y27, y28, y29, y30, y31, y32, y33, y34, y35, y36, y37, y38, y39, y40, y41, y42, y43, y44, y45, y46, y47, y48, y49, y50, y51, y52, y53, y54, y55, y56, y57, y58, y59, rfl, rfl, hst⟩ hSW hr
   have l0 : L 0 = true := by
     have := all_up hr 0 rfl (by simp)
     simpa using this
   have l1 : L 1 = true := by
     have := all_up hr 3 rfl (by intro e he _; simp at he; subst he; simp)
     simpa using this
   have l2 : L 2 = true := by
     have := all_up hr 6 rfl (by intro e he _; simp at he; subst he; simp)
     simpa using this
   have l3 : L 3 = true := by
     have := all_up hr 9 rfl (by intro e he _; simp at he; subst he; simp)
     simpa using this
   have l4 : L 4 = true := by
     have := all_up hr 15 rfl (by intro e he _; simp at he; subst he; simp)
     simpa using this
   have l5 : L 5 = true := by
     have := all_up hr 17 rfl (by simp)
     simpa using this
   have lb : b = true := by
     have := all_up hr 16 rfl (by intro e he _; simp at he; rcases he with rfl | rfl | rfl | rfl | rfl <;> simp [*])
     simpa using this
   have ld : d = true := by
     have := all_up hr 18 rfl (by intro e he _; simp at he; rcases he with rfl | rfl | rfl | rfl | rfl | rfl | rfl | rfl | rfl | rfl | rfl | rfl | rfl | rfl | rfl | rfl | rfl | rfl | rfl | rfl <;> simp [*])
     simpa using this
   have hl : ∀ j, j < 6 -> L j = true := by
     intro j hj
     rcases (show j = 0 \/ j = 1 \/ j = 2 \/ j = 3 \/ j = 4 \/ j = 5 by omega) with rfl | rfl | rfl | rfl | rfl | rfl <;> assumption
   subst lb
   subst ld
   rw [show pv L x = .pointer (some ⟨x 5, 0, none⟩) by simp [pv, l5]]
   have HST := lh hst
   have HL := lh hl
   have HSW := lh hSW
   clear hr hst hl l0 l1 l2 l3 l4 l5 hSW hS hmk3 hmkT hmkM hmkS hml
   have h0 : Hold W w1.heap.size (x 5) ⟨0, 0, ⟨some ⟨x 0, 0, none⟩, 3, 3⟩, ⟨some ⟨x 1, 0, none⟩, T, T⟩, 0, 0, ⟨some ⟨x 2, 0, none⟩, M, M⟩, ⟨some ⟨x 3, 0, none⟩, M, M⟩, ⟨some ⟨x 4, 0, none⟩, M * K, M * K⟩⟩ (zeroM K T M) := HST.out.hold HL.out (zeroM K T M) ⟨rfl, rfl, rfl, rfl⟩ ⟨rfl, rfl, rfl, rfl, rfl⟩ (fun j => by unfold nn maxLen; split <;> (try split) <;> (try split) <;> omega)
   have H0 := lh h0
   have hg1 : w1.heap.size <= x 5 := h0.2.1
   have hx2 : w1.heap.size <= x 2 /\ x 2 < W.heap.size := ((h0.2.2.2.2.2.2.2.1 7 (.inr (.inr (.inl rfl)))).lt rfl)
   have hx25 : x 2 ≠ x 5 := (h0.2.2.2.2.2.2.2.2 7 (.inr (.inr (.inl rfl))) _ rfl).1
   have HX2 := lh hx2
   have HX25 := lh hx25
   have BW : Hid (Below w1.heap.size w1 W) := lh HST.out.below
   have XW := lh (X1.out.below BW.out hHc)
   have YW := lh (Y1.out.below BW.out Y1.out.lt)
   have hY1 := Y1.out.lt
   have hxW := XW.out.cell
   have hyW := YW.out.cell
   have hfW := YW.out.frozen
   have hvW : ∀ i, W.cell? ⟨x 5, i, none⟩ = (#[.int .u64 0, .int .u64 0, .slice (some ⟨x 0, 0, none⟩) 3 3, .slice (some ⟨x 1, 0, none⟩) T T, .int .u64 0, .int .u64 0, .slice (some ⟨x 2, 0, none⟩) M M, .slice (some ⟨x 3, 0, none⟩) M M, .slice (some ⟨x 4, 0, none⟩) (M * K) (M * K)] : Array Value)[i]? := h0.1.cell
   have hgW := h0.1.frozen
   have hn0 : ¬ w.heap.size = x 5 := by omega
   have hn1 : ¬ w.heap.size + 1 = x 5 := by omega
   clear h0 hx2 hx25 B0 X0 Y0 HST HL HSW
   rcases (show k = 2 \/ k = 1 \/ k = 3 by omega) with rfl | rfl | rfl
   · clear hgW k1 k2
     go_wp2
     refine bodyPost_ret (v := .agg #[.int .u64 0, .int .u64 0, .slice (some ⟨x 0, 0, none⟩) 3 3, .slice (some ⟨x 1, 0, none⟩) T T, .int .u64 0, .int .u64 0, .slice (some ⟨x 2, 0, none⟩) M M, .slice (some ⟨x 3, 0, none⟩) M M, .slice (some ⟨x 4, 0, none⟩) (M * K) (M * K)]) (by simp [results, Tryz.results58, go_sem, hyW]) rfl ?_
     refine ⟨⟨0, 0, ⟨some ⟨x 0, 0, none⟩, 3, 3⟩, ⟨some ⟨x 1, 0, none⟩, T, T⟩, 0, 0, ⟨some ⟨x 2, 0, none⟩, M, M⟩, ⟨some ⟨x 3, 0, none⟩, M, M⟩, ⟨some ⟨x 4, 0, none⟩, M * K, M * K⟩⟩, rfl, ⟨rfl, rfl, rfl, rfl⟩, newM_ok _ _ _ _ m2, ?_, below_nine (hBB.out.trans (BW.out.mono hBB.out.size)) (by omega) _ _ _ _ _ _ _ _ _⟩
     refine five_weaken (five_end (z := zeroM K T M) H0.out (fun _ => rfl) (fun k hk _ _ => heap_nine _ _ _ _ _ _ _ _ _ _ _ k (by omega)) ?_ ⟨rfl, rfl, rfl, rfl⟩) hBB.out.size
     show Own _ _ ⟨some ⟨x 2, 0, none⟩, M, M⟩ (linked M M M)
     rw [linked_zero M M M (by omega)]
     exact own_kept_at (H0.out.2.2.2.2.2.2.2.1 7 (.inr (.inr (.inl rfl)))) (heap_nine _ _ _ _ _ _ _ _ _ _ _ _ (show x 2 ≠ w.heap.size + 1 by have := HX2.out; omega))
   · have V2 : Hid (Blk ((((W.setCell ⟨x 5, 1, none⟩ (.int .u64 1)).setCell ⟨x 5, 4, none⟩ (.int .u64 1)).setCell ⟨x 5, 5, none⟩ (.int .u64 1)).setCell ⟨x 5, 1, none⟩ (.int .u64 2)) (x 5) 33 #[.int .u64 0, .int .u64 2, .slice (some ⟨x 0, 0, none⟩) 3 3, .slice (some ⟨x 1, 0, none⟩) T T, .int .u64 1, .int .u64 1, .slice (some ⟨x 2, 0, none⟩) M M, .slice (some ⟨x 3, 0, none⟩) M M, .slice (some ⟨x 4, 0, none⟩) (M * K) (M * K)]) := lh (by
       have hb := ((((H0.out.1.set_ 1 (.int .u64 1)).set_ 4 (.int .u64 1)).set_ 5 (.int .u64 1)).set_ 1 (.int .u64 2))
       simp only [R.cells, List.setIfInBounds_toArray, List.set_cons_zero, List.set_cons_succ] at hb
       exact hb)
     have X2 : Hid (Blk ((((W.setCell ⟨x 5, 1, none⟩ (.int .u64 1)).setCell ⟨x 5, 4, none⟩ (.int .u64 1)).setCell ⟨x 5, 5, none⟩ (.int .u64 1)).setCell ⟨x 5, 1, none⟩ (.int .u64 2)) w.heap.size 23 #[.int .i64 1, .int .i64 K, .int .i64 T, .int .i64 M]) := lh ((((XW.out.far (p := ⟨x 5, 1, none⟩) hn0 (.int .u64 1)).far (p := ⟨x 5, 4, none⟩) hn0 (.int .u64 1)).far (p := ⟨x 5, 5, none⟩) hn0 (.int .u64 1)).far (p := ⟨x 5, 1, none⟩) hn0 (.int .u64 2))
     have Y2 : Hid (Blk ((((W.setCell ⟨x 5, 1, none⟩ (.int .u64 1)).setCell ⟨x 5, 4, none⟩ (.int .u64 1)).setCell ⟨x 5, 5, none⟩ (.int .u64 1)).setCell ⟨x 5, 1, none⟩ (.int .u64 2)) (w.heap.size + 1) 33 #[.int .u64 0, .int .u64 0, .slice none 0 0, .slice none 0 0, .int .u64 0, .int .u64 0, .slice none 0 0, .slice none 0 0, .slice none 0 0]) := lh ((((YW.out.far (p := ⟨x 5, 1, none⟩) hn1 (.int .u64 1)).far (p := ⟨x 5, 4, none⟩) hn1 (.int .u64 1)).far (p := ⟨x 5, 5, none⟩) hn1 (.int .u64 1)).far (p := ⟨x 5, 1, none⟩) hn1 (.int .u64 2))
     have O2 : Hid (Own ((((W.setCell ⟨x 5, 1, none⟩ (.int .u64 1)).setCell ⟨x 5, 4, none⟩ (.int .u64 1)).setCell ⟨x 5, 5, none⟩ (.int .u64 1)).setCell ⟨x 5, 1, none⟩ (.int .u64 2)) w1.heap.size ⟨some ⟨x 2, 0, none⟩, M, M⟩ (List.replicate M 0)) := lh (((((H0.out.2.2.2.2.2.2.2.1 7 (.inr (.inr (.inl rfl)))).far (p := ⟨x 5, 1, none⟩) (fun ad had => by injection had with had; subst had; exact HX25.out) (.int .u64 1)).far (p := ⟨x 5, 4, none⟩) (fun ad had => by injection had with had; subst had; exact HX25.out) (.int .u64 1)).far (p := ⟨x 5, 5, none⟩) (fun ad had => by injection had with had; subst had; exact HX25.out) (.int .u64 1)).far (p := ⟨x 5, 1, none⟩) (fun ad had => by injection had with had; subst had; exact HX25.out) (.int .u64 2))
     have BE : Hid (Below w1.heap.size w1 ((((W.setCell ⟨x 5, 1, none⟩ (.int .u64 1)).setCell ⟨x 5, 4, none⟩ (.int .u64 1)).setCell ⟨x 5, 5, none⟩ (.int .u64 1)).setCell ⟨x 5, 1, none⟩ (.int .u64 2))) := lh ((((BW.out.setCell (p := ⟨x 5, 1, none⟩) hg1 (.int .u64 1)).setCell (p := ⟨x 5, 4, none⟩) hg1 (.int .u64 1)).setCell (p := ⟨x 5, 5, none⟩) hg1 (.int .u64 1)).setCell (p := ⟨x 5, 1, none⟩) hg1 (.int .u64 2))
     have HE : Hid (∀ k, k ≠ x 5 -> ((((W.setCell ⟨x 5, 1, none⟩ (.int .u64 1)).setCell ⟨x 5, 4, none⟩ (.int .u64 1)).setCell ⟨x 5, 5, none⟩ (.int .u64 1)).setCell ⟨x 5, 1, none⟩ (.int .u64 2)).heap[k]? = W.heap[k]?) := lh fun k hk5 => ((Below.heap_setCell (((W.setCell ⟨x 5, 1, none⟩ (.int .u64 1)).setCell ⟨x 5, 4, none⟩ (.int .u64 1)).setCell ⟨x 5, 5, none⟩ (.int .u64 1)) ⟨x 5, 1, none⟩ (.int .u64 2) k hk5).trans ((Below.heap_setCell ((W.setCell ⟨x 5, 1, none⟩ (.int .u64 1)).setCell ⟨x 5, 4, none⟩ (.int .u64 1)) ⟨x 5, 5, none⟩ (.int .u64 1) k hk5).trans ((Below.heap_setCell (W.setCell ⟨x 5, 1, none⟩ (.int .u64 1)) ⟨x 5, 4, none⟩ (.int .u64 1) k hk5).trans ((Below.heap_setCell W ⟨x 5, 1, none⟩ (.int .u64 1) k hk5).trans (Eq.refl (W.heap[k]?))))))
     have ZE : Hid (((((W.setCell ⟨x 5, 1, none⟩ (.int .u64 1)).setCell ⟨x 5, 4, none⟩ (.int .u64 1)).setCell ⟨x 5, 5, none⟩ (.int .u64 1)).setCell ⟨x 5, 1, none⟩ (.int .u64 2)).heap.size = W.heap.size) := lh (by simp only [size_set])
     go_wp2_with (go_at_call 63; refine (refr0_c _ _ (by omega) (by omega)).mono ?_; rintro e w' ⟨rfl, rfl⟩)
     generalize ((((W.setCell ⟨x 5, 1, none⟩ (.int .u64 1)).setCell ⟨x 5, 4, none⟩ (.int .u64 1)).setCell ⟨x 5, 5, none⟩ (.int .u64 1)).setCell ⟨x 5, 1, none⟩ (.int .u64 2)) = V at V2 X2 Y2 O2 BE HE ZE ⊢
     clear hxW hyW hfW hvW hgW
     go_loopw [4] (fun i wr => ∃ h : Nat, i = .int .i64 h /\ h + 1 <= M /\ Own wr w1.heap.size ⟨some ⟨x 2, 0, none⟩, M, M⟩ (linked 1 M (h + 1)) /\ Blk wr (x 5) 33 #[.int .u64 0, .int .u64 2, .slice (some ⟨x 0, 0, none⟩) 3 3, .slice (some ⟨x 1, 0, none⟩) T T, .int .u64 1, .int .u64 1, .slice (some ⟨x 2, 0, none⟩) M M, .slice (some ⟨x 3, 0, none⟩) M M, .slice (some ⟨x 4, 0, none⟩) (M * K) (M * K)] /\ Blk wr w.heap.size 23 #[.int .i64 1, .int .i64 K, .int .i64 T, .int .i64 M] /\ Blk wr (w.heap.size + 1) 33 #[.int .u64 0, .int .u64 0, .slice none 0 0, .slice none 0 0, .int .u64 0, .int .u64 0, .slice none 0 0, .slice none 0 0, .slice none 0 0] /\ Just (x 2) V wr) (fun i _ => M - (intOf i).toNat)
     case atStart => exact ⟨0, rfl, by omega, by rw [linked_zero 1 M (0 + 1) (by omega)]; exact O2.out, V2.out, X2.out, Y2.out, Just.refl _ _⟩
     case round =>
     obtain ⟨i, rfl, hi, ho, hv, hxc, hyc, hj⟩ := hrel
     have HO := lh ho
     have HV := lh hv
     have HXC := lh hxc
     have HYC := lh hyc
     have HJ := lh hj
     have rv := hv.cell
     have rx := hxc.cell
     have ry := hyc.cell
     have fy := hyc.frozen
     obtain ⟨g', hA, _, _, hci, hfi⟩ := ho.at_ (k := i) (by rw [linked_len]; omega)
     injection hA with hA
     injection hA with hA
     subst hA
     have i0 : (0 : Int) <= (i : Int) := by omega
     have i1 : (i : Int) < (M : Int) := by omega
     have hx52 : ¬ x 2 = x 5 := HX25.out
     have hx53 : ¬ x 5 = x 2 := Ne.symm HX25.out
     clear ho hv hxc hyc hj
     by_cases hlt : i + 1 < M
     · have hlt' : (i : Int) + 1 < (M : Int) := by omega
       have p0 : (0 : Int) <= (i : Int) + 1 := by omega
       have p1 : (i : Int) + 1 <= 1000 := by omega
       have hwr : IntKind.i64.wrap ((i : Int) + 1) = (i : Int) + 1 := IntWalk.i64_in _ (by omega)
       by_cases h0 : i = 0
       · have hz : decide ((0 : Int) < (i : Int)) = false := by simp; omega
         have hz' : decide (0 < i) = false := by simp; omega
         have HZ := lh h0
         clear h0 hwr
         go_wp2
         go_roundw
         case rel =>
           refine ⟨i + 1, by go_num, by omega, ?_, HV.out, HXC.out, HYC.out, HJ.out⟩
           rw [linked_skip 1 M i (by have := HZ.out; omega)]; exact HO.out
         case measure => simp [intOf]; omega
       · have hp : 0 < i := by omega
         clear h0
         go_wp2_with fail
         go_region_held3 (fun w' => w'.cell? ⟨x 5, 6, none⟩ = some (.slice (some ⟨x 2, 0, none⟩) M M)) (go_keep) (first | (go_at_call 63; refine (refr0_c _ _ p0 p1).mono ?_; rintro e w' ⟨rfl, rfl⟩))
         clear hwr
         go_wp2
         go_roundw
         case rel =>
           have hs := HO.out.set_ (k := i) rfl ((i : Int) + 2) (by omega)
           rw [linked_set 1 M i (by omega) hlt] at hs
           have e2 : (i : Int) + 1 + 1 = (i : Int) + 2 := by omega
           simp only [e2]
           exact ⟨i + 1, by go_num, by omega, hs, HV.out.far (p := ⟨x 2, i, none⟩) (Ne.symm HX25.out) _, HXC.out.far (p := ⟨x 2, i, none⟩) (by have := HX2.out; show w.heap.size ≠ x 2; omega) _, HYC.out.far (p := ⟨x 2, i, none⟩) (by have := HX2.out; show w.heap.size + 1 ≠ x 2; omega) _, (HJ.out.set_ _ _).drew⟩
         case measure => simp [intOf]; omega
     · obtain rfl : M = i + 1 := by omega
       clear hci hfi
       go_wp2
       refine bodyPost_ret (v := .agg #[.int .u64 0, .int .u64 2, .slice (some ⟨x 0, 0, none⟩) 3 3, .slice (some ⟨x 1, 0, none⟩) T T, .int .u64 1, .int .u64 1, .slice (some ⟨x 2, 0, none⟩) (i + 1) (i + 1), .slice (some ⟨x 3, 0, none⟩) (i + 1) (i + 1), .slice (some ⟨x 4, 0, none⟩) ((i + 1) * K) ((i + 1) * K)]) (by simp [results, Tryz.results58, go_sem, ry]) rfl ?_
       have J := HJ.out
       have hx2 := HX2.out
       have hj (k : Nat) (h5 : k ≠ x 5) (h2 : k ≠ x 2) : wr.heap[k]? = W.heap[k]? := by
         rcases Nat.lt_or_ge k V.heap.size with hlt | hge
         · exact (J.1.block k hlt (fun e => h2 (by injection e))).trans (HE.out k h5)
         · have z1 := J.2
           have z2 := ZE.out
           rw [Array.getElem?_eq_none (by omega), Array.getElem?_eq_none (by omega)]
       refine ⟨⟨0, 2, ⟨some ⟨x 0, 0, none⟩, 3, 3⟩, ⟨some ⟨x 1, 0, none⟩, T, T⟩, 1, 1, ⟨some ⟨x 2, 0, none⟩, i + 1, i + 1⟩, ⟨some ⟨x 3, 0, none⟩, i + 1, i + 1⟩, ⟨some ⟨x 4, 0, none⟩, (i + 1) * K, (i + 1) * K⟩⟩, rfl, ⟨rfl, rfl, rfl, rfl⟩, newM_ok _ _ _ _ m2, ?_, ?_⟩
       · refine five_weaken (five_end (z := zeroM K T (i + 1)) H0.out (fun _ => rfl) (fun k hk h5 h7 => (heap_nine _ _ _ _ _ _ _ _ _ _ _ k (by omega)).trans (hj k h5 (h7 _ rfl))) ?_ ⟨rfl, rfl, rfl, rfl⟩) hBB.out.size
         show Own _ _ ⟨some ⟨x 2, 0, none⟩, i + 1, i + 1⟩ (linked 1 (i + 1) (i + 1))
         exact own_kept_at HO.out (heap_nine _ _ _ _ _ _ _ _ _ _ _ _ (show x 2 ≠ w.heap.size + 1 by omega))
       · have hb3 : Below w1.heap.size w1 wr := BE.out.trans (just_below J hx2.1 BE.out.size)
         exact below_nine (hBB.out.trans (hb3.mono hBB.out.size)) (by omega) _ _ _ _ _ _ _ _ _
   · have V2 : Hid (Blk (W.setCell ⟨x 5, 1, none⟩ (.int .u64 1)) (x 5) 33 #[.int .u64 0, .int .u64 1, .slice (some ⟨x 0, 0, none⟩) 3 3, .slice (some ⟨x 1, 0, none⟩) T T, .int .u64 0, .int .u64 0, .slice (some ⟨x 2, 0, none⟩) M M, .slice (some ⟨x 3, 0, none⟩) M M, .slice (some ⟨x 4, 0, none⟩) (M * K) (M * K)]) := lh (by
       have hb := (H0.out.1.set_ 1 (.int .u64 1))
       simp only [R.cells, List.setIfInBounds_toArray, List.set_cons_zero, List.set_cons_succ] at hb
       exact hb)
     have X2 : Hid (Blk (W.setCell ⟨x 5, 1, none⟩ (.int .u64 1)) w.heap.size 23 #[.int .i64 3, .int .i64 K, .int .i64 T, .int .i64 M]) := lh (XW.out.far (p := ⟨x 5, 1, none⟩) hn0 (.int .u64 1))
     have Y2 : Hid (Blk (W.setCell ⟨x 5, 1, none⟩ (.int .u64 1)) (w.heap.size + 1) 33 #[.int .u64 0, .int .u64 0, .slice none 0 0, .slice none 0 0, .int .u64 0, .int .u64 0, .slice none 0 0, .slice none 0 0, .slice none 0 0]) := lh (YW.out.far (p := ⟨x 5, 1, none⟩) hn1 (.int .u64 1))
     have O2 : Hid (Own (W.setCell ⟨x 5, 1, none⟩ (.int .u64 1)) w1.heap.size ⟨some ⟨x 2, 0, none⟩, M, M⟩ (List.replicate M 0)) := lh ((H0.out.2.2.2.2.2.2.2.1 7 (.inr (.inr (.inl rfl)))).far (p := ⟨x 5, 1, none⟩) (fun ad had => by injection had with had; subst had; exact HX25.out) (.int .u64 1))
     have BE : Hid (Below w1.heap.size w1 (W.setCell ⟨x 5, 1, none⟩ (.int .u64 1))) := lh (BW.out.setCell (p := ⟨x 5, 1, none⟩) hg1 (.int .u64 1))
     have HE : Hid (∀ k, k ≠ x 5 -> (W.setCell ⟨x 5, 1, none⟩ (.int .u64 1)).heap[k]? = W.heap[k]?) := lh fun k hk5 => ((Below.heap_setCell W ⟨x 5, 1, none⟩ (.int .u64 1) k hk5).trans (Eq.refl (W.heap[k]?)))
     have ZE : Hid ((W.setCell ⟨x 5, 1, none⟩ (.int .u64 1)).heap.size = W.heap.size) := lh (by simp only [size_set])
     go_wp2_with (go_at_call 63; refine (refr0_c _ _ (by omega) (by omega)).mono ?_; rintro e w' ⟨rfl, rfl⟩)
     generalize (W.setCell ⟨x 5, 1, none⟩ (.int .u64 1)) = V at V2 X2 Y2 O2 BE HE ZE ⊢
     clear hxW hyW hfW hvW hgW
     go_loopw [4] (fun i wr => ∃ h : Nat, i = .int .i64 h /\ h + 1 <= M /\ Own wr w1.heap.size ⟨some ⟨x 2, 0, none⟩, M, M⟩ (linked 0 M (h + 1)) /\ Blk wr (x 5) 33 #[.int .u64 0, .int .u64 1, .slice (some ⟨x 0, 0, none⟩) 3 3, .slice (some ⟨x 1, 0, none⟩) T T, .int .u64 0, .int .u64 0, .slice (some ⟨x 2, 0, none⟩) M M, .slice (some ⟨x 3, 0, none⟩) M M, .slice (some ⟨x 4, 0, none⟩) (M * K) (M * K)] /\ Blk wr w.heap.size 23 #[.int .i64 3, .int .i64 K, .int .i64 T, .int .i64 M] /\ Blk wr (w.heap.size + 1) 33 #[.int .u64 0, .int .u64 0, .slice none 0 0, .slice none 0 0, .int .u64 0, .int .u64 0, .slice none 0 0, .slice none 0 0, .slice none 0 0] /\ Just (x 2) V wr) (fun i _ => M - (intOf i).toNat)
     case atStart => exact ⟨0, rfl, by omega, by rw [linked_zero 0 M (0 + 1) (by omega)]; exact O2.out, V2.out, X2.out, Y2.out, Just.refl _ _⟩
     case round =>
     obtain ⟨i, rfl, hi, ho, hv, hxc, hyc, hj⟩ := hrel
     have HO := lh ho
     have HV := lh hv
     have HXC := lh hxc
     have HYC := lh hyc
     have HJ := lh hj
     have rv := hv.cell
     have rx := hxc.cell
     have ry := hyc.cell
     have fy := hyc.frozen
     obtain ⟨g', hA, _, _, hci, hfi⟩ := ho.at_ (k := i) (by rw [linked_len]; omega)
     injection hA with hA
     injection hA with hA
     subst hA
     have i0 : (0 : Int) <= (i : Int) := by omega
     have i1 : (i : Int) < (M : Int) := by omega
     have hx52 : ¬ x 2 = x 5 := HX25.out
     have hx53 : ¬ x 5 = x 2 := Ne.symm HX25.out
     clear ho hv hxc hyc hj
     by_cases hlt : i + 1 < M
     · have hlt' : (i : Int) + 1 < (M : Int) := by omega
       have p0 : (0 : Int) <= (i : Int) + 1 := by omega
       have p1 : (i : Int) + 1 <= 1000 := by omega
       have hwr : IntKind.i64.wrap ((i : Int) + 1) = (i : Int) + 1 := IntWalk.i64_in _ (by omega)
       by_cases h0 : i = 0
       · have hz : decide ((0 : Int) < (i : Int)) = false := by simp; omega
         have hz' : decide (0 < i) = false := by simp; omega
         clear h0
         go_wp2_with fail
         go_region_held3 (fun w' => w'.cell? ⟨x 5, 6, none⟩ = some (.slice (some ⟨x 2, 0, none⟩) M M)) (go_keep) (first | (go_at_call 63; refine (refr0_c _ _ p0 p1).mono ?_; rintro e w' ⟨rfl, rfl⟩))
         clear hwr
         go_wp2
         go_roundw
         case rel =>
           have hs := HO.out.set_ (k := i) rfl ((i : Int) + 2) (by omega)
           rw [linked_set 0 M i (by omega) hlt] at hs
           have e2 : (i : Int) + 1 + 1 = (i : Int) + 2 := by omega
           simp only [e2]
           exact ⟨i + 1, by go_num, by omega, hs, HV.out.far (p := ⟨x 2, i, none⟩) (Ne.symm HX25.out) _, HXC.out.far (p := ⟨x 2, i, none⟩) (by have := HX2.out; show w.heap.size ≠ x 2; omega) _, HYC.out.far (p := ⟨x 2, i, none⟩) (by have := HX2.out; show w.heap.size + 1 ≠ x 2; omega) _, (HJ.out.set_ _ _).drew⟩
         case measure => simp [intOf]; omega
       · have hp : 0 < i := by omega
         clear h0
         go_wp2_with fail
         go_region_held3 (fun w' => w'.cell? ⟨x 5, 6, none⟩ = some (.slice (some ⟨x 2, 0, none⟩) M M)) (go_keep) (first | (go_at_call 63; refine (refr0_c _ _ p0 p1).mono ?_; rintro e w' ⟨rfl, rfl⟩))
         clear hwr
         go_wp2
         go_roundw
         case rel =>
           have hs := HO.out.set_ (k := i) rfl ((i : Int) + 2) (by omega)
           rw [linked_set 0 M i (by omega) hlt] at hs
           have e2 : (i : Int) + 1 + 1 = (i : Int) + 2 := by omega
           simp only [e2]
           exact ⟨i + 1, by go_num, by omega, hs, HV.out.far (p := ⟨x 2, i, none⟩) (Ne.symm HX25.out) _, HXC.out.far (p := ⟨x 2, i, none⟩) (by have := HX2.out; show w.heap.size ≠ x 2; omega) _, HYC.out.far (p := ⟨x 2, i, none⟩) (by have := HX2.out; show w.heap.size + 1 ≠ x 2; omega) _, (HJ.out.set_ _ _).drew⟩
         case measure => simp [intOf]; omega
     · obtain rfl : M = i + 1 := by omega
       clear hci hfi
       go_wp2
       refine bodyPost_ret (v := .agg #[.int .u64 0, .int .u64 1, .slice (some ⟨x 0, 0, none⟩) 3 3, .slice (some ⟨x 1, 0, none⟩) T T, .int .u64 0, .int .u64 0, .slice (some ⟨x 2, 0, none⟩) (i + 1) (i + 1), .slice (some ⟨x 3, 0, none⟩) (i + 1) (i + 1), .slice (some ⟨x 4, 0, none⟩) ((i + 1) * K) ((i + 1) * K)]) (by simp [results, Tryz.results58, go_sem, ry]) rfl ?_
       have J := HJ.out
       have hx2 := HX2.out
       have hj (k : Nat) (h5 : k ≠ x 5) (h2 : k ≠ x 2) : wr.heap[k]? = W.heap[k]? := by
         rcases Nat.lt_or_ge k V.heap.size with hlt | hge
         · exact (J.1.block k hlt (fun e => h2 (by injection e))).trans (HE.out k h5)
         · have z1 := J.2
           have z2 := ZE.out
           rw [Array.getElem?_eq_none (by omega), Array.getElem?_eq_none (by omega)]
       refine ⟨⟨0, 1, ⟨some ⟨x 0, 0, none⟩, 3, 3⟩, ⟨some ⟨x 1, 0, none⟩, T, T⟩, 0, 0, ⟨some ⟨x 2, 0, none⟩, i + 1, i + 1⟩, ⟨some ⟨x 3, 0, none⟩, i + 1, i + 1⟩, ⟨some ⟨x 4, 0, none⟩, (i + 1) * K, (i + 1) * K⟩⟩, rfl, ⟨rfl, rfl, rfl, rfl⟩, newM_ok _ _ _ _ m2, ?_, ?_⟩
       · refine five_weaken (five_end (z := zeroM K T (i + 1)) H0.out (fun _ => rfl) (fun k hk h5 h7 => (heap_nine _ _ _ _ _ _ _ _ _ _ _ k (by omega)).trans (hj k h5 (h7 _ rfl))) ?_ ⟨rfl, rfl, rfl, rfl⟩) hBB.out.size
         show Own _ _ ⟨some ⟨x 2, 0, none⟩, i + 1, i + 1⟩ (linked 0 (i + 1) (i + 1))
         exact own_kept_at HO.out (heap_nine _ _ _ _ _ _ _ _ _ _ _ _ (show x 2 ≠ w.heap.size + 1 by omega))
       · have hb3 : Below w1.heap.size w1 wr := BE.out.trans (just_below J hx2.1 BE.out.size)
         exact below_nine (hBB.out.trans (hb3.mono hBB.out.size)) (by omega) _ _ _ _ _ _ _ _ _
end Go.Proofs.YtffppdcpiieapaaGreat.Newc

namespace Go.Proofs.YtffppdcpiieapaaGreat.Memc
open Go.RowKit
set_option linter.unusedVariables false
set_option maxRecDepth 100000

theorem u64_cell : (Tryz.prog.info? 30).map (fun i => (i.zero, i.size, i.bytes)) = some (some (.int .u64 0), 1, 8) := by kernel_rfl

theorem own_of_row {w : World} {base : Nat} {v : Value} {n : Nat} {xs : List Int} (hu : u64s xs) (hn : n = xs.length) (h : w.ownsRow base 30 1 v n (xs.map (Value.int .u64))) :
   ∃ s : Sl, v = .slice s.A s.n s.c /\ Own w base s xs := by
 subst hn
 rcases h.2 with ⟨hv, _⟩ | ⟨g, cap, cur, hv, _⟩
 · exact ⟨⟨none, 0, 0⟩, hv, hu, by rw [hv] at h; exact h⟩
 · exact ⟨⟨some ⟨g, 0, none⟩, xs.length, cap⟩, hv, hu, by rw [hv] at h; exact h⟩

theorem run_app (w : World) (ty : TypeId) (base B : Nat) (s0 s : Sl) (xs ys : List Int) (h0 : Own w base s0 xs) (h : Rd w B s ys) (hl : xs.length + ys.length <= 2000000) (hb : base <= w.heap.size) :
   ∃ s' w', (Builtin.append_ #[31, 31] ty #[.slice s0.A s0.n s0.c, .slice s.A s.n s.c]).run Tryz.prog w = .ok (.slice s'.A s'.n s'.c) w' /\ Own w' base s' (xs ++ ys) /\ Below base w w' := by
 obtain ⟨i0, hi0, hz0, hz1, hz2⟩ := info_parts u64_cell
 obtain ⟨A, n, c⟩ := s
 have hu : u64s (xs ++ ys) := fun x hx => (List.mem_append.1 hx).elim (h0.1 x) (h.2.2.2.1 x)
 rcases A with _ | ad
 · have hc : c = 0 := h.2.2.2.2.1 rfl
   have hn : n = 0 := by have := h.2.1; simp only at this; omega
   subst hc
   subst hn
   have hy : ys = [] := List.eq_nil_of_length_eq_zero h.1.symm
   subst hy
   refine ⟨s0, w, ?_, by simpa using h0, Below.refl _ _⟩
   exact run_append_owned_none (P := Tryz.prog) (w := w) base 31 ty 30 i0 1 Tryz.underlying31 hi0 _ _ _ h0.2
 · have hn : n = ys.length := h.1
   subst hn
   have hnews : ∀ (j : Nat) (u : Value), (ys.map (Value.int .u64))[j]? = some u -> w.cell? (ad.add j) = some u := by
     intro j u hj
     rw [List.getElem?_map] at hj
     rcases hx : ys[j]? with _ | x
     · rw [hx] at hj; cases hj
     · rw [hx] at hj
       obtain ⟨ad', e, _, hc⟩ := h.2.2.2.2.2 (by show 0 < ys.length; have := (List.getElem?_eq_some_iff.1 hx).1; omega)
       injection e with e
       subst e
       rw [hc j x hx]; exact hj
   obtain ⟨v', w', hr, h2, h3, _⟩ := run_append_own (P := Tryz.prog) w base 31 ty 30 i0 _ 1 8 Tryz.underlying31 hi0 hz0 hz1 hz2 rfl (by omega) _ _ _ h0.2 ad ys.length c (ys.map (Value.int .u64)) (by simp) hnews
     (by intro u hu'; obtain ⟨x, _, rfl⟩ := List.mem_map.1 hu'; rfl) (by unfold maxLen; omega) (by omega) hb
   rw [<- List.map_append] at h2
   obtain ⟨s', rfl, hs'⟩ := own_of_row hu (by simp) h2
   have hn0 : s0.n = xs.length := h0.n_.1
   have hgb : Below base w w' := (Below.refl _ _).grown h3 hb (fun k hk => (h0.2.lt k (by rw [<- hk])).1)
   exact ⟨s', w', hr, hs', hgb⟩

theorem wp_app {w : World} {o : Oper} {a : Act} {K : Act -> World -> Prop} {Q : Exit -> Act -> World -> Prop} (x y : Operand) (ho : o.op = .call { callee := .builtin .append, args := #[x, y], argTypes := #[31, 31] })
   (base B : Nat) (s0 s : Sl) (xs ys : List Int) (hx : a.eval x = .slice s0.A s0.n s0.c) (hy : a.eval y = .slice s.A s.n s.c) (h0 : Own w base s0 xs) (h : Rd w B s ys) (hl : xs.length + ys.length <= 2000000) (hb : base <= w.heap.size)
   (hk : ∀ s' w', Own w' base s' (xs ++ ys) -> Below base w w' -> K (a.put o.dst (.slice s'.A s'.n s'.c)) w') : o.wp Tryz.prog a w K Q := by
 obtain ⟨s', w', hr, h2, h3⟩ := run_app w o.type base B s0 s xs ys h0 h hl hb
 unfold Oper.wp execOp
 simp only [ho, resolve, invoke, builtin, Sem.run_bind, Sem.run_pure, Result.andThen_ok, List.map_toArray, List.map_cons, List.map_nil, hx, hy, hr]
 exact hk s' w' h2 h3

theorem wpList_app {w : World} {ops : Array Oper} {rest : List Oper} {o : Oper} {a : Act} {Q : Exit -> Act -> World -> Prop} (hgd : o.guard = none) (x y : Operand) (ho : o.op = .call { callee := .builtin .append, args := #[x, y], argTypes := #[31, 31] })
   (base B : Nat) (s0 s : Sl) (xs ys : List Int) (hx : a.eval x = .slice s0.A s0.n s0.c) (hy : a.eval y = .slice s.A s.n s.c) (h0 : Own w base s0 xs) (h : Rd w B s ys) (hl : xs.length + ys.length <= 2000000) (hb : base <= w.heap.size)
   (hk : ∀ s' w', Own w' base s' (xs ++ ys) -> Below base w w' -> wpList Tryz.prog ops Q rest (a.put o.dst (.slice s'.A s'.n s'.c)) w') : wpList Tryz.prog ops Q (o :: rest) a w :=
 wpList_plain hgd fun _ hK => wp_app x y ho base B s0 s xs ys hx hy h0 h hl hb fun s' w' h2 h3 => hK _ _ (hk s' w' h2 h3)

end Go.Proofs.YtffppdcpiieapaaGreat.Memc

namespace Go.Proofs.YtffppdcpiieapaaGreat.Refc
open Go.RowKit Memc
set_option linter.unusedVariables false
set_option maxRecDepth 100000

def Off (r : R) (b : Nat) : Prop := ∀ a, la a -> ∀ ad, 0 < (r.sl a).n -> (r.sl a).A = some ad -> ad.block ≠ b

theorem Rd.far {w : World} {B : Nat} {s : Sl} {xs : List Int} (h : Rd w B s xs) {p : Addr} (hp : ∀ ad, 0 < s.n -> s.A = some ad -> ad.block ≠ p.block) (v : Value) : Rd (w.setCell p v) B s xs :=
 ⟨h.1, h.2.1, h.2.2.1, h.2.2.2.1, h.2.2.2.2.1, fun hn => by
   obtain ⟨ad, e, hb, hc⟩ := h.2.2.2.2.2 hn
   exact ⟨ad, e, hb, fun j u hu => (World.cell?_setCell_other w p _ v (fun e' => hp ad hn e (by rw [e', block_of_add]))).trans (hc j u hu)⟩⟩
theorem rd_nine {W : World} {B b : Nat} {s : Sl} {xs : List Int} (h : Rd W B s xs) (hne : ∀ ad, 0 < s.n -> s.A = some ad -> ad.block ≠ b) (r : R) : Rd (((((((((W.setCell ⟨b, 0, none⟩ (.int .u64 r.e)).setCell ⟨b, 1, none⟩ (.int .u64 r.f)).setCell ⟨b, 2, none⟩ (.slice r.L.A r.L.n r.L.c)).setCell ⟨b, 3, none⟩ (.slice r.P.A r.P.n r.P.c)).setCell ⟨b, 4, none⟩ (.int .u64 r.h)).setCell ⟨b, 5, none⟩ (.int .u64 r.t)).setCell ⟨b, 6, none⟩ (.slice r.K.A r.K.n r.K.c)).setCell ⟨b, 7, none⟩ (.slice r.X.A r.X.n r.X.c)).setCell ⟨b, 8, none⟩ (.slice r.S.A r.S.n r.S.c)) B s xs := by
 exact Rd.far (Rd.far (Rd.far (Rd.far (Rd.far (Rd.far (Rd.far (Rd.far (Rd.far h (p := ⟨b, 0, none⟩) hne _) (p := ⟨b, 1, none⟩) hne _) (p := ⟨b, 2, none⟩) hne _) (p := ⟨b, 3, none⟩) hne _) (p := ⟨b, 4, none⟩) hne _) (p := ⟨b, 5, none⟩) hne _) (p := ⟨b, 6, none⟩) hne _) (p := ⟨b, 7, none⟩) hne _) (p := ⟨b, 8, none⟩) hne _
theorem rm_nine {W : World} {B b : Nat} {q : R} {m : M} (h : Rm W B q m) (ho : Off q b) (r : R) : Rm (((((((((W.setCell ⟨b, 0, none⟩ (.int .u64 r.e)).setCell ⟨b, 1, none⟩ (.int .u64 r.f)).setCell ⟨b, 2, none⟩ (.slice r.L.A r.L.n r.L.c)).setCell ⟨b, 3, none⟩ (.slice r.P.A r.P.n r.P.c)).setCell ⟨b, 4, none⟩ (.int .u64 r.h)).setCell ⟨b, 5, none⟩ (.int .u64 r.t)).setCell ⟨b, 6, none⟩ (.slice r.K.A r.K.n r.K.c)).setCell ⟨b, 7, none⟩ (.slice r.X.A r.X.n r.X.c)).setCell ⟨b, 8, none⟩ (.slice r.S.A r.S.n r.S.c)) B q m :=
 ⟨h.1, h.2.1, h.2.2.1, h.2.2.2.1, h.2.2.2.2.1, rd_nine h.2.2.2.2.2.1 (ho 3 (.inl rfl)) r, rd_nine h.2.2.2.2.2.2.1 (ho 4 (.inr (.inl rfl))) r, rd_nine h.2.2.2.2.2.2.2.1 (ho 7 (.inr (.inr (.inl rfl)))) r,
   rd_nine h.2.2.2.2.2.2.2.2.1 (ho 8 (.inr (.inr (.inr (.inl rfl))))) r, rd_nine h.2.2.2.2.2.2.2.2.2 (ho 9 (.inr (.inr (.inr (.inr rfl))))) r⟩
theorem off_puts {r q : R} {s : Sl} {b : Nat} (h : ∀ a, la a -> r.sl a = q.sl a \/ r.sl a = s) (hq : Off q b) (hs : ∀ ad, s.A = some ad -> ad.block ≠ b) : Off r b := fun a hl ad hn had => by
 rcases h a hl with e | e
 · exact hq a hl ad (by rw [<- e]; exact hn) (by rw [<- e]; exact had)
 · exact hs ad (by rw [<- e]; exact had)
theorem rd_off {w : World} {B : Nat} {s : Sl} {xs : List Int} (h : Rd w B s xs) {b : Nat} (hb : B <= b) : ∀ ad, 0 < s.n -> s.A = some ad -> ad.block ≠ b := fun ad hn had => by
 obtain ⟨ad', e, hlt, _⟩ := h.2.2.2.2.2 hn
 rw [had] at e
 injection e with e
 subst e
 omega
theorem off_rm {w : World} {B : Nat} {r : R} {m : M} (h : Rm w B r m) {b : Nat} (hb : B <= b) : Off r b := fun a hl => by
 rcases hl with rfl | rfl | rfl | rfl | rfl
 · exact rd_off h.2.2.2.2.2.1 hb
 · exact rd_off h.2.2.2.2.2.2.1 hb
 · exact rd_off h.2.2.2.2.2.2.2.1 hb
 · exact rd_off h.2.2.2.2.2.2.2.2.1 hb
 · exact rd_off h.2.2.2.2.2.2.2.2.2 hb
theorem made_empty {w : World} {base : Nat} (hb : base <= w.heap.size) : Own (w.alloc (.cells #[] 30)) base ⟨some ⟨w.heap.size, 0, none⟩, 0, 0⟩ [] :=
 ⟨u64s_nil, World.ownsRow_made w _ 0 hb (Nat.zero_le _) (by simp)⟩

end Go.Proofs.YtffppdcpiieapaaGreat.Refc
