/- A part of the proof. -/
import Derived.Deep.DrawnRows
import Derived.WalkSpells
import Derived.Deep.QuietTactic
import Derived.BigQuiet
import Derived.WalkLawsBesides
import Derived.Defers
import Derived.Recover
import Derived.RegionTactic
import Derived.ChangeAlike
import Derived.Outline
import Derived.Laws.EntriesVeiled
import Derived.Deep.RegionLaw
import Derived.Test.YtffppdcpiieapaaGreatP1
import Derived.Test.YtffppdcpiieapaaGreatP2
namespace Go.Proofs.YtffppdcpiieapaaGreat.Newc
open Go.RowKit Memc Wordc
set_option linter.unusedVariables false
set_option maxRecDepth 100000
attribute [local go_sem ↓] Go.wp_at_zero Go.wp_at_succ

set_option maxHeartbeats 4000000 in
theorem new_yes (w : World) (k : Int) (K T M : Nat) (k1 : 1 <= k) (k2 : k <= 3) (a1 : 1 <= K) (a2 : K <= 64) (t1 : 1 <= T) (t2 : T <= 8) (m1 : 2 <= M) (m2 : M <= 64) :
   Calls Tryz.prog 29 #[.agg #[.int .i64 k, .int .i64 K, .int .i64 T, .int .i64 M]] w (Newly w (newM k K T M) 0) := by
 have B0 : Hid (Below w.heap.size w ((w.alloc (.cells #[.int .i64 k, .int .i64 K, .int .i64 T, .int .i64 M] 23)).alloc (.cells zM 33))) :=
   lh (((Below.refl _ _).alloc (Nat.le_refl _) _).alloc (by simp) _)
 have X0 : Hid (Blk ((w.alloc (.cells #[.int .i64 k, .int .i64 K, .int .i64 T, .int .i64 M] 23)).alloc (.cells zM 33)) w.heap.size 23 #[.int .i64 k, .int .i64 K, .int .i64 T, .int .i64 M]) := lh ((Blk.new _ _ _).alloc _)
 have Y0 : Hid (Blk ((w.alloc (.cells #[.int .i64 k, .int .i64 K, .int .i64 T, .int .i64 M] 23)).alloc (.cells zM 33)) (w.heap.size + 1) 33 #[.int .u64 0, .int .u64 0, .slice none 0 0, .slice none 0 0, .int .u64 0, .int .u64 0, .slice none 0 0, .slice none 0 0, .slice none 0 0]) := lh (blk_at (by simp))
 have hmul : M * K <= 4096 := Nat.le_trans (Nat.mul_le_mul m2 a2) (by omega)
 have hmk3 := fun W => run_mk 3 3 rfl (by omega) W
 have hmkT := fun W => run_mk T (T : Int) rfl (by omega) W
 have hmkM := fun W => run_mk M (M : Int) rfl (by omega) W
 have hmkS := fun W => run_mk (M * K) ((M : Int) * (K : Int)) (by simp) (by omega) W
 have hml := mul_in M K hmul
 go_enter Tryz.func29, Tryz.ntmps29
 go_wp2_with (go_at_call 51; refine (may_yes _ _ _ _ _ (by omega) (by omega) (by omega) (by omega) (by omega) (by omega) (by omega) (by omega)).mono ?_; rintro e w1 ⟨rfl, hb1⟩; have B1 := lh hb1; have X1 := lh (X0.out.below hb1 X0.out.lt); have Y1 := lh (Y0.out.below hb1 Y0.out.lt); clear hb1)
 have hHc := X1.out.lt
 have hS : (World.drew w1).cell? ⟨w.heap.size, 1, none⟩ = some (.int .i64 K) /\ (World.drew w1).cell? ⟨w.heap.size, 2, none⟩ = some (.int .i64 T) /\ (World.drew w1).cell? ⟨w.heap.size, 3, none⟩ = some (.int .i64 M) :=
   ⟨X1.out.drew.cell 1, X1.out.drew.cell 2, X1.out.drew.cell 3⟩
 refine wp_region_any (by kernel_rfl) ?_
 refine wpAny_of_held (S := (fun w' => w'.cell? ⟨w.heap.size, 1, none⟩ = some (.int .i64 K) /\ w'.cell? ⟨w.heap.size, 2, none⟩ = some (.int .i64 T) /\ w'.cell? ⟨w.heap.size, 3, none⟩ = some (.int .i64 M))) _ _ _ _ ?_
 show wpAnyH _ _ _ _ _ 19 #[false, false, false, false, false, false, false, false, false, false, false, false, false, false, false, false, false, false, false] _ _
 refine take_at 1 10 (v := ?v1) rfl rfl (by kernel_rfl) (by kernel_rfl) (by kernel_rfl) (fun _ _ _ h => h) hS (Or.inl ⟨by rfl, ?y1⟩) ?r1
 case y1 => (intro w hSw; go_simp <;> with_reducible rfl)
 simp only [sA, sZ, sC]
 refine take_at 2 11 (v := ?v2) rfl rfl (by kernel_rfl) (by kernel_rfl) (by kernel_rfl) (fun _ _ _ h => h) hS (Or.inl ⟨by rfl, ?y2⟩) ?r2
 case y2 => (intro w hSw; go_simp <;> with_reducible rfl)
 simp only [sA, sZ, sC]
 refine take_at 4 13 (v := ?v4) rfl rfl (by kernel_rfl) (by kernel_rfl) (by kernel_rfl) (fun _ _ _ h => h) hS (Or.inl ⟨by rfl, ?y4⟩) ?r4
 case y4 => (intro w hSw; go_simp <;> with_reducible rfl)
 simp only [sA, sZ, sC]
 refine take_at 5 14 (v := ?v5) rfl rfl (by kernel_rfl) (by kernel_rfl) (by kernel_rfl) (fun _ _ _ h => h) hS (Or.inl ⟨by rfl, ?y5⟩) ?r5
 case y5 => (intro w hSw; go_simp <;> with_reducible rfl)
 simp only [sA, sZ, sC]
 refine take_at 7 16 (v := ?v7) rfl rfl (by kernel_rfl) (by kernel_rfl) (by kernel_rfl) (fun _ _ _ h => h) hS (Or.inl ⟨by rfl, ?y7⟩) ?r7
 case y7 => (intro w hSw; go_simp <;> with_reducible rfl)
 simp only [sA, sZ, sC]
 refine take_at 8 17 (v := ?v8) rfl rfl (by kernel_rfl) (by kernel_rfl) (by kernel_rfl) (fun _ _ _ h => h) hS (Or.inl ⟨by rfl, ?y8⟩) ?r8
 case y8 => (intro w hSw; go_simp <;> with_reducible rfl)
 simp only [sA, sZ, sC]
 refine take_at 10 19 (v := ?v10) rfl rfl (by kernel_rfl) (by kernel_rfl) (by kernel_rfl) (fun _ _ _ h => h) hS (Or.inl ⟨by rfl, ?y10⟩) ?r10
 case y10 => (intro w hSw; go_simp <;> with_reducible rfl)
 simp only [sA, sZ, sC]
 refine take_at 11 20 (v := ?v11) rfl rfl (by kernel_rfl) (by kernel_rfl) (by kernel_rfl) (fun _ _ _ h => h) hS (Or.inl ⟨by rfl, ?y11⟩) ?r11
 case y11 => (intro w hSw; go_simp <;> with_reducible rfl)
 simp only [sA, sZ, sC]
 refine take_at 12 21 (v := ?v12) rfl rfl (by kernel_rfl) (by kernel_rfl) (by kernel_rfl) (fun _ _ _ h => h) hS (Or.inl ⟨by rfl, ?y12⟩) ?r12
 case y12 => (intro w hSw; go_simp <;> with_reducible rfl)
 simp only [sA, sZ, sC]
 refine take_at 13 22 (v := ?v13) rfl rfl (by kernel_rfl) (by kernel_rfl) (by kernel_rfl) (fun _ _ _ h => h) hS (Or.inl ⟨by rfl, ?y13⟩) ?r13
 case y13 => (intro w hSw; go_simp <;> with_reducible rfl)
 simp only [sA, sZ, sC]
 refine take_at 14 23 (v := ?v14) rfl rfl (by kernel_rfl) (by kernel_rfl) (by kernel_rfl) (fun _ _ _ h => h) hS (Or.inl ⟨by rfl, ?y14⟩) ?r14
 case y14 => (intro w hSw; go_simp <;> with_reducible rfl)
 simp only [sA, sZ, sC]
 refine ordered (fun listed a W => ∃ (x : Nat -> Nat) (L : Nat -> Bool) (b d : Bool) (y0 y3 y5 y6 y7 y8 y10 y13 y16 y19 y20 y21 y22 y26 y27 y28 y29 y30 y31 y32 y33 y34 y35 y36 y37 y38 y39 y40 y41 y42 y43 y44 : Value), listed = #[L 0, true, true, L 1, true, true, L 2, true, true, L 3, true, true, true, true, true, L 4, b, L 5, d] /\ a = ⟨#[y0, .pointer (some ⟨w.heap.size, 0, none⟩), .pointer (some ⟨w.heap.size + 1, 0, none⟩), y3, pv L x, y5, y6, y7, y8, sv L x (nn T M K) 0, y10, .int .i64 (T : Int), sv L x (nn T M K) 1, y13, .int .i64 (M : Int), sv L x (nn T M K) 2, y16, .int .i64 (M : Int), sv L x (nn T M K) 3, y19, y20, y21, y22, .int .i64 ((M : Int) * (K : Int)), sv L x (nn T M K) 4, bv b x (nn T M K), y26, y27, y28, y29, y30, y31, y32, y33, y34, y35, y36, y37, y38, y39, y40, y41, y42, y43, y44], []⟩ /\ State w1 (nn T M K) x L b d W) ?step ?done 8 _ _ _ (Nat.le_of_eq (by kernel_rfl)) ?init hS
 case init => exact ⟨fun _ => 0, fun _ => false, false, false, _, _, _, _, _, _, _, _, _, _, _, _, _, _, _, _, _, _, _, _, _, _, _, _, _, _, _, _, _, _, _, _, rfl, rfl, State.start _ _ _⟩
 case step =>
   rintro listed a W i ⟨x, L, b, d, y0, y3, y5, y6, y7, y8, y10, y13, y16, y19, y20, y21, y22, y26, y27, y28, y29, y30, y31, y32, y33, y34, y35, y36, y37, y38, y39, y40, y41, y42, y43, y44, rfl, rfl, hst⟩ hSW hi
   have hin := hi
   obtain ⟨hun, o, ho, hall⟩ := mem_ready.1 hi
   have hilt : i < 19 := (Array.getElem?_eq_some_iff.1 ho).1
   have hHW : w.heap.size < W.heap.size := Nat.lt_of_lt_of_le hHc hst.below.size
   rcases (show i = 0 \/ i = 1 \/ i = 2 \/ i = 3 \/ i = 4 \/ i = 5 \/ i = 6 \/ i = 7 \/ i = 8 \/ i = 9 \/ i = 10 \/ i = 11 \/ i = 12 \/ i = 13 \/ i = 14 \/ i = 15 \/ i = 16 \/ i = 17 \/ i = 18 by omega) with rfl | rfl | rfl | rfl | rfl | rfl | rfl | rfl | rfl | rfl | rfl | rfl | rfl | rfl | rfl | rfl | rfl | rfl | rfl
   · have hl : L 0 = false := by simpa using hun
     obtain ⟨rfl, rfl⟩ := hst.no 0 (by omega) hl
     have ST := lh (hst.row 0 (by omega) hl)
     have HSW := lh hSW
     clear hst hSW hi hin hun ho hall hl
     refine wpOp_run rfl rfl fun K' hK => ?_
     go_simp
     exact hK.out _ _ ⟨keep3 HSW.out (Below.heap_alloc _ _ _ hHW), upd x 0 W.heap.size, upd L 0 true, false, false, y0, y3, y5, y6, y7, y8, y10, y13, y16, y19, y20, y21, y22, y26, y27, y28, y29, y30, y31, y32, y33, y34, y35, y36, y37, y38, y39, y40, y41, y42, y43, y44, by simp [upd], by simp [upd, sv, pv, bv, nn], ST.out⟩
   · simp at hun
   · simp at hun
   · have hl : L 1 = false := by simpa using hun
     obtain ⟨rfl, rfl⟩ := hst.no 1 (by omega) hl
     have ST := lh (hst.row 1 (by omega) hl)
     have HSW := lh hSW
     clear hst hSW hi hin hun ho hall hl
     refine wpOp_run rfl rfl fun K' hK => ?_
     go_simp
     exact hK.out _ _ ⟨keep3 HSW.out (Below.heap_alloc _ _ _ hHW), upd x 1 W.heap.size, upd L 1 true, false, false, y0, y3, y5, y6, y7, y8, y10, y13, y16, y19, y20, y21, y22, y26, y27, y28, y29, y30, y31, y32, y33, y34, y35, y36, y37, y38, y39, y40, y41, y42, y43, y44, by simp [upd], by simp [upd, sv, pv, bv, nn], ST.out⟩
   · simp at hun
   · simp at hun
   · have hl : L 2 = false := by simpa using hun
     obtain ⟨rfl, rfl⟩ := hst.no 2 (by omega) hl
     have ST := lh (hst.row 2 (by omega) hl)
     have HSW := lh hSW
     clear hst hSW hi hin hun ho hall hl
     refine wpOp_run rfl rfl fun K' hK => ?_
     go_simp
     exact hK.out _ _ ⟨keep3 HSW.out (Below.heap_alloc _ _ _ hHW), upd x 2 W.heap.size, upd L 2 true, false, false, y0, y3, y5, y6, y7, y8, y10, y13, y16, y19, y20, y21, y22, y26, y27, y28, y29, y30, y31, y32, y33, y34, y35, y36, y37, y38, y39, y40, y41, y42, y43, y44, by simp [upd], by simp [upd, sv, pv, bv, nn], ST.out⟩
   · simp at hun
   · simp at hun
   · have hl : L 3 = false := by simpa using hun
     obtain ⟨rfl, rfl⟩ := hst.no 3 (by omega) hl
     have ST := lh (hst.row 3 (by omega) hl)
     have HSW := lh hSW
     clear hst hSW hi hin hun ho hall hl
     refine wpOp_run rfl rfl fun K' hK => ?_
     go_simp
     exact hK.out _ _ ⟨keep3 HSW.out (Below.heap_alloc _ _ _ hHW), upd x 3 W.heap.size, upd L 3 true, false, false, y0, y3, y5, y6, y7, y8, y10, y13, y16, y19, y20, y21, y22, y26, y27, y28, y29, y30, y31, y32, y33, y34, y35, y36, y37, y38, y39, y40, y41, y42, y43, y44, by simp [upd], by simp [upd, sv, pv, bv, nn], ST.out⟩
   · simp at hun
   · simp at hun
   · simp at hun
   · simp at hun
   · simp at hun
   · have hl : L 4 = false := by simpa using hun
     obtain ⟨rfl, rfl⟩ := hst.no 4 (by omega) hl
     have ST := lh (hst.row 4 (by omega) hl)
     have HSW := lh hSW
     clear hst hSW hi hin hun ho hall hl
     refine wpOp_run rfl rfl fun K' hK => ?_
     go_simp
     exact hK.out _ _ ⟨keep3 HSW.out (Below.heap_alloc _ _ _ hHW), upd x 4 W.heap.size, upd L 4 true, false, false, y0, y3, y5, y6, y7, y8, y10, y13, y16, y19, y20, y21, y22, y26, y27, y28, y29, y30, y31, y32, y33, y34, y35, y36, y37, y38, y39, y40, y41, y42, y43, y44, by simp [upd], by simp [upd, sv, pv, bv, nn], ST.out⟩
   · have hb : b = false := by simpa using hun
     subst hb
     simp at ho
     subst ho
     have hl : ∀ j, j < 5 -> L j = true := by
       intro j hj
       rcases (show j = 0 \/ j = 1 \/ j = 2 \/ j = 3 \/ j = 4 by omega) with rfl | rfl | rfl | rfl | rfl
       · simpa using hall ⟨0, .data⟩ (by simp) rfl
       · simpa using hall ⟨3, .data⟩ (by simp) rfl
       · simpa using hall ⟨6, .data⟩ (by simp) rfl
       · simpa using hall ⟨9, .data⟩ (by simp) rfl
       · simpa using hall ⟨15, .data⟩ (by simp) rfl
     have hd : d = false := by
       cases hd : d
       · rfl
       · have := (hst.put_ hd).1; cases this
     subst hd
     have ST := lh (hst.build rfl hl)
     have HSW := lh hSW
     have e0 : sv L x (nn T M K) 0 = .slice (some ⟨x 0, 0, none⟩) 3 3 := by simp [sv, hl 0 (by omega), nn]
     have e1 : sv L x (nn T M K) 1 = .slice (some ⟨x 1, 0, none⟩) T T := by simp [sv, hl 1 (by omega), nn]
     have e2 : sv L x (nn T M K) 2 = .slice (some ⟨x 2, 0, none⟩) M M := by simp [sv, hl 2 (by omega), nn]
     have e3 : sv L x (nn T M K) 3 = .slice (some ⟨x 3, 0, none⟩) M M := by simp [sv, hl 3 (by omega), nn]
     have e4 : sv L x (nn T M K) 4 = .slice (some ⟨x 4, 0, none⟩) (M * K) (M * K) := by simp [sv, hl 4 (by omega), nn]
     clear hst hSW hi hin hun hall hl
     refine wpOp_run rfl rfl fun K' hK => ?_
     go_simp
     exact hK.out _ _ ⟨HSW.out, x, L, true, false, y0, y3, y5, y6, y7, y8, y10, y13, y16, y19, y20, y21, y22, y26, y27, y28, y29, y30, y31, y32, y33, y34, y35, y36, y37, y38, y39, y40, y41, y42, y43, y44, by simp, by simp [e0, e1, e2, e3, e4, bv, news, nn], ST.out⟩
   · have hl : L 5 = false := by simpa using hun
     obtain rfl := hst.d_false hl
     have ST := lh (hst.new hl)
     have HSW := lh hSW
     clear hst hSW hi hin hun ho hall hl
     refine wpOp_run rfl rfl fun K' hK => ?_
     go_simp
     exact hK.out _ _ ⟨keep3 HSW.out (Below.heap_alloc _ _ _ hHW), upd x 5 W.heap.size, upd L 5 true, b, false, y0, y3, y5, y6, y7, y8, y10, y13, y16, y19, y20, y21, y22, y26, y27, y28, y29, y30, y31, y32, y33, y34, y35, y36, y37, y38, y39, y40, y41, y42, y43, y44, by simp [upd], by simp [upd, sv, pv, bv, nn, news], ST.out⟩
   · have hd : d = false := by simpa using hun
     subst hd
     simp at ho
     subst ho
     have hb : b = true := by simpa using hall ⟨16, .data⟩ (by simp) rfl
     have hl : L 5 = true := by simpa using hall ⟨17, .data⟩ (by simp) rfl
     subst hb
     have ST := lh (hst.store hl)
     have HSW := lh hSW
     have hv := hst.var hl
     have hcv : ∀ i, W.cell? ⟨x 5, i, none⟩ = (#[.int .u64 0, .int .u64 0, .slice none 0 0, .slice none 0 0, .int .u64 0, .int .u64 0, .slice none 0 0, .slice none 0 0, .slice none 0 0] : Array Value)[i]? := hv.cell
     have hfv := hv.frozen
     have hx5 : ¬ w.heap.size = x 5 := by have := (hst.made.old hl).1; omega
     have HX5 := lh hx5
     have ep : pv L x = .pointer (some ⟨x 5, 0, none⟩) := by simp [pv, hl]
     have eb : bv true x (nn T M K) = .agg (#[.int .u64 0, .int .u64 0, .slice (some ⟨x 0, 0, none⟩) 3 3, .slice (some ⟨x 1, 0, none⟩) T T, .int .u64 0, .int .u64 0, .slice (some ⟨x 2, 0, none⟩) M M, .slice (some ⟨x 3, 0, none⟩) M M, .slice (some ⟨x 4, 0, none⟩) (M * K) (M * K)]) := by simp [bv, news, nn]
     clear hst hSW hi hin hun hall hl hv hx5
     refine wpOp_run rfl rfl fun K' hK => ?_
     go_simp
     refine hK.out _ _ ⟨keep3 HSW.out ?_, x, L, true, true, y0, y3, y5, y6, y7, y8, y10, y13, y16, y19, y20, y21, y22, y26, y27, y28, y29, y30, y31, y32, y33, y34, y35, y36, y37, y38, y39, y40, y41, y42, y43, y44, by simp, by simp [ep, eb], ST.out⟩
     simp only [World.setCell, Array.getElem?_modify]
     have hne := HX5.out
     simp [Ne.symm hne]
 case done =>
   rintro listed a W ⟨x, L, b, d, y0, y3, y5, y6, y7, y8, y10, y13, y16, y19, y20, y21, y22, y26, y27, y28, y29, y30, y31, y32, y33, y34, y35, y36, y37, y38, y39, y40, y41, y42, y43, y44, rfl, rfl, hst⟩ hSW hr
   have l0 : L 0 = true := by
     have := all_up hr 0 rfl (by simp)
     simpa using this
   have l1 : L 1 = true := by
     have := all_up hr 3 rfl (by intro e he _; simp at he; subst he; simp)
     simpa using this
   have l2 : L 2 = true := by
     have := all_up hr 6 rfl (by intro e he _; simp at he; subst he; simp)
     simpa using this
   have l3 : L 3 = true := by
     have := all_up hr 9 rfl (by intro e he _; simp at he; subst he; simp)
     simpa using this
   have l4 : L 4 = true := by
     have := all_up hr 15 rfl (by intro e he _; simp at he; subst he; simp)
     simpa using this
   have l5 : L 5 = true := by
     have := all_up hr 17 rfl (by simp)
     simpa using this
   have lb : b = true := by
     have := all_up hr 16 rfl (by intro e he _; simp at he; rcases he with rfl | rfl | rfl | rfl | rfl <;> simp [*])
     simpa using this
   have ld : d = true := by
     have := all_up hr 18 rfl (by intro e he _; simp at he; rcases he with rfl | rfl | rfl | rfl | rfl | rfl | rfl | rfl | rfl | rfl | rfl | rfl | rfl | rfl | rfl | rfl | rfl | rfl | rfl | rfl <;> simp [*])
     simpa using this
   have hl : ∀ j, j < 6 -> L j = true := by
     intro j hj
     rcases (show j = 0 \/ j = 1 \/ j = 2 \/ j = 3 \/ j = 4 \/ j = 5 by omega) with rfl | rfl | rfl | rfl | rfl | rfl <;> assumption
   subst lb
   subst ld
   rw [show pv L x = .pointer (some ⟨x 5, 0, none⟩) by simp [pv, l5]]
   have HST := lh hst
   have HL := lh hl
   have HSW := lh hSW
   clear hr hst hl l0 l1 l2 l3 l4 l5 hSW hS hmk3 hmkT hmkM hmkS hml
   have h0 : Hold W w1.heap.size (x 5) ⟨0, 0, ⟨some ⟨x 0, 0, none⟩, 3, 3⟩, ⟨some ⟨x 1, 0, none⟩, T, T⟩, 0, 0, ⟨some ⟨x 2, 0, none⟩, M, M⟩, ⟨some ⟨x 3, 0, none⟩, M, M⟩, ⟨some ⟨x 4, 0, none⟩, M * K, M * K⟩⟩ (zeroM K T M) := HST.out.hold HL.out (zeroM K T M) ⟨rfl, rfl, rfl, rfl⟩ ⟨rfl, rfl, rfl, rfl, rfl⟩ (fun j => by unfold nn maxLen; split <;> (try split) <;> (try split) <;> omega)
   have H0 := lh h0
   have hg1 : w1.heap.size <= x 5 := h0.2.1
   have hx2 : w1.heap.size <= x 2 /\ x 2 < W.heap.size := ((h0.2.2.2.2.2.2.2.1 7 (.inr (.inr (.inl rfl)))).lt rfl)
   have hx25 : x 2 ≠ x 5 := (h0.2.2.2.2.2.2.2.2 7 (.inr (.inr (.inl rfl))) _ rfl).1
   have HX2 := lh hx2
   have HX25 := lh hx25
   have BW : Hid (Below w1.heap.size w1 W) := lh HST.out.below
   have XW := lh (X1.out.below BW.out hHc)
   have YW := lh (Y1.out.below BW.out Y1.out.lt)
   have hY1 := Y1.out.lt
   have hxW := XW.out.cell
   have hyW := YW.out.cell
   have hfW := YW.out.frozen
   have hvW : ∀ i, W.cell? ⟨x 5, i, none⟩ = (#[.int .u64 0, .int .u64 0, .slice (some ⟨x 0, 0, none⟩) 3 3, .slice (some ⟨x 1, 0, none⟩) T T, .int .u64 0, .int .u64 0, .slice (some ⟨x 2, 0, none⟩) M M, .slice (some ⟨x 3, 0, none⟩) M M, .slice (some ⟨x 4, 0, none⟩) (M * K) (M * K)] : Array Value)[i]? := h0.1.cell
   have hgW := h0.1.frozen
   have hn0 : ¬ w.heap.size = x 5 := by omega
   have hn1 : ¬ w.heap.size + 1 = x 5 := by omega
   have hBB := lh (B0.out.trans (B1.out.mono B0.out.size))
   clear h0 hx2 hx25 B0 X0 Y0 HST HL HSW
   rcases (show k = 2 \/ k = 1 \/ k = 3 by omega) with rfl | rfl | rfl
   · clear hgW k1 k2
     go_wp2
     refine bodyPost_ret (v := .tuple #[.agg #[.int .u64 0, .int .u64 0, .slice (some ⟨x 0, 0, none⟩) 3 3, .slice (some ⟨x 1, 0, none⟩) T T, .int .u64 0, .int .u64 0, .slice (some ⟨x 2, 0, none⟩) M M, .slice (some ⟨x 3, 0, none⟩) M M, .slice (some ⟨x 4, 0, none⟩) (M * K) (M * K)], .int .i64 0]) (by simp [results, Tryz.results29, go_sem, hyW]) rfl ?_
     refine ⟨⟨0, 0, ⟨some ⟨x 0, 0, none⟩, 3, 3⟩, ⟨some ⟨x 1, 0, none⟩, T, T⟩, 0, 0, ⟨some ⟨x 2, 0, none⟩, M, M⟩, ⟨some ⟨x 3, 0, none⟩, M, M⟩, ⟨some ⟨x 4, 0, none⟩, M * K, M * K⟩⟩, rfl, ⟨rfl, rfl, rfl, rfl⟩, newM_ok _ _ _ _ m2, ?_, ?_⟩
     · refine five_weaken (five_end (z := zeroM K T M) H0.out (fun _ => rfl) (fun k hk _ _ => heap_nine _ _ _ _ _ _ _ _ _ _ _ k (by omega)) ?_ ⟨rfl, rfl, rfl, rfl⟩) hBB.out.size
       show Own _ _ _ (linked M M M)
       rw [linked_zero M M M (by omega)]
       refine (H0.out.2.2.2.2.2.2.2.1 7 (.inr (.inr (.inl rfl)))).kept fun ad had => heap_nine _ _ _ _ _ _ _ _ _ _ _ _ ?_
       injection had with had
       subst had
       have := HX2.out
       show x 2 ≠ _
       omega
     · exact below_nine (hBB.out.trans (BW.out.mono hBB.out.size)) (by omega) _ _ _ _ _ _ _ _ _
   · have O2 : Hid (Own ((W.setCell ⟨x 5, 4, none⟩ (.int .u64 1)).setCell ⟨x 5, 5, none⟩ (.int .u64 1)) w1.heap.size ⟨some ⟨x 2, 0, none⟩, M, M⟩ (List.replicate M 0)) := lh (((H0.out.2.2.2.2.2.2.2.1 7 (.inr (.inr (.inl rfl)))).far (p := ⟨x 5, 4, none⟩) (fun ad had => by injection had with had; subst had; exact HX25.out) _).far (p := ⟨x 5, 5, none⟩) (fun ad had => by injection had with had; subst had; exact HX25.out) _)
     have V2 : Blk ((W.setCell ⟨x 5, 4, none⟩ (.int .u64 1)).setCell ⟨x 5, 5, none⟩ (.int .u64 1)) (x 5) 33 #[.int .u64 0, .int .u64 0, .slice (some ⟨x 0, 0, none⟩) 3 3, .slice (some ⟨x 1, 0, none⟩) T T, .int .u64 1, .int .u64 1, .slice (some ⟨x 2, 0, none⟩) M M, .slice (some ⟨x 3, 0, none⟩) M M, .slice (some ⟨x 4, 0, none⟩) (M * K) (M * K)] := by
       have hb := (H0.out.1.set_ 4 (.int .u64 1)).set_ 5 (.int .u64 1)
       simp only [R.cells, List.setIfInBounds_toArray, List.set_cons_zero, List.set_cons_succ] at hb
       exact hb
     have X2 : Blk ((W.setCell ⟨x 5, 4, none⟩ (.int .u64 1)).setCell ⟨x 5, 5, none⟩ (.int .u64 1)) w.heap.size 23 #[.int .i64 1, .int .i64 K, .int .i64 T, .int .i64 M] := ((XW.out.far (p := ⟨x 5, 4, none⟩) hn0 (.int .u64 1)).far (p := ⟨x 5, 5, none⟩) hn0 (.int .u64 1))
     have Y2 : Blk ((W.setCell ⟨x 5, 4, none⟩ (.int .u64 1)).setCell ⟨x 5, 5, none⟩ (.int .u64 1)) (w.heap.size + 1) 33 #[.int .u64 0, .int .u64 0, .slice none 0 0, .slice none 0 0, .int .u64 0, .int .u64 0, .slice none 0 0, .slice none 0 0, .slice none 0 0] := ((YW.out.far (p := ⟨x 5, 4, none⟩) hn1 (.int .u64 1)).far (p := ⟨x 5, 5, none⟩) hn1 (.int .u64 1))
     have BE : Hid (Below w1.heap.size w1 ((W.setCell ⟨x 5, 4, none⟩ (.int .u64 1)).setCell ⟨x 5, 5, none⟩ (.int .u64 1))) := lh ((BW.out.setCell (p := ⟨x 5, 4, none⟩) hg1 (.int .u64 1)).setCell (p := ⟨x 5, 5, none⟩) hg1 (.int .u64 1))
     have HE : Hid (∀ k, k ≠ x 5 -> ((W.setCell ⟨x 5, 4, none⟩ (.int .u64 1)).setCell ⟨x 5, 5, none⟩ (.int .u64 1)).heap[k]? = W.heap[k]?) := lh fun k hk5 => (Below.heap_setCell _ ⟨x 5, 5, none⟩ _ k hk5).trans (Below.heap_setCell _ ⟨x 5, 4, none⟩ _ k hk5)
     have V2H := lh V2
     have X2H := lh X2
     have Y2H := lh Y2
     clear V2 X2 Y2
     go_wp2_with (first | (go_at_call 20; refine (ref0_c _ _ (by omega) (by omega)).mono ?_; rintro e w' ⟨rfl, rfl⟩) | (go_at_call 52; refine (chain_c _ w1.heap.size (x 2) M 1 O2.out (by omega) m1 m2).mono ?_; rintro e w3 ⟨rfl, ho3, hj3⟩; have O3 := lh ho3; have J3 := lh hj3; have V3 := lh (V2H.out.grown hj3.1 (fun e => HX25.out (by injection e with e; exact e.symm))); go_must (have X3 := lh (X2H.out.grown hj3.1 (fun e => by injection e with e; have := HX2.out; omega)); have Y3 := lh (Y2H.out.grown hj3.1 (fun e => by injection e with e; have := HX2.out; omega))); have hv3 := V3.out.cell; have hg3 := V3.out.frozen; have hy3 := Y3.out.cell; have hf3 := Y3.out.frozen; clear ho3 hj3))
     refine bodyPost_ret (v := .tuple #[.agg #[.int .u64 0, .int .u64 2, .slice (some ⟨x 0, 0, none⟩) 3 3, .slice (some ⟨x 1, 0, none⟩) T T, .int .u64 1, .int .u64 1, .slice (some ⟨x 2, 0, none⟩) M M, .slice (some ⟨x 3, 0, none⟩) M M, .slice (some ⟨x 4, 0, none⟩) (M * K) (M * K)], .int .i64 0]) (by simp [results, Tryz.results29, go_sem, hy3]) rfl ?_
     have hx2 := HX2.out
     have J := J3.out
     have hj (k : Nat) (hk : k < W.heap.size) (h5 : k ≠ x 5) (h2 : k ≠ x 2) : w3.heap[k]? = W.heap[k]? := (J.1.block k (by simp only [size_set]; exact hk) (fun e => h2 (by injection e))).trans (HE.out k h5)
     refine ⟨⟨0, 2, ⟨some ⟨x 0, 0, none⟩, 3, 3⟩, ⟨some ⟨x 1, 0, none⟩, T, T⟩, 1, 1, ⟨some ⟨x 2, 0, none⟩, M, M⟩, ⟨some ⟨x 3, 0, none⟩, M, M⟩, ⟨some ⟨x 4, 0, none⟩, M * K, M * K⟩⟩, rfl, ⟨rfl, rfl, rfl, rfl⟩, newM_ok _ _ _ _ m2, ?_, ?_⟩
     · refine five_weaken (five_end (z := zeroM K T M) H0.out (fun a => rfl) (fun k hk h5 h7 => ?_) ?_ ⟨rfl, rfl, rfl, rfl⟩) hBB.out.size
       · refine (heap_nine _ _ _ _ _ _ _ _ _ _ _ k (by omega)).trans ((Below.heap_setCell _ ⟨x 5, 1, none⟩ _ k h5).trans ?_)
         rcases Nat.lt_or_ge k W.heap.size with hlt | hge
         · exact hj k hlt h5 (h7 _ rfl)
         · have hz : w3.heap.size = W.heap.size := by rw [J.2]; simp only [size_set]
           rw [Array.getElem?_eq_none hge, Array.getElem?_eq_none (by omega)]
       · show Own _ _ ⟨some ⟨x 2, 0, none⟩, M, M⟩ (linked 1 M M)
         exact own_kept_at O3.out ((heap_nine _ _ _ _ _ _ _ _ _ _ _ _ (show x 2 ≠ w.heap.size + 1 by omega)).trans (Below.heap_setCell _ ⟨x 5, 1, none⟩ _ _ HX25.out))
     · have hb3 : Below w1.heap.size w1 w3 := BE.out.trans (just_below J hx2.1 BE.out.size)
       exact below_nine ((hBB.out.trans (hb3.mono hBB.out.size)).setCell (p := ⟨x 5, 1, none⟩) (by have := hBB.out.size; show w.heap.size <= x 5; omega) _) (by omega) _ _ _ _ _ _ _ _ _
   · have O2 : Hid (Own W w1.heap.size ⟨some ⟨x 2, 0, none⟩, M, M⟩ (List.replicate M 0)) := lh (H0.out.2.2.2.2.2.2.2.1 7 (.inr (.inr (.inl rfl))))
     have V2 : Blk W (x 5) 33 #[.int .u64 0, .int .u64 0, .slice (some ⟨x 0, 0, none⟩) 3 3, .slice (some ⟨x 1, 0, none⟩) T T, .int .u64 0, .int .u64 0, .slice (some ⟨x 2, 0, none⟩) M M, .slice (some ⟨x 3, 0, none⟩) M M, .slice (some ⟨x 4, 0, none⟩) (M * K) (M * K)] := by
       exact H0.out.1
     have X2 : Blk W w.heap.size 23 #[.int .i64 3, .int .i64 K, .int .i64 T, .int .i64 M] := XW.out
     have Y2 : Blk W (w.heap.size + 1) 33 #[.int .u64 0, .int .u64 0, .slice none 0 0, .slice none 0 0, .int .u64 0, .int .u64 0, .slice none 0 0, .slice none 0 0, .slice none 0 0] := YW.out
     have BE : Hid (Below w1.heap.size w1 W) := lh BW.out
     have HE : Hid (∀ k, k ≠ x 5 -> W.heap[k]? = W.heap[k]?) := lh fun k hk5 => rfl
     have V2H := lh V2
     have X2H := lh X2
     have Y2H := lh Y2
     clear V2 X2 Y2
     go_wp2_with (first | (go_at_call 20; refine (ref0_c _ _ (by omega) (by omega)).mono ?_; rintro e w' ⟨rfl, rfl⟩) | (go_at_call 52; refine (chain_c _ w1.heap.size (x 2) M 0 O2.out (by omega) m1 m2).mono ?_; rintro e w3 ⟨rfl, ho3, hj3⟩; have O3 := lh ho3; have J3 := lh hj3; have V3 := lh (V2H.out.grown hj3.1 (fun e => HX25.out (by injection e with e; exact e.symm))); go_must (have X3 := lh (X2H.out.grown hj3.1 (fun e => by injection e with e; have := HX2.out; omega)); have Y3 := lh (Y2H.out.grown hj3.1 (fun e => by injection e with e; have := HX2.out; omega))); have hv3 := V3.out.cell; have hg3 := V3.out.frozen; have hy3 := Y3.out.cell; have hf3 := Y3.out.frozen; clear ho3 hj3))
     refine bodyPost_ret (v := .tuple #[.agg #[.int .u64 0, .int .u64 1, .slice (some ⟨x 0, 0, none⟩) 3 3, .slice (some ⟨x 1, 0, none⟩) T T, .int .u64 0, .int .u64 0, .slice (some ⟨x 2, 0, none⟩) M M, .slice (some ⟨x 3, 0, none⟩) M M, .slice (some ⟨x 4, 0, none⟩) (M * K) (M * K)], .int .i64 0]) (by simp [results, Tryz.results29, go_sem, hy3]) rfl ?_
     have hx2 := HX2.out
     have J := J3.out
     have hj (k : Nat) (hk : k < W.heap.size) (h5 : k ≠ x 5) (h2 : k ≠ x 2) : w3.heap[k]? = W.heap[k]? := J.1.block k hk (fun e => h2 (by injection e))
     refine ⟨⟨0, 1, ⟨some ⟨x 0, 0, none⟩, 3, 3⟩, ⟨some ⟨x 1, 0, none⟩, T, T⟩, 0, 0, ⟨some ⟨x 2, 0, none⟩, M, M⟩, ⟨some ⟨x 3, 0, none⟩, M, M⟩, ⟨some ⟨x 4, 0, none⟩, M * K, M * K⟩⟩, rfl, ⟨rfl, rfl, rfl, rfl⟩, newM_ok _ _ _ _ m2, ?_, ?_⟩
     · refine five_weaken (five_end (z := zeroM K T M) H0.out (fun a => rfl) (fun k hk h5 h7 => ?_) ?_ ⟨rfl, rfl, rfl, rfl⟩) hBB.out.size
       · refine (heap_nine _ _ _ _ _ _ _ _ _ _ _ k (by omega)).trans ((Below.heap_setCell _ ⟨x 5, 1, none⟩ _ k h5).trans ?_)
         rcases Nat.lt_or_ge k W.heap.size with hlt | hge
         · exact hj k hlt h5 (h7 _ rfl)
         · have hz : w3.heap.size = W.heap.size := by rw [J.2]
           rw [Array.getElem?_eq_none hge, Array.getElem?_eq_none (by omega)]
       · show Own _ _ ⟨some ⟨x 2, 0, none⟩, M, M⟩ (linked 0 M M)
         exact own_kept_at O3.out ((heap_nine _ _ _ _ _ _ _ _ _ _ _ _ (show x 2 ≠ w.heap.size + 1 by omega)).trans (Below.heap_setCell _ ⟨x 5, 1, none⟩ _ _ HX25.out))
     · have hb3 : Below w1.heap.size w1 w3 := BE.out.trans (just_below J hx2.1 BE.out.size)
       exact below_nine ((hBB.out.trans (hb3.mono hBB.out.size)).setCell (p := ⟨x 5, 1, none⟩) (by have := hBB.out.size; show w.heap.size <= x 5; omega) _) (by omega) _ _ _ _ _ _ _ _ _
end Go.Proofs.YtffppdcpiieapaaGreat.Newc

namespace Go.Proofs.YtffppdcpiieapaaGreat.Memc
open Go.RowKit
set_option linter.unusedVariables false
set_option maxRecDepth 100000

structure Only (P : Nat -> Prop) (w w' : World) : Prop where
 os : w'.os = w.os
 tape : w'.tape = w.tape
 output : w'.output = w.output
 size : w.heap.size <= w'.heap.size
 block : ∀ k, k < w.heap.size -> ¬ P k -> w'.heap[k]? = w.heap[k]?
section
variable {P Q : Nat -> Prop} {w w' w'' : World}
theorem Only.refl (P : Nat -> Prop) (w : World) : Only P w w := ⟨rfl, rfl, rfl, Nat.le_refl _, fun _ _ _ => rfl⟩
theorem Only.trans (h : Only P w w') (k : Only P w' w'') : Only P w w'' :=
 ⟨k.os.trans h.os, k.tape.trans h.tape, k.output.trans h.output, Nat.le_trans h.size k.size, fun i hi hp => (k.block i (Nat.lt_of_lt_of_le hi h.size) hp).trans (h.block i hi hp)⟩
theorem Only.mono (h : Only P w w') (hq : ∀ k, P k -> Q k) : Only Q w w' := ⟨h.os, h.tape, h.output, h.size, fun k hk hn => h.block k hk (fun hp => hn (hq k hp))⟩
theorem Only.next (h : Only P w w') (k : Only Q w' w'') (hq : ∀ k, k < w.heap.size -> Q k -> P k) : Only P w w'' :=
 ⟨k.os.trans h.os, k.tape.trans h.tape, k.output.trans h.output, Nat.le_trans h.size k.size, fun i hi hp => (k.block i (Nat.lt_of_lt_of_le hi h.size) (fun hk => hp (hq i hi hk))).trans (h.block i hi hp)⟩
theorem Only.alloc (h : Only P w w') (o : Obj) : Only P w (w'.alloc o) :=
 h.trans ⟨rfl, rfl, rfl, by simp, fun k hk _ => Below.heap_alloc _ _ _ hk⟩
theorem Only.drew (h : Only P w w') : Only P w w'.drew := ⟨h.os, h.tape, h.output, h.size, h.block⟩
theorem Only.drewN (h : Only P w w') (n : Nat) : Only P w (w'.drewN n) := ⟨h.os, h.tape, h.output, h.size, h.block⟩
theorem Only.set_ (h : Only P w w') (p : Addr) (hp : P p.block \/ w.heap.size <= p.block) (v : Value) : Only P w (w'.setCell p v) :=
 ⟨h.os, h.tape, h.output, by simpa [World.setCell] using h.size, fun k hk hn => (Below.heap_setCell w' p v k (fun e => by
   rcases hp with hp | hp
   · exact hn (e ▸ hp)
   · omega)).trans (h.block k hk hn)⟩
theorem Only.below (h : Only P w w') {B : Nat} (hB : B <= w.heap.size) (hp : ∀ k, P k -> B <= k) : Below B w w' :=
 ⟨h.os, h.tape, h.output, h.size, fun k hk => h.block k (by omega) (fun hpk => by have := hp k hpk; omega)⟩
theorem Only.of_below {B : Nat} (h : Below B w w') (hB : w.heap.size <= B) : Only P w w' := ⟨h.os, h.tape, h.output, h.size, fun k hk _ => h.block k (by omega)⟩
theorem Blk.only {g : Nat} {t : TypeId} {cs : Array Value} (h : Blk w g t cs) (ho : Only P w w') (hg : ¬ P g) : Blk w' g t cs := h.moved (ho.block g h.lt hg)
theorem Only.cell (h : Only P w w') {b o : Nat} (hb : b < w.heap.size) (hn : ¬ P b) : w'.cell? ⟨b, o, none⟩ = w.cell? ⟨b, o, none⟩ := World.cell?_of_block (w := w) (a := ⟨b, o, none⟩) (h.block b hb hn)
theorem Blk.ne {g k : Nat} {t u : TypeId} {cs ds : Array Value} (h : Blk w g t cs) (h' : Blk w k u ds) (hne : t ≠ u) : g ≠ k := by
 rintro rfl
 unfold Blk at h h'
 rw [h] at h'
 injection h' with h'
 injection h' with _ h'
 exact hne h'
end


section
variable {w : World} {g : Nat} {t : TypeId}
theorem blk1_set {d0 : Value} (h : Blk w g t #[d0]) (v0 : Value) : Blk (w.setCell ⟨g, 0, none⟩ v0) g t #[v0] := by
 have := h.set_ 0 v0
 simpa only [sA, sZ, sC] using this
theorem blk5_set {d0 d1 d2 d3 d4 : Value} (h : Blk w g t #[d0, d1, d2, d3, d4]) (v0 v1 v2 v3 v4 : Value) :
   Blk (((((w.setCell ⟨g, 0, none⟩ v0).setCell ⟨g, 1, none⟩ v1).setCell ⟨g, 2, none⟩ v2).setCell ⟨g, 3, none⟩ v3).setCell ⟨g, 4, none⟩ v4) g t #[v0, v1, v2, v3, v4] := by
 have := ((((h.set_ 0 v0).set_ 1 v1).set_ 2 v2).set_ 3 v3).set_ 4 v4
 simpa only [sA, sZ, sC] using this
theorem blk5_far {k : Nat} {cs : Array Value} (h : Blk w k t cs) (hne : k ≠ g) (v0 v1 v2 v3 v4 : Value) :
   Blk (((((w.setCell ⟨g, 0, none⟩ v0).setCell ⟨g, 1, none⟩ v1).setCell ⟨g, 2, none⟩ v2).setCell ⟨g, 3, none⟩ v3).setCell ⟨g, 4, none⟩ v4) k t cs :=
 ((((h.far (p := ⟨g, 0, none⟩) hne _).far (p := ⟨g, 1, none⟩) hne _).far (p := ⟨g, 2, none⟩) hne _).far (p := ⟨g, 3, none⟩) hne _).far (p := ⟨g, 4, none⟩) hne _
theorem Only.set5 {P : Nat -> Prop} {w0 : World} (h : Only P w0 w) (hg : P g \/ w0.heap.size <= g) (v0 v1 v2 v3 v4 : Value) :
   Only P w0 (((((w.setCell ⟨g, 0, none⟩ v0).setCell ⟨g, 1, none⟩ v1).setCell ⟨g, 2, none⟩ v2).setCell ⟨g, 3, none⟩ v3).setCell ⟨g, 4, none⟩ v4) :=
 ((((h.set_ ⟨g, 0, none⟩ hg _).set_ ⟨g, 1, none⟩ hg _).set_ ⟨g, 2, none⟩ hg _).set_ ⟨g, 3, none⟩ hg _).set_ ⟨g, 4, none⟩ hg _
theorem Blk.drewN {cs : Array Value} (h : Blk w g t cs) (n : Nat) : Blk (w.drewN n) g t cs := h.moved rfl
end
end Go.Proofs.YtffppdcpiieapaaGreat.Memc
namespace Go.Proofs.YtffppdcpiieapaaGreat.Procc
open Go.RowKit Memc
set_option linter.unusedVariables false
set_option maxRecDepth 100000

def num (b : Bool) : Int := if b = true then 1 else 0

def Asked (w : World) (gm gx : Nat) (a : Acc) (e : Ending) (w' : World) : Prop :=
 e = .panicked [{ v := .iface 179 (.agg #[]), recovered := false }] /\ Blk w' gm 4 #[.bool true] /\ Blk w' gx 66 #[.int .i64 a.d, .int .i64 a.ar, .int .i64 a.at_, .int .u64 a.old, .int .u64 a.new] /\ Only (fun k => k = gm \/ k = gx) w w'

set_option maxHeartbeats 1000000 in
theorem do_ask (w : World) (gn gp gm gx P : Nat) (run : Value) (A : Option Addr) (n c : Nat) (a : Acc) (ask ov : Bool) (cd ou : Int)
   (hn : Blk w gn 3 #[.int .i64 n]) (hp : Blk w gp 82 #[.pointer (some ⟨P, 0, none⟩)]) (hm : Blk w gm 4 #[.bool false]) (hx : Blk w gx 66 #[.int .i64 0, .int .i64 0, .int .i64 0, .int .u64 0, .int .u64 0])
   (hq : Blk w P 85 #[run, .slice A n c, .bool ask, .bool ov, .int .i64 cd, .int .u32 ou]) :
   Calls Tryz.prog 122 #[.agg #[.int .i64 a.d, .int .i64 a.ar, .int .i64 a.at_, .int .u64 a.old, .int .u64 a.new], .pointer (some ⟨gn, 0, none⟩), .pointer (some ⟨gp, 0, none⟩), .pointer (some ⟨gm, 0, none⟩), .pointer (some ⟨gx, 0, none⟩)] w (Asked w gm gx a) := by
 have hmx : ¬ gm = gx := Blk.ne hm hx (by decide)
 have hxm : ¬ gx = gm := fun e => hmx e.symm
 have hcn := hn.cell
 have hfn := hn.frozen
 have hzn := hn.lt
 have hcp := hp.cell
 have hfp := hp.frozen
 have hzp := hp.lt
 have hcm := hm.cell
 have hfm := hm.frozen
 have hzm := hm.lt
 have hcx := hx.cell
 have hfx := hx.frozen
 have hzx := hx.lt
 have hcq := hq.cell
 have hfq := hq.frozen
 have hzq := hq.lt
 have HN := lh hn
 have HP := lh hp
 have HM := lh hm
 have HX := lh hx
 have HQ := lh hq
 clear hn hp hm hx hq
 go_enter Tryz.func122, Tryz.ntmps122
 go_wp2
 go_quiet (fail)
 go_wp2
 refine ⟨rfl, rfl, blk1_set ((blk5_far (((HM.out.alloc _).drewN _)) hmx _ _ _ _ _)) _, ((blk5_set ((HX.out.alloc _).drewN _) _ _ _ _ _).far hxm _), ?_⟩
 exact Only.set_ ((((Only.refl _ _).alloc _).drewN _).set5 (.inl (.inr rfl)) _ _ _ _ _) ⟨gm, 0, none⟩ (.inl (.inl rfl)) _

def Told (w : World) (gn k : Nat) (was : Int) (dn : Bool) (e : Ending) (w' : World) : Prop :=
 e = .returned (.tuple #[.int .u64 was, .bool dn]) /\ Blk w' gn 3 #[.int .i64 ((k : Int) + 1)] /\ Only (fun g => g = gn) w w'

set_option maxHeartbeats 1000000 in
theorem do_tell (w : World) (gn gp gm gx P : Nat) (run : Value) (fb fo n c k : Nat) (a : Acc) (ask ov m : Bool) (cd ou was : Int) (dn : Bool)
   (hn : Blk w gn 3 #[.int .i64 k]) (hp : Blk w gp 82 #[.pointer (some ⟨P, 0, none⟩)])
   (hq : Blk w P 85 #[run, .slice (some ⟨fb, fo, none⟩) n c, .bool ask, .bool ov, .int .i64 cd, .int .u32 ou])
   (hk : k < n) (hl : n <= maxLen) (h1 : w.cell? ⟨fb, fo + k * 2, none⟩ = some (.int .u64 was)) (h2 : w.cell? ⟨fb, fo + k * 2 + 1, none⟩ = some (.bool dn)) (hnf : ¬ fb = gn) :
   Calls Tryz.prog 122 #[.agg #[.int .i64 a.d, .int .i64 a.ar, .int .i64 a.at_, .int .u64 a.old, .int .u64 a.new], .pointer (some ⟨gn, 0, none⟩), .pointer (some ⟨gp, 0, none⟩), .pointer (some ⟨gm, 0, none⟩), .pointer (some ⟨gx, 0, none⟩)] w (Told w gn k was dn) := by
 have hne : ¬ (k : Int) = n := by omega
 have i0 : (0 : Int) <= k := by omega
 have i1 : (k : Int) < n := by omega
 have i2 : (n : Int) <= 9223372036854775807 := by unfold maxLen at hl; omega
 have hbf := World.block_lt_of_cell? _ _ h1
 clear hl hk
 have hcn := hn.cell
 have hfn := hn.frozen
 have hzn := hn.lt
 have hcp := hp.cell
 have hfp := hp.frozen
 have hzp := hp.lt
 have hcq := hq.cell
 have hfq := hq.frozen
 have hzq := hq.lt
 have HN := lh hn
 have HP := lh hp
 have HQ := lh hq
 clear hn hp hq
 go_enter Tryz.func122, Tryz.ntmps122
 go_wp2
 go_quiet (fail)
 go_wp2
 go_region
 all_goals
   go_wp2
   go_quiet (fail)
   go_wp2
   go_ret2
   exact ⟨rfl, ((((blk1_set ((HN.out.alloc _).drewN _) _).alloc _).drewN _)), Only.drewN (Only.alloc (Only.set_ (((Only.refl (fun g => g = gn) w).alloc _).drewN _) ⟨gn, 0, none⟩ (.inl rfl) _) _) _⟩

theorem catch_asked (gm gp : Nat) (u : TypeId) (pv : Value) (older : List PanicEntry) (w : World) (hm : Blk w gm 4 #[.bool true]) :
   CallsD Tryz.prog 121 #[.pointer (some ⟨gm, 0, none⟩), .pointer (some ⟨gp, 0, none⟩)] (.panicking ({ v := .iface u pv, recovered := false } :: older)) w fun e u' w' =>
     e = .returned (.tuple #[]) /\ u' = .panicking ({ v := .iface u pv, recovered := true } :: older) /\ w' = w := by
 have hc := hm.cell 0
 simp only [List.getElem?_toArray, List.getElem?_cons_zero] at hc
 refine callsD_of_wpS Tryz.func121 rfl fun c₀ cs hu => ?_
 apply wpS_seq
 apply wpS_region
 simp [wpOpsS, go_sem, recoverD, hu, Tryz.ntmps121, Exit.thenS, hc]
 refine wpS_cond (t := false) (by simp [Act.eval, Array.replicate]) ?_
 simp only [Bool.false_eq_true, if_false]
 refine wpS_of_wp (wp_skip ?_)
 cases c₀
 simp_all [bodyPostS, results, Tryz.results121]

theorem catch_idle (gm gp : Nat) (w : World) :
   CallsD Tryz.prog 121 #[.pointer (some ⟨gm, 0, none⟩), .pointer (some ⟨gp, 0, none⟩)] .returning w fun e u' w' => e = .returned (.tuple #[]) /\ u' = .returning /\ w' = w := by
 refine callsD_of_wpS Tryz.func121 rfl fun c₀ cs hu => ?_
 apply wpS_seq
 apply wpS_region
 simp [wpOpsS, go_sem, recoverD, hu, Tryz.ntmps121, Exit.thenS]
 refine wpS_cond (t := false) (by simp [Act.eval, Array.replicate]) ?_
 simp only [Bool.false_eq_true, if_false]
 refine wpS_of_wp (wp_skip ?_)
 cases c₀
 simp_all [bodyPostS, results, Tryz.results121]

def Thru (w : World) (P : Nat) (run : Value) (A : Option Addr) (n c : Nat) (ask ov : Bool) (cd ou cd' ou' : Int) (v : Array Value) (m : Bool) (e : Ending) (w' : World) : Prop :=
 e = .returned (.tuple #[.agg v, .bool m]) /\ Blk w' P 85 #[run, .slice A n c, .bool ask, .bool ov, .int .i64 cd', .int .u32 ou'] /\ Only (fun g => g = P) w w'

end Go.Proofs.YtffppdcpiieapaaGreat.Procc

namespace Go.Proofs.YtffppdcpiieapaaGreat.Memc
open Go.RowKit
set_option linter.unusedVariables false
set_option maxRecDepth 100000

def Row (w : World) (base : Nat) (E : TypeId) (size : Nat) (s : Sl) (n : Nat) (xs : List Value) : Prop := w.ownsRow base E size (.slice s.A s.n s.c) n xs
def bl (s : Sl) (g : Nat) : Prop := ∃ ad, s.A = some ad /\ g = ad.block
section
variable {w w' : World} {base : Nat} {E : TypeId} {size : Nat} {s : Sl} {n : Nat} {xs : List Value}
theorem Row.n_ (h : Row w base E size s n xs) : s.n = n /\ s.n <= s.c /\ s.c <= maxLen /\ xs.length = n * size := by
 rcases h.2 with ⟨hv, hn⟩ | ⟨g, cap, cur, hv, hb, hg, hnc, hcm, hsz, htk⟩
 · injection hv with h1 h2 h3
   exact ⟨by omega, by omega, by rw [h3]; exact Nat.zero_le _, h.1⟩
 · injection hv with h1 h2 h3
   exact ⟨h2, by omega, by omega, h.1⟩
theorem Row.lt (h : Row w base E size s n xs) {g : Nat} (hg : bl s g) : base <= g /\ g < w.heap.size := by
 obtain ⟨ad, ha, rfl⟩ := hg
 exact World.ownsRow.lt h ad.block (by rw [ha]; rfl)
theorem Row.blk (h : Row w base E size s n xs) {g : Nat} (hg : bl s g) : ∃ cs, Blk w g E cs := by
 obtain ⟨ad, ha, rfl⟩ := hg
 rcases h.2 with ⟨hv, hn⟩ | ⟨g, cap, cur, hv, hb, hg, hr⟩
 · injection hv with h1
   rw [h1] at ha; cases ha
 · injection hv with h1
   rw [h1] at ha
   injection ha with ha
   subst ha
   exact ⟨cur, hg⟩
theorem Row.kept (h : Row w base E size s n xs) (hk : ∀ g, bl s g -> w'.heap[g]? = w.heap[g]?) : Row w' base E size s n xs := by
 refine ⟨h.1, ?_⟩
 rcases h.2 with h1 | ⟨g, cap, cur, hv, hb, hg, hr⟩
 · exact .inl h1
 · refine .inr ⟨g, cap, cur, hv, hb, ?_, hr⟩
   injection hv with h1
   exact (hk g ⟨_, h1, rfl⟩).trans hg
theorem Row.alloc (h : Row w base E size s n xs) (o : Obj) : Row (w.alloc o) base E size s n xs := World.ownsRow.alloc h o
theorem Row.drew (h : Row w base E size s n xs) : Row w.drew base E size s n xs := h
theorem Row.drewN (h : Row w base E size s n xs) (k : Nat) : Row (w.drewN k) base E size s n xs := h
theorem Row.only {P : Nat -> Prop} (h : Row w base E size s n xs) (ho : Only P w w') (hp : ∀ g, bl s g -> ¬ P g) : Row w' base E size s n xs :=
 h.kept fun g hg => ho.block g (h.lt hg).2 (hp g hg)
theorem Row.below {B : Nat} (h : Row w base E size s n xs) (hb : Below B w w') (hB : w.heap.size <= B) : Row w' base E size s n xs :=
 h.kept fun g hg => hb.block g (by have := (h.lt hg).2; omega)
theorem Row.ne (h : Row w base E size s n xs) {k : Nat} {t : TypeId} {cs : Array Value} (hk : Blk w k t cs) (hne : E ≠ t) : ∀ g, bl s g -> g ≠ k := fun g hg => by
 obtain ⟨ds, hd⟩ := h.blk hg
 exact Blk.ne hd hk hne
theorem Row.ne_row {base' : Nat} {E' : TypeId} {size' : Nat} {s' : Sl} {n' : Nat} {xs' : List Value} (h : Row w base E size s n xs) (h' : Row w base' E' size' s' n' xs') (hne : E ≠ E') : ∀ g, bl s g -> ∀ k, bl s' k -> g ≠ k := fun g hg k hk => by
 obtain ⟨ds, hd⟩ := h'.blk hk
 exact h.ne hd hne g hg
theorem Row.at_ (h : Row w base E size s n xs) (hn : 0 < n) : ∃ g : Nat, s.A = some ⟨g, 0, none⟩ /\ base <= g /\ g < w.heap.size /\ (∀ j, j < n * size -> w.cell? ⟨g, j, none⟩ = xs[j]?) /\ (∀ j, w.frozen? ⟨g, j, none⟩ = false) := by
 rcases h.2 with ⟨hv, h0⟩ | ⟨g, cap, cur, hv, hb, hg, hnc, hcm, hsz, htk⟩
 · omega
 · have ho : w.ownsRow base E size (.slice (some ⟨g, 0, none⟩) n cap) n xs := by rw [<- hv]; exact h
   injection hv with h1 h2 h3
   exact ⟨g, h1, hb, (h.lt ⟨_, h1, rfl⟩).2, fun j hj => World.ownsRow.cellAt ho j hj, fun j => frozen_of_row w g j cur _ hg⟩
theorem Row.set_ (h : Row w base E size s n xs) {g : Nat} (hg : s.A = some ⟨g, 0, none⟩) (j : Nat) (v : Value) : Row (w.setCell ⟨g, j, none⟩ v) base E size s n (xs.set j v) := by
 have hn := h.n_.1
 have ho : w.ownsRow base E size (.slice (some ⟨g, 0, none⟩) n s.c) n xs := by
   have h' : w.ownsRow base E size (.slice s.A s.n s.c) n xs := h
   rw [hg, hn] at h'; exact h'
 have := (World.ownsRow.stored ho j v).1
 show World.ownsRow _ _ _ _ _ _ _
 rw [hg, hn]
 exact this
theorem row_sl {v : Value} (h : w.ownsRow base E size v n xs) : ∃ s : Sl, v = .slice s.A s.n s.c /\ Row w base E size s n xs := by
 rcases h.2 with ⟨hv, _⟩ | ⟨g, cap, cur, hv, _⟩
 · exact ⟨⟨none, 0, 0⟩, hv, by rw [hv] at h; exact h⟩
 · exact ⟨⟨some ⟨g, 0, none⟩, n, cap⟩, hv, by rw [hv] at h; exact h⟩
theorem row_nil (w : World) (base : Nat) (E : TypeId) (size : Nat) : Row w base E size ⟨none, 0, 0⟩ 0 [] := World.ownsRow_nil w base E size
theorem Only.grown {P : Nat -> Prop} {w0 : World} (h : Only P w0 w) (hg : w.grownBy w' (Value.slice s.A s.n s.c).ownBlock) (hp : ∀ g, bl s g -> P g \/ w0.heap.size <= g) : Only P w0 w' :=
 ⟨hg.os.trans h.os, hg.tape.trans h.tape, hg.output.trans h.output, Nat.le_trans h.size hg.size, fun k hk hn => by
   refine (hg.block k (Nat.lt_of_lt_of_le hk h.size) (fun e => ?_)).trans (h.block k hk hn)
   obtain ⟨A, m, c⟩ := s
   rcases A with _ | ad
   · cases e
   · injection e with e
     rcases hp k ⟨ad, rfl, e⟩ with hq | hq
     · exact hn hq
     · omega⟩
theorem only_grown (hg : w.grownBy w' (Value.slice s.A s.n s.c).ownBlock) : Only (bl s) w w' := (Only.refl _ _).grown hg fun g h => .inl h
end

theorem wp_app1 {w : World} {o : Oper} {a : Act} {K : Act -> World -> Prop} {Q : Exit -> Act -> World -> Prop} (x y : Operand) (t : TypeId) (ho : o.op = .call { callee := .builtin .append, args := #[x, y], argTypes := #[t, t] })
   (base : Nat) (E : TypeId) (i : TypeInfo) (z : Value) (size bytes : Nat) (ht : Tryz.prog.underlying t = some (.slice E)) (hi : Tryz.prog.info? E = some i) (hz : i.zero = some z) (hsize : i.size = size) (hby : i.bytes = bytes) (hzs : z.cells.size = size) (hsz : 0 < size)
   (s : Sl) (n : Nat) (xs : List Value) (hx : a.eval x = .slice s.A s.n s.c) (hown : Row w base E size s n xs) (gy : Nat) (news : List Value) (hy : a.eval y = .slice (some ⟨gy, 0, none⟩) 1 1) (hl : news.length = size)
   (hnews : ∀ j u, news[j]? = some u -> w.cell? ⟨gy, j, none⟩ = some u) (h1 : ∀ u ∈ news, u.oneCell' = true) (h63 : n < 1000000) (hb1 : bytes <= 1000) (hb : base <= w.heap.size)
   (hk : ∀ s' w', Row w' base E size s' (n + 1) (xs ++ news) -> Only (bl s) w w' -> K (a.put o.dst (.slice s'.A s'.n s'.c)) w') : o.wp Tryz.prog a w K Q := by
 have hbb : (n + 1) * bytes <= 140737488355328 := Nat.le_trans (Nat.mul_le_mul (show n + 1 <= 1000000 by omega) hb1) (by omega)
 refine wp_append_own w x y t ho base E i z size bytes ht hi hz hsize hby hzs hsz _ n xs hx hown ⟨gy, 0, none⟩ 1 1 news hy (by omega) (fun j u hj => ?_) h1 (by unfold maxLen; omega) hbb hb fun v' w' h2 h3 _ => ?_
 · rw [Addr.add_lit]
   simpa using hnews j u hj
 · obtain ⟨s', rfl, hs'⟩ := row_sl h2
   exact hk s' w' hs' (only_grown h3)
theorem finding_cell : (Tryz.prog.info? 176).map (fun i => (i.zero, i.size, i.bytes)) = some (some (.agg #[.int .u64 0, .bool false]), 2, 16) := by kernel_rfl
end Go.Proofs.YtffppdcpiieapaaGreat.Memc

namespace Go.Proofs.YtffppdcpiieapaaGreat.Procc
open Go.RowKit Memc
set_option linter.unusedVariables false
set_option maxRecDepth 100000

def Over (w : World) (P : Nat) (cd ou : Int) : Prop := Blk w P 85 #[.nilFunc, .slice none 0 0, .bool false, .bool true, .int .i64 cd, .int .u32 ou]

theorem end_c (w : World) (P : Nat) (r f : Value) (ask ov : Bool) (cd ou : Int) (A : Option Addr) (n c : Nat) (run : Fn) (c1 c2 : Array Value) (hq : Blk w P 85 #[(.func run c1 c2), (.slice A n c), .bool ask, .bool ov, .int .i64 cd, .int .u32 ou]) :
   Calls Tryz.prog 120 #[.pointer (some ⟨P, 0, none⟩)] w fun e w' => e = .returned (.tuple #[]) /\ Blk w' P 85 #[.nilFunc, .slice none 0 0, .bool ask, .bool true, .int .i64 cd, .int .u32 ou] /\ Only (fun g => g = P) w w' := by
 have hcq := hq.cell
 have hfq := hq.frozen
 have hzq := hq.lt
 have HQ := lh hq
 clear hq
 go_enter Tryz.func120, Tryz.ntmps120
 go_wp2
 go_end0
 exact ⟨rfl, (by have h_ := (((HQ.out).set_ 3 (.bool true)).set_ 0 (.nilFunc)).set_ 1 (.slice none 0 0); simpa only [sA, sZ, sC] using h_), ((((Only.refl (fun g => g = P) w)).set_ ⟨P, 3, none⟩ (.inl rfl) _).set_ ⟨P, 0, none⟩ (.inl rfl) _).set_ ⟨P, 1, none⟩ (.inl rfl) _⟩

theorem result_c (w : World) (P : Nat) (cd ou : Int) (hq : Over w P cd ou) :
   Calls Tryz.prog 117 #[.pointer (some ⟨P, 0, none⟩)] w fun e w' => e = .returned (.tuple #[.int .i64 cd, .int .u32 ou]) /\ ∃ n, w' = w.drewN n := by
 have hcq := Blk.cell hq
 clear hq
 go_enter Tryz.func117, Tryz.ntmps117
 go_wp2
 go_quiet (fail)
 go_wp2
 go_ret2
 exact ⟨rfl, _, rfl⟩

end Go.Proofs.YtffppdcpiieapaaGreat.Procc
