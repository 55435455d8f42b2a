/- The words at first, by the program. -/
import Derived.Test.YtjgbgjkjnlaloaaNewC
import Derived.Deep.DrawnRows
import Derived.WalkSpells
namespace Go.Proofs.Ytjgbgjkjnlaloaa.Newc
open Go.RowKit Go.Proofs.Ytjgbgjkjnlaloaa.Memc Go.Proofs.Ytjgbgjkjnlaloaa.Wordc
set_option linter.unusedVariables false
set_option maxRecDepth 100000
attribute [local go_sem ↓] Go.wp_at_zero Go.wp_at_succ

set_option maxHeartbeats 4000000 in
theorem new_yes (w : World) (k : Int) (K T M : Nat) (k1 : 1 ≤ k) (k2 : k ≤ 3) (a1 : 1 ≤ K) (a2 : K ≤ 64) (t1 : 1 ≤ T) (t2 : T ≤ 8) (m1 : 2 ≤ M) (m2 : M ≤ 64) :
    Calls Try.prog 20 #[.agg #[.int .i64 k, .int .i64 K, .int .i64 T, .int .i64 M]] w (Newly w (newM k K T M) 0) := by
  have B0 : Hid (Below w.heap.size w ((w.alloc (.cells #[.int .i64 k, .int .i64 K, .int .i64 T, .int .i64 M] 36)).alloc (.cells #[.int .u64 0, .int .u64 0, .slice none 0 0, .slice none 0 0, .int .u64 0, .int .u64 0, .slice none 0 0, .slice none 0 0, .slice none 0 0] 25))) :=
    Lib.hid (((Below.refl _ _).alloc (Nat.le_refl _) _).alloc (by simp) _)
  have X0 : Hid (Blk ((w.alloc (.cells #[.int .i64 k, .int .i64 K, .int .i64 T, .int .i64 M] 36)).alloc (.cells #[.int .u64 0, .int .u64 0, .slice none 0 0, .slice none 0 0, .int .u64 0, .int .u64 0, .slice none 0 0, .slice none 0 0, .slice none 0 0] 25)) w.heap.size 36 #[.int .i64 k, .int .i64 K, .int .i64 T, .int .i64 M]) := Lib.hid ((Blk.new _ _ _).alloc _)
  have Y0 : Hid (Blk ((w.alloc (.cells #[.int .i64 k, .int .i64 K, .int .i64 T, .int .i64 M] 36)).alloc (.cells #[.int .u64 0, .int .u64 0, .slice none 0 0, .slice none 0 0, .int .u64 0, .int .u64 0, .slice none 0 0, .slice none 0 0, .slice none 0 0] 25)) (w.heap.size + 1) 25 #[.int .u64 0, .int .u64 0, .slice none 0 0, .slice none 0 0, .int .u64 0, .int .u64 0, .slice none 0 0, .slice none 0 0, .slice none 0 0]) := Lib.hid (blk_at (by simp))
  have hmul : M * K ≤ 4096 := Nat.le_trans (Nat.mul_le_mul m2 a2) (by omega)
  have hmk3 := fun W => run_mk 3 3 rfl (by omega) W
  have hmkT := fun W => run_mk T (T : Int) rfl (by omega) W
  have hmkM := fun W => run_mk M (M : Int) rfl (by omega) W
  have hmkS := fun W => run_mk (M * K) ((M : Int) * (K : Int)) (by simp) (by omega) W
  have hml := mul_in M K hmul
  go_enter Try.func20, Try.ntmps20
  go_wp2_with (go_at_call 22; refine (may_yes _ _ _ _ _ (by omega) (by omega) (by omega) (by omega) (by omega) (by omega) (by omega) (by omega)).mono ?_; rintro e w1 ⟨rfl, hb1⟩; have B1 := Lib.hid hb1; have X1 := Lib.hid (X0.out.below hb1 X0.out.lt); have Y1 := Lib.hid (Y0.out.below hb1 Y0.out.lt); clear hb1)
  have hHc := X1.out.lt
  have hS : (World.drew w1).cell? ⟨w.heap.size, 1, none⟩ = some (.int .i64 K) ∧ (World.drew w1).cell? ⟨w.heap.size, 2, none⟩ = some (.int .i64 T) ∧ (World.drew w1).cell? ⟨w.heap.size, 3, none⟩ = some (.int .i64 M) :=
    ⟨X1.out.drew.cell 1, X1.out.drew.cell 2, X1.out.drew.cell 3⟩
  refine wp_region_any (by kernel_rfl) ?_
  refine wpAny_of_held (S := (fun w' => w'.cell? ⟨w.heap.size, 1, none⟩ = some (.int .i64 K) ∧ w'.cell? ⟨w.heap.size, 2, none⟩ = some (.int .i64 T) ∧ w'.cell? ⟨w.heap.size, 3, none⟩ = some (.int .i64 M))) _ _ _ _ ?_
  show wpAnyH _ _ _ _ _ 19 #[false, false, false, false, false, false, false, false, false, false, false, false, false, false, false, false, false, false, false] _ _
  refine take_at 1 10 (v := ?v1) rfl rfl (by kernel_rfl) (by kernel_rfl) (by kernel_rfl) (fun _ _ _ h => h) hS (Or.inl ⟨by rfl, ?y1⟩) ?r1
  case y1 => (intro w hSw; go_simp <;> with_reducible rfl)
  simp only [List.setIfInBounds_toArray, List.set_cons_zero, List.set_cons_succ]
  refine take_at 2 11 (v := ?v2) rfl rfl (by kernel_rfl) (by kernel_rfl) (by kernel_rfl) (fun _ _ _ h => h) hS (Or.inl ⟨by rfl, ?y2⟩) ?r2
  case y2 => (intro w hSw; go_simp <;> with_reducible rfl)
  simp only [List.setIfInBounds_toArray, List.set_cons_zero, List.set_cons_succ]
  refine take_at 4 13 (v := ?v4) rfl rfl (by kernel_rfl) (by kernel_rfl) (by kernel_rfl) (fun _ _ _ h => h) hS (Or.inl ⟨by rfl, ?y4⟩) ?r4
  case y4 => (intro w hSw; go_simp <;> with_reducible rfl)
  simp only [List.setIfInBounds_toArray, List.set_cons_zero, List.set_cons_succ]
  refine take_at 5 14 (v := ?v5) rfl rfl (by kernel_rfl) (by kernel_rfl) (by kernel_rfl) (fun _ _ _ h => h) hS (Or.inl ⟨by rfl, ?y5⟩) ?r5
  case y5 => (intro w hSw; go_simp <;> with_reducible rfl)
  simp only [List.setIfInBounds_toArray, List.set_cons_zero, List.set_cons_succ]
  refine take_at 7 16 (v := ?v7) rfl rfl (by kernel_rfl) (by kernel_rfl) (by kernel_rfl) (fun _ _ _ h => h) hS (Or.inl ⟨by rfl, ?y7⟩) ?r7
  case y7 => (intro w hSw; go_simp <;> with_reducible rfl)
  simp only [List.setIfInBounds_toArray, List.set_cons_zero, List.set_cons_succ]
  refine take_at 8 17 (v := ?v8) rfl rfl (by kernel_rfl) (by kernel_rfl) (by kernel_rfl) (fun _ _ _ h => h) hS (Or.inl ⟨by rfl, ?y8⟩) ?r8
  case y8 => (intro w hSw; go_simp <;> with_reducible rfl)
  simp only [List.setIfInBounds_toArray, List.set_cons_zero, List.set_cons_succ]
  refine take_at 10 19 (v := ?v10) rfl rfl (by kernel_rfl) (by kernel_rfl) (by kernel_rfl) (fun _ _ _ h => h) hS (Or.inl ⟨by rfl, ?y10⟩) ?r10
  case y10 => (intro w hSw; go_simp <;> with_reducible rfl)
  simp only [List.setIfInBounds_toArray, List.set_cons_zero, List.set_cons_succ]
  refine take_at 11 20 (v := ?v11) rfl rfl (by kernel_rfl) (by kernel_rfl) (by kernel_rfl) (fun _ _ _ h => h) hS (Or.inl ⟨by rfl, ?y11⟩) ?r11
  case y11 => (intro w hSw; go_simp <;> with_reducible rfl)
  simp only [List.setIfInBounds_toArray, List.set_cons_zero, List.set_cons_succ]
  refine take_at 12 21 (v := ?v12) rfl rfl (by kernel_rfl) (by kernel_rfl) (by kernel_rfl) (fun _ _ _ h => h) hS (Or.inl ⟨by rfl, ?y12⟩) ?r12
  case y12 => (intro w hSw; go_simp <;> with_reducible rfl)
  simp only [List.setIfInBounds_toArray, List.set_cons_zero, List.set_cons_succ]
  refine take_at 13 22 (v := ?v13) rfl rfl (by kernel_rfl) (by kernel_rfl) (by kernel_rfl) (fun _ _ _ h => h) hS (Or.inl ⟨by rfl, ?y13⟩) ?r13
  case y13 => (intro w hSw; go_simp <;> with_reducible rfl)
  simp only [List.setIfInBounds_toArray, List.set_cons_zero, List.set_cons_succ]
  refine take_at 14 23 (v := ?v14) rfl rfl (by kernel_rfl) (by kernel_rfl) (by kernel_rfl) (fun _ _ _ h => h) hS (Or.inl ⟨by rfl, ?y14⟩) ?r14
  case y14 => (intro w hSw; go_simp <;> with_reducible rfl)
  simp only [List.setIfInBounds_toArray, List.set_cons_zero, List.set_cons_succ]
  refine ordered (fun listed a W => ∃ (x : Nat → Nat) (L : Nat → Bool) (b d : Bool) (y0 y3 y5 y6 y7 y8 y10 y13 y16 y19 y20 y21 y22 y26 y27 y28 y29 y30 y31 y32 y33 y34 y35 y36 y37 y38 y39 y40 y41 y42 y43 y44 : Value), listed = #[L 0, true, true, L 1, true, true, L 2, true, true, L 3, true, true, true, true, true, L 4, b, L 5, d] ∧ a = ⟨#[y0, .pointer (some ⟨w.heap.size, 0, none⟩), .pointer (some ⟨w.heap.size + 1, 0, none⟩), y3, pv L x, y5, y6, y7, y8, sv L x (nn T M K) 0, y10, .int .i64 (T : Int), sv L x (nn T M K) 1, y13, .int .i64 (M : Int), sv L x (nn T M K) 2, y16, .int .i64 (M : Int), sv L x (nn T M K) 3, y19, y20, y21, y22, .int .i64 ((M : Int) * (K : Int)), sv L x (nn T M K) 4, bv b x (nn T M K), y26, y27, y28, y29, y30, y31, y32, y33, y34, y35, y36, y37, y38, y39, y40, y41, y42, y43, y44], []⟩ ∧ State w1 (nn T M K) x L b d W) ?step ?done 8 _ _ _ (Nat.le_of_eq (by kernel_rfl)) ?init hS
  case init => exact ⟨fun _ => 0, fun _ => false, false, false, _, _, _, _, _, _, _, _, _, _, _, _, _, _, _, _, _, _, _, _, _, _, _, _, _, _, _, _, _, _, _, _, rfl, rfl, State.start _ _ _⟩
  case step =>
    rintro listed a W i ⟨x, L, b, d, y0, y3, y5, y6, y7, y8, y10, y13, y16, y19, y20, y21, y22, y26, y27, y28, y29, y30, y31, y32, y33, y34, y35, y36, y37, y38, y39, y40, y41, y42, y43, y44, rfl, rfl, hst⟩ hSW hi
    have hin := hi
    obtain ⟨hun, o, ho, hall⟩ := mem_ready.1 hi
    have hilt : i < 19 := (Array.getElem?_eq_some_iff.1 ho).1
    have hHW : w.heap.size < W.heap.size := Nat.lt_of_lt_of_le hHc hst.below.size
    rcases (show i = 0 ∨ i = 1 ∨ i = 2 ∨ i = 3 ∨ i = 4 ∨ i = 5 ∨ i = 6 ∨ i = 7 ∨ i = 8 ∨ i = 9 ∨ i = 10 ∨ i = 11 ∨ i = 12 ∨ i = 13 ∨ i = 14 ∨ i = 15 ∨ i = 16 ∨ i = 17 ∨ i = 18 by omega) with rfl | rfl | rfl | rfl | rfl | rfl | rfl | rfl | rfl | rfl | rfl | rfl | rfl | rfl | rfl | rfl | rfl | rfl | rfl
    · have hl : L 0 = false := by simpa using hun
      obtain ⟨rfl, rfl⟩ := hst.no 0 (by omega) hl
      have ST := Lib.hid (hst.row 0 (by omega) hl)
      have HSW := Lib.hid hSW
      clear hst hSW hi hin hun ho hall hl
      refine wpOp_run rfl rfl fun K' hK => ?_
      go_simp
      exact hK.out _ _ ⟨keep3 HSW.out (Below.heap_alloc _ _ _ hHW), upd x 0 W.heap.size, upd L 0 true, false, false, y0, y3, y5, y6, y7, y8, y10, y13, y16, y19, y20, y21, y22, y26, y27, y28, y29, y30, y31, y32, y33, y34, y35, y36, y37, y38, y39, y40, y41, y42, y43, y44, by simp [upd], by simp [upd, sv, pv, bv, nn], ST.out⟩
    · simp at hun
    · simp at hun
    · have hl : L 1 = false := by simpa using hun
      obtain ⟨rfl, rfl⟩ := hst.no 1 (by omega) hl
      have ST := Lib.hid (hst.row 1 (by omega) hl)
      have HSW := Lib.hid hSW
      clear hst hSW hi hin hun ho hall hl
      refine wpOp_run rfl rfl fun K' hK => ?_
      go_simp
      exact hK.out _ _ ⟨keep3 HSW.out (Below.heap_alloc _ _ _ hHW), upd x 1 W.heap.size, upd L 1 true, false, false, y0, y3, y5, y6, y7, y8, y10, y13, y16, y19, y20, y21, y22, y26, y27, y28, y29, y30, y31, y32, y33, y34, y35, y36, y37, y38, y39, y40, y41, y42, y43, y44, by simp [upd], by simp [upd, sv, pv, bv, nn], ST.out⟩
    · simp at hun
    · simp at hun
    · have hl : L 2 = false := by simpa using hun
      obtain ⟨rfl, rfl⟩ := hst.no 2 (by omega) hl
      have ST := Lib.hid (hst.row 2 (by omega) hl)
      have HSW := Lib.hid hSW
      clear hst hSW hi hin hun ho hall hl
      refine wpOp_run rfl rfl fun K' hK => ?_
      go_simp
      exact hK.out _ _ ⟨keep3 HSW.out (Below.heap_alloc _ _ _ hHW), upd x 2 W.heap.size, upd L 2 true, false, false, y0, y3, y5, y6, y7, y8, y10, y13, y16, y19, y20, y21, y22, y26, y27, y28, y29, y30, y31, y32, y33, y34, y35, y36, y37, y38, y39, y40, y41, y42, y43, y44, by simp [upd], by simp [upd, sv, pv, bv, nn], ST.out⟩
    · simp at hun
    · simp at hun
    · have hl : L 3 = false := by simpa using hun
      obtain ⟨rfl, rfl⟩ := hst.no 3 (by omega) hl
      have ST := Lib.hid (hst.row 3 (by omega) hl)
      have HSW := Lib.hid hSW
      clear hst hSW hi hin hun ho hall hl
      refine wpOp_run rfl rfl fun K' hK => ?_
      go_simp
      exact hK.out _ _ ⟨keep3 HSW.out (Below.heap_alloc _ _ _ hHW), upd x 3 W.heap.size, upd L 3 true, false, false, y0, y3, y5, y6, y7, y8, y10, y13, y16, y19, y20, y21, y22, y26, y27, y28, y29, y30, y31, y32, y33, y34, y35, y36, y37, y38, y39, y40, y41, y42, y43, y44, by simp [upd], by simp [upd, sv, pv, bv, nn], ST.out⟩
    · simp at hun
    · simp at hun
    · simp at hun
    · simp at hun
    · simp at hun
    · have hl : L 4 = false := by simpa using hun
      obtain ⟨rfl, rfl⟩ := hst.no 4 (by omega) hl
      have ST := Lib.hid (hst.row 4 (by omega) hl)
      have HSW := Lib.hid hSW
      clear hst hSW hi hin hun ho hall hl
      refine wpOp_run rfl rfl fun K' hK => ?_
      go_simp
      exact hK.out _ _ ⟨keep3 HSW.out (Below.heap_alloc _ _ _ hHW), upd x 4 W.heap.size, upd L 4 true, false, false, y0, y3, y5, y6, y7, y8, y10, y13, y16, y19, y20, y21, y22, y26, y27, y28, y29, y30, y31, y32, y33, y34, y35, y36, y37, y38, y39, y40, y41, y42, y43, y44, by simp [upd], by simp [upd, sv, pv, bv, nn], ST.out⟩
    · have hb : b = false := by simpa using hun
      subst hb
      simp at ho
      subst ho
      have hl : ∀ j, j < 5 → L j = true := by
        intro j hj
        rcases (show j = 0 ∨ j = 1 ∨ j = 2 ∨ j = 3 ∨ j = 4 by omega) with rfl | rfl | rfl | rfl | rfl
        · simpa using hall ⟨0, .data⟩ (by simp) rfl
        · simpa using hall ⟨3, .data⟩ (by simp) rfl
        · simpa using hall ⟨6, .data⟩ (by simp) rfl
        · simpa using hall ⟨9, .data⟩ (by simp) rfl
        · simpa using hall ⟨15, .data⟩ (by simp) rfl
      have hd : d = false := by
        cases hd : d
        · rfl
        · have := (hst.put_ hd).1; cases this
      subst hd
      have ST := Lib.hid (hst.build rfl hl)
      have HSW := Lib.hid hSW
      have e0 : sv L x (nn T M K) 0 = .slice (some ⟨x 0, 0, none⟩) 3 3 := by simp [sv, hl 0 (by omega), nn]
      have e1 : sv L x (nn T M K) 1 = .slice (some ⟨x 1, 0, none⟩) T T := by simp [sv, hl 1 (by omega), nn]
      have e2 : sv L x (nn T M K) 2 = .slice (some ⟨x 2, 0, none⟩) M M := by simp [sv, hl 2 (by omega), nn]
      have e3 : sv L x (nn T M K) 3 = .slice (some ⟨x 3, 0, none⟩) M M := by simp [sv, hl 3 (by omega), nn]
      have e4 : sv L x (nn T M K) 4 = .slice (some ⟨x 4, 0, none⟩) (M * K) (M * K) := by simp [sv, hl 4 (by omega), nn]
      clear hst hSW hi hin hun hall hl
      refine wpOp_run rfl rfl fun K' hK => ?_
      go_simp
      exact hK.out _ _ ⟨HSW.out, x, L, true, false, y0, y3, y5, y6, y7, y8, y10, y13, y16, y19, y20, y21, y22, y26, y27, y28, y29, y30, y31, y32, y33, y34, y35, y36, y37, y38, y39, y40, y41, y42, y43, y44, by simp, by simp [e0, e1, e2, e3, e4, bv, news, nn], ST.out⟩
    · have hl : L 5 = false := by simpa using hun
      obtain rfl := hst.d_false hl
      have ST := Lib.hid (hst.new hl)
      have HSW := Lib.hid hSW
      clear hst hSW hi hin hun ho hall hl
      refine wpOp_run rfl rfl fun K' hK => ?_
      go_simp
      exact hK.out _ _ ⟨keep3 HSW.out (Below.heap_alloc _ _ _ hHW), upd x 5 W.heap.size, upd L 5 true, b, false, y0, y3, y5, y6, y7, y8, y10, y13, y16, y19, y20, y21, y22, y26, y27, y28, y29, y30, y31, y32, y33, y34, y35, y36, y37, y38, y39, y40, y41, y42, y43, y44, by simp [upd], by simp [upd, sv, pv, bv, nn, news], ST.out⟩
    · have hd : d = false := by simpa using hun
      subst hd
      simp at ho
      subst ho
      have hb : b = true := by simpa using hall ⟨16, .data⟩ (by simp) rfl
      have hl : L 5 = true := by simpa using hall ⟨17, .data⟩ (by simp) rfl
      subst hb
      have ST := Lib.hid (hst.store hl)
      have HSW := Lib.hid hSW
      have hv := hst.var hl
      have hcv : ∀ i, W.cell? ⟨x 5, i, none⟩ = (#[.int .u64 0, .int .u64 0, .slice none 0 0, .slice none 0 0, .int .u64 0, .int .u64 0, .slice none 0 0, .slice none 0 0, .slice none 0 0] : Array Value)[i]? := hv.cell
      have hfv := hv.frozen
      have hx5 : ¬ w.heap.size = x 5 := by have := (hst.made.old hl).1; omega
      have HX5 := Lib.hid hx5
      have ep : pv L x = .pointer (some ⟨x 5, 0, none⟩) := by simp [pv, hl]
      have eb : bv true x (nn T M K) = .agg (#[.int .u64 0, .int .u64 0, .slice (some ⟨x 0, 0, none⟩) 3 3, .slice (some ⟨x 1, 0, none⟩) T T, .int .u64 0, .int .u64 0, .slice (some ⟨x 2, 0, none⟩) M M, .slice (some ⟨x 3, 0, none⟩) M M, .slice (some ⟨x 4, 0, none⟩) (M * K) (M * K)]) := by simp [bv, news, nn]
      clear hst hSW hi hin hun hall hl hv hx5
      refine wpOp_run rfl rfl fun K' hK => ?_
      go_simp
      refine hK.out _ _ ⟨keep3 HSW.out ?_, x, L, true, true, y0, y3, y5, y6, y7, y8, y10, y13, y16, y19, y20, y21, y22, y26, y27, y28, y29, y30, y31, y32, y33, y34, y35, y36, y37, y38, y39, y40, y41, y42, y43, y44, by simp, by simp [ep, eb], ST.out⟩
      simp only [World.setCell, Array.getElem?_modify]
      have hne := HX5.out
      simp [Ne.symm hne]
  case done =>
    rintro listed a W ⟨x, L, b, d, y0, y3, y5, y6, y7, y8, y10, y13, y16, y19, y20, y21, y22, y26, y27, y28, y29, y30, y31, y32, y33, y34, y35, y36, y37, y38, y39, y40, y41, y42, y43, y44, rfl, rfl, hst⟩ hSW hr
    have l0 : L 0 = true := by
      have := all_up hr 0 rfl (by simp)
      simpa using this
    have l1 : L 1 = true := by
      have := all_up hr 3 rfl (by intro e he _; simp at he; subst he; simp)
      simpa using this
    have l2 : L 2 = true := by
      have := all_up hr 6 rfl (by intro e he _; simp at he; subst he; simp)
      simpa using this
    have l3 : L 3 = true := by
      have := all_up hr 9 rfl (by intro e he _; simp at he; subst he; simp)
      simpa using this
    have l4 : L 4 = true := by
      have := all_up hr 15 rfl (by intro e he _; simp at he; subst he; simp)
      simpa using this
    have l5 : L 5 = true := by
      have := all_up hr 17 rfl (by simp)
      simpa using this
    have lb : b = true := by
      have := all_up hr 16 rfl (by intro e he _; simp at he; rcases he with rfl | rfl | rfl | rfl | rfl <;> simp [*])
      simpa using this
    have ld : d = true := by
      have := all_up hr 18 rfl (by intro e he _; simp at he; rcases he with rfl | rfl | rfl | rfl | rfl | rfl | rfl | rfl | rfl | rfl | rfl | rfl | rfl | rfl | rfl | rfl | rfl | rfl | rfl | rfl <;> simp [*])
      simpa using this
    have hl : ∀ j, j < 6 → L j = true := by
      intro j hj
      rcases (show j = 0 ∨ j = 1 ∨ j = 2 ∨ j = 3 ∨ j = 4 ∨ j = 5 by omega) with rfl | rfl | rfl | rfl | rfl | rfl <;> assumption
    subst lb
    subst ld
    rw [show pv L x = .pointer (some ⟨x 5, 0, none⟩) by simp [pv, l5]]
    have HST := Lib.hid hst
    have HL := Lib.hid hl
    have HSW := Lib.hid hSW
    clear hr hst hl l0 l1 l2 l3 l4 l5 hSW hS hmk3 hmkT hmkM hmkS hml
    have h0 : Hold W w1.heap.size (x 5) ⟨0, 0, ⟨some ⟨x 0, 0, none⟩, 3, 3⟩, ⟨some ⟨x 1, 0, none⟩, T, T⟩, 0, 0, ⟨some ⟨x 2, 0, none⟩, M, M⟩, ⟨some ⟨x 3, 0, none⟩, M, M⟩, ⟨some ⟨x 4, 0, none⟩, M * K, M * K⟩⟩ (zeroM K T M) := HST.out.hold HL.out (zeroM K T M) ⟨rfl, rfl, rfl, rfl⟩ ⟨rfl, rfl, rfl, rfl, rfl⟩ (fun j => by unfold nn maxLen; split <;> (try split) <;> (try split) <;> omega)
    have H0 := Lib.hid h0
    have hg1 : w1.heap.size ≤ x 5 := h0.2.1
    have hx2 : w1.heap.size ≤ x 2 ∧ x 2 < W.heap.size := ((h0.2.2.2.2.2.2.2.1 7 (.inr (.inr (.inl rfl)))).lt rfl)
    have hx25 : x 2 ≠ x 5 := (h0.2.2.2.2.2.2.2.2 7 (.inr (.inr (.inl rfl))) _ rfl).1
    have HX2 := Lib.hid hx2
    have HX25 := Lib.hid hx25
    have BW : Hid (Below w1.heap.size w1 W) := Lib.hid HST.out.below
    have XW := Lib.hid (X1.out.below BW.out hHc)
    have YW := Lib.hid (Y1.out.below BW.out Y1.out.lt)
    have hY1 := Y1.out.lt
    have hxW := XW.out.cell
    have hyW := YW.out.cell
    have hfW := YW.out.frozen
    have hvW : ∀ i, W.cell? ⟨x 5, i, none⟩ = (#[.int .u64 0, .int .u64 0, .slice (some ⟨x 0, 0, none⟩) 3 3, .slice (some ⟨x 1, 0, none⟩) T T, .int .u64 0, .int .u64 0, .slice (some ⟨x 2, 0, none⟩) M M, .slice (some ⟨x 3, 0, none⟩) M M, .slice (some ⟨x 4, 0, none⟩) (M * K) (M * K)] : Array Value)[i]? := h0.1.cell
    have hgW := h0.1.frozen
    have hn0 : ¬ w.heap.size = x 5 := by omega
    have hn1 : ¬ w.heap.size + 1 = x 5 := by omega
    have hBB := Lib.hid (B0.out.trans (B1.out.mono B0.out.size))
    clear h0 hx2 hx25 B0 X0 Y0 HST HL HSW
    rcases (show k = 2 ∨ k = 1 ∨ k = 3 by omega) with rfl | rfl | rfl
    · clear hgW k1 k2
      go_wp2
      refine bodyPost_ret (v := .tuple #[.agg #[.int .u64 0, .int .u64 0, .slice (some ⟨x 0, 0, none⟩) 3 3, .slice (some ⟨x 1, 0, none⟩) T T, .int .u64 0, .int .u64 0, .slice (some ⟨x 2, 0, none⟩) M M, .slice (some ⟨x 3, 0, none⟩) M M, .slice (some ⟨x 4, 0, none⟩) (M * K) (M * K)], .int .i64 0]) (by simp [results, Try.results20, go_sem, hyW]) rfl ?_
      refine ⟨⟨0, 0, ⟨some ⟨x 0, 0, none⟩, 3, 3⟩, ⟨some ⟨x 1, 0, none⟩, T, T⟩, 0, 0, ⟨some ⟨x 2, 0, none⟩, M, M⟩, ⟨some ⟨x 3, 0, none⟩, M, M⟩, ⟨some ⟨x 4, 0, none⟩, M * K, M * K⟩⟩, rfl, ⟨rfl, rfl, rfl, rfl⟩, newM_ok _ _ _ _ m2, ?_, ?_⟩
      · refine five_weaken (five_end (z := zeroM K T M) H0.out (fun _ => rfl) (fun k hk _ _ => heap_nine _ _ _ _ _ _ _ _ _ _ _ k (by omega)) ?_ ⟨rfl, rfl, rfl, rfl⟩) hBB.out.size
        show Own _ _ _ (linked M M M)
        rw [linked_zero M M M (by omega)]
        refine (H0.out.2.2.2.2.2.2.2.1 7 (.inr (.inr (.inl rfl)))).kept fun ad had => heap_nine _ _ _ _ _ _ _ _ _ _ _ _ ?_
        injection had with had
        subst had
        have := HX2.out
        show x 2 ≠ _
        omega
      · exact below_nine (hBB.out.trans (BW.out.mono hBB.out.size)) (by omega) _ _ _ _ _ _ _ _ _
    · have O2 : Hid (Own ((W.setCell ⟨x 5, 4, none⟩ (.int .u64 1)).setCell ⟨x 5, 5, none⟩ (.int .u64 1)) w1.heap.size ⟨some ⟨x 2, 0, none⟩, M, M⟩ (List.replicate M 0)) := Lib.hid (((H0.out.2.2.2.2.2.2.2.1 7 (.inr (.inr (.inl rfl)))).far (p := ⟨x 5, 4, none⟩) (fun ad had => by injection had with had; subst had; exact HX25.out) _).far (p := ⟨x 5, 5, none⟩) (fun ad had => by injection had with had; subst had; exact HX25.out) _)
      have V2 : Blk ((W.setCell ⟨x 5, 4, none⟩ (.int .u64 1)).setCell ⟨x 5, 5, none⟩ (.int .u64 1)) (x 5) 25 #[.int .u64 0, .int .u64 0, .slice (some ⟨x 0, 0, none⟩) 3 3, .slice (some ⟨x 1, 0, none⟩) T T, .int .u64 1, .int .u64 1, .slice (some ⟨x 2, 0, none⟩) M M, .slice (some ⟨x 3, 0, none⟩) M M, .slice (some ⟨x 4, 0, none⟩) (M * K) (M * K)] := by
        have hb := (H0.out.1.set_ 4 (.int .u64 1)).set_ 5 (.int .u64 1)
        simp only [R.cells, List.setIfInBounds_toArray, List.set_cons_zero, List.set_cons_succ] at hb
        exact hb
      have X2 : Blk ((W.setCell ⟨x 5, 4, none⟩ (.int .u64 1)).setCell ⟨x 5, 5, none⟩ (.int .u64 1)) w.heap.size 36 #[.int .i64 1, .int .i64 K, .int .i64 T, .int .i64 M] := ((XW.out.far (p := ⟨x 5, 4, none⟩) hn0 (.int .u64 1)).far (p := ⟨x 5, 5, none⟩) hn0 (.int .u64 1))
      have Y2 : Blk ((W.setCell ⟨x 5, 4, none⟩ (.int .u64 1)).setCell ⟨x 5, 5, none⟩ (.int .u64 1)) (w.heap.size + 1) 25 #[.int .u64 0, .int .u64 0, .slice none 0 0, .slice none 0 0, .int .u64 0, .int .u64 0, .slice none 0 0, .slice none 0 0, .slice none 0 0] := ((YW.out.far (p := ⟨x 5, 4, none⟩) hn1 (.int .u64 1)).far (p := ⟨x 5, 5, none⟩) hn1 (.int .u64 1))
      have BE : Hid (Below w1.heap.size w1 ((W.setCell ⟨x 5, 4, none⟩ (.int .u64 1)).setCell ⟨x 5, 5, none⟩ (.int .u64 1))) := Lib.hid ((BW.out.setCell (p := ⟨x 5, 4, none⟩) hg1 (.int .u64 1)).setCell (p := ⟨x 5, 5, none⟩) hg1 (.int .u64 1))
      have HE : Hid (∀ k, k ≠ x 5 → ((W.setCell ⟨x 5, 4, none⟩ (.int .u64 1)).setCell ⟨x 5, 5, none⟩ (.int .u64 1)).heap[k]? = W.heap[k]?) := Lib.hid fun k hk5 => (Below.heap_setCell _ ⟨x 5, 5, none⟩ _ k hk5).trans (Below.heap_setCell _ ⟨x 5, 4, none⟩ _ k hk5)
      have V2H := Lib.hid V2
      have X2H := Lib.hid X2
      have Y2H := Lib.hid Y2
      clear V2 X2 Y2
      go_wp2_with (first | (go_at_call 45; refine (ref0_c _ _ (by omega) (by omega)).mono ?_; rintro e w' ⟨rfl, rfl⟩) | (go_at_call 46; refine (chain_c _ w1.heap.size (x 2) M 1 O2.out (by omega) m1 m2).mono ?_; rintro e w3 ⟨rfl, ho3, hj3⟩; have O3 := Lib.hid ho3; have J3 := Lib.hid hj3; have V3 := Lib.hid (V2H.out.grown hj3.1 (fun e => HX25.out (by injection e with e; exact e.symm))); go_must (have X3 := Lib.hid (X2H.out.grown hj3.1 (fun e => by injection e with e; have := HX2.out; omega)); have Y3 := Lib.hid (Y2H.out.grown hj3.1 (fun e => by injection e with e; have := HX2.out; omega))); have hv3 := V3.out.cell; have hg3 := V3.out.frozen; have hy3 := Y3.out.cell; have hf3 := Y3.out.frozen; clear ho3 hj3))
      refine bodyPost_ret (v := .tuple #[.agg #[.int .u64 0, .int .u64 2, .slice (some ⟨x 0, 0, none⟩) 3 3, .slice (some ⟨x 1, 0, none⟩) T T, .int .u64 1, .int .u64 1, .slice (some ⟨x 2, 0, none⟩) M M, .slice (some ⟨x 3, 0, none⟩) M M, .slice (some ⟨x 4, 0, none⟩) (M * K) (M * K)], .int .i64 0]) (by simp [results, Try.results20, go_sem, hy3]) rfl ?_
      have hx2 := HX2.out
      have J := J3.out
      have hj (k : Nat) (hk : k < W.heap.size) (h5 : k ≠ x 5) (h2 : k ≠ x 2) : w3.heap[k]? = W.heap[k]? := (J.1.block k (by simp only [size_set]; exact hk) (fun e => h2 (by injection e))).trans (HE.out k h5)
      refine ⟨⟨0, 2, ⟨some ⟨x 0, 0, none⟩, 3, 3⟩, ⟨some ⟨x 1, 0, none⟩, T, T⟩, 1, 1, ⟨some ⟨x 2, 0, none⟩, M, M⟩, ⟨some ⟨x 3, 0, none⟩, M, M⟩, ⟨some ⟨x 4, 0, none⟩, M * K, M * K⟩⟩, rfl, ⟨rfl, rfl, rfl, rfl⟩, newM_ok _ _ _ _ m2, ?_, ?_⟩
      · refine five_weaken (five_end (z := zeroM K T M) H0.out (fun a => rfl) (fun k hk h5 h7 => ?_) ?_ ⟨rfl, rfl, rfl, rfl⟩) hBB.out.size
        · refine (heap_nine _ _ _ _ _ _ _ _ _ _ _ k (by omega)).trans ((Below.heap_setCell _ ⟨x 5, 1, none⟩ _ k h5).trans ?_)
          rcases Nat.lt_or_ge k W.heap.size with hlt | hge
          · exact hj k hlt h5 (h7 _ rfl)
          · have hz : w3.heap.size = W.heap.size := by rw [J.2]; simp only [size_set]
            rw [Array.getElem?_eq_none hge, Array.getElem?_eq_none (by omega)]
        · show Own _ _ ⟨some ⟨x 2, 0, none⟩, M, M⟩ (linked 1 M M)
          exact own_kept_at O3.out ((heap_nine _ _ _ _ _ _ _ _ _ _ _ _ (show x 2 ≠ w.heap.size + 1 by omega)).trans (Below.heap_setCell _ ⟨x 5, 1, none⟩ _ _ HX25.out))
      · have hb3 : Below w1.heap.size w1 w3 := BE.out.trans (just_below J hx2.1 BE.out.size)
        exact below_nine ((hBB.out.trans (hb3.mono hBB.out.size)).setCell (p := ⟨x 5, 1, none⟩) (by have := hBB.out.size; show w.heap.size ≤ x 5; omega) _) (by omega) _ _ _ _ _ _ _ _ _
    · have O2 : Hid (Own W w1.heap.size ⟨some ⟨x 2, 0, none⟩, M, M⟩ (List.replicate M 0)) := Lib.hid (H0.out.2.2.2.2.2.2.2.1 7 (.inr (.inr (.inl rfl))))
      have V2 : Blk W (x 5) 25 #[.int .u64 0, .int .u64 0, .slice (some ⟨x 0, 0, none⟩) 3 3, .slice (some ⟨x 1, 0, none⟩) T T, .int .u64 0, .int .u64 0, .slice (some ⟨x 2, 0, none⟩) M M, .slice (some ⟨x 3, 0, none⟩) M M, .slice (some ⟨x 4, 0, none⟩) (M * K) (M * K)] := by
        exact H0.out.1
      have X2 : Blk W w.heap.size 36 #[.int .i64 3, .int .i64 K, .int .i64 T, .int .i64 M] := XW.out
      have Y2 : Blk W (w.heap.size + 1) 25 #[.int .u64 0, .int .u64 0, .slice none 0 0, .slice none 0 0, .int .u64 0, .int .u64 0, .slice none 0 0, .slice none 0 0, .slice none 0 0] := YW.out
      have BE : Hid (Below w1.heap.size w1 W) := Lib.hid BW.out
      have HE : Hid (∀ k, k ≠ x 5 → W.heap[k]? = W.heap[k]?) := Lib.hid fun k hk5 => rfl
      have V2H := Lib.hid V2
      have X2H := Lib.hid X2
      have Y2H := Lib.hid Y2
      clear V2 X2 Y2
      go_wp2_with (first | (go_at_call 45; refine (ref0_c _ _ (by omega) (by omega)).mono ?_; rintro e w' ⟨rfl, rfl⟩) | (go_at_call 46; refine (chain_c _ w1.heap.size (x 2) M 0 O2.out (by omega) m1 m2).mono ?_; rintro e w3 ⟨rfl, ho3, hj3⟩; have O3 := Lib.hid ho3; have J3 := Lib.hid hj3; have V3 := Lib.hid (V2H.out.grown hj3.1 (fun e => HX25.out (by injection e with e; exact e.symm))); go_must (have X3 := Lib.hid (X2H.out.grown hj3.1 (fun e => by injection e with e; have := HX2.out; omega)); have Y3 := Lib.hid (Y2H.out.grown hj3.1 (fun e => by injection e with e; have := HX2.out; omega))); have hv3 := V3.out.cell; have hg3 := V3.out.frozen; have hy3 := Y3.out.cell; have hf3 := Y3.out.frozen; clear ho3 hj3))
      refine bodyPost_ret (v := .tuple #[.agg #[.int .u64 0, .int .u64 1, .slice (some ⟨x 0, 0, none⟩) 3 3, .slice (some ⟨x 1, 0, none⟩) T T, .int .u64 0, .int .u64 0, .slice (some ⟨x 2, 0, none⟩) M M, .slice (some ⟨x 3, 0, none⟩) M M, .slice (some ⟨x 4, 0, none⟩) (M * K) (M * K)], .int .i64 0]) (by simp [results, Try.results20, go_sem, hy3]) rfl ?_
      have hx2 := HX2.out
      have J := J3.out
      have hj (k : Nat) (hk : k < W.heap.size) (h5 : k ≠ x 5) (h2 : k ≠ x 2) : w3.heap[k]? = W.heap[k]? := J.1.block k hk (fun e => h2 (by injection e))
      refine ⟨⟨0, 1, ⟨some ⟨x 0, 0, none⟩, 3, 3⟩, ⟨some ⟨x 1, 0, none⟩, T, T⟩, 0, 0, ⟨some ⟨x 2, 0, none⟩, M, M⟩, ⟨some ⟨x 3, 0, none⟩, M, M⟩, ⟨some ⟨x 4, 0, none⟩, M * K, M * K⟩⟩, rfl, ⟨rfl, rfl, rfl, rfl⟩, newM_ok _ _ _ _ m2, ?_, ?_⟩
      · refine five_weaken (five_end (z := zeroM K T M) H0.out (fun a => rfl) (fun k hk h5 h7 => ?_) ?_ ⟨rfl, rfl, rfl, rfl⟩) hBB.out.size
        · refine (heap_nine _ _ _ _ _ _ _ _ _ _ _ k (by omega)).trans ((Below.heap_setCell _ ⟨x 5, 1, none⟩ _ k h5).trans ?_)
          rcases Nat.lt_or_ge k W.heap.size with hlt | hge
          · exact hj k hlt h5 (h7 _ rfl)
          · have hz : w3.heap.size = W.heap.size := by rw [J.2]
            rw [Array.getElem?_eq_none hge, Array.getElem?_eq_none (by omega)]
        · show Own _ _ ⟨some ⟨x 2, 0, none⟩, M, M⟩ (linked 0 M M)
          exact own_kept_at O3.out ((heap_nine _ _ _ _ _ _ _ _ _ _ _ _ (show x 2 ≠ w.heap.size + 1 by omega)).trans (Below.heap_setCell _ ⟨x 5, 1, none⟩ _ _ HX25.out))
      · have hb3 : Below w1.heap.size w1 w3 := BE.out.trans (just_below J hx2.1 BE.out.size)
        exact below_nine ((hBB.out.trans (hb3.mono hBB.out.size)).setCell (p := ⟨x 5, 1, none⟩) (by have := hBB.out.size; show w.heap.size ≤ x 5; omega) _) (by omega) _ _ _ _ _ _ _ _ _
end Go.Proofs.Ytjgbgjkjnlaloaa.Newc
