/- One thread that takes all segments, and gives them back, finds them anew, the last one that it gave back first (P4.2, P4.3). No condition. · ArenaBack, where the config may not be, or is a ring's, or has more threads than one: it holds at once. -/
import Derived.Test.YtffppdcpiieapaaQ18
import Derived.Test.YtffppdcpiieapaaQ27
import Derived.Test.YtffppdcpiieapaaQ28
import Derived.Test.YtffppdcpiieapaaQ29
namespace Go.Proofs.Ytffppdcpiieapaa.Machc
open Go.RowKit Go.Proofs.Ytffppdcpiieapaa.Memc Go.Proofs.Ytffppdcpiieapaa.Newc Go.Proofs.Ytffppdcpiieapaa.Drivec Go.Proofs.Ytffppdcpiieapaa.Procc Go.Proofs.Ytffppdcpiieapaa.Arenac
set_option linter.unusedVariables false
set_option maxRecDepth 100000

set_option maxHeartbeats 1000000 in
theorem bno_may (w : World) (k K T M tu : Int) (h : ¬ (Cfg.mk k K T M).may) : Calls Try.prog 6 #[.agg #[.int .i64 k, .int .i64 K, .int .i64 T, .int .i64 M], .int .u8 tu] w fun e w' => e = .returned (.bool true) ∧ Below w.heap.size w w' := by
  have C0 : Hid (Blk (w.alloc (.cells #[.int .i64 k, .int .i64 K, .int .i64 T, .int .i64 M] 23)) w.heap.size 23 #[.int .i64 k, .int .i64 K, .int .i64 T, .int .i64 M]) := Lib.hid (Blk.new _ _ _)
  have W0 : Hid (Below w.heap.size w (w.alloc (.cells #[.int .i64 k, .int .i64 K, .int .i64 T, .int .i64 M] 23))) := Lib.hid ((Below.refl _ _).alloc (Nat.le_refl _) _)
  have HM := Lib.hid h
  clear h
  go_enter Try.func6, Try.ntmps6
  go_wp2_with (first
    | (go_at_call 14; (with_reducible refine (awake4_c _).mono ?_); rintro e w1 ⟨rfl, hb⟩; go_must (have C1 := Lib.hid (C0.out.below hb C0.out.lt); have W1 := Lib.hid (W0.out.trans (hb.mono W0.out.size))); have hc1 := C1.out.cell; have hf1 := C1.out.frozen; clear hb)
    | (go_at_call 20; (with_reducible refine (refmay_no _ k K T M HM.out).mono ?_); rintro e w2 ⟨rfl, hb⟩; go_must (have C2 := Lib.hid (C1.out.below hb C1.out.lt); have W2 := Lib.hid (W1.out.trans (hb.mono W1.out.size))); have hc2 := C2.out.cell; have hf2 := C2.out.frozen; clear hb hc1 hf1))
  go_ret
  exact ⟨rfl, W2.out⟩
set_option maxHeartbeats 1000000 in
theorem bno_ring (w : World) (k K T M tu : Int) (hm : Hid ((1 ≤ k ∧ k ≤ 3) ∧ (1 ≤ K ∧ K ≤ 64) ∧ (1 ≤ T ∧ T ≤ 8) ∧ (2 ≤ M ∧ M ≤ 64))) (h : k = 2) : Calls Try.prog 6 #[.agg #[.int .i64 k, .int .i64 K, .int .i64 T, .int .i64 M], .int .u8 tu] w fun e w' => e = .returned (.bool true) ∧ Below w.heap.size w w' := by
  have C0 : Hid (Blk (w.alloc (.cells #[.int .i64 k, .int .i64 K, .int .i64 T, .int .i64 M] 23)) w.heap.size 23 #[.int .i64 k, .int .i64 K, .int .i64 T, .int .i64 M]) := Lib.hid (Blk.new _ _ _)
  have W0 : Hid (Below w.heap.size w (w.alloc (.cells #[.int .i64 k, .int .i64 K, .int .i64 T, .int .i64 M] 23))) := Lib.hid ((Below.refl _ _).alloc (Nat.le_refl _) _)
  have HM := hm
  clear hm
  have g1 : (k == 2) = true := by rw [h]; rfl
  clear h
  go_enter Try.func6, Try.ntmps6
  go_wp2_with (first
    | (go_at_call 14; (with_reducible refine (awake4_c _).mono ?_); rintro e w1 ⟨rfl, hb⟩; go_must (have C1 := Lib.hid (C0.out.below hb C0.out.lt); have W1 := Lib.hid (W0.out.trans (hb.mono W0.out.size))); have hc1 := C1.out.cell; have hf1 := C1.out.frozen; clear hb)
    | (go_at_call 20; (with_reducible refine (refmay_yes _ k K T M HM.out.1.1 HM.out.1.2 HM.out.2.1.1 HM.out.2.1.2 HM.out.2.2.1.1 HM.out.2.2.1.2 HM.out.2.2.2.1 HM.out.2.2.2.2).mono ?_); rintro e w2 ⟨rfl, hb⟩; go_must (have C2 := Lib.hid (C1.out.below hb C1.out.lt); have W2 := Lib.hid (W1.out.trans (hb.mono W1.out.size))); have hc2 := C2.out.cell; have hf2 := C2.out.frozen; clear hb hc1 hf1))
  go_ret
  exact ⟨rfl, W2.out⟩
set_option maxHeartbeats 1000000 in
theorem bno_more (w : World) (k K T M tu : Int) (hm : Hid ((1 ≤ k ∧ k ≤ 3) ∧ (1 ≤ K ∧ K ≤ 64) ∧ (1 ≤ T ∧ T ≤ 8) ∧ (2 ≤ M ∧ M ≤ 64))) (h1 : ¬ k = 2) (h : ¬ T = 1) : Calls Try.prog 6 #[.agg #[.int .i64 k, .int .i64 K, .int .i64 T, .int .i64 M], .int .u8 tu] w fun e w' => e = .returned (.bool true) ∧ Below w.heap.size w w' := by
  have C0 : Hid (Blk (w.alloc (.cells #[.int .i64 k, .int .i64 K, .int .i64 T, .int .i64 M] 23)) w.heap.size 23 #[.int .i64 k, .int .i64 K, .int .i64 T, .int .i64 M]) := Lib.hid (Blk.new _ _ _)
  have W0 : Hid (Below w.heap.size w (w.alloc (.cells #[.int .i64 k, .int .i64 K, .int .i64 T, .int .i64 M] 23))) := Lib.hid ((Below.refl _ _).alloc (Nat.le_refl _) _)
  have HM := hm
  clear hm
  have g1 : (k == 2) = false := beq_false_of_ne h1
  have g2 : (T != 1) = true := bne_iff_ne.2 h
  clear h h1
  go_enter Try.func6, Try.ntmps6
  go_wp2_with (first
    | (go_at_call 14; (with_reducible refine (awake4_c _).mono ?_); rintro e w1 ⟨rfl, hb⟩; go_must (have C1 := Lib.hid (C0.out.below hb C0.out.lt); have W1 := Lib.hid (W0.out.trans (hb.mono W0.out.size))); have hc1 := C1.out.cell; have hf1 := C1.out.frozen; clear hb)
    | (go_at_call 20; (with_reducible refine (refmay_yes _ k K T M HM.out.1.1 HM.out.1.2 HM.out.2.1.1 HM.out.2.1.2 HM.out.2.2.1.1 HM.out.2.2.1.2 HM.out.2.2.2.1 HM.out.2.2.2.2).mono ?_); rintro e w2 ⟨rfl, hb⟩; go_must (have C2 := Lib.hid (C1.out.below hb C1.out.lt); have W2 := Lib.hid (W1.out.trans (hb.mono W1.out.size))); have hc2 := C2.out.cell; have hf2 := C2.out.frozen; clear hb hc1 hf1))
  go_ret
  exact ⟨rfl, W2.out⟩
end Go.Proofs.Ytffppdcpiieapaa.Machc

namespace Go.Proofs.Ytffppdcpiieapaa.arenaBack
open Go.ChangeShapes Go.WideShapes Go.ChangeAt Go.RowKit Go.Proofs.Ytffppdcpiieapaa.Memc Go.Proofs.Ytffppdcpiieapaa.Refc Go.Proofs.Ytffppdcpiieapaa.Newc Go.Proofs.Ytffppdcpiieapaa.Drivec Go.Proofs.Ytffppdcpiieapaa.Machc Go.Proofs.Ytffppdcpiieapaa.Arenac Go.Proofs.Ytffppdcpiieapaa.Opencfg
set_option linter.unusedVariables false
set_option maxRecDepth 100000

theorem own : ownKnob Try.prog.godebug = none := by kernel_rfl
theorem laidOut : laidOutB Try.prog = true := by kernel_rfl

theorem walk (k K T M tu : Int) (w : World) (x0 : 0 ≤ tu) (x1 : tu ≤ 255) : Calls Try.prog 6 #[.agg #[.int .i64 k, .int .i64 K, .int .i64 T, .int .i64 M], .int .u8 tu] w fun e w' => e = .returned (.bool true) ∧ Below w.heap.size w w' := by
  by_cases hm : (Cfg.mk k K T M).may
  · obtain ⟨⟨k1, k2⟩, ⟨a1, a2⟩, ⟨t1, t2⟩, ⟨m1, m2⟩⟩ := hm
    simp only at k1 k2 a1 a2 t1 t2 m1 m2
    have HM : Hid ((1 ≤ k ∧ k ≤ 3) ∧ (1 ≤ K ∧ K ≤ 64) ∧ (1 ≤ T ∧ T ≤ 8) ∧ (2 ≤ M ∧ M ≤ 64)) := Lib.hid ⟨⟨k1, k2⟩, ⟨a1, a2⟩, ⟨t1, t2⟩, ⟨m1, m2⟩⟩
    by_cases h1 : k = 2
    · exact bno_ring w k K T M tu HM h1
    · by_cases h2 : T = 1
      · subst h2
        obtain ⟨K, rfl⟩ : ∃ n : Nat, K = n := ⟨K.toNat, by omega⟩
        obtain ⟨M, rfl⟩ : ∃ n : Nat, M = n := ⟨M.toNat, by omega⟩
        obtain ⟨tu, rfl⟩ : ∃ n : Nat, tu = n := ⟨tu.toNat, by omega⟩
        rcases (show k = 1 ∨ k = 3 by omega) with rfl | rfl
        · exact back1_c w K tu (M - 1) M (by omega) (by omega) (by omega) (by omega) (by omega) (by omega)
        · exact back3_c w K tu M (by omega) (by omega) (by omega) (by omega) (by omega)
      · exact bno_more w k K T M tu HM h1 h2
  · exact bno_may w k K T M tu hm
theorem fit_u8 {a : Int} (h : (Lit.int .u8 a).wf = true) : 0 ≤ a ∧ a ≤ 255 := by
  simp [Lit.wf, IntKind.min, IntKind.max, IntKind.bits, IntKind.signed] at h; omega

/-! ### THE ROW's STEP -/
set_option maxRecDepth 100000 in
theorem lifted (os : Os) (started : os.Started) (H : Type) (enc : TypeId × Value → H) :
    ReturnsInHanded {} Try.checked os 6 .any (Rows.arenaBackSpec.pre6 enc Try.prog Try.f6 Rows.arenaBackRow.domain false) (Rows.arenaBackSpec.post enc Try.prog Try.f6 false true false false) := by
  refine returnsInHanded_of_change (C := Try.checked) own started (by kernel_rfl) Try.func6
    (ChangeSpec.witness6 (enc := enc) (C := Try.checked) false ⟨#[], #[.agg #[.int .i64 0, .int .i64 0, .int .i64 0, .int .i64 0], .int .u8 0], []⟩ 8 (by kernel_rfl) (by kernel_rfl) (by kernel_rfl) (by kernel_rfl)) ?_
  intro W base args ds gs before hval0 hW hcnd _
  have hval : ∀ (j : Nat) t v, Try.f6.params[j]? = some t → args[j]? = some v → Value.okWide Try.prog W .any base t v := hval0
  have hW' := hW
  obtain ⟨p, q, hA0, hV, rfl, hfz, hnd⟩ := hW
  have hA : DataW.TrodAll enc Try.prog W 0 (fun _ => true) true Try.f6.params.toList args.toList ds p := hA0
  rw [Try.params6] at hA hval
  obtain ⟨v0, vs0, d0, ds0, p0, q0, hargs, rfl, rfl, h0, r0⟩ := trodAll_cons hA
  obtain ⟨v1, vs1, d1, ds1, p1, q1, rfl, rfl, rfl, h1, r1⟩ := trodAll_cons r0
  obtain ⟨rfl, rfl, rfl⟩ := trodAll_nil r1
  obtain rfl : args = #[v0, v1] := by cases args; simp_all
  obtain ⟨rfl, rfl⟩ := trodVars_none hV
  have k0 := h0
  have lt0 : ∀ x ∈ p0, x.block < W.heap.size := by obtain ⟨m, hm⟩ := k0; exact DataW.trod_lt m _ _ _ hm
  have k1 := h1
  have lt1 : ∀ x ∈ p1, x.block < W.heap.size := by obtain ⟨m, hm⟩ := k1; exact DataW.trod_lt m _ _ _ hm
  obtain ⟨k, K, T, M, rfl, hk⟩ := open_cfg (hval 0 23 v0 rfl rfl) h0
  obtain ⟨tu, rfl, hy1, hp1, w1⟩ := open_int Try.underlying5 (hval 1 5 v1 rfl rfl) h1
  clear hA0 hval0
  refine (walk k K T M tu W (fit_u8 w1).1 (fit_u8 w1).2).mono fun e W' ⟨he, bel⟩ => ?_
  subst he
  exact ⟨_, rfl, _, _, _, [], _, [], hW', trodAll_mk1 (shut_bool Try.underlying4 _), (trodAll_cons_mk (Below.trod laidOut (by kernel_rfl) (of_decide_eq_true (by kernel_rfl)) k0 bel lt0) (trodAll_cons_mk (Below.trod laidOut (by kernel_rfl) (of_decide_eq_true (by kernel_rfl)) k1 bel lt1) trodAll_mk0)), rfl, bel.frame _, fun h => by cases h⟩

theorem over : Rows.arenaBackRow.holds Try.pinned (OpenSpec.ofChange Rows.arenaBackSpec) :=
  OpenClaim.holds_of_wide 6 Try.f6 rfl rfl rfl rfl rfl rfl rfl ⟨rfl, rfl, rfl, rfl, rfl⟩ rfl rfl rfl rfl rfl (by kernel_rfl) Try.func6 (by kernel_rfl)
    (of_decide_eq_true (by kernel_rfl)) (by unfold Func.isWrapper; first | (rw [if_pos (by decide +kernel)]; kernel_rfl) | (rw [if_neg (by decide +kernel)]; exact ⟨rfl, rfl⟩))
    (fun os started H enc _ => lifted os started H enc)

/-- ████ THE STATEMENT ████ -/
theorem proved : Rows.ArenaBackSaid :=
  over
end Go.Proofs.Ytffppdcpiieapaa.arenaBack
