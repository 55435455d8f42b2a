/- For every two words, the one with the greater high number is greater; a slot's word is a bare one only of the greatest number; the references of unlike segments are unlike (P1.1, P1.2). No condition. -/
import Derived.Test.YtcjpdjligahfpaaWordRef
import Derived.WalkKit
import Derived.ProofKit
import Derived.OpenShut
import Derived.Lib.Hide
namespace Go.Proofs.Ytcjpdjligahfpaa.wordOrder
open Go.ChangeShapes Go.WideShapes Go.ChangeAt Go.RowKit Go.Proofs.Ytcjpdjligahfpaa.Wordc Go.Proofs.Ytcjpdjligahfpaa.Wordr
set_option linter.unusedVariables false      -- a walk need not use every 'w<i>' (that an integer argument fits its kind)

theorem own : ownKnob Try.prog.godebug = none := by kernel_rfl

/-! ### STEP 1: THE WALK, by which of the two high numbers is greater -/
set_option maxHeartbeats 400000 in
theorem walk_lt (a0 a1 a2 a3 a4 a5 : Int) (l0 : 0 ≤ a0) (h0 : a0 ≤ 4294967295) (l1 : 0 ≤ a1) (h1 : a1 ≤ 4294967295) (l2 : 0 ≤ a2) (h2 : a2 ≤ 4294967295) (l3 : 0 ≤ a3) (h3 : a3 ≤ 4294967295) (l4 : 0 ≤ a4) (h4 : a4 ≤ 65535) (l5 : 0 ≤ a5) (h5 : a5 ≤ 65535) (c : a0 < a1) (w : World) :
    Calls Try.prog 5 #[.int .u32 a0, .int .u32 a1, .int .u32 a2, .int .u32 a3, .int .u16 a4, .int .u16 a5] w fun e w' => e = .returned (.bool true) ∧ Grown w w' := by
  have e1 : (a0 * 4294967296 + (a2 + 1) % 4294967296 == a0 * 4294967296) = (a2 == 4294967295) := by
    rw [Bool.eq_iff_iff]; simp only [beq_iff_eq]; omega
  have e2 : (a0 * 4294967296 + (a4 + 1) % 4294967296 == a0 * 4294967296 + (a5 + 1) % 4294967296) = (a4 == a5) := by
    rw [Bool.eq_iff_iff]; simp only [beq_iff_eq]; omega
  have e3 : (a0 * 4294967296 + (a4 + 1) % 4294967296 != a0 * 4294967296) = true := by
    simp only [bne_iff_ne, ne_eq]; omega
  have k1 : decide (a1 * 4294967296 + a3 ≤ a0 * 4294967296 + a2) = false := by simp only [decide_eq_false_iff_not]; omega
  have k2 : (a0 == a1) = false := by simp only [beq_eq_false_iff_ne, ne_eq]; omega
  go_enter Try.func5, Try.ntmps5
  go_wp2_with (first | (go_at_call 6; refine (awake_r _).mono ?_; rintro e w' ⟨rfl, rfl⟩) | (go_at_call 7; refine (pack_c _ _ _ (by omega) (by omega) (by omega) (by omega)).mono ?_; rintro e w' ⟨rfl, rfl⟩) | (go_at_call 13; refine (slot_c _ _ _ (by omega) (by omega) (by omega) (by omega)).mono ?_; rintro e w' ⟨rfl, rfl⟩) | (go_at_call 15; refine (bare_c _ _ (by omega) (by omega)).mono ?_; rintro e w' ⟨rfl, rfl⟩) | (go_at_call 16; refine (ref_c _ _ _ (by omega) (by omega) (by omega) (by omega)).mono ?_; rintro e w' ⟨rfl, rfl⟩))
  all_goals
    go_ret
    exact ⟨rfl, by repeat (first | exact Grown.refl _ | apply Grown.drew | apply Grown.alloc)⟩

set_option maxHeartbeats 400000 in
theorem walk_gt (a0 a1 a2 a3 a4 a5 : Int) (l0 : 0 ≤ a0) (h0 : a0 ≤ 4294967295) (l1 : 0 ≤ a1) (h1 : a1 ≤ 4294967295) (l2 : 0 ≤ a2) (h2 : a2 ≤ 4294967295) (l3 : 0 ≤ a3) (h3 : a3 ≤ 4294967295) (l4 : 0 ≤ a4) (h4 : a4 ≤ 65535) (l5 : 0 ≤ a5) (h5 : a5 ≤ 65535) (c : a1 < a0) (w : World) :
    Calls Try.prog 5 #[.int .u32 a0, .int .u32 a1, .int .u32 a2, .int .u32 a3, .int .u16 a4, .int .u16 a5] w fun e w' => e = .returned (.bool true) ∧ Grown w w' := by
  have e1 : (a0 * 4294967296 + (a2 + 1) % 4294967296 == a0 * 4294967296) = (a2 == 4294967295) := by
    rw [Bool.eq_iff_iff]; simp only [beq_iff_eq]; omega
  have e2 : (a0 * 4294967296 + (a4 + 1) % 4294967296 == a0 * 4294967296 + (a5 + 1) % 4294967296) = (a4 == a5) := by
    rw [Bool.eq_iff_iff]; simp only [beq_iff_eq]; omega
  have e3 : (a0 * 4294967296 + (a4 + 1) % 4294967296 != a0 * 4294967296) = true := by
    simp only [bne_iff_ne, ne_eq]; omega
  have k0 : decide (a0 < a1) = false := by simp only [decide_eq_false_iff_not]; omega
  have k2 : (a0 == a1) = false := by simp only [beq_eq_false_iff_ne, ne_eq]; omega
  go_enter Try.func5, Try.ntmps5
  go_wp2_with (first | (go_at_call 6; refine (awake_r _).mono ?_; rintro e w' ⟨rfl, rfl⟩) | (go_at_call 7; refine (pack_c _ _ _ (by omega) (by omega) (by omega) (by omega)).mono ?_; rintro e w' ⟨rfl, rfl⟩) | (go_at_call 13; refine (slot_c _ _ _ (by omega) (by omega) (by omega) (by omega)).mono ?_; rintro e w' ⟨rfl, rfl⟩) | (go_at_call 15; refine (bare_c _ _ (by omega) (by omega)).mono ?_; rintro e w' ⟨rfl, rfl⟩) | (go_at_call 16; refine (ref_c _ _ _ (by omega) (by omega) (by omega) (by omega)).mono ?_; rintro e w' ⟨rfl, rfl⟩))
  all_goals
    go_ret
    exact ⟨rfl, by repeat (first | exact Grown.refl _ | apply Grown.drew | apply Grown.alloc)⟩

set_option maxHeartbeats 400000 in
theorem walk_eq (a0 a1 a2 a3 a4 a5 : Int) (l0 : 0 ≤ a0) (h0 : a0 ≤ 4294967295) (l1 : 0 ≤ a1) (h1 : a1 ≤ 4294967295) (l2 : 0 ≤ a2) (h2 : a2 ≤ 4294967295) (l3 : 0 ≤ a3) (h3 : a3 ≤ 4294967295) (l4 : 0 ≤ a4) (h4 : a4 ≤ 65535) (l5 : 0 ≤ a5) (h5 : a5 ≤ 65535) (c : a0 = a1) (w : World) :
    Calls Try.prog 5 #[.int .u32 a0, .int .u32 a1, .int .u32 a2, .int .u32 a3, .int .u16 a4, .int .u16 a5] w fun e w' => e = .returned (.bool true) ∧ Grown w w' := by
  obtain rfl : a0 = a1 := c
  have e1 : (a0 * 4294967296 + (a2 + 1) % 4294967296 == a0 * 4294967296) = (a2 == 4294967295) := by
    rw [Bool.eq_iff_iff]; simp only [beq_iff_eq]; omega
  have e2 : (a0 * 4294967296 + (a4 + 1) % 4294967296 == a0 * 4294967296 + (a5 + 1) % 4294967296) = (a4 == a5) := by
    rw [Bool.eq_iff_iff]; simp only [beq_iff_eq]; omega
  have e3 : (a0 * 4294967296 + (a4 + 1) % 4294967296 != a0 * 4294967296) = true := by
    simp only [bne_iff_ne, ne_eq]; omega
  have k0 : decide (a0 < a0) = false := by simp only [decide_eq_false_iff_not]; omega
  go_enter Try.func5, Try.ntmps5
  go_wp2_with (first | (go_at_call 6; refine (awake_r _).mono ?_; rintro e w' ⟨rfl, rfl⟩) | (go_at_call 7; refine (pack_c _ _ _ (by omega) (by omega) (by omega) (by omega)).mono ?_; rintro e w' ⟨rfl, rfl⟩) | (go_at_call 13; refine (slot_c _ _ _ (by omega) (by omega) (by omega) (by omega)).mono ?_; rintro e w' ⟨rfl, rfl⟩) | (go_at_call 15; refine (bare_c _ _ (by omega) (by omega)).mono ?_; rintro e w' ⟨rfl, rfl⟩) | (go_at_call 16; refine (ref_c _ _ _ (by omega) (by omega) (by omega) (by omega)).mono ?_; rintro e w' ⟨rfl, rfl⟩))
  all_goals
    go_ret
    exact ⟨rfl, by repeat (first | exact Grown.refl _ | apply Grown.drew | apply Grown.alloc)⟩

theorem walk (a0 : Int) (a1 : Int) (a2 : Int) (a3 : Int) (a4 : Int) (a5 : Int) (w0 : (Lit.int .u32 a0).wf = true) (w1 : (Lit.int .u32 a1).wf = true) (w2 : (Lit.int .u32 a2).wf = true) (w3 : (Lit.int .u32 a3).wf = true) (w4 : (Lit.int .u16 a4).wf = true) (w5 : (Lit.int .u16 a5).wf = true) (w : World) :
    Calls Try.prog 5 #[.int .u32 a0, .int .u32 a1, .int .u32 a2, .int .u32 a3, .int .u16 a4, .int .u16 a5] w fun e w' => e = .returned (.bool true) ∧ Grown w w' := by
  obtain ⟨l0, h0⟩ := fit_u32 w0
  obtain ⟨l1, h1⟩ := fit_u32 w1
  obtain ⟨l2, h2⟩ := fit_u32 w2
  obtain ⟨l3, h3⟩ := fit_u32 w3
  obtain ⟨l4, h4⟩ := fit_u16 w4
  obtain ⟨l5, h5⟩ := fit_u16 w5
  rcases Int.lt_trichotomy a0 a1 with c | c | c
  · exact walk_lt a0 a1 a2 a3 a4 a5 l0 h0 l1 h1 l2 h2 l3 h3 l4 h4 l5 h5 c w
  · exact walk_eq a0 a1 a2 a3 a4 a5 l0 h0 l1 h1 l2 h2 l3 h3 l4 h4 l5 h5 c w
  · exact walk_gt a0 a1 a2 a3 a4 a5 l0 h0 l1 h1 l2 h2 l3 h3 l4 h4 l5 h5 c w

/-! ### THE ROW's STEP: WRITTEN OUT: LEAVE IT -/
set_option maxRecDepth 100000 in
theorem lifted (os : Os) (started : os.Started) (H : Type) (enc : TypeId × Value → H) :
    ReturnsInHanded {} Try.checked os 5 .any (Rows.wordOrderSpec.pre6 enc Try.prog Try.f5 Rows.wordOrderRow.domain false) (Rows.wordOrderSpec.post enc Try.prog Try.f5 false true false false) := by
  refine returnsInHanded_of_change (C := Try.checked) own started (by kernel_rfl) Try.func5
    (ChangeSpec.witness6 (enc := enc) (C := Try.checked) false ⟨#[], #[.int .u32 0, .int .u32 0, .int .u32 0, .int .u32 0, .int .u16 0, .int .u16 0], []⟩ 8 (by kernel_rfl) (by kernel_rfl) (by kernel_rfl) (by kernel_rfl)) ?_
  intro W base args ds gs before hval0 hW hcnd _
  have hval : ∀ (j : Nat) t v, Try.f5.params[j]? = some t → args[j]? = some v → Value.okWide Try.prog W .any base t v := hval0
  have hW' := hW
  obtain ⟨p, q, hA0, hV, rfl, hfz, hnd⟩ := hW
  have hA : DataW.TrodAll enc Try.prog W 0 (fun _ => true) true Try.f5.params.toList args.toList ds p := hA0
  rw [Try.params5] at hA hval
  obtain ⟨v0, vs0, d0, ds0, p0, q0, hargs, rfl, rfl, h0, r0⟩ := trodAll_cons hA
  obtain ⟨v1, vs1, d1, ds1, p1, q1, rfl, rfl, rfl, h1, r1⟩ := trodAll_cons r0
  obtain ⟨v2, vs2, d2, ds2, p2, q2, rfl, rfl, rfl, h2, r2⟩ := trodAll_cons r1
  obtain ⟨v3, vs3, d3, ds3, p3, q3, rfl, rfl, rfl, h3, r3⟩ := trodAll_cons r2
  obtain ⟨v4, vs4, d4, ds4, p4, q4, rfl, rfl, rfl, h4, r4⟩ := trodAll_cons r3
  obtain ⟨v5, vs5, d5, ds5, p5, q5, rfl, rfl, rfl, h5, r5⟩ := trodAll_cons r4
  obtain ⟨rfl, rfl, rfl⟩ := trodAll_nil r5
  obtain rfl : args = #[v0, v1, v2, v3, v4, v5] := by cases args; simp_all
  obtain ⟨rfl, rfl⟩ := trodVars_none hV
  obtain ⟨a0, rfl, rfl, rfl, w0⟩ := open_int Try.underlying22 (hval 0 22 v0 rfl rfl) h0
  obtain ⟨a1, rfl, rfl, rfl, w1⟩ := open_int Try.underlying22 (hval 1 22 v1 rfl rfl) h1
  obtain ⟨a2, rfl, rfl, rfl, w2⟩ := open_int Try.underlying22 (hval 2 22 v2 rfl rfl) h2
  obtain ⟨a3, rfl, rfl, rfl, w3⟩ := open_int Try.underlying22 (hval 3 22 v3 rfl rfl) h3
  obtain ⟨a4, rfl, rfl, rfl, w4⟩ := open_int Try.underlying31 (hval 4 31 v4 rfl rfl) h4
  obtain ⟨a5, rfl, rfl, rfl, w5⟩ := open_int Try.underlying31 (hval 5 31 v5 rfl rfl) h5
  clear hA0 hval0
  simp only [List.append_nil] at hW'
  refine (walk a0 a1 a2 a3 a4 a5 w0 w1 w2 w3 w4 w5 W).mono fun e W' ⟨he, hg⟩ => ?_
  subst he
  exact ⟨_, rfl, post_of_same (pa := []) (pv := []) hW' (fun _ _ _ => (trodAll_cons_mk (shut_bool Try.underlying4 _) trodAll_mk0)) (fun sp _ => (trodAll_cons_mk (shut_int Try.underlying22 w0) (trodAll_cons_mk (shut_int Try.underlying22 w1) (trodAll_cons_mk (shut_int Try.underlying22 w2) (trodAll_cons_mk (shut_int Try.underlying22 w3) (trodAll_cons_mk (shut_int Try.underlying31 w4) (trodAll_cons_mk (shut_int Try.underlying31 w5) trodAll_mk0))))))) (fun _ _ => rfl) rfl
    (hg.frame _) hg.2.1 (ok_one (by kernel_rfl) rfl (okWide_bool_mk Try.underlying4 _))⟩

theorem over : Rows.wordOrderRow.holds Try.pinned (OpenSpec.ofChange Rows.wordOrderSpec) :=
  OpenClaim.holds_of_wide 5 Try.f5 rfl rfl rfl rfl rfl rfl rfl ⟨rfl, rfl, rfl, rfl, rfl⟩ rfl rfl rfl rfl rfl (by kernel_rfl) Try.func5 (by kernel_rfl)
    (of_decide_eq_true (by kernel_rfl)) (by unfold Func.isWrapper; first | (rw [if_pos (by decide +kernel)]; kernel_rfl) | (rw [if_neg (by decide +kernel)]; exact ⟨rfl, rfl⟩))
    (fun os started H enc _ => lifted os started H enc)

/-- ████ THE STATEMENT ████ -/
theorem proved : Rows.WordOrderSaid :=
  over
#print axioms proved
end Go.Proofs.Ytcjpdjligahfpaa.wordOrder
