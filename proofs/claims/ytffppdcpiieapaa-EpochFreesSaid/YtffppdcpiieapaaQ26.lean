/- After threads one by one, alone, hold, retire each a segment of its own, and drop, three times Collect frees them all (P5.2, P5.3). No condition. -/
import Derived.Test.YtffppdcpiieapaaQ18
import Derived.Test.YtffppdcpiieapaaQ20
import Derived.Test.YtffppdcpiieapaaQ21
import Derived.Test.YtffppdcpiieapaaQ22
import Derived.Test.YtffppdcpiieapaaQ23
import Derived.Test.YtffppdcpiieapaaQ24
import Derived.Test.YtffppdcpiieapaaQ25
namespace Go.Proofs.Ytffppdcpiieapaa.epochFrees
open Go.ChangeShapes Go.WideShapes Go.ChangeAt Go.RowKit Go.Proofs.Ytffppdcpiieapaa.Memc Go.Proofs.Ytffppdcpiieapaa.Refc Go.Proofs.Ytffppdcpiieapaa.Newc Go.Proofs.Ytffppdcpiieapaa.Drivec Go.Proofs.Ytffppdcpiieapaa.Machc Go.Proofs.Ytffppdcpiieapaa.Arenac Go.Proofs.Ytffppdcpiieapaa.Opencfg
set_option linter.unusedVariables false
set_option maxRecDepth 100000

theorem own : ownKnob Try.prog.godebug = none := by kernel_rfl
theorem laidOut : laidOutB Try.prog = true := by kernel_rfl

theorem fr_of {K T M : Nat} (h : ((List.range 65).all fun M => decide (M < T) || endB (frR K T M) T) = true) (hT : T ≤ M) (hM : M ≤ 64) : FrEnd (frR K T M) T := by
  have h1 := List.all_eq_true.1 h M (List.mem_range.2 (by omega))
  rw [decide_eq_false (by omega), Bool.false_or] at h1
  exact endB_end h1
theorem fr_all (K T M : Nat) (t1 : 1 ≤ T) (t2 : T ≤ 8) (hT : T ≤ M) (hM : M ≤ 64) : FrEnd (frR K T M) T := by
  have h8 : T = 1 ∨ T = 2 ∨ T = 3 ∨ T = 4 ∨ T = 5 ∨ T = 6 ∨ T = 7 ∨ T = 8 := by omega
  rcases h8 with rfl | rfl | rfl | rfl | rfl | rfl | rfl | rfl
  · exact fr_of (fr_1 K) hT hM
  · exact fr_of (fr_2 K) hT hM
  · exact fr_of (fr_3 K) hT hM
  · exact fr_of (fr_4 K) hT hM
  · exact fr_of (fr_5 K) hT hM
  · exact fr_of (fr_6 K) hT hM
  · exact fr_of (fr_7 K) hT hM
  · exact fr_of (fr_8 K) hT hM
theorem walk (k K T M : Int) (w : World) : Calls Try.prog 8 #[.agg #[.int .i64 k, .int .i64 K, .int .i64 T, .int .i64 M]] w fun e w' => e = .returned (.bool true) ∧ Below w.heap.size w w' := by
  by_cases hm : (Cfg.mk k K T M).may ∧ T ≤ M
  · obtain ⟨⟨⟨k1, k2⟩, ⟨a1, a2⟩, ⟨t1, t2⟩, ⟨m1, m2⟩⟩, hT⟩ := hm
    simp only at k1 k2 a1 a2 t1 t2 m1 m2
    obtain ⟨K, rfl⟩ : ∃ n : Nat, K = n := ⟨K.toNat, by omega⟩
    obtain ⟨T, rfl⟩ : ∃ n : Nat, T = n := ⟨T.toNat, by omega⟩
    obtain ⟨M, rfl⟩ : ∃ n : Nat, M = n := ⟨M.toNat, by omega⟩
    exact frees_c w k K T M k1 k2 (by omega) (by omega) (by omega) (by omega) (by omega) (by omega) (by omega) (fr_all K T M (by omega) (by omega) (by omega) (by omega))
  · refine frees_no w k K T M ?_
    by_cases h1 : (Cfg.mk k K T M).may
    · exact .inr (by
        rcases Int.lt_or_le M T with h2 | h2
        · exact h2
        · exact absurd ⟨h1, h2⟩ hm)
    · exact .inl h1

/-! ### THE ROW's STEP -/
set_option maxRecDepth 100000 in
theorem lifted (os : Os) (started : os.Started) (H : Type) (enc : TypeId × Value → H) :
    ReturnsInHanded {} Try.checked os 8 .any (Rows.epochFreesSpec.pre6 enc Try.prog Try.f8 Rows.epochFreesRow.domain false) (Rows.epochFreesSpec.post enc Try.prog Try.f8 false true false false) := by
  refine returnsInHanded_of_change (C := Try.checked) own started (by kernel_rfl) Try.func8
    (ChangeSpec.witness6 (enc := enc) (C := Try.checked) false ⟨#[], #[.agg #[.int .i64 0, .int .i64 0, .int .i64 0, .int .i64 0]], []⟩ 8 (by kernel_rfl) (by kernel_rfl) (by kernel_rfl) (by kernel_rfl)) ?_
  intro W base args ds gs before hval0 hW hcnd _
  have hval : ∀ (j : Nat) t v, Try.f8.params[j]? = some t → args[j]? = some v → Value.okWide Try.prog W .any base t v := hval0
  have hW' := hW
  obtain ⟨p, q, hA0, hV, rfl, hfz, hnd⟩ := hW
  have hA : DataW.TrodAll enc Try.prog W 0 (fun _ => true) true Try.f8.params.toList args.toList ds p := hA0
  rw [Try.params8] at hA hval
  obtain ⟨v0, vs0, d0, ds0, p0, q0, hargs, rfl, rfl, h0, r0⟩ := trodAll_cons hA
  obtain ⟨rfl, rfl, rfl⟩ := trodAll_nil r0
  obtain rfl : args = #[v0] := by cases args; simp_all
  obtain ⟨rfl, rfl⟩ := trodVars_none hV
  have k0 := h0
  have lt0 : ∀ x ∈ p0, x.block < W.heap.size := by obtain ⟨m, hm⟩ := k0; exact DataW.trod_lt m _ _ _ hm
  obtain ⟨k, K, T, M, rfl, hk⟩ := open_cfg (hval 0 23 v0 rfl rfl) h0
  clear hA0 hval0
  refine (walk k K T M W).mono fun e W' ⟨he, bel⟩ => ?_
  subst he
  exact ⟨_, rfl, _, _, _, [], _, [], hW', trodAll_mk1 (shut_bool Try.underlying4 _), (trodAll_cons_mk (Below.trod laidOut (by kernel_rfl) (of_decide_eq_true (by kernel_rfl)) k0 bel lt0) trodAll_mk0), rfl, bel.frame _, fun h => by cases h⟩

theorem over : Rows.epochFreesRow.holds Try.pinned (OpenSpec.ofChange Rows.epochFreesSpec) :=
  OpenClaim.holds_of_wide 8 Try.f8 rfl rfl rfl rfl rfl rfl rfl ⟨rfl, rfl, rfl, rfl, rfl⟩ rfl rfl rfl rfl rfl (by kernel_rfl) Try.func8 (by kernel_rfl)
    (of_decide_eq_true (by kernel_rfl)) (by unfold Func.isWrapper; first | (rw [if_pos (by decide +kernel)]; kernel_rfl) | (rw [if_neg (by decide +kernel)]; exact ⟨rfl, rfl⟩))
    (fun os started H enc _ => lifted os started H enc)

/-- ████ THE STATEMENT ████ -/
theorem proved : Rows.EpochFreesSaid :=
  over
end Go.Proofs.Ytffppdcpiieapaa.epochFrees
