/- Any threads' accesses, in any order that is picked, come to the trace that the document says, step by step, call by call; or are refused (P3.2). No condition. -/
import Derived.Test.YtjgbgjkjnlaloaaRepW
import Derived.Test.YtjgbgjkjnlaloaaDRaws
import Derived.Test.YtjgbgjkjnlaloaaOpenL
import Derived.Test.YtjgbgjkjnlaloaaNoCfg
namespace Go.Proofs.Ytjgbgjkjnlaloaa.driveRaws
open Go.ChangeShapes Go.WideShapes Go.ChangeAt Go.RowKit Go.Proofs.Ytjgbgjkjnlaloaa.Memc Go.Proofs.Ytjgbgjkjnlaloaa.Storec Go.Proofs.Ytjgbgjkjnlaloaa.Refc Go.Proofs.Ytjgbgjkjnlaloaa.Newc Go.Proofs.Ytjgbgjkjnlaloaa.Nocfg Go.Proofs.Ytjgbgjkjnlaloaa.Drivec Go.Proofs.Ytjgbgjkjnlaloaa.Machc
set_option linter.unusedVariables false
set_option maxRecDepth 100000

theorem own : ownKnob Try.prog.godebug = none := by kernel_rfl
theorem laidOut : laidOutB Try.prog = true := by kernel_rfl

theorem walk (k K T M : Int) (s p : Sl) (ls : List (List Acc)) (ps : List (Int × Int)) (w : World) (hl : RdLA w w.heap.size s ls) (hp : RdP w w.heap.size p ps) :
    Calls Try.prog 6 #[.agg #[.int .i64 k, .int .i64 K, .int .i64 T, .int .i64 M], .slice s.A s.n s.c, .slice p.A p.n p.c] w fun e w' => e = .returned (.bool true) ∧ Below w.heap.size w w' := by
  obtain ⟨sA, sn, sc⟩ := s
  obtain ⟨pA, pn, pc⟩ := p
  by_cases hm : (Cfg.mk k K T M).may ∧ (sn : Int) = T ∧ (ls.map List.length).any (fun x => decide (1000 < x)) = false ∧ pn ≤ 20000
  · obtain ⟨⟨⟨k1, k2⟩, ⟨a1, a2⟩, ⟨t1, t2⟩, ⟨m1, m2⟩⟩, hT, hany, hpn⟩ := hm
    simp only at k1 k2 a1 a2 t1 t2 m1 m2
    obtain ⟨K, rfl⟩ : ∃ n : Nat, K = n := ⟨K.toNat, by omega⟩
    obtain ⟨M, rfl⟩ : ∃ n : Nat, M = n := ⟨M.toNat, by omega⟩
    subst hT
    obtain ⟨b, off, hA, _⟩ := hl.2.2.2 (by show 0 < sn; omega)
    simp only at hA
    subst hA
    exact draws_yes w k K M b off sn sc pA pn pc ls ps k1 k2 (by omega) (by omega) (by omega) (by omega) (by omega) (by omega) hl (fun x hx => by
      rw [List.any_eq_false] at hany
      have := hany x.length (List.mem_map_of_mem hx)
      simpa using this) hp (by have := hp.1; simp only at this; omega)
  · exact draws_no w k K T M sA sn sc pA pn pc (ls.map List.length) (hl.lens (Nat.le_refl _)) (Nat.le_trans hp.2.1 hp.2.2.1) hm

/-! ### THE ROW's STEP -/
set_option maxRecDepth 100000 in
theorem lifted (os : Os) (started : os.Started) (H : Type) (enc : TypeId × Value → H) :
    ReturnsInHanded {} Try.checked os 6 .any (Rows.driveRawsSpec.pre6 enc Try.prog Try.f6 Rows.driveRawsRow.domain false) (Rows.driveRawsSpec.post enc Try.prog Try.f6 false true false false) := by
  refine returnsInHanded_of_change (C := Try.checked) own started (by kernel_rfl) Try.func6
    (ChangeSpec.witness6 (enc := enc) (C := Try.checked) false ⟨#[], #[.agg #[.int .i64 0, .int .i64 0, .int .i64 0, .int .i64 0], .slice none 0 0, .slice none 0 0], []⟩ 8 (by kernel_rfl) (by kernel_rfl) (by kernel_rfl) (by kernel_rfl)) ?_
  intro W base args ds gs before hval0 hW hcnd _
  have hval : ∀ (j : Nat) t v, Try.f6.params[j]? = some t → args[j]? = some v → Value.okWide Try.prog W .any base t v := hval0
  have hW' := hW
  obtain ⟨p, q, hA0, hV, rfl, hfz, hnd⟩ := hW
  have hA : DataW.TrodAll enc Try.prog W 0 (fun _ => true) true Try.f6.params.toList args.toList ds p := hA0
  rw [Try.params6] at hA hval
  obtain ⟨v0, vs0, d0, ds0, p0, q0, hargs, rfl, rfl, h0, r0⟩ := trodAll_cons hA
  obtain ⟨v1, vs1, d1, ds1, p1, q1, rfl, rfl, rfl, h1, r1⟩ := trodAll_cons r0
  obtain ⟨v2, vs2, d2, ds2, p2, q2, rfl, rfl, rfl, h2, r2⟩ := trodAll_cons r1
  obtain ⟨rfl, rfl, rfl⟩ := trodAll_nil r2
  obtain rfl : args = #[v0, v1, v2] := by cases args; simp_all
  obtain ⟨rfl, rfl⟩ := trodVars_none hV
  have k0 := h0
  have lt0 : ∀ x ∈ p0, x.block < W.heap.size := by obtain ⟨m, hm⟩ := k0; exact DataW.trod_lt m _ _ _ hm
  have k1 := h1
  have lt1 : ∀ x ∈ p1, x.block < W.heap.size := by obtain ⟨m, hm⟩ := k1; exact DataW.trod_lt m _ _ _ hm
  have k2 := h2
  have lt2 : ∀ x ∈ p2, x.block < W.heap.size := by obtain ⟨m, hm⟩ := k2; exact DataW.trod_lt m _ _ _ hm
  obtain ⟨k, K, T, M, rfl, hk⟩ := open_cfg (hval 0 36 v0 rfl rfl) h0
  obtain ⟨s, ls, rfl, hl⟩ := open_lists (hval 1 49 v1 rfl rfl) h1
  obtain ⟨q, ps, rfl, hq⟩ := open_picks (hval 2 50 v2 rfl rfl) h2
  clear hA0 hval0
  refine (walk k K T M s q ls ps W hl hq).mono fun e W' ⟨he, bel⟩ => ?_
  subst he
  exact ⟨_, rfl, _, _, _, [], _, [], hW', trodAll_mk1 (shut_bool Try.underlying4 _), (trodAll_cons_mk (Below.trod laidOut (by kernel_rfl) (of_decide_eq_true (by kernel_rfl)) k0 bel lt0) (trodAll_cons_mk (Below.trod laidOut (by kernel_rfl) (of_decide_eq_true (by kernel_rfl)) k1 bel lt1) (trodAll_cons_mk (Below.trod laidOut (by kernel_rfl) (of_decide_eq_true (by kernel_rfl)) k2 bel lt2) trodAll_mk0))), rfl, bel.frame _, fun h => by cases h⟩

theorem over : Rows.driveRawsRow.holds Try.pinned (OpenSpec.ofChange Rows.driveRawsSpec) :=
  OpenClaim.holds_of_wide 6 Try.f6 rfl rfl rfl rfl rfl rfl rfl ⟨rfl, rfl, rfl, rfl, rfl⟩ rfl rfl rfl rfl rfl (by kernel_rfl) Try.func6 (by kernel_rfl)
    (of_decide_eq_true (by kernel_rfl)) (by unfold Func.isWrapper; first | (rw [if_pos (by decide +kernel)]; kernel_rfl) | (rw [if_neg (by decide +kernel)]; exact ⟨rfl, rfl⟩))
    (fun os started H enc _ => lifted os started H enc)

/-- ████ THE STATEMENT ████ -/
theorem proved : Rows.DriveRawsSaid :=
  over
#print axioms proved
end Go.Proofs.Ytjgbgjkjnlaloaa.driveRaws
