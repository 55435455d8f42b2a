/- The trace of the first picks is the beginning of the trace of all: its steps, and its calls, as far as they went (P3.1, P3.2). No condition. -/
import Derived.Test.YtjjndniphnfcgaaPartX
import Derived.Test.YtjjndniphnfcgaaOpenL
import Derived.Test.YtjjndniphnfcgaaNoCfg
namespace Go.Proofs.Ytjjndniphnfcgaa.driveParts
open Go.ChangeShapes Go.WideShapes Go.ChangeAt Go.RowKit Go.Proofs.Ytjjndniphnfcgaa.Memc Go.Proofs.Ytjjndniphnfcgaa.Storec Go.Proofs.Ytjjndniphnfcgaa.Refc Go.Proofs.Ytjjndniphnfcgaa.Newc Go.Proofs.Ytjjndniphnfcgaa.Nocfg Go.Proofs.Ytjjndniphnfcgaa.Drivec
set_option linter.unusedVariables false
set_option maxRecDepth 100000

theorem own : ownKnob Try.prog.godebug = none := by kernel_rfl
theorem laidOut : laidOutB Try.prog = true := by kernel_rfl
theorem fit_u16 {x : Int} (h : (Lit.int .u16 x).wf = true) : 0 ≤ x ∧ x ≤ 65535 := by
  simp [Lit.wf, IntKind.min, IntKind.max, IntKind.bits, IntKind.signed] at h; omega

theorem walk (k K T M cut : Int) (s p : Sl) (ls : List (List Acc)) (ps : List (Int × Int)) (w : World) (hl : RdLA w w.heap.size s ls) (hp : RdP w w.heap.size p ps) (c1 : 0 ≤ cut) (c2 : cut ≤ 65535) :
    Calls Try.prog 8 #[.agg #[.int .i64 k, .int .i64 K, .int .i64 T, .int .i64 M], .slice s.A s.n s.c, .slice p.A p.n p.c, .int .u16 cut] w fun e w' => e = .returned (.bool true) ∧ Below w.heap.size w w' := by
  obtain ⟨sA, sn, sc⟩ := s
  obtain ⟨pA, pn, pc⟩ := p
  by_cases hm : (Cfg.mk k K T M).may ∧ (sn : Int) = T ∧ (ls.map List.length).any (fun x => decide (1000 < x)) = false ∧ pn ≤ 20000
  · obtain ⟨⟨⟨k1, k2⟩, ⟨a1, a2⟩, ⟨t1, t2⟩, ⟨m1, m2⟩⟩, hT, hany, hpn⟩ := hm
    simp only at k1 k2 a1 a2 t1 t2 m1 m2
    obtain ⟨K, rfl⟩ : ∃ n : Nat, K = n := ⟨K.toNat, by omega⟩
    obtain ⟨M, rfl⟩ : ∃ n : Nat, M = n := ⟨M.toNat, by omega⟩
    subst hT
    obtain ⟨b, off, hA, _⟩ := hl.2.2.2 (by show 0 < sn; omega)
    simp only at hA
    subst hA
    exact parts_yes w k cut K M b off sn sc pA pn pc ls ps c1 c2 k1 k2 (by omega) (by omega) (by omega) (by omega) (by omega) (by omega) hl (fun x hx => by
      rw [List.any_eq_false] at hany
      have := hany x.length (List.mem_map_of_mem hx)
      simpa using this) hp (by have := hp.1; simp only at this; omega)
  · exact parts_no w k K T M cut sA sn sc pA pn pc (ls.map List.length) (hl.lens (Nat.le_refl _)) ⟨hp.2.1, hp.2.2.1⟩ c1 c2 hm

/-! ### THE ROW's STEP -/
set_option maxRecDepth 100000 in
theorem lifted (os : Os) (started : os.Started) (H : Type) (enc : TypeId × Value → H) :
    ReturnsInHanded {} Try.checked os 8 .any (Rows.drivePartsSpec.pre6 enc Try.prog Try.f8 Rows.drivePartsRow.domain false) (Rows.drivePartsSpec.post enc Try.prog Try.f8 false true false false) := by
  refine returnsInHanded_of_change (C := Try.checked) own started (by kernel_rfl) Try.func8
    (ChangeSpec.witness6 (enc := enc) (C := Try.checked) false ⟨#[], #[.agg #[.int .i64 0, .int .i64 0, .int .i64 0, .int .i64 0], .slice none 0 0, .slice none 0 0, .int .u16 0], []⟩ 8 (by kernel_rfl) (by kernel_rfl) (by kernel_rfl) (by kernel_rfl)) ?_
  intro W base args ds gs before hval0 hW hcnd _
  have hval : ∀ (j : Nat) t v, Try.f8.params[j]? = some t → args[j]? = some v → Value.okWide Try.prog W .any base t v := hval0
  have hW' := hW
  obtain ⟨p, q, hA0, hV, rfl, hfz, hnd⟩ := hW
  have hA : DataW.TrodAll enc Try.prog W 0 (fun _ => true) true Try.f8.params.toList args.toList ds p := hA0
  rw [Try.params8] at hA hval
  obtain ⟨v0, vs0, d0, ds0, p0, q0, hargs, rfl, rfl, h0, r0⟩ := trodAll_cons hA
  obtain ⟨v1, vs1, d1, ds1, p1, q1, rfl, rfl, rfl, h1, r1⟩ := trodAll_cons r0
  obtain ⟨v2, vs2, d2, ds2, p2, q2, rfl, rfl, rfl, h2, r2⟩ := trodAll_cons r1
  obtain ⟨v3, vs3, d3, ds3, p3, q3, rfl, rfl, rfl, h3, r3⟩ := trodAll_cons r2
  obtain ⟨rfl, rfl, rfl⟩ := trodAll_nil r3
  obtain rfl : args = #[v0, v1, v2, v3] := by cases args; simp_all
  obtain ⟨rfl, rfl⟩ := trodVars_none hV
  have k0 := h0
  have lt0 : ∀ x ∈ p0, x.block < W.heap.size := by obtain ⟨m, hm⟩ := k0; exact DataW.trod_lt m _ _ _ hm
  have k1 := h1
  have lt1 : ∀ x ∈ p1, x.block < W.heap.size := by obtain ⟨m, hm⟩ := k1; exact DataW.trod_lt m _ _ _ hm
  have k2 := h2
  have lt2 : ∀ x ∈ p2, x.block < W.heap.size := by obtain ⟨m, hm⟩ := k2; exact DataW.trod_lt m _ _ _ hm
  have k3 := h3
  have lt3 : ∀ x ∈ p3, x.block < W.heap.size := by obtain ⟨m, hm⟩ := k3; exact DataW.trod_lt m _ _ _ hm
  obtain ⟨k, K, T, M, rfl, hk⟩ := open_cfg (hval 0 36 v0 rfl rfl) h0
  obtain ⟨s, ls, rfl, hl⟩ := open_lists (hval 1 49 v1 rfl rfl) h1
  obtain ⟨q, ps, rfl, hq⟩ := open_picks (hval 2 50 v2 rfl rfl) h2
  obtain ⟨cut, rfl, rfl, rfl, w3⟩ := open_int Try.underlying68 (hval 3 68 v3 rfl rfl) h3
  clear hA0 hval0
  refine (walk k K T M cut s q ls ps W hl hq (fit_u16 w3).1 (fit_u16 w3).2).mono fun e W' ⟨he, bel⟩ => ?_
  subst he
  exact ⟨_, rfl, _, _, _, [], _, [], hW', trodAll_mk1 (shut_bool Try.underlying4 _), (trodAll_cons_mk (Below.trod laidOut (by kernel_rfl) (of_decide_eq_true (by kernel_rfl)) k0 bel lt0) (trodAll_cons_mk (Below.trod laidOut (by kernel_rfl) (of_decide_eq_true (by kernel_rfl)) k1 bel lt1) (trodAll_cons_mk (Below.trod laidOut (by kernel_rfl) (of_decide_eq_true (by kernel_rfl)) k2 bel lt2) (trodAll_cons_mk (Below.trod laidOut (by kernel_rfl) (of_decide_eq_true (by kernel_rfl)) k3 bel lt3) trodAll_mk0)))), rfl, bel.frame _, fun h => by cases h⟩

theorem over : Rows.drivePartsRow.holds Try.pinned (OpenSpec.ofChange Rows.drivePartsSpec) :=
  OpenClaim.holds_of_wide 8 Try.f8 rfl rfl rfl rfl rfl rfl rfl ⟨rfl, rfl, rfl, rfl, rfl⟩ rfl rfl rfl rfl rfl (by kernel_rfl) Try.func8 (by kernel_rfl)
    (of_decide_eq_true (by kernel_rfl)) (by unfold Func.isWrapper; first | (rw [if_pos (by decide +kernel)]; kernel_rfl) | (rw [if_neg (by decide +kernel)]; exact ⟨rfl, rfl⟩))
    (fun os started H enc _ => lifted os started H enc)

/-- ████ THE STATEMENT ████ -/
theorem proved : Rows.DrivePartsSaid :=
  over
#print axioms proved
end Go.Proofs.Ytjjndniphnfcgaa.driveParts
