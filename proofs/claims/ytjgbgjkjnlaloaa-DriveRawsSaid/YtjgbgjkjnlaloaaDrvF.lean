/- The machines that are on are stopped (none is); a run's panic would be caught (there is none). -/
import Derived.Test.YtjgbgjkjnlaloaaDrvE
namespace Go.Proofs.Ytjgbgjkjnlaloaa.Drivec
open Go.RowKit Go.Proofs.Ytjgbgjkjnlaloaa.Memc Go.Proofs.Ytjgbgjkjnlaloaa.Procc Go.Proofs.Ytjgbgjkjnlaloaa.Storec
set_option linter.unusedVariables false
set_option maxRecDepth 100000

theorem guard_idle (g8 g9 : Nat) (w : World) :
    CallsD Try.prog 83 #[.pointer (some ⟨g8, 0, none⟩), .pointer (some ⟨g9, 0, none⟩)] .returning w fun e u' w' => e = .returned (.tuple #[]) ∧ u' = .returning ∧ w' = w := by
  refine callsD_of_wpS Try.func83 rfl fun c₀ cs hu => ?_
  apply wpS_seq
  apply wpS_region
  simp [wpOpsS, go_sem, recoverD, hu, Try.ntmps83, Exit.thenS]
  refine wpS_cond (t := false) (by simp [Act.eval, Array.replicate]) ?_
  simp only [Bool.false_eq_true, if_false]
  refine wpS_of_wp (wp_skip ?_)
  cases c₀
  simp_all [bodyPostS, results, Try.results83]

set_option maxHeartbeats 4000000 in
theorem stop_c (w : World) (B base gC gT gL gLL T : Nat) (s : D) (u : FrameMode) (h : Inv w B base gC gT gL gLL T s) (hT : T ≤ 8) :
    CallsD Try.prog 84 #[.pointer (some ⟨gC, 0, none⟩)] u w fun e u' w' => u' = u ∧ (e = .returned (.tuple #[]) ∧ Below w.heap.size w w') := by
  have HI := Lib.hid h
  obtain ⟨⟨r, sS, sK, ct, cs, lc, hC, hrest⟩, hrest2⟩ := id h
  have hc := hC.cell
  have hzC := hC.lt
  have t8 : (T : Int) ≤ 8 := by omega
  have hta : ∀ w : World, (Instr.typeAssert Value.nilIface 98 159 true).run Try.prog w = .ok (.tuple #[.nilIface, .bool false]) w := fun _ => by kernel_rfl
  clear h hrest hrest2 hC
  go_enter_d Try.func84, Try.ntmps84
  go_wp2_with fail
  clear hc
  go_loopw [11] (fun i wr => ∃ j : Nat, i = .int .i64 j ∧ j ≤ T ∧ Below w.heap.size w wr) (fun i _ => T - (intOf i).toNat)
  case atStart => exact ⟨0, rfl, Nat.zero_le _, Below.refl _ _⟩
  case round =>
    obtain ⟨j, rfl, hj, hb⟩ := hrel
    by_cases hlt : j < T
    · obtain ⟨r', sS', sK', ct', cs', lc', hC', hT', hE', hS', hK', hL', hLL', hops, hrest'⟩ := (HI.out.only hb).ex
      obtain ⟨so, hid, hop⟩ := hops j hlt
      obtain ⟨d0, d1, ⟨cl, d2⟩, d3, d4, d5, d6, d7, d8⟩ := hid
      have q0 := (hT'.cell (j * 9)).trans d0
      have q1 := (hT'.cell (j * 9 + 1)).trans d1
      have q2 := (hT'.cell (j * 9 + 2)).trans d2
      have q3 := (hT'.cell (j * 9 + 3)).trans d3
      have q4 := (hT'.cell (j * 9 + 4)).trans d4
      have q5 := (hT'.cell (j * 9 + 5)).trans d5
      have q6 := (hT'.cell (j * 9 + 6)).trans d6
      have q7 := (hT'.cell (j * 9 + 7)).trans d7
      have q8 := (hT'.cell (j * 9 + 8)).trans d8
      have HB := Lib.hid hb
      have i0 : (0 : Int) ≤ j := by omega
      have i1 : (j : Int) < T := by omega
      clear hC' hT' hE' hS' hK' hL' hLL' hops hrest' hop d0 d1 d2 d3 d4 d5 d6 d7 d8 hb
      go_wp2
      go_roundw
      case rel => exact ⟨j + 1, by go_num, by omega, HB.out.alloc HB.out.size _⟩
      case measure => simp [intOf]; omega
    · have HB := Lib.hid hb
      clear hb
      obtain rfl : j = T := by omega
      go_wp2
      go_end0
      exact ⟨rfl, HB.out⟩
end Go.Proofs.Ytjgbgjkjnlaloaa.Drivec
