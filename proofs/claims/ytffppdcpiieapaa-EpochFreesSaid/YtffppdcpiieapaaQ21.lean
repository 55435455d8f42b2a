/- EpochFrees, where the config may not be, or there are fewer segments than threads: it holds at once. · The ends of EpochFrees' runs, as a Bool. -/
import Derived.Test.YtffppdcpiieapaaQ17
namespace Go.Proofs.Ytffppdcpiieapaa.Machc
open Go.RowKit Go.Proofs.Ytffppdcpiieapaa.Memc Go.Proofs.Ytffppdcpiieapaa.Newc Go.Proofs.Ytffppdcpiieapaa.Drivec Go.Proofs.Ytffppdcpiieapaa.Procc Go.Proofs.Ytffppdcpiieapaa.Arenac
set_option linter.unusedVariables false
set_option maxRecDepth 100000

set_option maxHeartbeats 1000000 in
theorem frees_no (w : World) (k K T M : Int) (h : ¬ (Cfg.mk k K T M).may ∨ M < T) :
    Calls Try.prog 8 #[.agg #[.int .i64 k, .int .i64 K, .int .i64 T, .int .i64 M]] w fun e w' => e = .returned (.bool true) ∧ Below w.heap.size w w' := by
  have C0 : Hid (Blk (w.alloc (.cells #[.int .i64 k, .int .i64 K, .int .i64 T, .int .i64 M] 23)) w.heap.size 23 #[.int .i64 k, .int .i64 K, .int .i64 T, .int .i64 M]) := Lib.hid (Blk.new _ _ _)
  have W0 : Hid (Below w.heap.size w (w.alloc (.cells #[.int .i64 k, .int .i64 K, .int .i64 T, .int .i64 M] 23))) := Lib.hid ((Below.refl _ _).alloc (Nat.le_refl _) _)
  by_cases hm : (Cfg.mk k K T M).may
  · have hmt : M < T := h.resolve_left (fun h => h hm)
    have hmt2 : decide (M < T) = true := decide_eq_true hmt
    obtain ⟨⟨k1, k2⟩, ⟨a1, a2⟩, ⟨t1, t2⟩, ⟨m1, m2⟩⟩ := hm
    simp only at k1 k2 a1 a2 t1 t2 m1 m2
    have HM : Hid ((1 ≤ k ∧ k ≤ 3) ∧ (1 ≤ K ∧ K ≤ 64) ∧ (1 ≤ T ∧ T ≤ 8) ∧ (2 ≤ M ∧ M ≤ 64)) := Lib.hid ⟨⟨k1, k2⟩, ⟨a1, a2⟩, ⟨t1, t2⟩, ⟨m1, m2⟩⟩
    clear h
    go_enter Try.func8, Try.ntmps8
    go_wp2_with (first
      | (go_at_call 21; (with_reducible refine (awake5_c _).mono ?_); rintro e w1 ⟨rfl, hb⟩; go_must (have C1 := Lib.hid (C0.out.below hb C0.out.lt); have W1 := Lib.hid (W0.out.trans (hb.mono W0.out.size))); have hc1 := C1.out.cell; have hf1 := C1.out.frozen; clear hb)
      | (go_at_call 20; (with_reducible refine (refmay_yes _ k K T M HM.out.1.1 HM.out.1.2 HM.out.2.1.1 HM.out.2.1.2 HM.out.2.2.1.1 HM.out.2.2.1.2 HM.out.2.2.2.1 HM.out.2.2.2.2).mono ?_); rintro e w2 ⟨rfl, hb⟩; go_must (have C2 := Lib.hid (C1.out.below hb C1.out.lt); have W2 := Lib.hid (W1.out.trans (hb.mono W1.out.size))); have hc2 := C2.out.cell; have hf2 := C2.out.frozen; clear hb hc1 hf1))
    go_ret
    exact ⟨rfl, W2.out⟩
  · have HM := Lib.hid hm
    clear h hm
    go_enter Try.func8, Try.ntmps8
    go_wp2_with (first
      | (go_at_call 21; (with_reducible refine (awake5_c _).mono ?_); rintro e w1 ⟨rfl, hb⟩; go_must (have C1 := Lib.hid (C0.out.below hb C0.out.lt); have W1 := Lib.hid (W0.out.trans (hb.mono W0.out.size))); have hc1 := C1.out.cell; have hf1 := C1.out.frozen; clear hb)
      | (go_at_call 20; (with_reducible refine (refmay_no _ k K T M HM.out).mono ?_); rintro e w2 ⟨rfl, hb⟩; go_must (have C2 := Lib.hid (C1.out.below hb C1.out.lt); have W2 := Lib.hid (W1.out.trans (hb.mono W1.out.size))); have hc2 := C2.out.cell; have hf2 := C2.out.frozen; clear hb hc1 hf1))
    go_ret
    exact ⟨rfl, W2.out⟩
end Go.Proofs.Ytffppdcpiieapaa.Machc

namespace Go.Proofs.Ytffppdcpiieapaa.Machc
open Go.RowKit Go.Proofs.Ytffppdcpiieapaa.Memc Go.Proofs.Ytffppdcpiieapaa.Newc Go.Proofs.Ytffppdcpiieapaa.Drivec Go.Proofs.Ytffppdcpiieapaa.Procc Go.Proofs.Ytffppdcpiieapaa.Arenac
set_option maxRecDepth 100000
def frR (K T M : Nat) : RS := runM (docZ 2 K T M) ((List.range T).map callsT) (RS.first (newM 2 K T M) T) (picksT T ++ List.replicate 400 (0, 0))
def endB (s : RS) (T : Nat) : Bool :=
  (match s.calls[s.calls.length - 1]? with | some x => decide (0 ≤ x.to) | none => false) &&
  (match s.m.li with | [a, b, c] => decide (lo a = 0) && decide (lo b = 0) && decide (lo c = 0) | _ => false) && decide ((listN 99 s.m.lk (lo s.m.f)).length = T)
theorem endB_end {s : RS} {T : Nat} (h : endB s T = true) : FrEnd s T := by
  unfold endB at h
  rw [Bool.and_eq_true, Bool.and_eq_true] at h
  obtain ⟨⟨h1, h2⟩, h3⟩ := h
  refine ⟨?_, ?_, of_decide_eq_true h3⟩
  · split at h1
    · rename_i x hx
      have hl := (List.getElem?_eq_some_iff.1 hx).1
      exact ⟨s.calls.length - 1, by omega, x, hx, of_decide_eq_true h1⟩
    · cases h1
  · split at h2
    · rename_i a b c hl
      rw [Bool.and_eq_true, Bool.and_eq_true] at h2
      exact ⟨a, b, c, hl, of_decide_eq_true h2.1.1, of_decide_eq_true h2.1.2, of_decide_eq_true h2.2⟩
    · cases h2
end Go.Proofs.Ytffppdcpiieapaa.Machc
