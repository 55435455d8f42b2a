/- Whether the program of runs is awake: the answers that the document fixes are given. -/
import Derived.Test.YtjgbgjkjnlaloaaDrvI
namespace Go.Proofs.Ytjgbgjkjnlaloaa.Drivec
open Go.RowKit Go.Proofs.Ytjgbgjkjnlaloaa.Memc Go.Proofs.Ytjgbgjkjnlaloaa.Procc Go.Proofs.Ytjgbgjkjnlaloaa.Storec Go.Proofs.Ytjgbgjkjnlaloaa.Newc
set_option linter.unusedVariables false
set_option maxRecDepth 100000

def a5 : Acc := ⟨3, 5, 0, 0, 5⟩
def s5 : D := runs ⟨newM 2 1 2 2, [[a5], [a5]], [], []⟩ [(1, 0), (0, 0), (0, 0)]
theorem s5_steps : s5.steps = [⟨1, a5, 0, true⟩, ⟨0, a5, 5, false⟩] := by rfl
theorem s5_calls : s5.calls = [⟨1, 0, 1⟩, ⟨0, 1, 0⟩] := by rfl
theorem s5_h : s5.m.h = 5 := by rfl
theorem a5_ok : a5.ok := by unfold Acc.ok a5; simp only; omega
def Raw5 (V : World) (e : Ending) (w' : World) : Prop :=
  ∃ (r : R) (gS cS gK cK : Nat), e = .returned (.tuple #[.agg #[.slice (some ⟨gS, 0, none⟩) 2 cS, .slice (some ⟨gK, 0, none⟩) 2 cK, .int .u64 r.e, .int .u64 r.f, .slice r.L.A r.L.n r.L.c, .slice r.P.A r.P.n r.P.c, .int .u64 r.h, .int .u64 r.t, .slice r.K.A r.K.n r.K.c, .slice r.X.A r.X.n r.X.c, .slice r.S.A r.S.n r.S.c], .int .i64 0]) ∧ gS < w'.heap.size ∧ gK < w'.heap.size ∧ r.h = 5 ∧ w'.cell? ⟨gS, 14, none⟩ = some (.int .u64 5) ∧ w'.cell? ⟨gK, 0, none⟩ = some (.int .i64 1) ∧ w'.cell? ⟨gK, 6, none⟩ = some (.int .u32 1) ∧ w'.cell? ⟨gK, 13, none⟩ = some (.int .u32 0) ∧ Below V.heap.size V w'
theorem rdA5 {V : World} {g : Nat} (h : Blk V g 27 #[.int .i64 3, .int .i64 5, .int .i64 0, .int .u64 0, .int .u64 5]) : RdA V V.heap.size ⟨some ⟨g, 0, none⟩, 1, 1⟩ [a5] := by
  refine ⟨rfl, Nat.le_refl _, by show 1 ≤ maxLen; unfold maxLen; omega, fun x hx => by rw [List.mem_singleton.1 hx]; exact a5_ok, fun _ => ⟨g, 0, rfl, h.lt, fun i x hx => ?_⟩⟩
  match i, hx with
  | 0, hx =>
    injection hx with hx
    subst hx
    exact ⟨h.cell 0, h.cell 1, h.cell 2, h.cell 3, h.cell 4⟩
theorem raw_5 (V : World) (g2 g3 g4 g5 : Nat) (h4 : Blk V g4 51 #[.slice (some ⟨g2, 0, none⟩) 1 1, .slice (some ⟨g3, 0, none⟩) 1 1]) (h2 : Blk V g2 27 #[.int .i64 3, .int .i64 5, .int .i64 0, .int .u64 0, .int .u64 5]) (h3 : Blk V g3 27 #[.int .i64 3, .int .i64 5, .int .i64 0, .int .u64 0, .int .u64 5]) (h5 : Blk V g5 63 #[.int .i64 1, .int .u32 0, .int .i64 0, .int .u32 0, .int .i64 0, .int .u32 0]) :
    Calls Try.prog 28 #[.agg #[.int .i64 2, .int .i64 1, .int .i64 2, .int .i64 2], .slice (some ⟨g4, 0, none⟩) 2 2, .slice (some ⟨g5, 0, none⟩) 3 3] V (Raw5 V) := by
  refine (raw_c V V.heap.size 2 1 2 2 g4 0 2 (some ⟨g5, 0, none⟩) 3 3 [[a5], [a5]] [(1, 0), (0, 0), (0, 0)] (by omega) (by omega) (by omega) (by omega) (by omega) (by omega) (by omega) (by omega) ?_ ?_ ?_ (by decide) (Nat.le_refl _)).mono ?_
  · refine ⟨rfl, Nat.le_refl _, by show 2 ≤ maxLen; unfold maxLen; omega, fun _ => ⟨g4, 0, rfl, h4.lt, fun i x hx => ?_⟩⟩
    match i, hx with
    | 0, hx => injection hx with hx; subst hx; exact ⟨⟨some ⟨g2, 0, none⟩, 1, 1⟩, h4.cell 0, rdA5 h2⟩
    | 1, hx => injection hx with hx; subst hx; exact ⟨⟨some ⟨g3, 0, none⟩, 1, 1⟩, h4.cell 1, rdA5 h3⟩
  · intro x hx
    simp only [List.mem_cons, List.not_mem_nil, or_false, or_self] at hx
    subst hx
    decide
  · refine ⟨rfl, Nat.le_refl _, by show 3 ≤ maxLen; unfold maxLen; omega, (by intro x hx; simp only [List.mem_cons, List.not_mem_nil, or_false, or_self] at hx; rcases hx with rfl | rfl <;> decide), fun _ => ⟨g5, 0, rfl, h5.lt, fun i x hx => ?_⟩⟩
    match i, hx with
    | 0, hx => injection hx with hx; subst hx; exact ⟨h5.cell 0, h5.cell 1⟩
    | 1, hx => injection hx with hx; subst hx; exact ⟨h5.cell 2, h5.cell 3⟩
    | 2, hx => injection hx with hx; subst hx; exact ⟨h5.cell 4, h5.cell 5⟩
  · rintro e w' ⟨r, sS, sK, base, he, hS, hK, hE, hF⟩
    have e1 : (runs ⟨newM ((2 : Nat) : Int) 1 2 2, [[a5], [a5]], [], []⟩ [(1, 0), (0, 0), (0, 0)]) = s5 := rfl
    change Row w' base 65 8 sS s5.steps.length (flatS s5.steps) at hS
    change Row w' base 67 7 sK s5.calls.length (flatC s5.calls) at hK
    change Endw w' base r s5.m at hE
    rw [s5_steps] at hS
    rw [s5_calls] at hK
    obtain ⟨gS, hgS, _, hlS, hcS, _⟩ := hS.at_ (by decide)
    obtain ⟨gK, hgK, _, hlK, hcK, _⟩ := hK.at_ (by decide)
    have hnS := hS.n_.1
    have hnK := hK.n_.1
    obtain ⟨sSA, sSn, sSc⟩ := sS
    obtain ⟨sKA, sKn, sKc⟩ := sK
    simp only at hgS hgK hnS hnK
    subst hgS hgK hnS hnK
    exact ⟨r, gS, sSc, gK, sKc, he, hlS, hlK, hE.1.2.2.1.trans s5_h, hcS 14 (by decide), hcK 0 (by decide), hcK 6 (by decide), hcK 13 (by decide), hF.below (Nat.le_refl _)⟩

set_option maxHeartbeats 4000000 in
theorem awake3_c (w : World) : Calls Try.prog 27 #[] w fun e w' => e = .returned (.bool true) ∧ Below w.heap.size w w' := by
  have X2 : Hid (Blk ((((((w.alloc (.cells #[.int .i64 2, .int .i64 1, .int .i64 2, .int .i64 2] 36)).alloc (.cells #[.int .i64 3, .int .i64 5, .int .i64 0, .int .u64 0, .int .u64 5] 27)).alloc (.cells #[.int .i64 3, .int .i64 5, .int .i64 0, .int .u64 0, .int .u64 5] 27)).alloc (.cells #[.int .i64 3, .int .i64 5, .int .i64 0, .int .u64 0, .int .u64 5] 27)).alloc (.cells #[.slice (some ⟨w.heap.size + 1 + 1, 0, none⟩) 1 1, .slice (some ⟨w.heap.size + 1 + 1 + 1, 0, none⟩) 1 1] 51)).alloc (.cells #[.int .i64 1, .int .u32 0, .int .i64 0, .int .u32 0, .int .i64 0, .int .u32 0] 63)) (w.heap.size + 1 + 1) 27 #[.int .i64 3, .int .i64 5, .int .i64 0, .int .u64 0, .int .u64 5]) := Lib.hid ((((blk_at (by simp)).alloc _).alloc _).alloc _)
  have X3 : Hid (Blk ((((((w.alloc (.cells #[.int .i64 2, .int .i64 1, .int .i64 2, .int .i64 2] 36)).alloc (.cells #[.int .i64 3, .int .i64 5, .int .i64 0, .int .u64 0, .int .u64 5] 27)).alloc (.cells #[.int .i64 3, .int .i64 5, .int .i64 0, .int .u64 0, .int .u64 5] 27)).alloc (.cells #[.int .i64 3, .int .i64 5, .int .i64 0, .int .u64 0, .int .u64 5] 27)).alloc (.cells #[.slice (some ⟨w.heap.size + 1 + 1, 0, none⟩) 1 1, .slice (some ⟨w.heap.size + 1 + 1 + 1, 0, none⟩) 1 1] 51)).alloc (.cells #[.int .i64 1, .int .u32 0, .int .i64 0, .int .u32 0, .int .i64 0, .int .u32 0] 63)) (w.heap.size + 1 + 1 + 1) 27 #[.int .i64 3, .int .i64 5, .int .i64 0, .int .u64 0, .int .u64 5]) := Lib.hid (((blk_at (by simp)).alloc _).alloc _)
  have X4 : Hid (Blk ((((((w.alloc (.cells #[.int .i64 2, .int .i64 1, .int .i64 2, .int .i64 2] 36)).alloc (.cells #[.int .i64 3, .int .i64 5, .int .i64 0, .int .u64 0, .int .u64 5] 27)).alloc (.cells #[.int .i64 3, .int .i64 5, .int .i64 0, .int .u64 0, .int .u64 5] 27)).alloc (.cells #[.int .i64 3, .int .i64 5, .int .i64 0, .int .u64 0, .int .u64 5] 27)).alloc (.cells #[.slice (some ⟨w.heap.size + 1 + 1, 0, none⟩) 1 1, .slice (some ⟨w.heap.size + 1 + 1 + 1, 0, none⟩) 1 1] 51)).alloc (.cells #[.int .i64 1, .int .u32 0, .int .i64 0, .int .u32 0, .int .i64 0, .int .u32 0] 63)) (w.heap.size + 1 + 1 + 1 + 1) 51 #[.slice (some ⟨w.heap.size + 1 + 1, 0, none⟩) 1 1, .slice (some ⟨w.heap.size + 1 + 1 + 1, 0, none⟩) 1 1]) := Lib.hid ((blk_at (by simp)).alloc _)
  have X5 : Hid (Blk ((((((w.alloc (.cells #[.int .i64 2, .int .i64 1, .int .i64 2, .int .i64 2] 36)).alloc (.cells #[.int .i64 3, .int .i64 5, .int .i64 0, .int .u64 0, .int .u64 5] 27)).alloc (.cells #[.int .i64 3, .int .i64 5, .int .i64 0, .int .u64 0, .int .u64 5] 27)).alloc (.cells #[.int .i64 3, .int .i64 5, .int .i64 0, .int .u64 0, .int .u64 5] 27)).alloc (.cells #[.slice (some ⟨w.heap.size + 1 + 1, 0, none⟩) 1 1, .slice (some ⟨w.heap.size + 1 + 1 + 1, 0, none⟩) 1 1] 51)).alloc (.cells #[.int .i64 1, .int .u32 0, .int .i64 0, .int .u32 0, .int .i64 0, .int .u32 0] 63)) (w.heap.size + 1 + 1 + 1 + 1 + 1) 63 #[.int .i64 1, .int .u32 0, .int .i64 0, .int .u32 0, .int .i64 0, .int .u32 0]) := Lib.hid (blk_at (by simp))
  have W0 : Hid (Below w.heap.size w ((((((w.alloc (.cells #[.int .i64 2, .int .i64 1, .int .i64 2, .int .i64 2] 36)).alloc (.cells #[.int .i64 3, .int .i64 5, .int .i64 0, .int .u64 0, .int .u64 5] 27)).alloc (.cells #[.int .i64 3, .int .i64 5, .int .i64 0, .int .u64 0, .int .u64 5] 27)).alloc (.cells #[.int .i64 3, .int .i64 5, .int .i64 0, .int .u64 0, .int .u64 5] 27)).alloc (.cells #[.slice (some ⟨w.heap.size + 1 + 1, 0, none⟩) 1 1, .slice (some ⟨w.heap.size + 1 + 1 + 1, 0, none⟩) 1 1] 51)).alloc (.cells #[.int .i64 1, .int .u32 0, .int .i64 0, .int .u32 0, .int .i64 0, .int .u32 0] 63))) := Lib.hid ((((((Below.refl w.heap.size w).alloc (Nat.le_refl _) _).alloc (by simp) _).alloc (by simp; omega) _).alloc (by simp; omega) _).alloc (by simp; omega) _ |>.alloc (by simp; omega) _)
  go_enter Try.func27, Try.ntmps27
  go_wp2_with (go_at_call 28; go_must (refine (raw_5 _ _ _ _ _ X4.out X2.out X3.out X5.out).mono ?_); rintro e w1 ⟨r, gS, cS, gK, cK, rfl, hlS, hlK, hrh, hc1, hc2, hc3, hc4, hb⟩; go_must (have W1 := Lib.hid (W0.out.trans (hb.mono W0.out.size))); clear hb)
  go_ret
  exact ⟨rfl, W1.out.alloc W1.out.size _⟩
end Go.Proofs.Ytjgbgjkjnlaloaa.Drivec
