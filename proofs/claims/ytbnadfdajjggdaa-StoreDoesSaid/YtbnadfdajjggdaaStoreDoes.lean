/- For every words and every access, the program's Do comes to the words, and tells, what the document says; what it was handed stays (P2.2). No condition. -/
import Derived.Test.YtbnadfdajjggdaaAwake
import Derived.Test.YtbnadfdajjggdaaRefE
import Derived.Test.YtbnadfdajjggdaaRefG
import Derived.Test.YtbnadfdajjggdaaOpen
namespace Go.Proofs.Ytbnadfdajjggdaa.storeDoes
open Go.ChangeShapes Go.WideShapes Go.ChangeAt Go.RowKit Go.Proofs.Ytbnadfdajjggdaa.Memc Go.Proofs.Ytbnadfdajjggdaa.Storec Go.Proofs.Ytbnadfdajjggdaa.Refc Go.Proofs.Ytbnadfdajjggdaa.Lawc
set_option linter.unusedVariables false

theorem own : ownKnob Try.prog.godebug = none := by kernel_rfl
theorem laidOut : laidOutB Try.prog = true := by kernel_rfl

set_option maxHeartbeats 2000000 in
theorem walk_long (r : R) (m : M) (c : Acc) (w : World) (hr : Rm w w.heap.size r m) (hc : c.ok) (hf : ¬ Few m) :
    Calls Try.prog 3 #[.agg #[.int .u64 r.e, .int .u64 r.f, .slice r.L.A r.L.n r.L.c, .slice r.P.A r.P.n r.P.c, .int .u64 r.h, .int .u64 r.t, .slice r.K.A r.K.n r.K.c, .slice r.X.A r.X.n r.X.c, .slice r.S.A r.S.n r.S.c], .agg #[.int .i64 c.d, .int .i64 c.ar, .int .i64 c.at_, .int .u64 c.old, .int .u64 c.new]] w fun e w' => e = .returned (.bool true) ∧ Below w.heap.size w w' := by
  have HF := Lib.hid hf
  clear hf
  have HR := Lib.hid hr
  have HC := Lib.hid hc
  have x0 : Blk ((w.alloc (.cells #[.int .u64 r.e, .int .u64 r.f, .slice r.L.A r.L.n r.L.c, .slice r.P.A r.P.n r.P.c, .int .u64 r.h, .int .u64 r.t, .slice r.K.A r.K.n r.K.c, .slice r.X.A r.X.n r.X.c, .slice r.S.A r.S.n r.S.c] 25)).alloc (.cells #[.int .i64 c.d, .int .i64 c.ar, .int .i64 c.at_, .int .u64 c.old, .int .u64 c.new] 27)) w.heap.size 25 #[.int .u64 r.e, .int .u64 r.f, .slice r.L.A r.L.n r.L.c, .slice r.P.A r.P.n r.P.c, .int .u64 r.h, .int .u64 r.t, .slice r.K.A r.K.n r.K.c, .slice r.X.A r.X.n r.X.c, .slice r.S.A r.S.n r.S.c] := (Blk.new _ _ _).alloc _
  have y0 : Blk ((w.alloc (.cells #[.int .u64 r.e, .int .u64 r.f, .slice r.L.A r.L.n r.L.c, .slice r.P.A r.P.n r.P.c, .int .u64 r.h, .int .u64 r.t, .slice r.K.A r.K.n r.K.c, .slice r.X.A r.X.n r.X.c, .slice r.S.A r.S.n r.S.c] 25)).alloc (.cells #[.int .i64 c.d, .int .i64 c.ar, .int .i64 c.at_, .int .u64 c.old, .int .u64 c.new] 27)) (w.heap.size + 1) 27 #[.int .i64 c.d, .int .i64 c.ar, .int .i64 c.at_, .int .u64 c.old, .int .u64 c.new] := blk_at (by simp)
  have X0 := Lib.hid x0
  have Y0 := Lib.hid y0
  have W0 : Hid (Below w.heap.size w ((w.alloc (.cells #[.int .u64 r.e, .int .u64 r.f, .slice r.L.A r.L.n r.L.c, .slice r.P.A r.P.n r.P.c, .int .u64 r.h, .int .u64 r.t, .slice r.K.A r.K.n r.K.c, .slice r.X.A r.X.n r.X.c, .slice r.S.A r.S.n r.S.c] 25)).alloc (.cells #[.int .i64 c.d, .int .i64 c.ar, .int .i64 c.at_, .int .u64 c.old, .int .u64 c.new] 27))) := Lib.hid (((Below.refl _ _).alloc (Nat.le_refl _) _).alloc (by simp) _)
  clear x0 y0 hr hc
  go_enter Try.func3, Try.ntmps3
  go_wp2_with (first | (go_at_call 6; refine (awake_c _).mono ?_; rintro e w1 ⟨rfl, hb1⟩; have X1 := Lib.hid (X0.out.below hb1 X0.out.lt); have Y1 := Lib.hid (Y0.out.below hb1 Y0.out.lt); have W1 := Lib.hid (W0.out.trans (hb1.mono W0.out.size)); have hx1 := X1.out.cell; have hy1 := Y1.out.cell; have hzx := X1.out.lt; have hzy := Y1.out.lt; clear hb1) | (go_at_call 7; refine (short_no _ w.heap.size r m (HR.out.below W1.out) W1.out.size HF.out).mono ?_; rintro e w2 ⟨rfl, hb2⟩; have X2 := Lib.hid (X1.out.below hb2 X1.out.lt); have Y2 := Lib.hid (Y1.out.below hb2 Y1.out.lt); have W2 := Lib.hid (W1.out.trans (hb2.mono W1.out.size)); have hx2 := X2.out.cell; have hy2 := Y2.out.cell; clear hb2 hx1 hy1))
  go_ret
  exact ⟨rfl, W2.out⟩

set_option maxHeartbeats 4000000 in
theorem walk_few (r : R) (m : M) (c : Acc) (w : World) (hr : Rm w w.heap.size r m) (hc : c.ok) (hf : Few m) :
    Calls Try.prog 3 #[.agg #[.int .u64 r.e, .int .u64 r.f, .slice r.L.A r.L.n r.L.c, .slice r.P.A r.P.n r.P.c, .int .u64 r.h, .int .u64 r.t, .slice r.K.A r.K.n r.K.c, .slice r.X.A r.X.n r.X.c, .slice r.S.A r.S.n r.S.c], .agg #[.int .i64 c.d, .int .i64 c.ar, .int .i64 c.at_, .int .u64 c.old, .int .u64 c.new]] w fun e w' => e = .returned (.bool true) ∧ Below w.heap.size w w' := by
  have HF := Lib.hid hf
  obtain ⟨x, hx⟩ : ∃ x, x = (acc m c).2.1 := ⟨_, rfl⟩
  obtain ⟨b, hb⟩ : ∃ b, b = (acc m c).2.2 := ⟨_, rfl⟩
  have EX := Lib.hid hx.symm
  have EB := Lib.hid hb.symm
  have qx : (x == x) = true := by simp
  have qb : (b == b) = true := by simp
  clear hf hx hb
  have HR := Lib.hid hr
  have HC := Lib.hid hc
  have x0 : Blk ((w.alloc (.cells #[.int .u64 r.e, .int .u64 r.f, .slice r.L.A r.L.n r.L.c, .slice r.P.A r.P.n r.P.c, .int .u64 r.h, .int .u64 r.t, .slice r.K.A r.K.n r.K.c, .slice r.X.A r.X.n r.X.c, .slice r.S.A r.S.n r.S.c] 25)).alloc (.cells #[.int .i64 c.d, .int .i64 c.ar, .int .i64 c.at_, .int .u64 c.old, .int .u64 c.new] 27)) w.heap.size 25 #[.int .u64 r.e, .int .u64 r.f, .slice r.L.A r.L.n r.L.c, .slice r.P.A r.P.n r.P.c, .int .u64 r.h, .int .u64 r.t, .slice r.K.A r.K.n r.K.c, .slice r.X.A r.X.n r.X.c, .slice r.S.A r.S.n r.S.c] := (Blk.new _ _ _).alloc _
  have y0 : Blk ((w.alloc (.cells #[.int .u64 r.e, .int .u64 r.f, .slice r.L.A r.L.n r.L.c, .slice r.P.A r.P.n r.P.c, .int .u64 r.h, .int .u64 r.t, .slice r.K.A r.K.n r.K.c, .slice r.X.A r.X.n r.X.c, .slice r.S.A r.S.n r.S.c] 25)).alloc (.cells #[.int .i64 c.d, .int .i64 c.ar, .int .i64 c.at_, .int .u64 c.old, .int .u64 c.new] 27)) (w.heap.size + 1) 27 #[.int .i64 c.d, .int .i64 c.ar, .int .i64 c.at_, .int .u64 c.old, .int .u64 c.new] := blk_at (by simp)
  have X0 := Lib.hid x0
  have Y0 := Lib.hid y0
  have W0 : Hid (Below w.heap.size w ((w.alloc (.cells #[.int .u64 r.e, .int .u64 r.f, .slice r.L.A r.L.n r.L.c, .slice r.P.A r.P.n r.P.c, .int .u64 r.h, .int .u64 r.t, .slice r.K.A r.K.n r.K.c, .slice r.X.A r.X.n r.X.c, .slice r.S.A r.S.n r.S.c] 25)).alloc (.cells #[.int .i64 c.d, .int .i64 c.ar, .int .i64 c.at_, .int .u64 c.old, .int .u64 c.new] 27))) := Lib.hid (((Below.refl _ _).alloc (Nat.le_refl _) _).alloc (by simp) _)
  clear x0 y0 hr hc
  go_enter Try.func3, Try.ntmps3
  go_wp2_with (first | (go_at_call 6; refine (awake_c _).mono ?_; rintro e w1 ⟨rfl, hb1⟩; have X1 := Lib.hid (X0.out.below hb1 X0.out.lt); have Y1 := Lib.hid (Y0.out.below hb1 Y0.out.lt); have W1 := Lib.hid (W0.out.trans (hb1.mono W0.out.size)); have hx1 := X1.out.cell; have hy1 := Y1.out.cell; have hzx := X1.out.lt; have hzy := Y1.out.lt; clear hb1) | (go_at_call 7; refine (short_yes _ w.heap.size r m (HR.out.below W1.out) W1.out.size HF.out).mono ?_; rintro e w2 ⟨rfl, hb2⟩; have X2 := Lib.hid (X1.out.below hb2 X1.out.lt); have Y2 := Lib.hid (Y1.out.below hb2 Y1.out.lt); have W2 := Lib.hid (W1.out.trans (hb2.mono W1.out.size)); have hx2 := X2.out.cell; have hy2 := Y2.out.cell; clear hb2 hx1 hy1) | (go_at_call 8; refine (copy_c _ w.heap.size r m (HR.out.below W2.out) W2.out.size HF.out).mono ?_; rintro e w3 ⟨r3, rfl, hr3, hb3⟩; have R3 := Lib.hid hr3; have X3 := Lib.hid (X2.out.below hb3 X2.out.lt); have Y3 := Lib.hid (Y2.out.below hb3 Y2.out.lt); have W3 := Lib.hid (W2.out.trans (hb3.mono W2.out.size)); have hx3 := X3.out.cell; have hy3 := Y3.out.cell; have hzx3 := X3.out.lt; have hzy3 := Y3.out.lt; clear hb3 hr3 hx2 hy2) | (go_at_call 9; (with_reducible refine (do_c _ w3.heap.size r3 m c ?_ ?_ (few_area HF.out) HC.out).mono ?_); (exact R3.out.alloc (Nat.le_refl _) _); (simp); rintro e w4 ⟨r4, he, hr4, hb4⟩; rw [EX.out, EB.out] at he; subst he; have R4 := Lib.hid hr4; go_must (have Z3 : Hid (Blk w4 w3.heap.size 25 #[.int .u64 r3.e, .int .u64 r3.f, .slice r3.L.A r3.L.n r3.L.c, .slice r3.P.A r3.P.n r3.P.c, .int .u64 r3.h, .int .u64 r3.t, .slice r3.K.A r3.K.n r3.K.c, .slice r3.X.A r3.X.n r3.X.c, .slice r3.S.A r3.S.n r3.S.c]) := Lib.hid ((Blk.new w3 25 #[.int .u64 r3.e, .int .u64 r3.f, .slice r3.L.A r3.L.n r3.L.c, .slice r3.P.A r3.P.n r3.P.c, .int .u64 r3.h, .int .u64 r3.t, .slice r3.K.A r3.K.n r3.K.c, .slice r3.X.A r3.X.n r3.X.c, .slice r3.S.A r3.S.n r3.S.c]).below hb4 (by simp)); have X4 := Lib.hid ((X3.out.alloc (.cells #[.int .u64 r3.e, .int .u64 r3.f, .slice r3.L.A r3.L.n r3.L.c, .slice r3.P.A r3.P.n r3.P.c, .int .u64 r3.h, .int .u64 r3.t, .slice r3.K.A r3.K.n r3.K.c, .slice r3.X.A r3.X.n r3.X.c, .slice r3.S.A r3.S.n r3.S.c] 25)).below hb4 (X3.out.alloc (.cells #[.int .u64 r3.e, .int .u64 r3.f, .slice r3.L.A r3.L.n r3.L.c, .slice r3.P.A r3.P.n r3.P.c, .int .u64 r3.h, .int .u64 r3.t, .slice r3.K.A r3.K.n r3.K.c, .slice r3.X.A r3.X.n r3.X.c, .slice r3.S.A r3.S.n r3.S.c] 25)).lt); have Y4 := Lib.hid ((Y3.out.alloc (.cells #[.int .u64 r3.e, .int .u64 r3.f, .slice r3.L.A r3.L.n r3.L.c, .slice r3.P.A r3.P.n r3.P.c, .int .u64 r3.h, .int .u64 r3.t, .slice r3.K.A r3.K.n r3.K.c, .slice r3.X.A r3.X.n r3.X.c, .slice r3.S.A r3.S.n r3.S.c] 25)).below hb4 (Y3.out.alloc (.cells #[.int .u64 r3.e, .int .u64 r3.f, .slice r3.L.A r3.L.n r3.L.c, .slice r3.P.A r3.P.n r3.P.c, .int .u64 r3.h, .int .u64 r3.t, .slice r3.K.A r3.K.n r3.K.c, .slice r3.X.A r3.X.n r3.X.c, .slice r3.S.A r3.S.n r3.S.c] 25)).lt); have W4 := Lib.hid ((W3.out.alloc W3.out.size (.cells #[.int .u64 r3.e, .int .u64 r3.f, .slice r3.L.A r3.L.n r3.L.c, .slice r3.P.A r3.P.n r3.P.c, .int .u64 r3.h, .int .u64 r3.t, .slice r3.K.A r3.K.n r3.K.c, .slice r3.X.A r3.X.n r3.X.c, .slice r3.S.A r3.S.n r3.S.c] 25)).trans (hb4.mono (Nat.le_trans W3.out.size (by simp)))); have S3 := Lib.hid ((R3.out.alloc (Nat.le_refl _) (.cells #[.int .u64 r3.e, .int .u64 r3.f, .slice r3.L.A r3.L.n r3.L.c, .slice r3.P.A r3.P.n r3.P.c, .int .u64 r3.h, .int .u64 r3.t, .slice r3.K.A r3.K.n r3.K.c, .slice r3.X.A r3.X.n r3.X.c, .slice r3.S.A r3.S.n r3.S.c] 25)).below (hb4.mono (by simp)))); have hx4 := X4.out.cell; have hy4 := Y4.out.cell; have hzx4 := X4.out.lt; have hzy4 := Y4.out.lt; have hz34 := Z3.out.lt; clear hb4 hr4 hx3 hy3) | (go_at_call 10; (with_reducible refine (refdo_c _ w.heap.size r m c ?_ ?_ HF.out HC.out).mono ?_); (exact HR.out.below (W4.out.alloc W4.out.size _)); (exact Nat.le_trans W4.out.size (by simp)); rintro e w5 ⟨r5, he, hr5, hb5⟩; rw [EX.out, EB.out] at he; subst he; have R5 := Lib.hid hr5; go_must (have X5 := Lib.hid ((X4.out.alloc (.cells #[.int .u64 r4.e, .int .u64 r4.f, .slice r4.L.A r4.L.n r4.L.c, .slice r4.P.A r4.P.n r4.P.c, .int .u64 r4.h, .int .u64 r4.t, .slice r4.K.A r4.K.n r4.K.c, .slice r4.X.A r4.X.n r4.X.c, .slice r4.S.A r4.S.n r4.S.c] 25)).below hb5 (X4.out.alloc (.cells #[.int .u64 r4.e, .int .u64 r4.f, .slice r4.L.A r4.L.n r4.L.c, .slice r4.P.A r4.P.n r4.P.c, .int .u64 r4.h, .int .u64 r4.t, .slice r4.K.A r4.K.n r4.K.c, .slice r4.X.A r4.X.n r4.X.c, .slice r4.S.A r4.S.n r4.S.c] 25)).lt); have Z35 := Lib.hid ((Z3.out.alloc (.cells #[.int .u64 r4.e, .int .u64 r4.f, .slice r4.L.A r4.L.n r4.L.c, .slice r4.P.A r4.P.n r4.P.c, .int .u64 r4.h, .int .u64 r4.t, .slice r4.K.A r4.K.n r4.K.c, .slice r4.X.A r4.X.n r4.X.c, .slice r4.S.A r4.S.n r4.S.c] 25)).below hb5 (Z3.out.alloc (.cells #[.int .u64 r4.e, .int .u64 r4.f, .slice r4.L.A r4.L.n r4.L.c, .slice r4.P.A r4.P.n r4.P.c, .int .u64 r4.h, .int .u64 r4.t, .slice r4.K.A r4.K.n r4.K.c, .slice r4.X.A r4.X.n r4.X.c, .slice r4.S.A r4.S.n r4.S.c] 25)).lt); have Z4 : Hid (Blk w5 w4.heap.size 25 #[.int .u64 r4.e, .int .u64 r4.f, .slice r4.L.A r4.L.n r4.L.c, .slice r4.P.A r4.P.n r4.P.c, .int .u64 r4.h, .int .u64 r4.t, .slice r4.K.A r4.K.n r4.K.c, .slice r4.X.A r4.X.n r4.X.c, .slice r4.S.A r4.S.n r4.S.c]) := Lib.hid ((Blk.new w4 25 #[.int .u64 r4.e, .int .u64 r4.f, .slice r4.L.A r4.L.n r4.L.c, .slice r4.P.A r4.P.n r4.P.c, .int .u64 r4.h, .int .u64 r4.t, .slice r4.K.A r4.K.n r4.K.c, .slice r4.X.A r4.X.n r4.X.c, .slice r4.S.A r4.S.n r4.S.c]).below hb5 (by simp)); have W5 := Lib.hid ((W4.out.alloc W4.out.size (.cells #[.int .u64 r4.e, .int .u64 r4.f, .slice r4.L.A r4.L.n r4.L.c, .slice r4.P.A r4.P.n r4.P.c, .int .u64 r4.h, .int .u64 r4.t, .slice r4.K.A r4.K.n r4.K.c, .slice r4.X.A r4.X.n r4.X.c, .slice r4.S.A r4.S.n r4.S.c] 25)).trans (hb5.mono (Nat.le_trans W4.out.size (by simp)))); have S35 := Lib.hid ((S3.out.alloc (Nat.le_of_lt hz34) (.cells #[.int .u64 r4.e, .int .u64 r4.f, .slice r4.L.A r4.L.n r4.L.c, .slice r4.P.A r4.P.n r4.P.c, .int .u64 r4.h, .int .u64 r4.t, .slice r4.K.A r4.K.n r4.K.c, .slice r4.X.A r4.X.n r4.X.c, .slice r4.S.A r4.S.n r4.S.c] 25)).below (hb5.mono (by simp; omega))); have S4 := Lib.hid ((R4.out.alloc (Nat.le_refl _) (.cells #[.int .u64 r4.e, .int .u64 r4.f, .slice r4.L.A r4.L.n r4.L.c, .slice r4.P.A r4.P.n r4.P.c, .int .u64 r4.h, .int .u64 r4.t, .slice r4.K.A r4.K.n r4.K.c, .slice r4.X.A r4.X.n r4.X.c, .slice r4.S.A r4.S.n r4.S.c] 25)).below (hb5.mono (by simp)))); have hz4 := Z4.out.cell; have hzz4 := Z4.out.lt; clear hb5 hr5 hx4 hy4) | (go_at_call 11; (with_reducible refine (same_yes _ w4.heap.size w5.heap.size r4 r5 (acc m c).1 ?_ ?_ ?_ ?_).mono ?_); (exact S4.out.alloc (Nat.le_of_lt hzz4) _); (simp; omega); (exact R5.out.alloc (Nat.le_refl _) _); (simp); rintro e w6 ⟨rfl, hb6⟩; go_must (have X6 := Lib.hid ((X5.out.alloc (.cells #[.int .u64 r5.e, .int .u64 r5.f, .slice r5.L.A r5.L.n r5.L.c, .slice r5.P.A r5.P.n r5.P.c, .int .u64 r5.h, .int .u64 r5.t, .slice r5.K.A r5.K.n r5.K.c, .slice r5.X.A r5.X.n r5.X.c, .slice r5.S.A r5.S.n r5.S.c] 25)).below hb6 (X5.out.alloc (.cells #[.int .u64 r5.e, .int .u64 r5.f, .slice r5.L.A r5.L.n r5.L.c, .slice r5.P.A r5.P.n r5.P.c, .int .u64 r5.h, .int .u64 r5.t, .slice r5.K.A r5.K.n r5.K.c, .slice r5.X.A r5.X.n r5.X.c, .slice r5.S.A r5.S.n r5.S.c] 25)).lt); have Z36 := Lib.hid ((Z35.out.alloc (.cells #[.int .u64 r5.e, .int .u64 r5.f, .slice r5.L.A r5.L.n r5.L.c, .slice r5.P.A r5.P.n r5.P.c, .int .u64 r5.h, .int .u64 r5.t, .slice r5.K.A r5.K.n r5.K.c, .slice r5.X.A r5.X.n r5.X.c, .slice r5.S.A r5.S.n r5.S.c] 25)).below hb6 (Z35.out.alloc (.cells #[.int .u64 r5.e, .int .u64 r5.f, .slice r5.L.A r5.L.n r5.L.c, .slice r5.P.A r5.P.n r5.P.c, .int .u64 r5.h, .int .u64 r5.t, .slice r5.K.A r5.K.n r5.K.c, .slice r5.X.A r5.X.n r5.X.c, .slice r5.S.A r5.S.n r5.S.c] 25)).lt); have W6 := Lib.hid ((W5.out.alloc W5.out.size (.cells #[.int .u64 r5.e, .int .u64 r5.f, .slice r5.L.A r5.L.n r5.L.c, .slice r5.P.A r5.P.n r5.P.c, .int .u64 r5.h, .int .u64 r5.t, .slice r5.K.A r5.K.n r5.K.c, .slice r5.X.A r5.X.n r5.X.c, .slice r5.S.A r5.S.n r5.S.c] 25)).trans (hb6.mono (Nat.le_trans W5.out.size (by simp)))); have S36 := Lib.hid ((S35.out.alloc (by omega) (.cells #[.int .u64 r5.e, .int .u64 r5.f, .slice r5.L.A r5.L.n r5.L.c, .slice r5.P.A r5.P.n r5.P.c, .int .u64 r5.h, .int .u64 r5.t, .slice r5.K.A r5.K.n r5.K.c, .slice r5.X.A r5.X.n r5.X.c, .slice r5.S.A r5.S.n r5.S.c] 25)).below (hb6.mono (by simp; omega))); have hzs := hb6.size); have hx6 := X6.out.cell; have hz6 := Z36.out.cell; have hzz6 := Z36.out.lt; clear hb6 hz4) | (go_at_call 11; (with_reducible refine (same_yes _ w3.heap.size w.heap.size r3 r m ?_ ?_ ?_ ?_).mono ?_); (exact S36.out); (omega); (exact HR.out.below W6.out); (exact W6.out.size); rintro e w7 ⟨rfl, hb7⟩; have W7 := Lib.hid (W6.out.trans (hb7.mono W6.out.size)); clear hb7))
  go_ret
  exact ⟨rfl, W7.out⟩

theorem walk (r : R) (m : M) (c : Acc) (w : World) (hr : Rm w w.heap.size r m) (hc : c.ok) :
    Calls Try.prog 3 #[.agg #[.int .u64 r.e, .int .u64 r.f, .slice r.L.A r.L.n r.L.c, .slice r.P.A r.P.n r.P.c, .int .u64 r.h, .int .u64 r.t, .slice r.K.A r.K.n r.K.c, .slice r.X.A r.X.n r.X.c, .slice r.S.A r.S.n r.S.c], .agg #[.int .i64 c.d, .int .i64 c.ar, .int .i64 c.at_, .int .u64 c.old, .int .u64 c.new]] w fun e w' => e = .returned (.bool true) ∧ Below w.heap.size w w' := by
  by_cases hf : Few m
  · exact walk_few r m c w hr hc hf
  · exact walk_long r m c w hr hc hf

/-! ### THE ROW's STEP -/
set_option maxRecDepth 100000 in
theorem lifted (os : Os) (started : os.Started) (H : Type) (enc : TypeId × Value → H) :
    ReturnsInHanded {} Try.checked os 3 .any (Rows.storeDoesSpec.pre6 enc Try.prog Try.f3 Rows.storeDoesRow.domain false) (Rows.storeDoesSpec.post enc Try.prog Try.f3 false true false false) := by
  refine returnsInHanded_of_change (C := Try.checked) own started (by kernel_rfl) Try.func3
    (ChangeSpec.witness6 (enc := enc) (C := Try.checked) false ⟨#[], #[.agg #[.int .u64 0, .int .u64 0, .slice none 0 0, .slice none 0 0, .int .u64 0, .int .u64 0, .slice none 0 0, .slice none 0 0, .slice none 0 0], .agg #[.int .i64 0, .int .i64 0, .int .i64 0, .int .u64 0, .int .u64 0]], []⟩ 8 (by kernel_rfl) (by kernel_rfl) (by kernel_rfl) (by kernel_rfl)) ?_
  intro W base args ds gs before hval0 hW hcnd _
  have hval : ∀ (j : Nat) t v, Try.f3.params[j]? = some t → args[j]? = some v → Value.okWide Try.prog W .any base t v := hval0
  have hW' := hW
  obtain ⟨p, q, hA0, hV, rfl, hfz, hnd⟩ := hW
  have hA : DataW.TrodAll enc Try.prog W 0 (fun _ => true) true Try.f3.params.toList args.toList ds p := hA0
  rw [Try.params3] at hA hval
  obtain ⟨v0, vs0, d0, ds0, p0, q0, hargs, rfl, rfl, h0, r0⟩ := trodAll_cons hA
  obtain ⟨v1, vs1, d1, ds1, p1, q1, rfl, rfl, rfl, h1, r1⟩ := trodAll_cons r0
  obtain ⟨rfl, rfl, rfl⟩ := trodAll_nil r1
  obtain rfl : args = #[v0, v1] := by cases args; simp_all
  obtain ⟨rfl, rfl⟩ := trodVars_none hV
  have k0 := h0
  have lt0 : ∀ x ∈ p0, x.block < W.heap.size := by obtain ⟨m, hm⟩ := k0; exact DataW.trod_lt m _ _ _ hm
  have k1 := h1
  have lt1 : ∀ x ∈ p1, x.block < W.heap.size := by obtain ⟨m, hm⟩ := k1; exact DataW.trod_lt m _ _ _ hm
  obtain ⟨r, m, rfl, hr⟩ := open_mem (hval 0 25 v0 rfl rfl) h0
  obtain ⟨c, rfl, hc⟩ := open_acc (hval 1 27 v1 rfl rfl) h1
  clear hA0 hval0
  refine (walk r m c W hr hc).mono fun e W' ⟨he, bel⟩ => ?_
  subst he
  exact ⟨_, rfl, _, _, _, [], _, [], hW', trodAll_mk1 (shut_bool Try.underlying4 _), (trodAll_cons_mk (Below.trod laidOut (by kernel_rfl) (of_decide_eq_true (by kernel_rfl)) k0 bel lt0) (trodAll_cons_mk (Below.trod laidOut (by kernel_rfl) (of_decide_eq_true (by kernel_rfl)) k1 bel lt1) trodAll_mk0)), rfl, bel.frame _, fun h => by cases h⟩

theorem over : Rows.storeDoesRow.holds Try.pinned (OpenSpec.ofChange Rows.storeDoesSpec) :=
  OpenClaim.holds_of_wide 3 Try.f3 rfl rfl rfl rfl rfl rfl rfl ⟨rfl, rfl, rfl, rfl, rfl⟩ rfl rfl rfl rfl rfl (by kernel_rfl) Try.func3 (by kernel_rfl)
    (of_decide_eq_true (by kernel_rfl)) (by unfold Func.isWrapper; first | (rw [if_pos (by decide +kernel)]; kernel_rfl) | (rw [if_neg (by decide +kernel)]; exact ⟨rfl, rfl⟩))
    (fun os started H enc _ => lifted os started H enc)

/-- ████ THE STATEMENT ████ -/
theorem proved : Rows.StoreDoesSaid :=
  over
#print axioms proved
end Go.Proofs.Ytbnadfdajjggdaa.storeDoes
