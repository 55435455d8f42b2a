/- Whether the program is awake: the answers that the document fixes are given. -/
import Derived.Test.YtjgbgjkjnlaloaaStoreD
import Derived.Test.YtjgbgjkjnlaloaaNewB
namespace Go.Proofs.Ytjgbgjkjnlaloaa.Lawc
open Go.RowKit Go.Proofs.Ytjgbgjkjnlaloaa.Memc Go.Proofs.Ytjgbgjkjnlaloaa.Storec Go.Proofs.Ytjgbgjkjnlaloaa.Newc
set_option linter.unusedVariables false
set_option maxRecDepth 100000

abbrev m0 : Memc.M := newM 1 1 1 2
theorem m0_few (a : Int) : (m0.area a).length ≤ 1000000 := by
  by_cases ho : a < 1 ∨ 9 < a
  · rw [area_no _ _ ho]; exact Nat.zero_le _
  · rcases nine ho with rfl | rfl | rfl | rfl | rfl | rfl | rfl | rfl | rfl <;> (show _ ≤ 1000000; decide)
def c1 : Acc := ⟨3, 5, 0, 1, 9⟩
def c2 : Acc := ⟨3, 5, 0, 2, 9⟩
theorem acc1 : (acc m0 c1).2.1 = 1 ∧ (acc m0 c1).2.2 = true ∧ (acc m0 c1).1.h = 9 := by decide
theorem acc2 : (acc m0 c2).2.1 = 1 ∧ (acc m0 c2).2.2 = false := by decide
theorem c1_ok : c1.ok := by unfold Acc.ok c1; simp only; omega
theorem c2_ok : c2.ok := by unfold Acc.ok c2; simp only; omega

theorem new_0 (w : World) : Calls Try.prog 20 #[.agg #[.int .i64 1, .int .i64 1, .int .i64 1, .int .i64 2]] w (Newly w m0 0) :=
  new_yes w 1 1 1 2 (by omega) (by omega) (by omega) (by omega) (by omega) (by omega) (by omega) (by omega)

theorem do_1 (w : World) (r : R) (h : Rm w w.heap.size r m0) : Calls Try.prog 17 #[.agg #[.int .u64 r.e, .int .u64 r.f, .slice r.L.A r.L.n r.L.c, .slice r.P.A r.P.n r.P.c, .int .u64 r.h, .int .u64 r.t, .slice r.K.A r.K.n r.K.c, .slice r.X.A r.X.n r.X.c, .slice r.S.A r.S.n r.S.c], .agg #[.int .i64 3, .int .i64 5, .int .i64 0, .int .u64 1, .int .u64 9]] w
    (fun e w' => ∃ r' : R, e = .returned (.tuple #[.agg #[.int .u64 r'.e, .int .u64 r'.f, .slice r'.L.A r'.L.n r'.L.c, .slice r'.P.A r'.P.n r'.P.c, .int .u64 r'.h, .int .u64 r'.t, .slice r'.K.A r'.K.n r'.K.c, .slice r'.X.A r'.X.n r'.X.c, .slice r'.S.A r'.S.n r'.S.c], .int .u64 1, .bool true]) ∧ r'.h = 9 ∧ Below w.heap.size w w') :=
  (do_c w w.heap.size r m0 c1 h (Nat.le_refl _) m0_few c1_ok).mono fun e w' ⟨r', he, hr, hb⟩ => by
    obtain ⟨h1, h2, h3⟩ := acc1
    rw [h1, h2] at he
    exact ⟨r', he, hr.2.2.1.trans h3, hb⟩
theorem do_2 (w : World) (r : R) (h : Rm w w.heap.size r m0) : Calls Try.prog 17 #[.agg #[.int .u64 r.e, .int .u64 r.f, .slice r.L.A r.L.n r.L.c, .slice r.P.A r.P.n r.P.c, .int .u64 r.h, .int .u64 r.t, .slice r.K.A r.K.n r.K.c, .slice r.X.A r.X.n r.X.c, .slice r.S.A r.S.n r.S.c], .agg #[.int .i64 3, .int .i64 5, .int .i64 0, .int .u64 2, .int .u64 9]] w
    (fun e w' => ∃ r' : R, e = .returned (.tuple #[.agg #[.int .u64 r'.e, .int .u64 r'.f, .slice r'.L.A r'.L.n r'.L.c, .slice r'.P.A r'.P.n r'.P.c, .int .u64 r'.h, .int .u64 r'.t, .slice r'.K.A r'.K.n r'.K.c, .slice r'.X.A r'.X.n r'.X.c, .slice r'.S.A r'.S.n r'.S.c], .int .u64 1, .bool false]) ∧ Below w.heap.size w w') :=
  (do_c w w.heap.size r m0 c2 h (Nat.le_refl _) m0_few c2_ok).mono fun e w' ⟨r', he, hr, hb⟩ => by
    obtain ⟨h1, h2⟩ := acc2
    rw [h1, h2] at he
    exact ⟨r', he, hb⟩

set_option maxHeartbeats 4000000 in
theorem awake_c (w : World) : Calls Try.prog 14 #[] w fun e w' => e = .returned (.bool true) ∧ Below w.heap.size w w' := by
  have b0 : Below w.heap.size w (w.alloc (.cells #[.int .i64 1, .int .i64 1, .int .i64 1, .int .i64 2] 36)) := (Below.refl _ _).alloc (Nat.le_refl _) _
  have HB0 := Lib.hid b0
  clear b0
  go_enter Try.func14, Try.ntmps14
  go_wp2_with (first | (go_at_call 20; refine (new_0 _).mono ?_; rintro e w1 ⟨r1, rfl, ⟨he1, hf1, hh1, ht1⟩, hm1, h51, hb1⟩; go_must (have q1 : (r1.h == 1) = true := (by rw [hh1]; rfl); have q2 : (r1.f == 2) = true := (by rw [hf1]; rfl)); go_must (have R1 := Lib.hid (h51.rm ⟨he1, hf1, hh1, ht1⟩ hm1)); have B1 := Lib.hid (HB0.out.trans (hb1.mono HB0.out.size)); have K1 : Hid (Blk (w1.alloc (.cells #[.int .u64 r1.e, .int .u64 r1.f, .slice r1.L.A r1.L.n r1.L.c, .slice r1.P.A r1.P.n r1.P.c, .int .u64 r1.h, .int .u64 r1.t, .slice r1.K.A r1.K.n r1.K.c, .slice r1.X.A r1.X.n r1.X.c, .slice r1.S.A r1.S.n r1.S.c] 25)) w1.heap.size 25 #[.int .u64 r1.e, .int .u64 r1.f, .slice r1.L.A r1.L.n r1.L.c, .slice r1.P.A r1.P.n r1.P.c, .int .u64 r1.h, .int .u64 r1.t, .slice r1.K.A r1.K.n r1.K.c, .slice r1.X.A r1.X.n r1.X.c, .slice r1.S.A r1.S.n r1.S.c]) := Lib.hid (Blk.new _ _ _); clear h51 hb1 hf1 hh1 he1 ht1 hm1) | (go_at_call 17; (with_reducible refine (do_1 _ r1 ?_).mono ?_); (exact (R1.out.alloc (Nat.le_refl _) _).more (by simp)); rintro e w2 ⟨r2, rfl, hh2, hb2⟩; go_must (have q3 : (r2.h == 9) = true := (by rw [hh2]; rfl)); go_must (have K2 := Lib.hid ((K1.out.below hb2 K1.out.lt).alloc (.cells #[.int .u64 r2.e, .int .u64 r2.f, .slice r2.L.A r2.L.n r2.L.c, .slice r2.P.A r2.P.n r2.P.c, .int .u64 r2.h, .int .u64 r2.t, .slice r2.K.A r2.K.n r2.K.c, .slice r2.X.A r2.X.n r2.X.c, .slice r2.S.A r2.S.n r2.S.c] 25)); have N2 : Hid (Blk (w2.alloc (.cells #[.int .u64 r2.e, .int .u64 r2.f, .slice r2.L.A r2.L.n r2.L.c, .slice r2.P.A r2.P.n r2.P.c, .int .u64 r2.h, .int .u64 r2.t, .slice r2.K.A r2.K.n r2.K.c, .slice r2.X.A r2.X.n r2.X.c, .slice r2.S.A r2.S.n r2.S.c] 25)) w2.heap.size 25 #[.int .u64 r2.e, .int .u64 r2.f, .slice r2.L.A r2.L.n r2.L.c, .slice r2.P.A r2.P.n r2.P.c, .int .u64 r2.h, .int .u64 r2.t, .slice r2.K.A r2.K.n r2.K.c, .slice r2.X.A r2.X.n r2.X.c, .slice r2.S.A r2.S.n r2.S.c]) := Lib.hid (Blk.new _ _ _); have R2 := Lib.hid (((R1.out.alloc (Nat.le_refl _) (.cells #[.int .u64 r1.e, .int .u64 r1.f, .slice r1.L.A r1.L.n r1.L.c, .slice r1.P.A r1.P.n r1.P.c, .int .u64 r1.h, .int .u64 r1.t, .slice r1.K.A r1.K.n r1.K.c, .slice r1.X.A r1.X.n r1.X.c, .slice r1.S.A r1.S.n r1.S.c] 25)).below (hb2.mono (by simp))).alloc (Nat.le_trans (by simp) hb2.size) (.cells #[.int .u64 r2.e, .int .u64 r2.f, .slice r2.L.A r2.L.n r2.L.c, .slice r2.P.A r2.P.n r2.P.c, .int .u64 r2.h, .int .u64 r2.t, .slice r2.K.A r2.K.n r2.K.c, .slice r2.X.A r2.X.n r2.X.c, .slice r2.S.A r2.S.n r2.S.c] 25))); go_must (have hz12 : w1.heap.size < w2.heap.size := (by have := hb2.size; simp at this; omega)); have hcA := (K1.out.below hb2 K1.out.lt).cell; have B2 := Lib.hid ((B1.out.alloc B1.out.size (.cells #[.int .u64 r1.e, .int .u64 r1.f, .slice r1.L.A r1.L.n r1.L.c, .slice r1.P.A r1.P.n r1.P.c, .int .u64 r1.h, .int .u64 r1.t, .slice r1.K.A r1.K.n r1.K.c, .slice r1.X.A r1.X.n r1.X.c, .slice r1.S.A r1.S.n r1.S.c] 25)).trans (hb2.mono (Nat.le_trans B1.out.size (by simp)))); clear hb2 hh2) | (go_at_call 17; (with_reducible refine (do_2 _ r1 ?_).mono ?_); (exact R2.out.more (by simp; omega)); rintro e w3 ⟨r3, rfl, hb3⟩; go_must (have hcB := (K2.out.below hb3 K2.out.lt).cell; have hcC := (N2.out.below hb3 N2.out.lt).cell; have hz23 : w2.heap.size < w3.heap.size := (by have := hb3.size; simp at this; omega); have hz13 : w1.heap.size < w3.heap.size := Nat.lt_trans hz12 hz23); have B3 := Lib.hid ((B2.out.alloc B2.out.size (.cells #[.int .u64 r2.e, .int .u64 r2.f, .slice r2.L.A r2.L.n r2.L.c, .slice r2.P.A r2.P.n r2.P.c, .int .u64 r2.h, .int .u64 r2.t, .slice r2.K.A r2.K.n r2.K.c, .slice r2.X.A r2.X.n r2.X.c, .slice r2.S.A r2.S.n r2.S.c] 25)).trans (hb3.mono (Nat.le_trans B2.out.size (by simp)))); clear hb3 hcA))
  go_ret
  exact ⟨rfl, B3.out.alloc B3.out.size _⟩
end Go.Proofs.Ytjgbgjkjnlaloaa.Lawc
