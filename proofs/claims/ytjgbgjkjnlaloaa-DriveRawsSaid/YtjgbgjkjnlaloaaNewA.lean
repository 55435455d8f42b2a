/- Whether a config may be, by the program and by the document: each by its contract. -/
import Derived.Test.YtjgbgjkjnlaloaaOrd
import Derived.WalkKit
import Derived.IntWalk
import Derived.Outline
import Derived.Lib.Hide
namespace Go.Proofs.Ytjgbgjkjnlaloaa.Newc
open Go.RowKit Go.Proofs.Ytjgbgjkjnlaloaa.Memc
set_option linter.unusedVariables false
set_option maxRecDepth 100000

structure Cfg where
  k : Int
  K : Int
  T : Int
  M : Int
def Cfg.ok (c : Cfg) : Prop := (-9223372036854775808 ≤ c.k ∧ c.k ≤ 9223372036854775807) ∧ (-9223372036854775808 ≤ c.K ∧ c.K ≤ 9223372036854775807) ∧ (-9223372036854775808 ≤ c.T ∧ c.T ≤ 9223372036854775807) ∧ (-9223372036854775808 ≤ c.M ∧ c.M ≤ 9223372036854775807)
/-- a config that may be -/
def Cfg.may (c : Cfg) : Prop := (1 ≤ c.k ∧ c.k ≤ 3) ∧ (1 ≤ c.K ∧ c.K ≤ 64) ∧ (1 ≤ c.T ∧ c.T ≤ 8) ∧ (2 ≤ c.M ∧ c.M ≤ 64)
instance (c : Cfg) : Decidable c.may := by unfold Cfg.may; infer_instance

def Tells (w : World) (b : Bool) (e : Ending) (w' : World) : Prop := e = .returned (.bool b) ∧ Below w.heap.size w w'

theorem within_yes (n a b : Int) (w : World) (h1 : a ≤ n) (h2 : n ≤ b) :
    Calls Try.prog 47 #[.int .i64 n, .int .i64 a, .int .i64 b] w fun e w' => e = .returned (.bool true) ∧ w = w' := by
  go_enter Try.func47, Try.ntmps47
  go_wp2
  go_ret
  exact ⟨rfl, rfl⟩
theorem within_no (n a b : Int) (w : World) (h : n < a ∨ b < n) :
    Calls Try.prog 47 #[.int .i64 n, .int .i64 a, .int .i64 b] w fun e w' => e = .returned (.bool false) ∧ w = w' := by
  by_cases h1 : n < a
  · clear h
    go_enter Try.func47, Try.ntmps47
    go_wp2
    go_ret
    exact ⟨rfl, rfl⟩
  · have h2 : decide (n ≤ b) = false := by simp; omega
    have h3 : a ≤ n := by omega
    clear h h1
    go_enter Try.func47, Try.ntmps47
    go_wp2
    go_ret
    exact ⟨rfl, rfl⟩

set_option maxHeartbeats 1000000 in
theorem may_yes (w : World) (k K T M : Int) (k1 : 1 ≤ k) (k2 : k ≤ 3) (a1 : 1 ≤ K) (a2 : K ≤ 64) (t1 : 1 ≤ T) (t2 : T ≤ 8) (m1 : 2 ≤ M) (m2 : M ≤ 64) :
    Calls Try.prog 22 #[.agg #[.int .i64 k, .int .i64 K, .int .i64 T, .int .i64 M]] w (Tells w true) := by
  go_enter Try.func22, Try.ntmps22
  go_wp2_with (go_at_call 47; refine (within_yes _ _ _ _ (by omega) (by omega)).mono ?_; rintro e w' ⟨rfl, rfl⟩)
  go_ret
  exact ⟨rfl, (Below.refl _ _).alloc (Nat.le_refl _) _⟩
set_option maxHeartbeats 1000000 in
theorem refmay_yes (w : World) (k K T M : Int) (k1 : 1 ≤ k) (k2 : k ≤ 3) (a1 : 1 ≤ K) (a2 : K ≤ 64) (t1 : 1 ≤ T) (t2 : T ≤ 8) (m1 : 2 ≤ M) (m2 : M ≤ 64) :
    Calls Try.prog 23 #[.agg #[.int .i64 k, .int .i64 K, .int .i64 T, .int .i64 M]] w (Tells w true) := by
  go_enter Try.func23, Try.ntmps23
  go_wp2
  go_ret
  exact ⟨rfl, (Below.refl _ _).alloc (Nat.le_refl _) _⟩

set_option maxHeartbeats 2000000 in
theorem may_no (w : World) (k K T M : Int) (h : ¬ (Cfg.mk k K T M).may) :
    Calls Try.prog 22 #[.agg #[.int .i64 k, .int .i64 K, .int .i64 T, .int .i64 M]] w (Tells w false) := by
  have hh : (k < 1 ∨ 3 < k) ∨ (1 ≤ k ∧ k ≤ 3) ∧ (K < 1 ∨ 64 < K) ∨ (1 ≤ k ∧ k ≤ 3) ∧ (1 ≤ K ∧ K ≤ 64) ∧ (T < 1 ∨ 8 < T) ∨ (1 ≤ k ∧ k ≤ 3) ∧ (1 ≤ K ∧ K ≤ 64) ∧ (1 ≤ T ∧ T ≤ 8) ∧ (M < 2 ∨ 64 < M) := by
    unfold Cfg.may at h
    simp only at h
    omega
  clear h
  rcases hh with hh | hh | hh | hh
  all_goals
    have HH := Lib.hid hh
    clear hh
    go_enter Try.func22, Try.ntmps22
    go_wp2_with (go_at_call 47; (first | (refine (within_yes _ _ _ _ ?_ ?_).mono ?_; (have := HH.out; omega); (have := HH.out; omega); rintro e w' ⟨rfl, rfl⟩) | (refine (within_no _ _ _ _ ?_).mono ?_; (have := HH.out; omega); rintro e w' ⟨rfl, rfl⟩)))
    go_ret
    exact ⟨rfl, (Below.refl _ _).alloc (Nat.le_refl _) _⟩

set_option maxHeartbeats 1000000 in
theorem refmay_klo (w : World) (k K T M : Int)  (hb : k < 1) :
    Calls Try.prog 23 #[.agg #[.int .i64 k, .int .i64 K, .int .i64 T, .int .i64 M]] w (Tells w false) := by
  have hq : decide (1 ≤ k) = false := by simp; omega
  clear hb
  go_enter Try.func23, Try.ntmps23
  go_wp2
  go_ret
  exact ⟨rfl, (Below.refl _ _).alloc (Nat.le_refl _) _⟩

set_option maxHeartbeats 1000000 in
theorem refmay_khi (w : World) (k K T M : Int) (h0 : 1 ≤ k) (hb : 3 < k) :
    Calls Try.prog 23 #[.agg #[.int .i64 k, .int .i64 K, .int .i64 T, .int .i64 M]] w (Tells w false) := by
  have hq : decide (k ≤ 3) = false := by simp; omega
  clear hb
  go_enter Try.func23, Try.ntmps23
  go_wp2
  go_ret
  exact ⟨rfl, (Below.refl _ _).alloc (Nat.le_refl _) _⟩

set_option maxHeartbeats 1000000 in
theorem refmay_Klo (w : World) (k K T M : Int) (h0 : 1 ≤ k) (h1 : k ≤ 3) (hb : K < 1) :
    Calls Try.prog 23 #[.agg #[.int .i64 k, .int .i64 K, .int .i64 T, .int .i64 M]] w (Tells w false) := by
  have hq : decide (1 ≤ K) = false := by simp; omega
  clear hb
  go_enter Try.func23, Try.ntmps23
  go_wp2
  go_ret
  exact ⟨rfl, (Below.refl _ _).alloc (Nat.le_refl _) _⟩

set_option maxHeartbeats 1000000 in
theorem refmay_Khi (w : World) (k K T M : Int) (h0 : 1 ≤ k) (h1 : k ≤ 3) (h2 : 1 ≤ K) (hb : 64 < K) :
    Calls Try.prog 23 #[.agg #[.int .i64 k, .int .i64 K, .int .i64 T, .int .i64 M]] w (Tells w false) := by
  have hq : decide (K ≤ 64) = false := by simp; omega
  clear hb
  go_enter Try.func23, Try.ntmps23
  go_wp2
  go_ret
  exact ⟨rfl, (Below.refl _ _).alloc (Nat.le_refl _) _⟩

set_option maxHeartbeats 1000000 in
theorem refmay_Tlo (w : World) (k K T M : Int) (h0 : 1 ≤ k) (h1 : k ≤ 3) (h2 : 1 ≤ K) (h3 : K ≤ 64) (hb : T < 1) :
    Calls Try.prog 23 #[.agg #[.int .i64 k, .int .i64 K, .int .i64 T, .int .i64 M]] w (Tells w false) := by
  have hq : decide (1 ≤ T) = false := by simp; omega
  clear hb
  go_enter Try.func23, Try.ntmps23
  go_wp2
  go_ret
  exact ⟨rfl, (Below.refl _ _).alloc (Nat.le_refl _) _⟩

set_option maxHeartbeats 1000000 in
theorem refmay_Thi (w : World) (k K T M : Int) (h0 : 1 ≤ k) (h1 : k ≤ 3) (h2 : 1 ≤ K) (h3 : K ≤ 64) (h4 : 1 ≤ T) (hb : 8 < T) :
    Calls Try.prog 23 #[.agg #[.int .i64 k, .int .i64 K, .int .i64 T, .int .i64 M]] w (Tells w false) := by
  have hq : decide (T ≤ 8) = false := by simp; omega
  clear hb
  go_enter Try.func23, Try.ntmps23
  go_wp2
  go_ret
  exact ⟨rfl, (Below.refl _ _).alloc (Nat.le_refl _) _⟩

set_option maxHeartbeats 1000000 in
theorem refmay_Mlo (w : World) (k K T M : Int) (h0 : 1 ≤ k) (h1 : k ≤ 3) (h2 : 1 ≤ K) (h3 : K ≤ 64) (h4 : 1 ≤ T) (h5 : T ≤ 8) (hb : M < 2) :
    Calls Try.prog 23 #[.agg #[.int .i64 k, .int .i64 K, .int .i64 T, .int .i64 M]] w (Tells w false) := by
  have hq : decide (2 ≤ M) = false := by simp; omega
  clear hb
  go_enter Try.func23, Try.ntmps23
  go_wp2
  go_ret
  exact ⟨rfl, (Below.refl _ _).alloc (Nat.le_refl _) _⟩

set_option maxHeartbeats 1000000 in
theorem refmay_Mhi (w : World) (k K T M : Int) (h0 : 1 ≤ k) (h1 : k ≤ 3) (h2 : 1 ≤ K) (h3 : K ≤ 64) (h4 : 1 ≤ T) (h5 : T ≤ 8) (h6 : 2 ≤ M) (hb : 64 < M) :
    Calls Try.prog 23 #[.agg #[.int .i64 k, .int .i64 K, .int .i64 T, .int .i64 M]] w (Tells w false) := by
  have hq : decide (M ≤ 64) = false := by simp; omega
  clear hb
  go_enter Try.func23, Try.ntmps23
  go_wp2
  go_ret
  exact ⟨rfl, (Below.refl _ _).alloc (Nat.le_refl _) _⟩

theorem refmay_no (w : World) (k K T M : Int) (h : ¬ (Cfg.mk k K T M).may) :
    Calls Try.prog 23 #[.agg #[.int .i64 k, .int .i64 K, .int .i64 T, .int .i64 M]] w (Tells w false) := by
  unfold Cfg.may at h
  simp only at h
  by_cases c0 : k < 1
  · exact refmay_klo w k K T M  c0
  by_cases c1 : 3 < k
  · exact refmay_khi w k K T M (by omega) c1
  by_cases c2 : K < 1
  · exact refmay_Klo w k K T M (by omega) (by omega) c2
  by_cases c3 : 64 < K
  · exact refmay_Khi w k K T M (by omega) (by omega) (by omega) c3
  by_cases c4 : T < 1
  · exact refmay_Tlo w k K T M (by omega) (by omega) (by omega) (by omega) c4
  by_cases c5 : 8 < T
  · exact refmay_Thi w k K T M (by omega) (by omega) (by omega) (by omega) (by omega) c5
  by_cases c6 : M < 2
  · exact refmay_Mlo w k K T M (by omega) (by omega) (by omega) (by omega) (by omega) (by omega) c6
  by_cases c7 : 64 < M
  · exact refmay_Mhi w k K T M (by omega) (by omega) (by omega) (by omega) (by omega) (by omega) (by omega) c7
  exact absurd (by omega) h
end Go.Proofs.Ytjgbgjkjnlaloaa.Newc
