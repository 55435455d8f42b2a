/- Whether a config may be, by the program and by the document: each by its contract. · Linking segments, by the program's chain: its contract; and the words at first, as mathematics. · The words at first, by the program. · A machine of a call that is told as a whole: its parts, by contract. -/
import Derived.WalkKit
import Derived.IntWalk
import Derived.Outline
import Derived.Lib.Hide
import Derived.Deep.DrawnRows
import Derived.WalkSpells
import Derived.Deep.QuietTactic
import Derived.BigQuiet
import Derived.WalkLawsBesides
import Derived.Defers
import Derived.Recover
import Derived.RegionTactic
import Derived.ChangeAlike
import Derived.Laws.EntriesVeiled
import Derived.Test.YtffppdcpiieapaaQ1
namespace Go.Proofs.Ytffppdcpiieapaa.Newc
open Go.RowKit Go.Proofs.Ytffppdcpiieapaa.Memc
set_option linter.unusedVariables false
set_option maxRecDepth 100000

structure Cfg where
  k : Int
  K : Int
  T : Int
  M : Int
def Cfg.ok (c : Cfg) : Prop := (-9223372036854775808 ≤ c.k ∧ c.k ≤ 9223372036854775807) ∧ (-9223372036854775808 ≤ c.K ∧ c.K ≤ 9223372036854775807) ∧ (-9223372036854775808 ≤ c.T ∧ c.T ≤ 9223372036854775807) ∧ (-9223372036854775808 ≤ c.M ∧ c.M ≤ 9223372036854775807)
/-- a config that may be -/
def Cfg.may (c : Cfg) : Prop := (1 ≤ c.k ∧ c.k ≤ 3) ∧ (1 ≤ c.K ∧ c.K ≤ 64) ∧ (1 ≤ c.T ∧ c.T ≤ 8) ∧ (2 ≤ c.M ∧ c.M ≤ 64)
instance (c : Cfg) : Decidable c.may := by unfold Cfg.may; infer_instance

def Tells (w : World) (b : Bool) (e : Ending) (w' : World) : Prop := e = .returned (.bool b) ∧ Below w.heap.size w w'

theorem within_yes (n a b : Int) (w : World) (h1 : a ≤ n) (h2 : n ≤ b) :
    Calls Try.prog 83 #[.int .i64 n, .int .i64 a, .int .i64 b] w fun e w' => e = .returned (.bool true) ∧ w = w' := by
  go_enter Try.func83, Try.ntmps83
  go_wp2
  go_ret
  exact ⟨rfl, rfl⟩
theorem within_no (n a b : Int) (w : World) (h : n < a ∨ b < n) :
    Calls Try.prog 83 #[.int .i64 n, .int .i64 a, .int .i64 b] w fun e w' => e = .returned (.bool false) ∧ w = w' := by
  by_cases h1 : n < a
  · clear h
    go_enter Try.func83, Try.ntmps83
    go_wp2
    go_ret
    exact ⟨rfl, rfl⟩
  · have h2 : decide (n ≤ b) = false := by simp; omega
    have h3 : a ≤ n := by omega
    clear h h1
    go_enter Try.func83, Try.ntmps83
    go_wp2
    go_ret
    exact ⟨rfl, rfl⟩

set_option maxHeartbeats 1000000 in
theorem may_yes (w : World) (k K T M : Int) (k1 : 1 ≤ k) (k2 : k ≤ 3) (a1 : 1 ≤ K) (a2 : K ≤ 64) (t1 : 1 ≤ T) (t2 : T ≤ 8) (m1 : 2 ≤ M) (m2 : M ≤ 64) :
    Calls Try.prog 51 #[.agg #[.int .i64 k, .int .i64 K, .int .i64 T, .int .i64 M]] w (Tells w true) := by
  go_enter Try.func51, Try.ntmps51
  go_wp2_with (go_at_call 83; refine (within_yes _ _ _ _ (by omega) (by omega)).mono ?_; rintro e w' ⟨rfl, rfl⟩)
  go_ret
  exact ⟨rfl, (Below.refl _ _).alloc (Nat.le_refl _) _⟩
set_option maxHeartbeats 1000000 in
theorem refmay_yes (w : World) (k K T M : Int) (k1 : 1 ≤ k) (k2 : k ≤ 3) (a1 : 1 ≤ K) (a2 : K ≤ 64) (t1 : 1 ≤ T) (t2 : T ≤ 8) (m1 : 2 ≤ M) (m2 : M ≤ 64) :
    Calls Try.prog 20 #[.agg #[.int .i64 k, .int .i64 K, .int .i64 T, .int .i64 M]] w (Tells w true) := by
  go_enter Try.func20, Try.ntmps20
  go_wp2
  go_ret
  exact ⟨rfl, (Below.refl _ _).alloc (Nat.le_refl _) _⟩

set_option maxHeartbeats 2000000 in
theorem may_no (w : World) (k K T M : Int) (h : ¬ (Cfg.mk k K T M).may) :
    Calls Try.prog 51 #[.agg #[.int .i64 k, .int .i64 K, .int .i64 T, .int .i64 M]] w (Tells w false) := by
  have hh : (k < 1 ∨ 3 < k) ∨ (1 ≤ k ∧ k ≤ 3) ∧ (K < 1 ∨ 64 < K) ∨ (1 ≤ k ∧ k ≤ 3) ∧ (1 ≤ K ∧ K ≤ 64) ∧ (T < 1 ∨ 8 < T) ∨ (1 ≤ k ∧ k ≤ 3) ∧ (1 ≤ K ∧ K ≤ 64) ∧ (1 ≤ T ∧ T ≤ 8) ∧ (M < 2 ∨ 64 < M) := by
    unfold Cfg.may at h
    simp only at h
    omega
  clear h
  rcases hh with hh | hh | hh | hh
  all_goals
    have HH := Lib.hid hh
    clear hh
    go_enter Try.func51, Try.ntmps51
    go_wp2_with (go_at_call 83; (first | (refine (within_yes _ _ _ _ ?_ ?_).mono ?_; (have := HH.out; omega); (have := HH.out; omega); rintro e w' ⟨rfl, rfl⟩) | (refine (within_no _ _ _ _ ?_).mono ?_; (have := HH.out; omega); rintro e w' ⟨rfl, rfl⟩)))
    go_ret
    exact ⟨rfl, (Below.refl _ _).alloc (Nat.le_refl _) _⟩

set_option maxHeartbeats 1000000 in
theorem refmay_klo (w : World) (k K T M : Int)  (hb : k < 1) :
    Calls Try.prog 20 #[.agg #[.int .i64 k, .int .i64 K, .int .i64 T, .int .i64 M]] w (Tells w false) := by
  have hq : decide (1 ≤ k) = false := by simp; omega
  clear hb
  go_enter Try.func20, Try.ntmps20
  go_wp2
  go_ret
  exact ⟨rfl, (Below.refl _ _).alloc (Nat.le_refl _) _⟩

set_option maxHeartbeats 1000000 in
theorem refmay_khi (w : World) (k K T M : Int) (h0 : 1 ≤ k) (hb : 3 < k) :
    Calls Try.prog 20 #[.agg #[.int .i64 k, .int .i64 K, .int .i64 T, .int .i64 M]] w (Tells w false) := by
  have hq : decide (k ≤ 3) = false := by simp; omega
  clear hb
  go_enter Try.func20, Try.ntmps20
  go_wp2
  go_ret
  exact ⟨rfl, (Below.refl _ _).alloc (Nat.le_refl _) _⟩

set_option maxHeartbeats 1000000 in
theorem refmay_Klo (w : World) (k K T M : Int) (h0 : 1 ≤ k) (h1 : k ≤ 3) (hb : K < 1) :
    Calls Try.prog 20 #[.agg #[.int .i64 k, .int .i64 K, .int .i64 T, .int .i64 M]] w (Tells w false) := by
  have hq : decide (1 ≤ K) = false := by simp; omega
  clear hb
  go_enter Try.func20, Try.ntmps20
  go_wp2
  go_ret
  exact ⟨rfl, (Below.refl _ _).alloc (Nat.le_refl _) _⟩

set_option maxHeartbeats 1000000 in
theorem refmay_Khi (w : World) (k K T M : Int) (h0 : 1 ≤ k) (h1 : k ≤ 3) (h2 : 1 ≤ K) (hb : 64 < K) :
    Calls Try.prog 20 #[.agg #[.int .i64 k, .int .i64 K, .int .i64 T, .int .i64 M]] w (Tells w false) := by
  have hq : decide (K ≤ 64) = false := by simp; omega
  clear hb
  go_enter Try.func20, Try.ntmps20
  go_wp2
  go_ret
  exact ⟨rfl, (Below.refl _ _).alloc (Nat.le_refl _) _⟩

set_option maxHeartbeats 1000000 in
theorem refmay_Tlo (w : World) (k K T M : Int) (h0 : 1 ≤ k) (h1 : k ≤ 3) (h2 : 1 ≤ K) (h3 : K ≤ 64) (hb : T < 1) :
    Calls Try.prog 20 #[.agg #[.int .i64 k, .int .i64 K, .int .i64 T, .int .i64 M]] w (Tells w false) := by
  have hq : decide (1 ≤ T) = false := by simp; omega
  clear hb
  go_enter Try.func20, Try.ntmps20
  go_wp2
  go_ret
  exact ⟨rfl, (Below.refl _ _).alloc (Nat.le_refl _) _⟩

set_option maxHeartbeats 1000000 in
theorem refmay_Thi (w : World) (k K T M : Int) (h0 : 1 ≤ k) (h1 : k ≤ 3) (h2 : 1 ≤ K) (h3 : K ≤ 64) (h4 : 1 ≤ T) (hb : 8 < T) :
    Calls Try.prog 20 #[.agg #[.int .i64 k, .int .i64 K, .int .i64 T, .int .i64 M]] w (Tells w false) := by
  have hq : decide (T ≤ 8) = false := by simp; omega
  clear hb
  go_enter Try.func20, Try.ntmps20
  go_wp2
  go_ret
  exact ⟨rfl, (Below.refl _ _).alloc (Nat.le_refl _) _⟩

set_option maxHeartbeats 1000000 in
theorem refmay_Mlo (w : World) (k K T M : Int) (h0 : 1 ≤ k) (h1 : k ≤ 3) (h2 : 1 ≤ K) (h3 : K ≤ 64) (h4 : 1 ≤ T) (h5 : T ≤ 8) (hb : M < 2) :
    Calls Try.prog 20 #[.agg #[.int .i64 k, .int .i64 K, .int .i64 T, .int .i64 M]] w (Tells w false) := by
  have hq : decide (2 ≤ M) = false := by simp; omega
  clear hb
  go_enter Try.func20, Try.ntmps20
  go_wp2
  go_ret
  exact ⟨rfl, (Below.refl _ _).alloc (Nat.le_refl _) _⟩

set_option maxHeartbeats 1000000 in
theorem refmay_Mhi (w : World) (k K T M : Int) (h0 : 1 ≤ k) (h1 : k ≤ 3) (h2 : 1 ≤ K) (h3 : K ≤ 64) (h4 : 1 ≤ T) (h5 : T ≤ 8) (h6 : 2 ≤ M) (hb : 64 < M) :
    Calls Try.prog 20 #[.agg #[.int .i64 k, .int .i64 K, .int .i64 T, .int .i64 M]] w (Tells w false) := by
  have hq : decide (M ≤ 64) = false := by simp; omega
  clear hb
  go_enter Try.func20, Try.ntmps20
  go_wp2
  go_ret
  exact ⟨rfl, (Below.refl _ _).alloc (Nat.le_refl _) _⟩

theorem refmay_no (w : World) (k K T M : Int) (h : ¬ (Cfg.mk k K T M).may) :
    Calls Try.prog 20 #[.agg #[.int .i64 k, .int .i64 K, .int .i64 T, .int .i64 M]] w (Tells w false) := by
  unfold Cfg.may at h
  simp only at h
  by_cases c0 : k < 1
  · exact refmay_klo w k K T M  c0
  by_cases c1 : 3 < k
  · exact refmay_khi w k K T M (by omega) c1
  by_cases c2 : K < 1
  · exact refmay_Klo w k K T M (by omega) (by omega) c2
  by_cases c3 : 64 < K
  · exact refmay_Khi w k K T M (by omega) (by omega) (by omega) c3
  by_cases c4 : T < 1
  · exact refmay_Tlo w k K T M (by omega) (by omega) (by omega) (by omega) c4
  by_cases c5 : 8 < T
  · exact refmay_Thi w k K T M (by omega) (by omega) (by omega) (by omega) (by omega) c5
  by_cases c6 : M < 2
  · exact refmay_Mlo w k K T M (by omega) (by omega) (by omega) (by omega) (by omega) (by omega) c6
  by_cases c7 : 64 < M
  · exact refmay_Mhi w k K T M (by omega) (by omega) (by omega) (by omega) (by omega) (by omega) (by omega) c7
  exact absurd (by omega) h
end Go.Proofs.Ytffppdcpiieapaa.Newc

namespace Go.Proofs.Ytffppdcpiieapaa.Newc
open Go.RowKit Go.Proofs.Ytffppdcpiieapaa.Memc Go.Proofs.Ytffppdcpiieapaa.Wordc
set_option linter.unusedVariables false
set_option maxRecDepth 100000

/-- links of n segments from h on, as far as j -/
def linked (h n j : Nat) : List Int := (List.range n).map fun i => if h ≤ i ∧ i + 1 < j then (i : Int) + 2 else 0
theorem linked_len (h n j : Nat) : (linked h n j).length = n := by simp [linked]
theorem linked_zero (h n j : Nat) (hj : j ≤ h + 1) : linked h n j = List.replicate n 0 := by
  refine List.ext_getElem (by simp [linked]) fun i h1 h2 => ?_
  simp only [linked, List.getElem_map, List.getElem_range, List.getElem_replicate]
  rw [if_neg (by omega)]
theorem linked_set (h n p : Nat) (hp : h ≤ p) (hn : p + 1 < n) : (linked h n (p + 1)).set p ((p : Int) + 2) = linked h n (p + 2) := by
  refine List.ext_getElem (by simp [linked]) fun i h1 h2 => ?_
  rw [List.getElem_set]
  simp only [linked, List.getElem_map, List.getElem_range]
  by_cases hpi : p = i
  · subst hpi
    rw [if_pos rfl, if_pos (by omega)]
  · rw [if_neg hpi]
    by_cases hc : h ≤ i ∧ i + 1 < p + 1
    · rw [if_pos hc, if_pos (by omega)]
    · rw [if_neg hc, if_neg (by omega)]
theorem linked_ok (h n j : Nat) (hn : n ≤ 100) : u64s (linked h n j) := by
  intro x hx
  obtain ⟨i, hi, rfl⟩ := List.mem_map.1 hx
  have := List.mem_range.1 hi
  split <;> omega

/-- the words at first -/
def newM (k : Int) (K T M : Nat) : Memc.M :=
  { e := 0, f := if k = 1 then 2 else if k = 3 then 1 else 0, li := List.replicate 3 0, pi := List.replicate T 0, h := if k = 1 then 1 else 0, t := if k = 1 then 1 else 0,
    lk := linked (if k = 1 then 1 else if k = 3 then 0 else M) M M, nx := List.replicate M 0, sl := List.replicate (M * K) 0 }

theorem ref0_c (x : Int) (w : World) (x0 : 0 ≤ x) (x1 : x ≤ 1000) :
    Calls Try.prog 39 #[.int .u32 0, .int .i64 x] w fun e w' => e = .returned (.int .u64 (x + 1)) ∧ w = w' :=
  (ref_c 0 x w (by omega) (by omega) (by omega) (by omega)).mono fun e w' ⟨he, hw⟩ => ⟨by rw [he]; exact ret_int (by omega), hw⟩

/-- only block g has changed -/
def Just (g : Nat) (w w' : World) : Prop := w.grownBy w' (some g) ∧ w'.heap.size = w.heap.size
theorem Just.refl (g : Nat) (w : World) : Just g w w := ⟨World.grownBy.refl w _, rfl⟩
theorem Just.set_ {g : Nat} {w w' : World} (h : Just g w w') (i : Nat) (v : Value) : Just g w (w'.setCell ⟨g, i, none⟩ v) := by
  refine ⟨⟨h.1.os, h.1.tape, h.1.output, by rw [size_set]; exact h.1.size, fun k hk hne => ?_⟩, by rw [size_set]; exact h.2⟩
  exact (Below.heap_setCell w' ⟨g, i, none⟩ v k (fun e => hne (by rw [e]))).trans (h.1.block k hk hne)

theorem just_below {g B : Nat} {w w' : World} (h : Just g w w') (hg : B ≤ g) (hw : B ≤ w.heap.size) : Below B w w' :=
  ⟨h.1.os, h.1.tape, h.1.output, h.1.size, fun k hk => h.1.block k (by omega) (fun e => by injection e with e; omega)⟩

theorem own_kept_at {w w' : World} {base g n c : Nat} {xs : List Int} (h : Own w base ⟨some ⟨g, 0, none⟩, n, c⟩ xs) (hk : w'.heap[g]? = w.heap[g]?) : Own w' base ⟨some ⟨g, 0, none⟩, n, c⟩ xs :=
  h.kept fun ad had => by
    injection had with had
    subst had
    exact hk

/-- what chain leaves -/
def Chained (w : World) (base g n h : Nat) (e : Ending) (w' : World) : Prop :=
  e = .returned (.int .u64 ((h : Int) + 1)) ∧ Own w' base ⟨some ⟨g, 0, none⟩, n, n⟩ (linked h n n) ∧ Just g w w'

set_option maxHeartbeats 1000000 in
theorem chain_c (w : World) (base g n h : Nat) (ho : Own w base ⟨some ⟨g, 0, none⟩, n, n⟩ (List.replicate n 0)) (h1 : h ≤ 1) (n1 : 2 ≤ n) (n2 : n ≤ 64) :
    Calls Try.prog 86 #[.slice (some ⟨g, 0, none⟩) n n, .int .i64 h] w (Chained w base g n h) := by
  have HO := Lib.hid ho
  clear ho
  go_enter Try.func86, Try.ntmps86
  go_wp2_with fail
  go_loopw [5] (fun i wr => ∃ p : Nat, i = .int .i64 ((p : Int) + 1) ∧ h ≤ p ∧ p < n ∧ Own wr base ⟨some ⟨g, 0, none⟩, n, n⟩ (linked h n (p + 1)) ∧ Just g w wr) (fun i _ => n - (intOf i).toNat)
  case atStart => exact ⟨h, rfl, Nat.le_refl _, by omega, by rw [linked_zero _ _ _ (Nat.le_refl _)]; exact HO.out, Just.refl g w⟩
  case round =>
    obtain ⟨p, rfl, hp, hpn, ho, hj⟩ := hrel
    have HP := Lib.hid ho
    have HJ := Lib.hid hj
    obtain ⟨g', hA, _, _, hc, hf⟩ := ho.at_ (k := p) (by rw [linked_len]; omega)
    injection hA with hA
    injection hA with hA
    subst hA
    clear ho hj
    by_cases hlt : p + 1 < n
    · go_wp2_with (go_at_call 39; refine (ref0_c _ _ (by omega) (by omega)).mono ?_; rintro e w' ⟨rfl, rfl⟩)
      go_roundw
      case rel =>
        refine ⟨p + 1, by go_num, by omega, by omega, ?_, HJ.out.set_ _ _⟩
        have := HP.out.set_ (k := p) rfl ((p : Int) + 2) (by omega)
        rw [linked_set h n p hp hlt] at this
        have e2 : (p : Int) + 1 + 1 = (p : Int) + 2 := by omega
        simpa only [e2] using this
      case measure => simp [intOf]; omega
    · obtain rfl : n = p + 1 := by omega
      clear hc hf
      go_wp2_with (go_at_call 39; refine (ref0_c _ _ (by omega) (by omega)).mono ?_; rintro e w' ⟨rfl, rfl⟩)
      go_ret
      exact ⟨rfl, HP.out, HJ.out⟩

/-- the words at first, when nothing is linked yet -/
def zeroM (K T M : Nat) : Memc.M := { e := 0, f := 0, li := List.replicate 3 0, pi := List.replicate T 0, h := 0, t := 0, lk := List.replicate M 0, nx := List.replicate M 0, sl := List.replicate (M * K) 0 }

theorem heap_nine (W : World) (b : Nat) (v0 v1 v2 v3 v4 v5 v6 v7 v8 : Value) (k : Nat) (hk : k ≠ b) : (((((((((W.setCell ⟨b, 0, none⟩ v0).setCell ⟨b, 1, none⟩ v1).setCell ⟨b, 2, none⟩ v2).setCell ⟨b, 3, none⟩ v3).setCell ⟨b, 4, none⟩ v4).setCell ⟨b, 5, none⟩ v5).setCell ⟨b, 6, none⟩ v6).setCell ⟨b, 7, none⟩ v7).setCell ⟨b, 8, none⟩ v8).heap[k]? = W.heap[k]? := by
  have e : ∀ (w : World) (i : Nat) (v : Value), (w.setCell ⟨b, i, none⟩ v).heap[k]? = w.heap[k]? := fun w i v => Below.heap_setCell w ⟨b, i, none⟩ v k hk
  rw [e, e, e, e, e, e, e, e, e]

/-- rows that are apart, one of them written since -/
theorem five_end {W wf : World} {base g : Nat} {r q : R} {z m : Memc.M} (h0 : Hold W base g r z) (hq : ∀ a, q.sl a = r.sl a)
    (hk : ∀ k, base ≤ k → k ≠ g → (∀ ad, (r.sl 7).A = some ad → k ≠ ad.block) → wf.heap[k]? = W.heap[k]?) (h7 : Own wf base (r.sl 7) m.lk)
    (hm : m.li = z.li ∧ m.pi = z.pi ∧ m.nx = z.nx ∧ m.sl = z.sl) : Five wf base q m := by
  obtain ⟨hb, hg, h1, h2, h3, h4, hm0, ho, ha⟩ := h0
  refine ⟨fun a hl => ?_, fun a hl b hl' hne ad had ad' had' => ?_⟩
  · rw [hq]
    have other : ∀ a, la a → a ≠ 7 → m.area a = z.area a → Own wf base (r.sl a) (m.area a) := fun a hl h7 he => by
      rw [he]
      refine (ho a hl).kept fun ad had => hk _ ((ho a hl).lt had).1 (ha a hl ad had).1 fun ad' had' => ?_
      exact ((ha a hl ad had).2 7 (.inr (.inr (.inl rfl))) (Ne.symm h7) ad' had').symm
    rcases hl with rfl | rfl | rfl | rfl | rfl
    · exact other 3 (.inl rfl) (by omega) hm.1
    · exact other 4 (.inr (.inl rfl)) (by omega) hm.2.1
    · exact h7
    · exact other 8 (.inr (.inr (.inr (.inl rfl)))) (by omega) hm.2.2.1
    · exact other 9 (.inr (.inr (.inr (.inr rfl)))) (by omega) hm.2.2.2
  · rw [hq] at had had'
    exact (ha b hl' ad' had').2 a hl hne ad had

theorem five_weaken {w : World} {base base' : Nat} {r : R} {m : Memc.M} (h : Five w base r m) (hb : base' ≤ base) : Five w base' r m :=
  ⟨fun a hl => (h.1 a hl).weaken hb, h.2⟩

theorem zeros_ok (n : Nat) : u64s (List.replicate n 0) := fun y hy => by rw [List.eq_of_mem_replicate hy]; exact ⟨Int.le_refl 0, by decide⟩
theorem newM_ok (k : Int) (K T M : Nat) (hM : M ≤ 64) : (newM k K T M).ok := by
  intro a
  by_cases ho : a < 1 ∨ 9 < a
  · rw [area_no _ _ ho]; exact u64s_nil
  · have one : ∀ x : Int, 0 ≤ x ∧ x ≤ 10 → u64s [x] := fun x hx y hy => by rw [List.mem_singleton.1 hy]; omega
    rcases nine ho with rfl | rfl | rfl | rfl | rfl | rfl | rfl | rfl | rfl
    · exact one 0 (by omega)
    · refine one _ ?_; simp only [newM]; split <;> (try split) <;> omega
    · exact zeros_ok _
    · exact zeros_ok _
    · refine one _ ?_; simp only [newM]; split <;> omega
    · refine one _ ?_; simp only [newM]; split <;> omega
    · exact linked_ok _ _ _ (by omega)
    · exact zeros_ok _
    · exact zeros_ok _

/-- what New comes to -/
def Newly (w : World) (m : Memc.M) (c : Int) (e : Ending) (w' : World) : Prop :=
  ∃ r : R, e = .returned (.tuple #[.agg #[.int .u64 r.e, .int .u64 r.f, .slice r.L.A r.L.n r.L.c, .slice r.P.A r.P.n r.P.c, .int .u64 r.h, .int .u64 r.t, .slice r.K.A r.K.n r.K.c, .slice r.X.A r.X.n r.X.c, .slice r.S.A r.S.n r.S.c], .int .i64 c]) ∧ (r.e = m.e ∧ r.f = m.f ∧ r.h = m.h ∧ r.t = m.t) ∧ m.ok ∧ Five w' w.heap.size r m ∧ Below w.heap.size w w'

/-- words in memory of the call's own -/
def Fresh5 (w : World) (m : Memc.M) (e : Ending) (w' : World) : Prop :=
  ∃ r : R, e = .returned (.agg #[.int .u64 r.e, .int .u64 r.f, .slice r.L.A r.L.n r.L.c, .slice r.P.A r.P.n r.P.c, .int .u64 r.h, .int .u64 r.t, .slice r.K.A r.K.n r.K.c, .slice r.X.A r.X.n r.X.c, .slice r.S.A r.S.n r.S.c]) ∧ (r.e = m.e ∧ r.f = m.f ∧ r.h = m.h ∧ r.t = m.t) ∧ m.ok ∧ Five w' w.heap.size r m ∧ Below w.heap.size w w'
end Go.Proofs.Ytffppdcpiieapaa.Newc

namespace Go.Proofs.Ytffppdcpiieapaa.Newc
open Go.RowKit Go.Proofs.Ytffppdcpiieapaa.Memc Go.Proofs.Ytffppdcpiieapaa.Wordc
set_option linter.unusedVariables false
set_option maxRecDepth 100000
attribute [local go_sem ↓] Go.wp_at_zero Go.wp_at_succ

set_option maxHeartbeats 4000000 in
theorem new_yes (w : World) (k : Int) (K T M : Nat) (k1 : 1 ≤ k) (k2 : k ≤ 3) (a1 : 1 ≤ K) (a2 : K ≤ 64) (t1 : 1 ≤ T) (t2 : T ≤ 8) (m1 : 2 ≤ M) (m2 : M ≤ 64) :
    Calls Try.prog 54 #[.agg #[.int .i64 k, .int .i64 K, .int .i64 T, .int .i64 M]] w (Newly w (newM k K T M) 0) := by
  have B0 : Hid (Below w.heap.size w ((w.alloc (.cells #[.int .i64 k, .int .i64 K, .int .i64 T, .int .i64 M] 23)).alloc (.cells #[.int .u64 0, .int .u64 0, .slice none 0 0, .slice none 0 0, .int .u64 0, .int .u64 0, .slice none 0 0, .slice none 0 0, .slice none 0 0] 33))) :=
    Lib.hid (((Below.refl _ _).alloc (Nat.le_refl _) _).alloc (by simp) _)
  have X0 : Hid (Blk ((w.alloc (.cells #[.int .i64 k, .int .i64 K, .int .i64 T, .int .i64 M] 23)).alloc (.cells #[.int .u64 0, .int .u64 0, .slice none 0 0, .slice none 0 0, .int .u64 0, .int .u64 0, .slice none 0 0, .slice none 0 0, .slice none 0 0] 33)) w.heap.size 23 #[.int .i64 k, .int .i64 K, .int .i64 T, .int .i64 M]) := Lib.hid ((Blk.new _ _ _).alloc _)
  have Y0 : Hid (Blk ((w.alloc (.cells #[.int .i64 k, .int .i64 K, .int .i64 T, .int .i64 M] 23)).alloc (.cells #[.int .u64 0, .int .u64 0, .slice none 0 0, .slice none 0 0, .int .u64 0, .int .u64 0, .slice none 0 0, .slice none 0 0, .slice none 0 0] 33)) (w.heap.size + 1) 33 #[.int .u64 0, .int .u64 0, .slice none 0 0, .slice none 0 0, .int .u64 0, .int .u64 0, .slice none 0 0, .slice none 0 0, .slice none 0 0]) := Lib.hid (blk_at (by simp))
  have hmul : M * K ≤ 4096 := Nat.le_trans (Nat.mul_le_mul m2 a2) (by omega)
  have hmk3 := fun W => run_mk 3 3 rfl (by omega) W
  have hmkT := fun W => run_mk T (T : Int) rfl (by omega) W
  have hmkM := fun W => run_mk M (M : Int) rfl (by omega) W
  have hmkS := fun W => run_mk (M * K) ((M : Int) * (K : Int)) (by simp) (by omega) W
  have hml := mul_in M K hmul
  go_enter Try.func54, Try.ntmps54
  go_wp2_with (go_at_call 51; refine (may_yes _ _ _ _ _ (by omega) (by omega) (by omega) (by omega) (by omega) (by omega) (by omega) (by omega)).mono ?_; rintro e w1 ⟨rfl, hb1⟩; have B1 := Lib.hid hb1; have X1 := Lib.hid (X0.out.below hb1 X0.out.lt); have Y1 := Lib.hid (Y0.out.below hb1 Y0.out.lt); clear hb1)
  have hHc := X1.out.lt
  have hS : (World.drew w1).cell? ⟨w.heap.size, 1, none⟩ = some (.int .i64 K) ∧ (World.drew w1).cell? ⟨w.heap.size, 2, none⟩ = some (.int .i64 T) ∧ (World.drew w1).cell? ⟨w.heap.size, 3, none⟩ = some (.int .i64 M) :=
    ⟨X1.out.drew.cell 1, X1.out.drew.cell 2, X1.out.drew.cell 3⟩
  refine wp_region_any (by kernel_rfl) ?_
  refine wpAny_of_held (S := (fun w' => w'.cell? ⟨w.heap.size, 1, none⟩ = some (.int .i64 K) ∧ w'.cell? ⟨w.heap.size, 2, none⟩ = some (.int .i64 T) ∧ w'.cell? ⟨w.heap.size, 3, none⟩ = some (.int .i64 M))) _ _ _ _ ?_
  show wpAnyH _ _ _ _ _ 19 #[false, false, false, false, false, false, false, false, false, false, false, false, false, false, false, false, false, false, false] _ _
  refine take_at 1 10 (v := ?v1) rfl rfl (by kernel_rfl) (by kernel_rfl) (by kernel_rfl) (fun _ _ _ h => h) hS (Or.inl ⟨by rfl, ?y1⟩) ?r1
  case y1 => (intro w hSw; go_simp <;> with_reducible rfl)
  simp only [List.setIfInBounds_toArray, List.set_cons_zero, List.set_cons_succ]
  refine take_at 2 11 (v := ?v2) rfl rfl (by kernel_rfl) (by kernel_rfl) (by kernel_rfl) (fun _ _ _ h => h) hS (Or.inl ⟨by rfl, ?y2⟩) ?r2
  case y2 => (intro w hSw; go_simp <;> with_reducible rfl)
  simp only [List.setIfInBounds_toArray, List.set_cons_zero, List.set_cons_succ]
  refine take_at 4 13 (v := ?v4) rfl rfl (by kernel_rfl) (by kernel_rfl) (by kernel_rfl) (fun _ _ _ h => h) hS (Or.inl ⟨by rfl, ?y4⟩) ?r4
  case y4 => (intro w hSw; go_simp <;> with_reducible rfl)
  simp only [List.setIfInBounds_toArray, List.set_cons_zero, List.set_cons_succ]
  refine take_at 5 14 (v := ?v5) rfl rfl (by kernel_rfl) (by kernel_rfl) (by kernel_rfl) (fun _ _ _ h => h) hS (Or.inl ⟨by rfl, ?y5⟩) ?r5
  case y5 => (intro w hSw; go_simp <;> with_reducible rfl)
  simp only [List.setIfInBounds_toArray, List.set_cons_zero, List.set_cons_succ]
  refine take_at 7 16 (v := ?v7) rfl rfl (by kernel_rfl) (by kernel_rfl) (by kernel_rfl) (fun _ _ _ h => h) hS (Or.inl ⟨by rfl, ?y7⟩) ?r7
  case y7 => (intro w hSw; go_simp <;> with_reducible rfl)
  simp only [List.setIfInBounds_toArray, List.set_cons_zero, List.set_cons_succ]
  refine take_at 8 17 (v := ?v8) rfl rfl (by kernel_rfl) (by kernel_rfl) (by kernel_rfl) (fun _ _ _ h => h) hS (Or.inl ⟨by rfl, ?y8⟩) ?r8
  case y8 => (intro w hSw; go_simp <;> with_reducible rfl)
  simp only [List.setIfInBounds_toArray, List.set_cons_zero, List.set_cons_succ]
  refine take_at 10 19 (v := ?v10) rfl rfl (by kernel_rfl) (by kernel_rfl) (by kernel_rfl) (fun _ _ _ h => h) hS (Or.inl ⟨by rfl, ?y10⟩) ?r10
  case y10 => (intro w hSw; go_simp <;> with_reducible rfl)
  simp only [List.setIfInBounds_toArray, List.set_cons_zero, List.set_cons_succ]
  refine take_at 11 20 (v := ?v11) rfl rfl (by kernel_rfl) (by kernel_rfl) (by kernel_rfl) (fun _ _ _ h => h) hS (Or.inl ⟨by rfl, ?y11⟩) ?r11
  case y11 => (intro w hSw; go_simp <;> with_reducible rfl)
  simp only [List.setIfInBounds_toArray, List.set_cons_zero, List.set_cons_succ]
  refine take_at 12 21 (v := ?v12) rfl rfl (by kernel_rfl) (by kernel_rfl) (by kernel_rfl) (fun _ _ _ h => h) hS (Or.inl ⟨by rfl, ?y12⟩) ?r12
  case y12 => (intro w hSw; go_simp <;> with_reducible rfl)
  simp only [List.setIfInBounds_toArray, List.set_cons_zero, List.set_cons_succ]
  refine take_at 13 22 (v := ?v13) rfl rfl (by kernel_rfl) (by kernel_rfl) (by kernel_rfl) (fun _ _ _ h => h) hS (Or.inl ⟨by rfl, ?y13⟩) ?r13
  case y13 => (intro w hSw; go_simp <;> with_reducible rfl)
  simp only [List.setIfInBounds_toArray, List.set_cons_zero, List.set_cons_succ]
  refine take_at 14 23 (v := ?v14) rfl rfl (by kernel_rfl) (by kernel_rfl) (by kernel_rfl) (fun _ _ _ h => h) hS (Or.inl ⟨by rfl, ?y14⟩) ?r14
  case y14 => (intro w hSw; go_simp <;> with_reducible rfl)
  simp only [List.setIfInBounds_toArray, List.set_cons_zero, List.set_cons_succ]
  refine ordered (fun listed a W => ∃ (x : Nat → Nat) (L : Nat → Bool) (b d : Bool) (y0 y3 y5 y6 y7 y8 y10 y13 y16 y19 y20 y21 y22 y26 y27 y28 y29 y30 y31 y32 y33 y34 y35 y36 y37 y38 y39 y40 y41 y42 y43 y44 : Value), listed = #[L 0, true, true, L 1, true, true, L 2, true, true, L 3, true, true, true, true, true, L 4, b, L 5, d] ∧ a = ⟨#[y0, .pointer (some ⟨w.heap.size, 0, none⟩), .pointer (some ⟨w.heap.size + 1, 0, none⟩), y3, pv L x, y5, y6, y7, y8, sv L x (nn T M K) 0, y10, .int .i64 (T : Int), sv L x (nn T M K) 1, y13, .int .i64 (M : Int), sv L x (nn T M K) 2, y16, .int .i64 (M : Int), sv L x (nn T M K) 3, y19, y20, y21, y22, .int .i64 ((M : Int) * (K : Int)), sv L x (nn T M K) 4, bv b x (nn T M K), y26, y27, y28, y29, y30, y31, y32, y33, y34, y35, y36, y37, y38, y39, y40, y41, y42, y43, y44], []⟩ ∧ State w1 (nn T M K) x L b d W) ?step ?done 8 _ _ _ (Nat.le_of_eq (by kernel_rfl)) ?init hS
  case init => exact ⟨fun _ => 0, fun _ => false, false, false, _, _, _, _, _, _, _, _, _, _, _, _, _, _, _, _, _, _, _, _, _, _, _, _, _, _, _, _, _, _, _, _, rfl, rfl, State.start _ _ _⟩
  case step =>
    rintro listed a W i ⟨x, L, b, d, y0, y3, y5, y6, y7, y8, y10, y13, y16, y19, y20, y21, y22, y26, y27, y28, y29, y30, y31, y32, y33, y34, y35, y36, y37, y38, y39, y40, y41, y42, y43, y44, rfl, rfl, hst⟩ hSW hi
    have hin := hi
    obtain ⟨hun, o, ho, hall⟩ := mem_ready.1 hi
    have hilt : i < 19 := (Array.getElem?_eq_some_iff.1 ho).1
    have hHW : w.heap.size < W.heap.size := Nat.lt_of_lt_of_le hHc hst.below.size
    rcases (show i = 0 ∨ i = 1 ∨ i = 2 ∨ i = 3 ∨ i = 4 ∨ i = 5 ∨ i = 6 ∨ i = 7 ∨ i = 8 ∨ i = 9 ∨ i = 10 ∨ i = 11 ∨ i = 12 ∨ i = 13 ∨ i = 14 ∨ i = 15 ∨ i = 16 ∨ i = 17 ∨ i = 18 by omega) with rfl | rfl | rfl | rfl | rfl | rfl | rfl | rfl | rfl | rfl | rfl | rfl | rfl | rfl | rfl | rfl | rfl | rfl | rfl
    · have hl : L 0 = false := by simpa using hun
      obtain ⟨rfl, rfl⟩ := hst.no 0 (by omega) hl
      have ST := Lib.hid (hst.row 0 (by omega) hl)
      have HSW := Lib.hid hSW
      clear hst hSW hi hin hun ho hall hl
      refine wpOp_run rfl rfl fun K' hK => ?_
      go_simp
      exact hK.out _ _ ⟨keep3 HSW.out (Below.heap_alloc _ _ _ hHW), upd x 0 W.heap.size, upd L 0 true, false, false, y0, y3, y5, y6, y7, y8, y10, y13, y16, y19, y20, y21, y22, y26, y27, y28, y29, y30, y31, y32, y33, y34, y35, y36, y37, y38, y39, y40, y41, y42, y43, y44, by simp [upd], by simp [upd, sv, pv, bv, nn], ST.out⟩
    · simp at hun
    · simp at hun
    · have hl : L 1 = false := by simpa using hun
      obtain ⟨rfl, rfl⟩ := hst.no 1 (by omega) hl
      have ST := Lib.hid (hst.row 1 (by omega) hl)
      have HSW := Lib.hid hSW
      clear hst hSW hi hin hun ho hall hl
      refine wpOp_run rfl rfl fun K' hK => ?_
      go_simp
      exact hK.out _ _ ⟨keep3 HSW.out (Below.heap_alloc _ _ _ hHW), upd x 1 W.heap.size, upd L 1 true, false, false, y0, y3, y5, y6, y7, y8, y10, y13, y16, y19, y20, y21, y22, y26, y27, y28, y29, y30, y31, y32, y33, y34, y35, y36, y37, y38, y39, y40, y41, y42, y43, y44, by simp [upd], by simp [upd, sv, pv, bv, nn], ST.out⟩
    · simp at hun
    · simp at hun
    · have hl : L 2 = false := by simpa using hun
      obtain ⟨rfl, rfl⟩ := hst.no 2 (by omega) hl
      have ST := Lib.hid (hst.row 2 (by omega) hl)
      have HSW := Lib.hid hSW
      clear hst hSW hi hin hun ho hall hl
      refine wpOp_run rfl rfl fun K' hK => ?_
      go_simp
      exact hK.out _ _ ⟨keep3 HSW.out (Below.heap_alloc _ _ _ hHW), upd x 2 W.heap.size, upd L 2 true, false, false, y0, y3, y5, y6, y7, y8, y10, y13, y16, y19, y20, y21, y22, y26, y27, y28, y29, y30, y31, y32, y33, y34, y35, y36, y37, y38, y39, y40, y41, y42, y43, y44, by simp [upd], by simp [upd, sv, pv, bv, nn], ST.out⟩
    · simp at hun
    · simp at hun
    · have hl : L 3 = false := by simpa using hun
      obtain ⟨rfl, rfl⟩ := hst.no 3 (by omega) hl
      have ST := Lib.hid (hst.row 3 (by omega) hl)
      have HSW := Lib.hid hSW
      clear hst hSW hi hin hun ho hall hl
      refine wpOp_run rfl rfl fun K' hK => ?_
      go_simp
      exact hK.out _ _ ⟨keep3 HSW.out (Below.heap_alloc _ _ _ hHW), upd x 3 W.heap.size, upd L 3 true, false, false, y0, y3, y5, y6, y7, y8, y10, y13, y16, y19, y20, y21, y22, y26, y27, y28, y29, y30, y31, y32, y33, y34, y35, y36, y37, y38, y39, y40, y41, y42, y43, y44, by simp [upd], by simp [upd, sv, pv, bv, nn], ST.out⟩
    · simp at hun
    · simp at hun
    · simp at hun
    · simp at hun
    · simp at hun
    · have hl : L 4 = false := by simpa using hun
      obtain ⟨rfl, rfl⟩ := hst.no 4 (by omega) hl
      have ST := Lib.hid (hst.row 4 (by omega) hl)
      have HSW := Lib.hid hSW
      clear hst hSW hi hin hun ho hall hl
      refine wpOp_run rfl rfl fun K' hK => ?_
      go_simp
      exact hK.out _ _ ⟨keep3 HSW.out (Below.heap_alloc _ _ _ hHW), upd x 4 W.heap.size, upd L 4 true, false, false, y0, y3, y5, y6, y7, y8, y10, y13, y16, y19, y20, y21, y22, y26, y27, y28, y29, y30, y31, y32, y33, y34, y35, y36, y37, y38, y39, y40, y41, y42, y43, y44, by simp [upd], by simp [upd, sv, pv, bv, nn], ST.out⟩
    · have hb : b = false := by simpa using hun
      subst hb
      simp at ho
      subst ho
      have hl : ∀ j, j < 5 → L j = true := by
        intro j hj
        rcases (show j = 0 ∨ j = 1 ∨ j = 2 ∨ j = 3 ∨ j = 4 by omega) with rfl | rfl | rfl | rfl | rfl
        · simpa using hall ⟨0, .data⟩ (by simp) rfl
        · simpa using hall ⟨3, .data⟩ (by simp) rfl
        · simpa using hall ⟨6, .data⟩ (by simp) rfl
        · simpa using hall ⟨9, .data⟩ (by simp) rfl
        · simpa using hall ⟨15, .data⟩ (by simp) rfl
      have hd : d = false := by
        cases hd : d
        · rfl
        · have := (hst.put_ hd).1; cases this
      subst hd
      have ST := Lib.hid (hst.build rfl hl)
      have HSW := Lib.hid hSW
      have e0 : sv L x (nn T M K) 0 = .slice (some ⟨x 0, 0, none⟩) 3 3 := by simp [sv, hl 0 (by omega), nn]
      have e1 : sv L x (nn T M K) 1 = .slice (some ⟨x 1, 0, none⟩) T T := by simp [sv, hl 1 (by omega), nn]
      have e2 : sv L x (nn T M K) 2 = .slice (some ⟨x 2, 0, none⟩) M M := by simp [sv, hl 2 (by omega), nn]
      have e3 : sv L x (nn T M K) 3 = .slice (some ⟨x 3, 0, none⟩) M M := by simp [sv, hl 3 (by omega), nn]
      have e4 : sv L x (nn T M K) 4 = .slice (some ⟨x 4, 0, none⟩) (M * K) (M * K) := by simp [sv, hl 4 (by omega), nn]
      clear hst hSW hi hin hun hall hl
      refine wpOp_run rfl rfl fun K' hK => ?_
      go_simp
      exact hK.out _ _ ⟨HSW.out, x, L, true, false, y0, y3, y5, y6, y7, y8, y10, y13, y16, y19, y20, y21, y22, y26, y27, y28, y29, y30, y31, y32, y33, y34, y35, y36, y37, y38, y39, y40, y41, y42, y43, y44, by simp, by simp [e0, e1, e2, e3, e4, bv, news, nn], ST.out⟩
    · have hl : L 5 = false := by simpa using hun
      obtain rfl := hst.d_false hl
      have ST := Lib.hid (hst.new hl)
      have HSW := Lib.hid hSW
      clear hst hSW hi hin hun ho hall hl
      refine wpOp_run rfl rfl fun K' hK => ?_
      go_simp
      exact hK.out _ _ ⟨keep3 HSW.out (Below.heap_alloc _ _ _ hHW), upd x 5 W.heap.size, upd L 5 true, b, false, y0, y3, y5, y6, y7, y8, y10, y13, y16, y19, y20, y21, y22, y26, y27, y28, y29, y30, y31, y32, y33, y34, y35, y36, y37, y38, y39, y40, y41, y42, y43, y44, by simp [upd], by simp [upd, sv, pv, bv, nn, news], ST.out⟩
    · have hd : d = false := by simpa using hun
      subst hd
      simp at ho
      subst ho
      have hb : b = true := by simpa using hall ⟨16, .data⟩ (by simp) rfl
      have hl : L 5 = true := by simpa using hall ⟨17, .data⟩ (by simp) rfl
      subst hb
      have ST := Lib.hid (hst.store hl)
      have HSW := Lib.hid hSW
      have hv := hst.var hl
      have hcv : ∀ i, W.cell? ⟨x 5, i, none⟩ = (#[.int .u64 0, .int .u64 0, .slice none 0 0, .slice none 0 0, .int .u64 0, .int .u64 0, .slice none 0 0, .slice none 0 0, .slice none 0 0] : Array Value)[i]? := hv.cell
      have hfv := hv.frozen
      have hx5 : ¬ w.heap.size = x 5 := by have := (hst.made.old hl).1; omega
      have HX5 := Lib.hid hx5
      have ep : pv L x = .pointer (some ⟨x 5, 0, none⟩) := by simp [pv, hl]
      have eb : bv true x (nn T M K) = .agg (#[.int .u64 0, .int .u64 0, .slice (some ⟨x 0, 0, none⟩) 3 3, .slice (some ⟨x 1, 0, none⟩) T T, .int .u64 0, .int .u64 0, .slice (some ⟨x 2, 0, none⟩) M M, .slice (some ⟨x 3, 0, none⟩) M M, .slice (some ⟨x 4, 0, none⟩) (M * K) (M * K)]) := by simp [bv, news, nn]
      clear hst hSW hi hin hun hall hl hv hx5
      refine wpOp_run rfl rfl fun K' hK => ?_
      go_simp
      refine hK.out _ _ ⟨keep3 HSW.out ?_, x, L, true, true, y0, y3, y5, y6, y7, y8, y10, y13, y16, y19, y20, y21, y22, y26, y27, y28, y29, y30, y31, y32, y33, y34, y35, y36, y37, y38, y39, y40, y41, y42, y43, y44, by simp, by simp [ep, eb], ST.out⟩
      simp only [World.setCell, Array.getElem?_modify]
      have hne := HX5.out
      simp [Ne.symm hne]
  case done =>
    rintro listed a W ⟨x, L, b, d, y0, y3, y5, y6, y7, y8, y10, y13, y16, y19, y20, y21, y22, y26, y27, y28, y29, y30, y31, y32, y33, y34, y35, y36, y37, y38, y39, y40, y41, y42, y43, y44, rfl, rfl, hst⟩ hSW hr
    have l0 : L 0 = true := by
      have := all_up hr 0 rfl (by simp)
      simpa using this
    have l1 : L 1 = true := by
      have := all_up hr 3 rfl (by intro e he _; simp at he; subst he; simp)
      simpa using this
    have l2 : L 2 = true := by
      have := all_up hr 6 rfl (by intro e he _; simp at he; subst he; simp)
      simpa using this
    have l3 : L 3 = true := by
      have := all_up hr 9 rfl (by intro e he _; simp at he; subst he; simp)
      simpa using this
    have l4 : L 4 = true := by
      have := all_up hr 15 rfl (by intro e he _; simp at he; subst he; simp)
      simpa using this
    have l5 : L 5 = true := by
      have := all_up hr 17 rfl (by simp)
      simpa using this
    have lb : b = true := by
      have := all_up hr 16 rfl (by intro e he _; simp at he; rcases he with rfl | rfl | rfl | rfl | rfl <;> simp [*])
      simpa using this
    have ld : d = true := by
      have := all_up hr 18 rfl (by intro e he _; simp at he; rcases he with rfl | rfl | rfl | rfl | rfl | rfl | rfl | rfl | rfl | rfl | rfl | rfl | rfl | rfl | rfl | rfl | rfl | rfl | rfl | rfl <;> simp [*])
      simpa using this
    have hl : ∀ j, j < 6 → L j = true := by
      intro j hj
      rcases (show j = 0 ∨ j = 1 ∨ j = 2 ∨ j = 3 ∨ j = 4 ∨ j = 5 by omega) with rfl | rfl | rfl | rfl | rfl | rfl <;> assumption
    subst lb
    subst ld
    rw [show pv L x = .pointer (some ⟨x 5, 0, none⟩) by simp [pv, l5]]
    have HST := Lib.hid hst
    have HL := Lib.hid hl
    have HSW := Lib.hid hSW
    clear hr hst hl l0 l1 l2 l3 l4 l5 hSW hS hmk3 hmkT hmkM hmkS hml
    have h0 : Hold W w1.heap.size (x 5) ⟨0, 0, ⟨some ⟨x 0, 0, none⟩, 3, 3⟩, ⟨some ⟨x 1, 0, none⟩, T, T⟩, 0, 0, ⟨some ⟨x 2, 0, none⟩, M, M⟩, ⟨some ⟨x 3, 0, none⟩, M, M⟩, ⟨some ⟨x 4, 0, none⟩, M * K, M * K⟩⟩ (zeroM K T M) := HST.out.hold HL.out (zeroM K T M) ⟨rfl, rfl, rfl, rfl⟩ ⟨rfl, rfl, rfl, rfl, rfl⟩ (fun j => by unfold nn maxLen; split <;> (try split) <;> (try split) <;> omega)
    have H0 := Lib.hid h0
    have hg1 : w1.heap.size ≤ x 5 := h0.2.1
    have hx2 : w1.heap.size ≤ x 2 ∧ x 2 < W.heap.size := ((h0.2.2.2.2.2.2.2.1 7 (.inr (.inr (.inl rfl)))).lt rfl)
    have hx25 : x 2 ≠ x 5 := (h0.2.2.2.2.2.2.2.2 7 (.inr (.inr (.inl rfl))) _ rfl).1
    have HX2 := Lib.hid hx2
    have HX25 := Lib.hid hx25
    have BW : Hid (Below w1.heap.size w1 W) := Lib.hid HST.out.below
    have XW := Lib.hid (X1.out.below BW.out hHc)
    have YW := Lib.hid (Y1.out.below BW.out Y1.out.lt)
    have hY1 := Y1.out.lt
    have hxW := XW.out.cell
    have hyW := YW.out.cell
    have hfW := YW.out.frozen
    have hvW : ∀ i, W.cell? ⟨x 5, i, none⟩ = (#[.int .u64 0, .int .u64 0, .slice (some ⟨x 0, 0, none⟩) 3 3, .slice (some ⟨x 1, 0, none⟩) T T, .int .u64 0, .int .u64 0, .slice (some ⟨x 2, 0, none⟩) M M, .slice (some ⟨x 3, 0, none⟩) M M, .slice (some ⟨x 4, 0, none⟩) (M * K) (M * K)] : Array Value)[i]? := h0.1.cell
    have hgW := h0.1.frozen
    have hn0 : ¬ w.heap.size = x 5 := by omega
    have hn1 : ¬ w.heap.size + 1 = x 5 := by omega
    have hBB := Lib.hid (B0.out.trans (B1.out.mono B0.out.size))
    clear h0 hx2 hx25 B0 X0 Y0 HST HL HSW
    rcases (show k = 2 ∨ k = 1 ∨ k = 3 by omega) with rfl | rfl | rfl
    · clear hgW k1 k2
      go_wp2
      refine bodyPost_ret (v := .tuple #[.agg #[.int .u64 0, .int .u64 0, .slice (some ⟨x 0, 0, none⟩) 3 3, .slice (some ⟨x 1, 0, none⟩) T T, .int .u64 0, .int .u64 0, .slice (some ⟨x 2, 0, none⟩) M M, .slice (some ⟨x 3, 0, none⟩) M M, .slice (some ⟨x 4, 0, none⟩) (M * K) (M * K)], .int .i64 0]) (by simp [results, Try.results54, go_sem, hyW]) rfl ?_
      refine ⟨⟨0, 0, ⟨some ⟨x 0, 0, none⟩, 3, 3⟩, ⟨some ⟨x 1, 0, none⟩, T, T⟩, 0, 0, ⟨some ⟨x 2, 0, none⟩, M, M⟩, ⟨some ⟨x 3, 0, none⟩, M, M⟩, ⟨some ⟨x 4, 0, none⟩, M * K, M * K⟩⟩, rfl, ⟨rfl, rfl, rfl, rfl⟩, newM_ok _ _ _ _ m2, ?_, ?_⟩
      · refine five_weaken (five_end (z := zeroM K T M) H0.out (fun _ => rfl) (fun k hk _ _ => heap_nine _ _ _ _ _ _ _ _ _ _ _ k (by omega)) ?_ ⟨rfl, rfl, rfl, rfl⟩) hBB.out.size
        show Own _ _ _ (linked M M M)
        rw [linked_zero M M M (by omega)]
        refine (H0.out.2.2.2.2.2.2.2.1 7 (.inr (.inr (.inl rfl)))).kept fun ad had => heap_nine _ _ _ _ _ _ _ _ _ _ _ _ ?_
        injection had with had
        subst had
        have := HX2.out
        show x 2 ≠ _
        omega
      · exact below_nine (hBB.out.trans (BW.out.mono hBB.out.size)) (by omega) _ _ _ _ _ _ _ _ _
    · have O2 : Hid (Own ((W.setCell ⟨x 5, 4, none⟩ (.int .u64 1)).setCell ⟨x 5, 5, none⟩ (.int .u64 1)) w1.heap.size ⟨some ⟨x 2, 0, none⟩, M, M⟩ (List.replicate M 0)) := Lib.hid (((H0.out.2.2.2.2.2.2.2.1 7 (.inr (.inr (.inl rfl)))).far (p := ⟨x 5, 4, none⟩) (fun ad had => by injection had with had; subst had; exact HX25.out) _).far (p := ⟨x 5, 5, none⟩) (fun ad had => by injection had with had; subst had; exact HX25.out) _)
      have V2 : Blk ((W.setCell ⟨x 5, 4, none⟩ (.int .u64 1)).setCell ⟨x 5, 5, none⟩ (.int .u64 1)) (x 5) 33 #[.int .u64 0, .int .u64 0, .slice (some ⟨x 0, 0, none⟩) 3 3, .slice (some ⟨x 1, 0, none⟩) T T, .int .u64 1, .int .u64 1, .slice (some ⟨x 2, 0, none⟩) M M, .slice (some ⟨x 3, 0, none⟩) M M, .slice (some ⟨x 4, 0, none⟩) (M * K) (M * K)] := by
        have hb := (H0.out.1.set_ 4 (.int .u64 1)).set_ 5 (.int .u64 1)
        simp only [R.cells, List.setIfInBounds_toArray, List.set_cons_zero, List.set_cons_succ] at hb
        exact hb
      have X2 : Blk ((W.setCell ⟨x 5, 4, none⟩ (.int .u64 1)).setCell ⟨x 5, 5, none⟩ (.int .u64 1)) w.heap.size 23 #[.int .i64 1, .int .i64 K, .int .i64 T, .int .i64 M] := ((XW.out.far (p := ⟨x 5, 4, none⟩) hn0 (.int .u64 1)).far (p := ⟨x 5, 5, none⟩) hn0 (.int .u64 1))
      have Y2 : Blk ((W.setCell ⟨x 5, 4, none⟩ (.int .u64 1)).setCell ⟨x 5, 5, none⟩ (.int .u64 1)) (w.heap.size + 1) 33 #[.int .u64 0, .int .u64 0, .slice none 0 0, .slice none 0 0, .int .u64 0, .int .u64 0, .slice none 0 0, .slice none 0 0, .slice none 0 0] := ((YW.out.far (p := ⟨x 5, 4, none⟩) hn1 (.int .u64 1)).far (p := ⟨x 5, 5, none⟩) hn1 (.int .u64 1))
      have BE : Hid (Below w1.heap.size w1 ((W.setCell ⟨x 5, 4, none⟩ (.int .u64 1)).setCell ⟨x 5, 5, none⟩ (.int .u64 1))) := Lib.hid ((BW.out.setCell (p := ⟨x 5, 4, none⟩) hg1 (.int .u64 1)).setCell (p := ⟨x 5, 5, none⟩) hg1 (.int .u64 1))
      have HE : Hid (∀ k, k ≠ x 5 → ((W.setCell ⟨x 5, 4, none⟩ (.int .u64 1)).setCell ⟨x 5, 5, none⟩ (.int .u64 1)).heap[k]? = W.heap[k]?) := Lib.hid fun k hk5 => (Below.heap_setCell _ ⟨x 5, 5, none⟩ _ k hk5).trans (Below.heap_setCell _ ⟨x 5, 4, none⟩ _ k hk5)
      have V2H := Lib.hid V2
      have X2H := Lib.hid X2
      have Y2H := Lib.hid Y2
      clear V2 X2 Y2
      go_wp2_with (first | (go_at_call 39; refine (ref0_c _ _ (by omega) (by omega)).mono ?_; rintro e w' ⟨rfl, rfl⟩) | (go_at_call 86; refine (chain_c _ w1.heap.size (x 2) M 1 O2.out (by omega) m1 m2).mono ?_; rintro e w3 ⟨rfl, ho3, hj3⟩; have O3 := Lib.hid ho3; have J3 := Lib.hid hj3; have V3 := Lib.hid (V2H.out.grown hj3.1 (fun e => HX25.out (by injection e with e; exact e.symm))); go_must (have X3 := Lib.hid (X2H.out.grown hj3.1 (fun e => by injection e with e; have := HX2.out; omega)); have Y3 := Lib.hid (Y2H.out.grown hj3.1 (fun e => by injection e with e; have := HX2.out; omega))); have hv3 := V3.out.cell; have hg3 := V3.out.frozen; have hy3 := Y3.out.cell; have hf3 := Y3.out.frozen; clear ho3 hj3))
      refine bodyPost_ret (v := .tuple #[.agg #[.int .u64 0, .int .u64 2, .slice (some ⟨x 0, 0, none⟩) 3 3, .slice (some ⟨x 1, 0, none⟩) T T, .int .u64 1, .int .u64 1, .slice (some ⟨x 2, 0, none⟩) M M, .slice (some ⟨x 3, 0, none⟩) M M, .slice (some ⟨x 4, 0, none⟩) (M * K) (M * K)], .int .i64 0]) (by simp [results, Try.results54, go_sem, hy3]) rfl ?_
      have hx2 := HX2.out
      have J := J3.out
      have hj (k : Nat) (hk : k < W.heap.size) (h5 : k ≠ x 5) (h2 : k ≠ x 2) : w3.heap[k]? = W.heap[k]? := (J.1.block k (by simp only [size_set]; exact hk) (fun e => h2 (by injection e))).trans (HE.out k h5)
      refine ⟨⟨0, 2, ⟨some ⟨x 0, 0, none⟩, 3, 3⟩, ⟨some ⟨x 1, 0, none⟩, T, T⟩, 1, 1, ⟨some ⟨x 2, 0, none⟩, M, M⟩, ⟨some ⟨x 3, 0, none⟩, M, M⟩, ⟨some ⟨x 4, 0, none⟩, M * K, M * K⟩⟩, rfl, ⟨rfl, rfl, rfl, rfl⟩, newM_ok _ _ _ _ m2, ?_, ?_⟩
      · refine five_weaken (five_end (z := zeroM K T M) H0.out (fun a => rfl) (fun k hk h5 h7 => ?_) ?_ ⟨rfl, rfl, rfl, rfl⟩) hBB.out.size
        · refine (heap_nine _ _ _ _ _ _ _ _ _ _ _ k (by omega)).trans ((Below.heap_setCell _ ⟨x 5, 1, none⟩ _ k h5).trans ?_)
          rcases Nat.lt_or_ge k W.heap.size with hlt | hge
          · exact hj k hlt h5 (h7 _ rfl)
          · have hz : w3.heap.size = W.heap.size := by rw [J.2]; simp only [size_set]
            rw [Array.getElem?_eq_none hge, Array.getElem?_eq_none (by omega)]
        · show Own _ _ ⟨some ⟨x 2, 0, none⟩, M, M⟩ (linked 1 M M)
          exact own_kept_at O3.out ((heap_nine _ _ _ _ _ _ _ _ _ _ _ _ (show x 2 ≠ w.heap.size + 1 by omega)).trans (Below.heap_setCell _ ⟨x 5, 1, none⟩ _ _ HX25.out))
      · have hb3 : Below w1.heap.size w1 w3 := BE.out.trans (just_below J hx2.1 BE.out.size)
        exact below_nine ((hBB.out.trans (hb3.mono hBB.out.size)).setCell (p := ⟨x 5, 1, none⟩) (by have := hBB.out.size; show w.heap.size ≤ x 5; omega) _) (by omega) _ _ _ _ _ _ _ _ _
    · have O2 : Hid (Own W w1.heap.size ⟨some ⟨x 2, 0, none⟩, M, M⟩ (List.replicate M 0)) := Lib.hid (H0.out.2.2.2.2.2.2.2.1 7 (.inr (.inr (.inl rfl))))
      have V2 : Blk W (x 5) 33 #[.int .u64 0, .int .u64 0, .slice (some ⟨x 0, 0, none⟩) 3 3, .slice (some ⟨x 1, 0, none⟩) T T, .int .u64 0, .int .u64 0, .slice (some ⟨x 2, 0, none⟩) M M, .slice (some ⟨x 3, 0, none⟩) M M, .slice (some ⟨x 4, 0, none⟩) (M * K) (M * K)] := by
        exact H0.out.1
      have X2 : Blk W w.heap.size 23 #[.int .i64 3, .int .i64 K, .int .i64 T, .int .i64 M] := XW.out
      have Y2 : Blk W (w.heap.size + 1) 33 #[.int .u64 0, .int .u64 0, .slice none 0 0, .slice none 0 0, .int .u64 0, .int .u64 0, .slice none 0 0, .slice none 0 0, .slice none 0 0] := YW.out
      have BE : Hid (Below w1.heap.size w1 W) := Lib.hid BW.out
      have HE : Hid (∀ k, k ≠ x 5 → W.heap[k]? = W.heap[k]?) := Lib.hid fun k hk5 => rfl
      have V2H := Lib.hid V2
      have X2H := Lib.hid X2
      have Y2H := Lib.hid Y2
      clear V2 X2 Y2
      go_wp2_with (first | (go_at_call 39; refine (ref0_c _ _ (by omega) (by omega)).mono ?_; rintro e w' ⟨rfl, rfl⟩) | (go_at_call 86; refine (chain_c _ w1.heap.size (x 2) M 0 O2.out (by omega) m1 m2).mono ?_; rintro e w3 ⟨rfl, ho3, hj3⟩; have O3 := Lib.hid ho3; have J3 := Lib.hid hj3; have V3 := Lib.hid (V2H.out.grown hj3.1 (fun e => HX25.out (by injection e with e; exact e.symm))); go_must (have X3 := Lib.hid (X2H.out.grown hj3.1 (fun e => by injection e with e; have := HX2.out; omega)); have Y3 := Lib.hid (Y2H.out.grown hj3.1 (fun e => by injection e with e; have := HX2.out; omega))); have hv3 := V3.out.cell; have hg3 := V3.out.frozen; have hy3 := Y3.out.cell; have hf3 := Y3.out.frozen; clear ho3 hj3))
      refine bodyPost_ret (v := .tuple #[.agg #[.int .u64 0, .int .u64 1, .slice (some ⟨x 0, 0, none⟩) 3 3, .slice (some ⟨x 1, 0, none⟩) T T, .int .u64 0, .int .u64 0, .slice (some ⟨x 2, 0, none⟩) M M, .slice (some ⟨x 3, 0, none⟩) M M, .slice (some ⟨x 4, 0, none⟩) (M * K) (M * K)], .int .i64 0]) (by simp [results, Try.results54, go_sem, hy3]) rfl ?_
      have hx2 := HX2.out
      have J := J3.out
      have hj (k : Nat) (hk : k < W.heap.size) (h5 : k ≠ x 5) (h2 : k ≠ x 2) : w3.heap[k]? = W.heap[k]? := J.1.block k hk (fun e => h2 (by injection e))
      refine ⟨⟨0, 1, ⟨some ⟨x 0, 0, none⟩, 3, 3⟩, ⟨some ⟨x 1, 0, none⟩, T, T⟩, 0, 0, ⟨some ⟨x 2, 0, none⟩, M, M⟩, ⟨some ⟨x 3, 0, none⟩, M, M⟩, ⟨some ⟨x 4, 0, none⟩, M * K, M * K⟩⟩, rfl, ⟨rfl, rfl, rfl, rfl⟩, newM_ok _ _ _ _ m2, ?_, ?_⟩
      · refine five_weaken (five_end (z := zeroM K T M) H0.out (fun a => rfl) (fun k hk h5 h7 => ?_) ?_ ⟨rfl, rfl, rfl, rfl⟩) hBB.out.size
        · refine (heap_nine _ _ _ _ _ _ _ _ _ _ _ k (by omega)).trans ((Below.heap_setCell _ ⟨x 5, 1, none⟩ _ k h5).trans ?_)
          rcases Nat.lt_or_ge k W.heap.size with hlt | hge
          · exact hj k hlt h5 (h7 _ rfl)
          · have hz : w3.heap.size = W.heap.size := by rw [J.2]
            rw [Array.getElem?_eq_none hge, Array.getElem?_eq_none (by omega)]
        · show Own _ _ ⟨some ⟨x 2, 0, none⟩, M, M⟩ (linked 0 M M)
          exact own_kept_at O3.out ((heap_nine _ _ _ _ _ _ _ _ _ _ _ _ (show x 2 ≠ w.heap.size + 1 by omega)).trans (Below.heap_setCell _ ⟨x 5, 1, none⟩ _ _ HX25.out))
      · have hb3 : Below w1.heap.size w1 w3 := BE.out.trans (just_below J hx2.1 BE.out.size)
        exact below_nine ((hBB.out.trans (hb3.mono hBB.out.size)).setCell (p := ⟨x 5, 1, none⟩) (by have := hBB.out.size; show w.heap.size ≤ x 5; omega) _) (by omega) _ _ _ _ _ _ _ _ _
end Go.Proofs.Ytffppdcpiieapaa.Newc

namespace Go.Proofs.Ytffppdcpiieapaa.Memc
open Go.RowKit
set_option linter.unusedVariables false
set_option maxRecDepth 100000

/-- the world is as it was but for the blocks of P, and new ones -/
structure Only (P : Nat → Prop) (w w' : World) : Prop where
  os : w'.os = w.os
  tape : w'.tape = w.tape
  output : w'.output = w.output
  size : w.heap.size ≤ w'.heap.size
  block : ∀ k, k < w.heap.size → ¬ P k → w'.heap[k]? = w.heap[k]?
section
variable {P Q : Nat → Prop} {w w' w'' : World}
theorem Only.refl (P : Nat → Prop) (w : World) : Only P w w := ⟨rfl, rfl, rfl, Nat.le_refl _, fun _ _ _ => rfl⟩
theorem Only.trans (h : Only P w w') (k : Only P w' w'') : Only P w w'' :=
  ⟨k.os.trans h.os, k.tape.trans h.tape, k.output.trans h.output, Nat.le_trans h.size k.size, fun i hi hp => (k.block i (Nat.lt_of_lt_of_le hi h.size) hp).trans (h.block i hi hp)⟩
theorem Only.mono (h : Only P w w') (hq : ∀ k, P k → Q k) : Only Q w w' := ⟨h.os, h.tape, h.output, h.size, fun k hk hn => h.block k hk (fun hp => hn (hq k hp))⟩
theorem Only.next (h : Only P w w') (k : Only Q w' w'') (hq : ∀ k, k < w.heap.size → Q k → P k) : Only P w w'' :=
  ⟨k.os.trans h.os, k.tape.trans h.tape, k.output.trans h.output, Nat.le_trans h.size k.size, fun i hi hp => (k.block i (Nat.lt_of_lt_of_le hi h.size) (fun hk => hp (hq i hi hk))).trans (h.block i hi hp)⟩
theorem Only.alloc (h : Only P w w') (o : Obj) : Only P w (w'.alloc o) :=
  h.trans ⟨rfl, rfl, rfl, by simp, fun k hk _ => Below.heap_alloc _ _ _ hk⟩
theorem Only.drew (h : Only P w w') : Only P w w'.drew := ⟨h.os, h.tape, h.output, h.size, h.block⟩
theorem Only.drewN (h : Only P w w') (n : Nat) : Only P w (w'.drewN n) := ⟨h.os, h.tape, h.output, h.size, h.block⟩
theorem Only.set_ (h : Only P w w') (p : Addr) (hp : P p.block ∨ w.heap.size ≤ p.block) (v : Value) : Only P w (w'.setCell p v) :=
  ⟨h.os, h.tape, h.output, by simpa [World.setCell] using h.size, fun k hk hn => (Below.heap_setCell w' p v k (fun e => by
    rcases hp with hp | hp
    · exact hn (e ▸ hp)
    · omega)).trans (h.block k hk hn)⟩
theorem Only.below (h : Only P w w') {B : Nat} (hB : B ≤ w.heap.size) (hp : ∀ k, P k → B ≤ k) : Below B w w' :=
  ⟨h.os, h.tape, h.output, h.size, fun k hk => h.block k (by omega) (fun hpk => by have := hp k hpk; omega)⟩
theorem Only.of_below {B : Nat} (h : Below B w w') (hB : w.heap.size ≤ B) : Only P w w' := ⟨h.os, h.tape, h.output, h.size, fun k hk _ => h.block k (by omega)⟩
theorem Blk.only {g : Nat} {t : TypeId} {cs : Array Value} (h : Blk w g t cs) (ho : Only P w w') (hg : ¬ P g) : Blk w' g t cs := h.moved (ho.block g h.lt hg)
theorem Only.cell (h : Only P w w') {b o : Nat} (hb : b < w.heap.size) (hn : ¬ P b) : w'.cell? ⟨b, o, none⟩ = w.cell? ⟨b, o, none⟩ := World.cell?_of_block (w := w) (a := ⟨b, o, none⟩) (h.block b hb hn)
/-- blocks of two types are two -/
theorem Blk.ne {g k : Nat} {t u : TypeId} {cs ds : Array Value} (h : Blk w g t cs) (h' : Blk w k u ds) (hne : t ≠ u) : g ≠ k := by
  rintro rfl
  unfold Blk at h h'
  rw [h] at h'
  injection h' with h'
  injection h' with _ h'
  exact hne h'
end


section
variable {w : World} {g : Nat} {t : TypeId}
theorem blk1_set {d0 : Value} (h : Blk w g t #[d0]) (v0 : Value) : Blk (w.setCell ⟨g, 0, none⟩ v0) g t #[v0] := by
  have := h.set_ 0 v0
  simpa only [List.setIfInBounds_toArray, List.set_cons_zero, List.set_cons_succ] using this
theorem blk5_set {d0 d1 d2 d3 d4 : Value} (h : Blk w g t #[d0, d1, d2, d3, d4]) (v0 v1 v2 v3 v4 : Value) :
    Blk (((((w.setCell ⟨g, 0, none⟩ v0).setCell ⟨g, 1, none⟩ v1).setCell ⟨g, 2, none⟩ v2).setCell ⟨g, 3, none⟩ v3).setCell ⟨g, 4, none⟩ v4) g t #[v0, v1, v2, v3, v4] := by
  have := ((((h.set_ 0 v0).set_ 1 v1).set_ 2 v2).set_ 3 v3).set_ 4 v4
  simpa only [List.setIfInBounds_toArray, List.set_cons_zero, List.set_cons_succ] using this
theorem blk5_far {k : Nat} {cs : Array Value} (h : Blk w k t cs) (hne : k ≠ g) (v0 v1 v2 v3 v4 : Value) :
    Blk (((((w.setCell ⟨g, 0, none⟩ v0).setCell ⟨g, 1, none⟩ v1).setCell ⟨g, 2, none⟩ v2).setCell ⟨g, 3, none⟩ v3).setCell ⟨g, 4, none⟩ v4) k t cs :=
  ((((h.far (p := ⟨g, 0, none⟩) hne _).far (p := ⟨g, 1, none⟩) hne _).far (p := ⟨g, 2, none⟩) hne _).far (p := ⟨g, 3, none⟩) hne _).far (p := ⟨g, 4, none⟩) hne _
theorem Only.set5 {P : Nat → Prop} {w0 : World} (h : Only P w0 w) (hg : P g ∨ w0.heap.size ≤ g) (v0 v1 v2 v3 v4 : Value) :
    Only P w0 (((((w.setCell ⟨g, 0, none⟩ v0).setCell ⟨g, 1, none⟩ v1).setCell ⟨g, 2, none⟩ v2).setCell ⟨g, 3, none⟩ v3).setCell ⟨g, 4, none⟩ v4) :=
  ((((h.set_ ⟨g, 0, none⟩ hg _).set_ ⟨g, 1, none⟩ hg _).set_ ⟨g, 2, none⟩ hg _).set_ ⟨g, 3, none⟩ hg _).set_ ⟨g, 4, none⟩ hg _
theorem Blk.drewN {cs : Array Value} (h : Blk w g t cs) (n : Nat) : Blk (w.drewN n) g t cs := h.moved rfl
end
end Go.Proofs.Ytffppdcpiieapaa.Memc
namespace Go.Proofs.Ytffppdcpiieapaa.Procc
open Go.RowKit Go.Proofs.Ytffppdcpiieapaa.Memc
set_option linter.unusedVariables false
set_option maxRecDepth 100000

/-- whether something was put, as a number -/
def num (b : Bool) : Int := if b = true then 1 else 0

/-- what asking for an access, that isn't done yet, comes to -/
def Asked (w : World) (gm gx : Nat) (a : Acc) (e : Ending) (w' : World) : Prop :=
  e = .panicked [{ v := .iface 197 (.agg #[]), recovered := false }] ∧ Blk w' gm 4 #[.bool true] ∧ Blk w' gx 57 #[.int .i64 a.d, .int .i64 a.ar, .int .i64 a.at_, .int .u64 a.old, .int .u64 a.new] ∧ Only (fun k => k = gm ∨ k = gx) w w'

set_option maxHeartbeats 1000000 in
theorem do_ask (w : World) (gn gp gm gx P : Nat) (run : Value) (A : Option Addr) (n c : Nat) (a : Acc) (ask ov : Bool) (cd ou : Int)
    (hn : Blk w gn 3 #[.int .i64 n]) (hp : Blk w gp 123 #[.pointer (some ⟨P, 0, none⟩)]) (hm : Blk w gm 4 #[.bool false]) (hx : Blk w gx 57 #[.int .i64 0, .int .i64 0, .int .i64 0, .int .u64 0, .int .u64 0])
    (hq : Blk w P 126 #[run, .slice A n c, .bool ask, .bool ov, .int .i64 cd, .int .u32 ou]) :
    Calls Try.prog 149 #[.agg #[.int .i64 a.d, .int .i64 a.ar, .int .i64 a.at_, .int .u64 a.old, .int .u64 a.new], .pointer (some ⟨gn, 0, none⟩), .pointer (some ⟨gp, 0, none⟩), .pointer (some ⟨gm, 0, none⟩), .pointer (some ⟨gx, 0, none⟩)] w (Asked w gm gx a) := by
  have hmx : ¬ gm = gx := Blk.ne hm hx (by decide)
  have hxm : ¬ gx = gm := fun e => hmx e.symm
  have hcn := hn.cell
  have hfn := hn.frozen
  have hzn := hn.lt
  have hcp := hp.cell
  have hfp := hp.frozen
  have hzp := hp.lt
  have hcm := hm.cell
  have hfm := hm.frozen
  have hzm := hm.lt
  have hcx := hx.cell
  have hfx := hx.frozen
  have hzx := hx.lt
  have hcq := hq.cell
  have hfq := hq.frozen
  have hzq := hq.lt
  have HN := Lib.hid hn
  have HP := Lib.hid hp
  have HM := Lib.hid hm
  have HX := Lib.hid hx
  have HQ := Lib.hid hq
  clear hn hp hm hx hq
  go_enter Try.func149, Try.ntmps149
  go_wp2
  go_quiet (fail)
  go_wp2
  refine ⟨rfl, rfl, blk1_set ((blk5_far (((HM.out.alloc _).drewN _)) hmx _ _ _ _ _)) _, ((blk5_set ((HX.out.alloc _).drewN _) _ _ _ _ _).far hxm _), ?_⟩
  exact Only.set_ ((((Only.refl _ _).alloc _).drewN _).set5 (.inl (.inr rfl)) _ _ _ _ _) ⟨gm, 0, none⟩ (.inl (.inl rfl)) _

/-- what asking for an access that was done already comes to -/
def Told (w : World) (gn k : Nat) (was : Int) (dn : Bool) (e : Ending) (w' : World) : Prop :=
  e = .returned (.tuple #[.int .u64 was, .bool dn]) ∧ Blk w' gn 3 #[.int .i64 ((k : Int) + 1)] ∧ Only (fun g => g = gn) w w'

set_option maxHeartbeats 1000000 in
theorem do_tell (w : World) (gn gp gm gx P : Nat) (run : Value) (fb fo n c k : Nat) (a : Acc) (ask ov m : Bool) (cd ou was : Int) (dn : Bool)
    (hn : Blk w gn 3 #[.int .i64 k]) (hp : Blk w gp 123 #[.pointer (some ⟨P, 0, none⟩)])
    (hq : Blk w P 126 #[run, .slice (some ⟨fb, fo, none⟩) n c, .bool ask, .bool ov, .int .i64 cd, .int .u32 ou])
    (hk : k < n) (hl : n ≤ maxLen) (h1 : w.cell? ⟨fb, fo + k * 2, none⟩ = some (.int .u64 was)) (h2 : w.cell? ⟨fb, fo + k * 2 + 1, none⟩ = some (.bool dn)) (hnf : ¬ fb = gn) :
    Calls Try.prog 149 #[.agg #[.int .i64 a.d, .int .i64 a.ar, .int .i64 a.at_, .int .u64 a.old, .int .u64 a.new], .pointer (some ⟨gn, 0, none⟩), .pointer (some ⟨gp, 0, none⟩), .pointer (some ⟨gm, 0, none⟩), .pointer (some ⟨gx, 0, none⟩)] w (Told w gn k was dn) := by
  have hne : ¬ (k : Int) = n := by omega
  have i0 : (0 : Int) ≤ k := by omega
  have i1 : (k : Int) < n := by omega
  have i2 : (n : Int) ≤ 9223372036854775807 := by unfold maxLen at hl; omega
  have hbf := World.block_lt_of_cell? _ _ h1
  clear hl hk
  have hcn := hn.cell
  have hfn := hn.frozen
  have hzn := hn.lt
  have hcp := hp.cell
  have hfp := hp.frozen
  have hzp := hp.lt
  have hcq := hq.cell
  have hfq := hq.frozen
  have hzq := hq.lt
  have HN := Lib.hid hn
  have HP := Lib.hid hp
  have HQ := Lib.hid hq
  clear hn hp hq
  go_enter Try.func149, Try.ntmps149
  go_wp2
  go_quiet (fail)
  go_wp2
  go_region
  all_goals
    go_wp2
    go_quiet (fail)
    go_wp2
    go_ret2
    exact ⟨rfl, ((((blk1_set ((HN.out.alloc _).drewN _) _).alloc _).drewN _)), Only.drewN (Only.alloc (Only.set_ (((Only.refl (fun g => g = gn) w).alloc _).drewN _) ⟨gn, 0, none⟩ (.inl rfl) _) _) _⟩

/-- what is left to be done when a call is gone through: a pause that asked for an access is caught -/
theorem catch_asked (gm gp : Nat) (u : TypeId) (pv : Value) (older : List PanicEntry) (w : World) (hm : Blk w gm 4 #[.bool true]) :
    CallsD Try.prog 148 #[.pointer (some ⟨gm, 0, none⟩), .pointer (some ⟨gp, 0, none⟩)] (.panicking ({ v := .iface u pv, recovered := false } :: older)) w fun e u' w' =>
      e = .returned (.tuple #[]) ∧ u' = .panicking ({ v := .iface u pv, recovered := true } :: older) ∧ w' = w := by
  have hc := hm.cell 0
  simp only [List.getElem?_toArray, List.getElem?_cons_zero] at hc
  refine callsD_of_wpS Try.func148 rfl fun c₀ cs hu => ?_
  apply wpS_seq
  apply wpS_region
  simp [wpOpsS, go_sem, recoverD, hu, Try.ntmps148, Exit.thenS, hc]
  refine wpS_cond (t := false) (by simp [Act.eval, Array.replicate]) ?_
  simp only [Bool.false_eq_true, if_false]
  refine wpS_of_wp (wp_skip ?_)
  cases c₀
  simp_all [bodyPostS, results, Try.results148]

theorem catch_idle (gm gp : Nat) (w : World) :
    CallsD Try.prog 148 #[.pointer (some ⟨gm, 0, none⟩), .pointer (some ⟨gp, 0, none⟩)] .returning w fun e u' w' => e = .returned (.tuple #[]) ∧ u' = .returning ∧ w' = w := by
  refine callsD_of_wpS Try.func148 rfl fun c₀ cs hu => ?_
  apply wpS_seq
  apply wpS_region
  simp [wpOpsS, go_sem, recoverD, hu, Try.ntmps148, Exit.thenS]
  refine wpS_cond (t := false) (by simp [Act.eval, Array.replicate]) ?_
  simp only [Bool.false_eq_true, if_false]
  refine wpS_of_wp (wp_skip ?_)
  cases c₀
  simp_all [bodyPostS, results, Try.results148]

/-- a call is gone through, up to its first access -/
def Thru (w : World) (P : Nat) (run : Value) (A : Option Addr) (n c : Nat) (ask ov : Bool) (cd ou cd' ou' : Int) (v : Array Value) (m : Bool) (e : Ending) (w' : World) : Prop :=
  e = .returned (.tuple #[.agg v, .bool m]) ∧ Blk w' P 126 #[run, .slice A n c, .bool ask, .bool ov, .int .i64 cd', .int .u32 ou'] ∧ Only (fun g => g = P) w w'

end Go.Proofs.Ytffppdcpiieapaa.Procc
