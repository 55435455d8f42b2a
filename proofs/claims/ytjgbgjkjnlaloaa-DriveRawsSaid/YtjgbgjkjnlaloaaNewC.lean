/- Linking segments, by the program's chain: its contract; and the words at first, as mathematics. -/
import Derived.Test.YtjgbgjkjnlaloaaNewA
import Derived.Test.YtjgbgjkjnlaloaaWordS
namespace Go.Proofs.Ytjgbgjkjnlaloaa.Newc
open Go.RowKit Go.Proofs.Ytjgbgjkjnlaloaa.Memc Go.Proofs.Ytjgbgjkjnlaloaa.Wordc
set_option linter.unusedVariables false
set_option maxRecDepth 100000

/-- links of n segments from h on, as far as j -/
def linked (h n j : Nat) : List Int := (List.range n).map fun i => if h ≤ i ∧ i + 1 < j then (i : Int) + 2 else 0
theorem linked_len (h n j : Nat) : (linked h n j).length = n := by simp [linked]
theorem linked_zero (h n j : Nat) (hj : j ≤ h + 1) : linked h n j = List.replicate n 0 := by
  refine List.ext_getElem (by simp [linked]) fun i h1 h2 => ?_
  simp only [linked, List.getElem_map, List.getElem_range, List.getElem_replicate]
  rw [if_neg (by omega)]
theorem linked_set (h n p : Nat) (hp : h ≤ p) (hn : p + 1 < n) : (linked h n (p + 1)).set p ((p : Int) + 2) = linked h n (p + 2) := by
  refine List.ext_getElem (by simp [linked]) fun i h1 h2 => ?_
  rw [List.getElem_set]
  simp only [linked, List.getElem_map, List.getElem_range]
  by_cases hpi : p = i
  · subst hpi
    rw [if_pos rfl, if_pos (by omega)]
  · rw [if_neg hpi]
    by_cases hc : h ≤ i ∧ i + 1 < p + 1
    · rw [if_pos hc, if_pos (by omega)]
    · rw [if_neg hc, if_neg (by omega)]
theorem linked_ok (h n j : Nat) (hn : n ≤ 100) : u64s (linked h n j) := by
  intro x hx
  obtain ⟨i, hi, rfl⟩ := List.mem_map.1 hx
  have := List.mem_range.1 hi
  split <;> omega

/-- the words at first -/
def newM (k : Int) (K T M : Nat) : Memc.M :=
  { e := 0, f := if k = 1 then 2 else if k = 3 then 1 else 0, li := List.replicate 3 0, pi := List.replicate T 0, h := if k = 1 then 1 else 0, t := if k = 1 then 1 else 0,
    lk := linked (if k = 1 then 1 else if k = 3 then 0 else M) M M, nx := List.replicate M 0, sl := List.replicate (M * K) 0 }

theorem ref0_c (x : Int) (w : World) (x0 : 0 ≤ x) (x1 : x ≤ 1000) :
    Calls Try.prog 45 #[.int .u32 0, .int .i64 x] w fun e w' => e = .returned (.int .u64 (x + 1)) ∧ w = w' :=
  (ref_c 0 x w (by omega) (by omega) (by omega) (by omega)).mono fun e w' ⟨he, hw⟩ => ⟨by rw [he]; exact ret_int (by omega), hw⟩

/-- only block g has changed -/
def Just (g : Nat) (w w' : World) : Prop := w.grownBy w' (some g) ∧ w'.heap.size = w.heap.size
theorem Just.refl (g : Nat) (w : World) : Just g w w := ⟨World.grownBy.refl w _, rfl⟩
theorem Just.set_ {g : Nat} {w w' : World} (h : Just g w w') (i : Nat) (v : Value) : Just g w (w'.setCell ⟨g, i, none⟩ v) := by
  refine ⟨⟨h.1.os, h.1.tape, h.1.output, by rw [size_set]; exact h.1.size, fun k hk hne => ?_⟩, by rw [size_set]; exact h.2⟩
  exact (Below.heap_setCell w' ⟨g, i, none⟩ v k (fun e => hne (by rw [e]))).trans (h.1.block k hk hne)

theorem Just.drew {g : Nat} {w w' : World} (h : Just g w w') : Just g w w'.drew := ⟨⟨h.1.os, h.1.tape, h.1.output, h.1.size, h.1.block⟩, h.2⟩
theorem linked_skip (h n p : Nat) (hp : p < h) : linked h n (p + 2) = linked h n (p + 1) := by
  refine List.ext_getElem (by simp [linked]) fun i h1 h2 => ?_
  simp only [linked, List.getElem_map, List.getElem_range]
  by_cases hc : h ≤ i ∧ i + 1 < p + 1
  · rw [if_pos hc, if_pos (by omega)]
  · rw [if_neg hc, if_neg (by omega)]
theorem just_below {g B : Nat} {w w' : World} (h : Just g w w') (hg : B ≤ g) (hw : B ≤ w.heap.size) : Below B w w' :=
  ⟨h.1.os, h.1.tape, h.1.output, h.1.size, fun k hk => h.1.block k (by omega) (fun e => by injection e with e; omega)⟩

theorem own_kept_at {w w' : World} {base g n c : Nat} {xs : List Int} (h : Own w base ⟨some ⟨g, 0, none⟩, n, c⟩ xs) (hk : w'.heap[g]? = w.heap[g]?) : Own w' base ⟨some ⟨g, 0, none⟩, n, c⟩ xs :=
  h.kept fun ad had => by
    injection had with had
    subst had
    exact hk

/-- what chain leaves -/
def Chained (w : World) (base g n h : Nat) (e : Ending) (w' : World) : Prop :=
  e = .returned (.int .u64 ((h : Int) + 1)) ∧ Own w' base ⟨some ⟨g, 0, none⟩, n, n⟩ (linked h n n) ∧ Just g w w'

set_option maxHeartbeats 1000000 in
theorem chain_c (w : World) (base g n h : Nat) (ho : Own w base ⟨some ⟨g, 0, none⟩, n, n⟩ (List.replicate n 0)) (h1 : h ≤ 1) (n1 : 2 ≤ n) (n2 : n ≤ 64) :
    Calls Try.prog 46 #[.slice (some ⟨g, 0, none⟩) n n, .int .i64 h] w (Chained w base g n h) := by
  have HO := Lib.hid ho
  clear ho
  go_enter Try.func46, Try.ntmps46
  go_wp2_with fail
  go_loopw [5] (fun i wr => ∃ p : Nat, i = .int .i64 ((p : Int) + 1) ∧ h ≤ p ∧ p < n ∧ Own wr base ⟨some ⟨g, 0, none⟩, n, n⟩ (linked h n (p + 1)) ∧ Just g w wr) (fun i _ => n - (intOf i).toNat)
  case atStart => exact ⟨h, rfl, Nat.le_refl _, by omega, by rw [linked_zero _ _ _ (Nat.le_refl _)]; exact HO.out, Just.refl g w⟩
  case round =>
    obtain ⟨p, rfl, hp, hpn, ho, hj⟩ := hrel
    have HP := Lib.hid ho
    have HJ := Lib.hid hj
    obtain ⟨g', hA, _, _, hc, hf⟩ := ho.at_ (k := p) (by rw [linked_len]; omega)
    injection hA with hA
    injection hA with hA
    subst hA
    clear ho hj
    by_cases hlt : p + 1 < n
    · go_wp2_with (go_at_call 45; refine (ref0_c _ _ (by omega) (by omega)).mono ?_; rintro e w' ⟨rfl, rfl⟩)
      go_roundw
      case rel =>
        refine ⟨p + 1, by go_num, by omega, by omega, ?_, HJ.out.set_ _ _⟩
        have := HP.out.set_ (k := p) rfl ((p : Int) + 2) (by omega)
        rw [linked_set h n p hp hlt] at this
        have e2 : (p : Int) + 1 + 1 = (p : Int) + 2 := by omega
        simpa only [e2] using this
      case measure => simp [intOf]; omega
    · obtain rfl : n = p + 1 := by omega
      clear hc hf
      go_wp2_with (go_at_call 45; refine (ref0_c _ _ (by omega) (by omega)).mono ?_; rintro e w' ⟨rfl, rfl⟩)
      go_ret
      exact ⟨rfl, HP.out, HJ.out⟩

/-- the words at first, when nothing is linked yet -/
def zeroM (K T M : Nat) : Memc.M := { e := 0, f := 0, li := List.replicate 3 0, pi := List.replicate T 0, h := 0, t := 0, lk := List.replicate M 0, nx := List.replicate M 0, sl := List.replicate (M * K) 0 }

theorem heap_nine (W : World) (b : Nat) (v0 v1 v2 v3 v4 v5 v6 v7 v8 : Value) (k : Nat) (hk : k ≠ b) : (((((((((W.setCell ⟨b, 0, none⟩ v0).setCell ⟨b, 1, none⟩ v1).setCell ⟨b, 2, none⟩ v2).setCell ⟨b, 3, none⟩ v3).setCell ⟨b, 4, none⟩ v4).setCell ⟨b, 5, none⟩ v5).setCell ⟨b, 6, none⟩ v6).setCell ⟨b, 7, none⟩ v7).setCell ⟨b, 8, none⟩ v8).heap[k]? = W.heap[k]? := by
  have e : ∀ (w : World) (i : Nat) (v : Value), (w.setCell ⟨b, i, none⟩ v).heap[k]? = w.heap[k]? := fun w i v => Below.heap_setCell w ⟨b, i, none⟩ v k hk
  rw [e, e, e, e, e, e, e, e, e]

/-- rows that are apart, one of them written since -/
theorem five_end {W wf : World} {base g : Nat} {r q : R} {z m : Memc.M} (h0 : Hold W base g r z) (hq : ∀ a, q.sl a = r.sl a)
    (hk : ∀ k, base ≤ k → k ≠ g → (∀ ad, (r.sl 7).A = some ad → k ≠ ad.block) → wf.heap[k]? = W.heap[k]?) (h7 : Own wf base (r.sl 7) m.lk)
    (hm : m.li = z.li ∧ m.pi = z.pi ∧ m.nx = z.nx ∧ m.sl = z.sl) : Five wf base q m := by
  obtain ⟨hb, hg, h1, h2, h3, h4, hm0, ho, ha⟩ := h0
  refine ⟨fun a hl => ?_, fun a hl b hl' hne ad had ad' had' => ?_⟩
  · rw [hq]
    have other : ∀ a, la a → a ≠ 7 → m.area a = z.area a → Own wf base (r.sl a) (m.area a) := fun a hl h7 he => by
      rw [he]
      refine (ho a hl).kept fun ad had => hk _ ((ho a hl).lt had).1 (ha a hl ad had).1 fun ad' had' => ?_
      exact ((ha a hl ad had).2 7 (.inr (.inr (.inl rfl))) (Ne.symm h7) ad' had').symm
    rcases hl with rfl | rfl | rfl | rfl | rfl
    · exact other 3 (.inl rfl) (by omega) hm.1
    · exact other 4 (.inr (.inl rfl)) (by omega) hm.2.1
    · exact h7
    · exact other 8 (.inr (.inr (.inr (.inl rfl)))) (by omega) hm.2.2.1
    · exact other 9 (.inr (.inr (.inr (.inr rfl)))) (by omega) hm.2.2.2
  · rw [hq] at had had'
    exact (ha b hl' ad' had').2 a hl hne ad had

theorem five_weaken {w : World} {base base' : Nat} {r : R} {m : Memc.M} (h : Five w base r m) (hb : base' ≤ base) : Five w base' r m :=
  ⟨fun a hl => (h.1 a hl).weaken hb, h.2⟩

theorem zeros_ok (n : Nat) : u64s (List.replicate n 0) := fun y hy => by rw [List.eq_of_mem_replicate hy]; exact ⟨Int.le_refl 0, by decide⟩
theorem newM_ok (k : Int) (K T M : Nat) (hM : M ≤ 64) : (newM k K T M).ok := by
  intro a
  by_cases ho : a < 1 ∨ 9 < a
  · rw [area_no _ _ ho]; exact u64s_nil
  · have one : ∀ x : Int, 0 ≤ x ∧ x ≤ 10 → u64s [x] := fun x hx y hy => by rw [List.mem_singleton.1 hy]; omega
    rcases nine ho with rfl | rfl | rfl | rfl | rfl | rfl | rfl | rfl | rfl
    · exact one 0 (by omega)
    · refine one _ ?_; simp only [newM]; split <;> (try split) <;> omega
    · exact zeros_ok _
    · exact zeros_ok _
    · refine one _ ?_; simp only [newM]; split <;> omega
    · refine one _ ?_; simp only [newM]; split <;> omega
    · exact linked_ok _ _ _ (by omega)
    · exact zeros_ok _
    · exact zeros_ok _

/-- what New comes to -/
def Newly (w : World) (m : Memc.M) (c : Int) (e : Ending) (w' : World) : Prop :=
  ∃ r : R, e = .returned (.tuple #[.agg #[.int .u64 r.e, .int .u64 r.f, .slice r.L.A r.L.n r.L.c, .slice r.P.A r.P.n r.P.c, .int .u64 r.h, .int .u64 r.t, .slice r.K.A r.K.n r.K.c, .slice r.X.A r.X.n r.X.c, .slice r.S.A r.S.n r.S.c], .int .i64 c]) ∧ (r.e = m.e ∧ r.f = m.f ∧ r.h = m.h ∧ r.t = m.t) ∧ m.ok ∧ Five w' w.heap.size r m ∧ Below w.heap.size w w'

/-- words in memory of the call's own -/
def Fresh5 (w : World) (m : Memc.M) (e : Ending) (w' : World) : Prop :=
  ∃ r : R, e = .returned (.agg #[.int .u64 r.e, .int .u64 r.f, .slice r.L.A r.L.n r.L.c, .slice r.P.A r.P.n r.P.c, .int .u64 r.h, .int .u64 r.t, .slice r.K.A r.K.n r.K.c, .slice r.X.A r.X.n r.X.c, .slice r.S.A r.S.n r.S.c]) ∧ (r.e = m.e ∧ r.f = m.f ∧ r.h = m.h ∧ r.t = m.t) ∧ m.ok ∧ Five w' w.heap.size r m ∧ Below w.heap.size w w'
end Go.Proofs.Ytjgbgjkjnlaloaa.Newc
