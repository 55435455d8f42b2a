/- The document's answer for the store, its small functions by their contracts: comparing two lists of words. -/
import Derived.Test.YtjgbgjkjnlaloaaHold
import Derived.Test.YtjgbgjkjnlaloaaRows
import Derived.WalkKit
import Derived.IntWalk
import Derived.WalkSpells
import Derived.Outline
import Derived.BigQuiet
import Derived.Deep.QuietTactic
namespace Go.Proofs.Ytjgbgjkjnlaloaa.Refc
open Go.RowKit Go.Proofs.Ytjgbgjkjnlaloaa.Memc
set_option linter.unusedVariables false
set_option maxRecDepth 100000

/-- an answer of true or false -/
def Tells (w : World) (b : Bool) (e : Ending) (w' : World) : Prop := e = .returned (.bool b) ∧ Below w.heap.size w w'

theorem below_drewN {B : Nat} (w : World) (n : Nat) : Below B w (w.drewN n) := ⟨rfl, rfl, rfl, Nat.le_refl _, fun _ _ => rfl⟩

theorem same_len (w : World) (s t : Sl) (hs : s.n ≤ maxLen) (ht : t.n ≤ maxLen) (h : s.n ≠ t.n) :
    Calls Try.prog 44 #[.slice s.A s.n s.c, .slice t.A t.n t.c] w (Tells w false) := by
  have hne : ((s.n : Int) != (t.n : Int)) = true := by simp; omega
  clear h
  go_enter Try.func44, Try.ntmps44
  go_wp2
  go_ret
  exact ⟨rfl, Below.refl _ _⟩

theorem same_zero (w : World) (s t : Sl) (hs : s.n = 0) (ht : t.n = 0) :
    Calls Try.prog 44 #[.slice s.A s.n s.c, .slice t.A t.n t.c] w (Tells w true) := by
  rw [hs, ht]
  clear hs ht
  go_enter Try.func44, Try.ntmps44
  go_wp2
  refine wp_loop_rounds 1 ?_; rw [rounds_succ]
  go_wp2
  go_ret
  exact ⟨rfl, Below.refl _ _⟩

/-- two lists, as far as they were compared -/
def Alike (xs ys : List Int) (k : Nat) : Prop := ∀ j, j < k → xs.getD j 0 = ys.getD j 0

theorem alike_all {xs ys : List Int} (hl : xs.length = ys.length) (h : Alike xs ys xs.length) : xs = ys := by
  refine List.ext_getElem hl fun i h1 h2 => ?_
  have := h i h1
  simpa [List.getD_eq_getElem?_getD, h1, h2] using this

set_option maxHeartbeats 1000000 in
theorem same_pos (w : World) (a b : Addr) (n c c' : Nat) (xs ys : List Int) (hm : n ≤ maxLen) (hx : xs.length = n) (hy : ys.length = n)
    (ha : ∀ j, j < n → w.cell? (a.add j) = some (.int .u64 (xs.getD j 0))) (hb : ∀ j, j < n → w.cell? (b.add j) = some (.int .u64 (ys.getD j 0))) :
    Calls Try.prog 44 #[.slice (some a) n c, .slice (some b) n c'] w (Tells w (decide (xs = ys))) := by
  unfold maxLen at hm
  have HX := Lib.hid hx
  have HY := Lib.hid hy
  have HA := Lib.hid ha
  have HB := Lib.hid hb
  clear hx hy ha hb
  go_enter Try.func44, Try.ntmps44
  go_wp2
  go_loopw [5] (fun i wr => ∃ k d : Nat, i = .int .i64 k ∧ k ≤ n ∧ Alike xs ys k ∧ wr = w.drewN d) (fun i _ => n - (intOf i).toNat)
  case atStart => exact ⟨0, 0, rfl, Nat.zero_le _, fun j hj => absurd hj (by omega), rfl⟩
  case round =>
    obtain ⟨k, d, rfl, hk, hal, rfl⟩ := hrel
    have HL := Lib.hid hal
    clear hal
    by_cases hlt : k < n
    · have ca : w.cell? (a.add k) = some (.int .u64 (xs.getD k 0)) := HA.out k hlt
      have cb : w.cell? (b.add k) = some (.int .u64 (ys.getD k 0)) := HB.out k hlt
      have i0 : (0 : Int) ≤ (k : Int) := by omega
      have i1 : (k : Int) < (n : Int) := by omega
      obtain ⟨x, hxx⟩ : ∃ x, x = xs.getD k 0 := ⟨_, rfl⟩
      obtain ⟨y, hyy⟩ : ∃ y, y = ys.getD k 0 := ⟨_, rfl⟩
      rw [← hxx] at ca
      rw [← hyy] at cb
      have HXX := Lib.hid hxx
      have HYY := Lib.hid hyy
      clear hxx hyy
      by_cases he : x = y
      · subst he
        have hq : (x != x) = false := by simp
        go_wp2
        go_quiet (fail)
        go_wp2
        go_roundw
        case rel =>
          refine ⟨k + 1, _, by go_num, by omega, fun j hj => ?_, rfl⟩
          rcases Nat.lt_or_ge j k with h1 | h1
          · exact HL.out j h1
          · obtain rfl : j = k := by omega
            rw [← HXX.out, ← HYY.out]
        case measure => simp [intOf]; omega
      · have hq : (x != y) = true := by simp [he]
        have HE := Lib.hid he
        clear he
        go_wp2
        go_quiet (fail)
        go_wp2
        go_ret
        refine ⟨?_, (below_drewN _ _).trans (below_drewN _ _)⟩
        have : ¬ xs = ys := fun h => HE.out (by rw [HXX.out, HYY.out, h])
        simp [this]
    · obtain rfl : k = n := by omega
      go_wp2
      go_ret
      have : xs = ys := alike_all (by rw [HX.out, HY.out]) (by rw [HX.out]; exact HL.out)
      exact ⟨by simp [this], below_drewN _ _⟩

theorem same_c (w : World) (B B' : Nat) (s t : Sl) (xs ys : List Int) (hs : Rd w B s xs) (ht : Rd w B' t ys) :
    Calls Try.prog 44 #[.slice s.A s.n s.c, .slice t.A t.n t.c] w (Tells w (decide (xs = ys))) := by
  by_cases hn : s.n = t.n
  · by_cases h0 : s.n = 0
    · have h1 : xs = [] := List.eq_nil_of_length_eq_zero (by have := hs.1; omega)
      have h2 : ys = [] := List.eq_nil_of_length_eq_zero (by have := ht.1; omega)
      subst h1
      subst h2
      exact same_zero w s t h0 (by omega)
    · obtain ⟨a, ea, _, ca⟩ := hs.2.2.2.2.2 (by omega)
      obtain ⟨b, eb, _, cb⟩ := ht.2.2.2.2.2 (by omega)
      have hm : s.n ≤ maxLen := Nat.le_trans hs.2.1 hs.2.2.1
      rw [ea, eb, ← hn]
      refine same_pos w a b s.n s.c t.c xs ys hm hs.1.symm (by have := ht.1; omega) (fun j hj => ?_) (fun j hj => ?_)
      · have hj' : j < xs.length := by have := hs.1; omega
        exact ca j _ (by rw [List.getD_eq_getElem?_getD, List.getElem?_eq_getElem hj']; rfl)
      · have hj' : j < ys.length := by have := ht.1; omega
        exact cb j _ (by rw [List.getD_eq_getElem?_getD, List.getElem?_eq_getElem hj']; rfl)
  · have hne : ¬ xs = ys := fun h => hn (by rw [hs.1, ht.1, h])
    have : decide (xs = ys) = false := by simp [hne]
    rw [this]
    exact same_len w s t (Nat.le_trans hs.2.1 hs.2.2.1) (Nat.le_trans ht.2.1 ht.2.2.1) hn
end Go.Proofs.Ytjgbgjkjnlaloaa.Refc
