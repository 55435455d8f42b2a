/- Whether a run may be, by contract. -/
import Derived.Test.YtjgbgjkjnlaloaaDrvD
import Derived.Test.YtjgbgjkjnlaloaaNewA
import Derived.LoopTactic
namespace Go.Proofs.Ytjgbgjkjnlaloaa.Drivec
open Go.RowKit Go.Proofs.Ytjgbgjkjnlaloaa.Memc Go.Proofs.Ytjgbgjkjnlaloaa.Newc
set_option linter.unusedVariables false
set_option maxRecDepth 100000

/-- the slice s has lists of these lengths -/
def Lens (w : World) (s : Sl) (ns : List Nat) : Prop :=
  s.n = ns.length ∧ s.n ≤ s.c ∧ s.c ≤ maxLen ∧ (∀ x ∈ ns, x ≤ maxLen) ∧ (0 < s.n → ∃ b off, s.A = some ⟨b, off, none⟩ ∧ b < w.heap.size ∧ ∀ (i n : Nat), ns[i]? = some n → ∃ (q : Sl), q.n = n ∧ w.cell? ⟨b, off + i, none⟩ = some (.slice q.A q.n q.c))
theorem Lens.below {w w' : World} {s : Sl} {ns : List Nat} (h : Lens w s ns) (hb : Below w.heap.size w w') : Lens w' s ns :=
  ⟨h.1, h.2.1, h.2.2.1, h.2.2.2.1, fun hn => by
    obtain ⟨b, off, e, hlt, hc⟩ := h.2.2.2.2 hn
    refine ⟨b, off, e, Nat.lt_of_lt_of_le hlt hb.size, fun i n hi => ?_⟩
    obtain ⟨q, hq, hcq⟩ := hc i n hi
    exact ⟨q, hq, (hb.cell (p := ⟨b, _, none⟩) hlt).trans hcq⟩⟩
/-- what an index comes to -/
def Found (w : World) (yes : Bool) (e : Ending) (w' : World) : Prop := (∃ n : Int, -1 ≤ n ∧ n ≤ 9223372036854775807 ∧ decide (0 ≤ n) = yes ∧ e = .returned (.int .i64 n)) ∧ w = w'

theorem long_Access (s : Sl) (w : World) (hs : s.n ≤ maxLen) (b : Bool) (hb : decide (1000 < (s.n : Int)) = b) : Calls Try.prog 80 #[.slice s.A s.n s.c] w fun e w' => e = .returned (.bool b) ∧ w = w' := by
  have h1 : (s.n : Int) ≤ 9223372036854775807 := by unfold maxLen at hs; omega
  have HB := Lib.hid hb
  clear hb hs
  go_enter Try.func80, Try.ntmps80
  go_wp2
  go_ret
  have hb := HB.out
  subst hb
  exact ⟨by simp, rfl⟩
set_option maxHeartbeats 2000000 in
theorem index_Access (s : Sl) (w : World) (ns : List Nat) (yes : Bool) (h : Lens w s ns) (hy : ns.any (fun x => decide (1000 < x)) = yes) :
    Calls Try.prog 107 #[.slice s.A s.n s.c, .func (.func 80) #[] #[]] w (Found w yes) := by
  have hn0 : s.n ≤ maxLen := Nat.le_trans h.2.1 h.2.2.1
  have hn1 : (s.n : Int) ≤ 9223372036854775807 := by unfold maxLen at hn0; omega
  have HH := Lib.hid h
  have HY := Lib.hid hy
  clear h hy hn0
  go_enter Try.func107, Try.ntmps107
  go_wp2_with fail
  go_loop [8] (fun i => ∃ j : Nat, i = .int .i64 j ∧ j ≤ s.n ∧ ∀ m x, m < j → ns[m]? = some x → x ≤ 1000) (fun i => s.n - (intOf i).toNat)
  case atStart => exact ⟨0, rfl, Nat.zero_le _, fun m x hm => absurd hm (Nat.not_lt_zero _)⟩
  case round =>
    obtain ⟨j, rfl, hj, hall⟩ := hrel
    have HA := Lib.hid hall
    clear hall
    by_cases hlt : j < s.n
    · obtain ⟨b, off, hA, hbz, hc⟩ := HH.out.2.2.2.2 (by omega)
      obtain ⟨x, hx⟩ : ∃ x, ns[j]? = some x := ⟨_, List.getElem?_eq_getElem (by have := HH.out.1; omega)⟩
      obtain ⟨q, hq, hcq⟩ := hc j x hx
      subst hq
      have hxm := HH.out.2.2.2.1 q.n (List.mem_of_getElem? hx)
      have HX := Lib.hid hx
      have i0 : (0 : Int) ≤ j := by omega
      have i1 : (j : Int) < s.n := by omega
      obtain ⟨sA, sn, sc⟩ := s
      simp only at hA
      subst hA
      clear hc hx
      by_cases h1 : 1000 < q.n
      · go_wp2_with (go_at_call 80; (with_reducible refine (long_Access q _ ?_ true ?_).mono ?_); (omega); (simp; omega); rintro e w' ⟨rfl, rfl⟩)
        go_ret
        refine ⟨⟨j, by omega, by omega, ?_, rfl⟩, rfl⟩
        have hyt : ns.any (fun x => decide (1000 < x)) = true := List.any_eq_true.2 ⟨q.n, List.mem_of_getElem? HX.out, by simpa using h1⟩
        rw [← HY.out, hyt]
        simp
      · go_wp2_with (go_at_call 80; (with_reducible refine (long_Access q _ ?_ false ?_).mono ?_); (omega); (simp; omega); rintro e w' ⟨rfl, rfl⟩)
        go_round
        case rel =>
          refine ⟨j + 1, by go_num, by omega, fun m y hm hy => ?_⟩
          by_cases hmj : m = j
          · subst hmj
            rw [HX.out] at hy
            injection hy with hy
            omega
          · exact HA.out m y (by omega) hy
        case measure => simp [intOf]; omega
    · obtain rfl : j = s.n := by omega
      go_wp2
      go_ret
      refine ⟨⟨-1, by omega, by omega, ?_, rfl⟩, rfl⟩
      have hyf : ns.any (fun x => decide (1000 < x)) = false := by
        rw [List.any_eq_false]
        intro x hx
        obtain ⟨m, hm, rfl⟩ := List.getElem_of_mem hx
        have := HA.out m _ (by have := HH.out.1; omega) (List.getElem?_eq_getElem hm)
        simpa using this
      rw [← HY.out, hyf]
      rfl
set_option maxHeartbeats 2000000 in
theorem contains_Access (s : Sl) (w : World) (ns : List Nat) (yes : Bool) (h : Lens w s ns) (hy : ns.any (fun x => decide (1000 < x)) = yes) :
    Calls Try.prog 81 #[.slice s.A s.n s.c, .func (.func 80) #[] #[]] w fun e w' => e = .returned (.bool yes) ∧ w = w' := by
  have HC := Lib.hid (index_Access s w ns yes h hy)
  clear h hy
  go_enter Try.func81, Try.ntmps81
  go_wp2_with (go_at_call 107; refine (HC.out).mono ?_; rintro e w' ⟨⟨n, hn1, hn2, hn3, rfl⟩, rfl⟩; have HN3 := Lib.hid hn3; clear hn3)
  go_ret
  have := HN3.out
  subst this
  exact ⟨by simp, rfl⟩
set_option maxHeartbeats 4000000 in
theorem mayrun_yes_Access (w : World) (k K T M : Int) (s p : Sl) (ns : List Nat) (hm : (Cfg.mk k K T M).may) (h : Lens w s ns) (hT : (s.n : Int) = T) (hall : ns.any (fun x => decide (1000 < x)) = false) (hp : p.n ≤ 20000) :
    Calls Try.prog 49 #[.agg #[.int .i64 k, .int .i64 K, .int .i64 T, .int .i64 M], .slice s.A s.n s.c, .slice p.A p.n p.c] w fun e w' => e = .returned (.bool true) ∧ Below w.heap.size w w' := by
  obtain ⟨⟨k1, k2⟩, ⟨a1, a2⟩, ⟨t1, t2⟩, ⟨m1, m2⟩⟩ := hm
  simp only at k1 k2 a1 a2 t1 t2 m1 m2
  have B0 : Hid (Below w.heap.size w (w.alloc (.cells #[.int .i64 k, .int .i64 K, .int .i64 T, .int .i64 M] 36))) := Lib.hid ((Below.refl _ _).alloc (Nat.le_refl _) _)
  have X0 : Hid (Blk (w.alloc (.cells #[.int .i64 k, .int .i64 K, .int .i64 T, .int .i64 M] 36)) w.heap.size 36 #[.int .i64 k, .int .i64 K, .int .i64 T, .int .i64 M]) := Lib.hid (Blk.new _ _ _)
  have HH := Lib.hid h
  have HA := Lib.hid hall
  have hTb : ((s.n : Int) == T) = true := by simpa using hT
  have hpb : (p.n : Int) ≤ 20000 := by omega
  clear h hall hT hp
  go_enter Try.func49, Try.ntmps49
  go_wp2_with (first | (go_at_call 22; refine (may_yes _ _ _ _ _ (by omega) (by omega) (by omega) (by omega) (by omega) (by omega) (by omega) (by omega)).mono ?_; rintro e w1 ⟨rfl, hb1⟩; have B1 := Lib.hid (B0.out.trans (hb1.mono B0.out.size)); have X1 := Lib.hid (X0.out.below hb1 X0.out.lt); have hx1 := X1.out.cell; clear hb1) | (go_at_call 81; refine (contains_Access s _ ns false (HH.out.below B1.out) HA.out).mono ?_; rintro e w2 ⟨rfl, rfl⟩))
  go_ret
  exact ⟨rfl, B1.out⟩

set_option maxHeartbeats 4000000 in
theorem mayrun_no_Access (w : World) (k K T M : Int) (s p : Sl) (ns : List Nat) (h : Lens w s ns) (hps : p.n ≤ maxLen)
    (hno : ¬ ((Cfg.mk k K T M).may ∧ (s.n : Int) = T ∧ ns.any (fun x => decide (1000 < x)) = false ∧ p.n ≤ 20000)) :
    Calls Try.prog 49 #[.agg #[.int .i64 k, .int .i64 K, .int .i64 T, .int .i64 M], .slice s.A s.n s.c, .slice p.A p.n p.c] w fun e w' => e = .returned (.bool false) ∧ Below w.heap.size w w' := by
  have B0 : Hid (Below w.heap.size w (w.alloc (.cells #[.int .i64 k, .int .i64 K, .int .i64 T, .int .i64 M] 36))) := Lib.hid ((Below.refl _ _).alloc (Nat.le_refl _) _)
  have X0 : Hid (Blk (w.alloc (.cells #[.int .i64 k, .int .i64 K, .int .i64 T, .int .i64 M] 36)) w.heap.size 36 #[.int .i64 k, .int .i64 K, .int .i64 T, .int .i64 M]) := Lib.hid (Blk.new _ _ _)
  have HH := Lib.hid h
  have hsz : s.n ≤ maxLen := Nat.le_trans h.2.1 h.2.2.1
  have z1 : (s.n : Int) ≤ 9223372036854775807 := by unfold maxLen at hsz; omega
  have z2 : (p.n : Int) ≤ 9223372036854775807 := by unfold maxLen at hps; omega
  clear h hsz hps
  by_cases hm : (Cfg.mk k K T M).may
  · obtain ⟨⟨k1, k2⟩, ⟨a1, a2⟩, ⟨t1, t2⟩, ⟨m1, m2⟩⟩ := id hm
    simp only at k1 k2 a1 a2 t1 t2 m1 m2
    by_cases hT : (s.n : Int) = T
    · have hTb : ((s.n : Int) == T) = true := by simpa using hT
      rcases hall : ns.any (fun x => decide (1000 < x)) with _ | _
      · have hpb : decide ((p.n : Int) ≤ 20000) = false := by
          have : ¬ p.n ≤ 20000 := fun hp => hno ⟨hm, hT, hall, hp⟩
          simp; omega
        have HA := Lib.hid hall
        clear hno hm hall hT
        go_enter Try.func49, Try.ntmps49
        go_wp2_with (first | (go_at_call 22; refine (may_yes _ _ _ _ _ (by omega) (by omega) (by omega) (by omega) (by omega) (by omega) (by omega) (by omega)).mono ?_; rintro e w1 ⟨rfl, hb1⟩; have B1 := Lib.hid (B0.out.trans (hb1.mono B0.out.size)); have X1 := Lib.hid (X0.out.below hb1 X0.out.lt); have hx1 := X1.out.cell; clear hb1) | (go_at_call 81; refine (contains_Access s _ ns false (HH.out.below B1.out) HA.out).mono ?_; rintro e w2 ⟨rfl, rfl⟩))
        go_ret
        exact ⟨rfl, B1.out⟩
      · have HA := Lib.hid hall
        clear hno hm hall hT
        go_enter Try.func49, Try.ntmps49
        go_wp2_with (first | (go_at_call 22; refine (may_yes _ _ _ _ _ (by omega) (by omega) (by omega) (by omega) (by omega) (by omega) (by omega) (by omega)).mono ?_; rintro e w1 ⟨rfl, hb1⟩; have B1 := Lib.hid (B0.out.trans (hb1.mono B0.out.size)); have X1 := Lib.hid (X0.out.below hb1 X0.out.lt); have hx1 := X1.out.cell; clear hb1) | (go_at_call 81; refine (contains_Access s _ ns true (HH.out.below B1.out) HA.out).mono ?_; rintro e w2 ⟨rfl, rfl⟩))
        go_ret
        exact ⟨rfl, B1.out⟩
    · have hTb : ((s.n : Int) == T) = false := by simpa using hT
      clear hno hm hT
      go_enter Try.func49, Try.ntmps49
      go_wp2_with (go_at_call 22; refine (may_yes _ _ _ _ _ (by omega) (by omega) (by omega) (by omega) (by omega) (by omega) (by omega) (by omega)).mono ?_; rintro e w1 ⟨rfl, hb1⟩; have B1 := Lib.hid (B0.out.trans (hb1.mono B0.out.size)); have X1 := Lib.hid (X0.out.below hb1 X0.out.lt); have hx1 := X1.out.cell; clear hb1)
      go_ret
      exact ⟨rfl, B1.out⟩
  · have HM := Lib.hid hm
    clear hno hm
    go_enter Try.func49, Try.ntmps49
    go_wp2_with (go_at_call 22; refine (may_no _ _ _ _ _ HM.out).mono ?_; rintro e w1 ⟨rfl, hb1⟩; have B1 := Lib.hid (B0.out.trans (hb1.mono B0.out.size)); clear hb1)
    go_ret
    exact ⟨rfl, B1.out⟩

theorem long_Op (s : Sl) (w : World) (hs : s.n ≤ maxLen) (b : Bool) (hb : decide (1000 < (s.n : Int)) = b) : Calls Try.prog 108 #[.slice s.A s.n s.c] w fun e w' => e = .returned (.bool b) ∧ w = w' := by
  have h1 : (s.n : Int) ≤ 9223372036854775807 := by unfold maxLen at hs; omega
  have HB := Lib.hid hb
  clear hb hs
  go_enter Try.func108, Try.ntmps108
  go_wp2
  go_ret
  have hb := HB.out
  subst hb
  exact ⟨by simp, rfl⟩
set_option maxHeartbeats 2000000 in
theorem index_Op (s : Sl) (w : World) (ns : List Nat) (yes : Bool) (h : Lens w s ns) (hy : ns.any (fun x => decide (1000 < x)) = yes) :
    Calls Try.prog 98 #[.slice s.A s.n s.c, .func (.func 108) #[] #[]] w (Found w yes) := by
  have hn0 : s.n ≤ maxLen := Nat.le_trans h.2.1 h.2.2.1
  have hn1 : (s.n : Int) ≤ 9223372036854775807 := by unfold maxLen at hn0; omega
  have HH := Lib.hid h
  have HY := Lib.hid hy
  clear h hy hn0
  go_enter Try.func98, Try.ntmps98
  go_wp2_with fail
  go_loop [8] (fun i => ∃ j : Nat, i = .int .i64 j ∧ j ≤ s.n ∧ ∀ m x, m < j → ns[m]? = some x → x ≤ 1000) (fun i => s.n - (intOf i).toNat)
  case atStart => exact ⟨0, rfl, Nat.zero_le _, fun m x hm => absurd hm (Nat.not_lt_zero _)⟩
  case round =>
    obtain ⟨j, rfl, hj, hall⟩ := hrel
    have HA := Lib.hid hall
    clear hall
    by_cases hlt : j < s.n
    · obtain ⟨b, off, hA, hbz, hc⟩ := HH.out.2.2.2.2 (by omega)
      obtain ⟨x, hx⟩ : ∃ x, ns[j]? = some x := ⟨_, List.getElem?_eq_getElem (by have := HH.out.1; omega)⟩
      obtain ⟨q, hq, hcq⟩ := hc j x hx
      subst hq
      have hxm := HH.out.2.2.2.1 q.n (List.mem_of_getElem? hx)
      have HX := Lib.hid hx
      have i0 : (0 : Int) ≤ j := by omega
      have i1 : (j : Int) < s.n := by omega
      obtain ⟨sA, sn, sc⟩ := s
      simp only at hA
      subst hA
      clear hc hx
      by_cases h1 : 1000 < q.n
      · go_wp2_with (go_at_call 108; (with_reducible refine (long_Op q _ ?_ true ?_).mono ?_); (omega); (simp; omega); rintro e w' ⟨rfl, rfl⟩)
        go_ret
        refine ⟨⟨j, by omega, by omega, ?_, rfl⟩, rfl⟩
        have hyt : ns.any (fun x => decide (1000 < x)) = true := List.any_eq_true.2 ⟨q.n, List.mem_of_getElem? HX.out, by simpa using h1⟩
        rw [← HY.out, hyt]
        simp
      · go_wp2_with (go_at_call 108; (with_reducible refine (long_Op q _ ?_ false ?_).mono ?_); (omega); (simp; omega); rintro e w' ⟨rfl, rfl⟩)
        go_round
        case rel =>
          refine ⟨j + 1, by go_num, by omega, fun m y hm hy => ?_⟩
          by_cases hmj : m = j
          · subst hmj
            rw [HX.out] at hy
            injection hy with hy
            omega
          · exact HA.out m y (by omega) hy
        case measure => simp [intOf]; omega
    · obtain rfl : j = s.n := by omega
      go_wp2
      go_ret
      refine ⟨⟨-1, by omega, by omega, ?_, rfl⟩, rfl⟩
      have hyf : ns.any (fun x => decide (1000 < x)) = false := by
        rw [List.any_eq_false]
        intro x hx
        obtain ⟨m, hm, rfl⟩ := List.getElem_of_mem hx
        have := HA.out m _ (by have := HH.out.1; omega) (List.getElem?_eq_getElem hm)
        simpa using this
      rw [← HY.out, hyf]
      rfl
set_option maxHeartbeats 2000000 in
theorem contains_Op (s : Sl) (w : World) (ns : List Nat) (yes : Bool) (h : Lens w s ns) (hy : ns.any (fun x => decide (1000 < x)) = yes) :
    Calls Try.prog 63 #[.slice s.A s.n s.c, .func (.func 108) #[] #[]] w fun e w' => e = .returned (.bool yes) ∧ w = w' := by
  have HC := Lib.hid (index_Op s w ns yes h hy)
  clear h hy
  go_enter Try.func63, Try.ntmps63
  go_wp2_with (go_at_call 98; refine (HC.out).mono ?_; rintro e w' ⟨⟨n, hn1, hn2, hn3, rfl⟩, rfl⟩; have HN3 := Lib.hid hn3; clear hn3)
  go_ret
  have := HN3.out
  subst this
  exact ⟨by simp, rfl⟩
set_option maxHeartbeats 4000000 in
theorem mayrun_yes_Op (w : World) (k K T M : Int) (s p : Sl) (ns : List Nat) (hm : (Cfg.mk k K T M).may) (h : Lens w s ns) (hT : (s.n : Int) = T) (hall : ns.any (fun x => decide (1000 < x)) = false) (hp : p.n ≤ 20000) :
    Calls Try.prog 82 #[.agg #[.int .i64 k, .int .i64 K, .int .i64 T, .int .i64 M], .slice s.A s.n s.c, .slice p.A p.n p.c] w fun e w' => e = .returned (.bool true) ∧ Below w.heap.size w w' := by
  obtain ⟨⟨k1, k2⟩, ⟨a1, a2⟩, ⟨t1, t2⟩, ⟨m1, m2⟩⟩ := hm
  simp only at k1 k2 a1 a2 t1 t2 m1 m2
  have B0 : Hid (Below w.heap.size w (w.alloc (.cells #[.int .i64 k, .int .i64 K, .int .i64 T, .int .i64 M] 36))) := Lib.hid ((Below.refl _ _).alloc (Nat.le_refl _) _)
  have X0 : Hid (Blk (w.alloc (.cells #[.int .i64 k, .int .i64 K, .int .i64 T, .int .i64 M] 36)) w.heap.size 36 #[.int .i64 k, .int .i64 K, .int .i64 T, .int .i64 M]) := Lib.hid (Blk.new _ _ _)
  have HH := Lib.hid h
  have HA := Lib.hid hall
  have hTb : ((s.n : Int) == T) = true := by simpa using hT
  have hpb : (p.n : Int) ≤ 20000 := by omega
  clear h hall hT hp
  go_enter Try.func82, Try.ntmps82
  go_wp2_with (first | (go_at_call 22; refine (may_yes _ _ _ _ _ (by omega) (by omega) (by omega) (by omega) (by omega) (by omega) (by omega) (by omega)).mono ?_; rintro e w1 ⟨rfl, hb1⟩; have B1 := Lib.hid (B0.out.trans (hb1.mono B0.out.size)); have X1 := Lib.hid (X0.out.below hb1 X0.out.lt); have hx1 := X1.out.cell; clear hb1) | (go_at_call 63; refine (contains_Op s _ ns false (HH.out.below B1.out) HA.out).mono ?_; rintro e w2 ⟨rfl, rfl⟩))
  go_ret
  exact ⟨rfl, B1.out⟩

set_option maxHeartbeats 4000000 in
theorem mayrun_no_Op (w : World) (k K T M : Int) (s p : Sl) (ns : List Nat) (h : Lens w s ns) (hps : p.n ≤ maxLen)
    (hno : ¬ ((Cfg.mk k K T M).may ∧ (s.n : Int) = T ∧ ns.any (fun x => decide (1000 < x)) = false ∧ p.n ≤ 20000)) :
    Calls Try.prog 82 #[.agg #[.int .i64 k, .int .i64 K, .int .i64 T, .int .i64 M], .slice s.A s.n s.c, .slice p.A p.n p.c] w fun e w' => e = .returned (.bool false) ∧ Below w.heap.size w w' := by
  have B0 : Hid (Below w.heap.size w (w.alloc (.cells #[.int .i64 k, .int .i64 K, .int .i64 T, .int .i64 M] 36))) := Lib.hid ((Below.refl _ _).alloc (Nat.le_refl _) _)
  have X0 : Hid (Blk (w.alloc (.cells #[.int .i64 k, .int .i64 K, .int .i64 T, .int .i64 M] 36)) w.heap.size 36 #[.int .i64 k, .int .i64 K, .int .i64 T, .int .i64 M]) := Lib.hid (Blk.new _ _ _)
  have HH := Lib.hid h
  have hsz : s.n ≤ maxLen := Nat.le_trans h.2.1 h.2.2.1
  have z1 : (s.n : Int) ≤ 9223372036854775807 := by unfold maxLen at hsz; omega
  have z2 : (p.n : Int) ≤ 9223372036854775807 := by unfold maxLen at hps; omega
  clear h hsz hps
  by_cases hm : (Cfg.mk k K T M).may
  · obtain ⟨⟨k1, k2⟩, ⟨a1, a2⟩, ⟨t1, t2⟩, ⟨m1, m2⟩⟩ := id hm
    simp only at k1 k2 a1 a2 t1 t2 m1 m2
    by_cases hT : (s.n : Int) = T
    · have hTb : ((s.n : Int) == T) = true := by simpa using hT
      rcases hall : ns.any (fun x => decide (1000 < x)) with _ | _
      · have hpb : decide ((p.n : Int) ≤ 20000) = false := by
          have : ¬ p.n ≤ 20000 := fun hp => hno ⟨hm, hT, hall, hp⟩
          simp; omega
        have HA := Lib.hid hall
        clear hno hm hall hT
        go_enter Try.func82, Try.ntmps82
        go_wp2_with (first | (go_at_call 22; refine (may_yes _ _ _ _ _ (by omega) (by omega) (by omega) (by omega) (by omega) (by omega) (by omega) (by omega)).mono ?_; rintro e w1 ⟨rfl, hb1⟩; have B1 := Lib.hid (B0.out.trans (hb1.mono B0.out.size)); have X1 := Lib.hid (X0.out.below hb1 X0.out.lt); have hx1 := X1.out.cell; clear hb1) | (go_at_call 63; refine (contains_Op s _ ns false (HH.out.below B1.out) HA.out).mono ?_; rintro e w2 ⟨rfl, rfl⟩))
        go_ret
        exact ⟨rfl, B1.out⟩
      · have HA := Lib.hid hall
        clear hno hm hall hT
        go_enter Try.func82, Try.ntmps82
        go_wp2_with (first | (go_at_call 22; refine (may_yes _ _ _ _ _ (by omega) (by omega) (by omega) (by omega) (by omega) (by omega) (by omega) (by omega)).mono ?_; rintro e w1 ⟨rfl, hb1⟩; have B1 := Lib.hid (B0.out.trans (hb1.mono B0.out.size)); have X1 := Lib.hid (X0.out.below hb1 X0.out.lt); have hx1 := X1.out.cell; clear hb1) | (go_at_call 63; refine (contains_Op s _ ns true (HH.out.below B1.out) HA.out).mono ?_; rintro e w2 ⟨rfl, rfl⟩))
        go_ret
        exact ⟨rfl, B1.out⟩
    · have hTb : ((s.n : Int) == T) = false := by simpa using hT
      clear hno hm hT
      go_enter Try.func82, Try.ntmps82
      go_wp2_with (go_at_call 22; refine (may_yes _ _ _ _ _ (by omega) (by omega) (by omega) (by omega) (by omega) (by omega) (by omega) (by omega)).mono ?_; rintro e w1 ⟨rfl, hb1⟩; have B1 := Lib.hid (B0.out.trans (hb1.mono B0.out.size)); have X1 := Lib.hid (X0.out.below hb1 X0.out.lt); have hx1 := X1.out.cell; clear hb1)
      go_ret
      exact ⟨rfl, B1.out⟩
  · have HM := Lib.hid hm
    clear hno hm
    go_enter Try.func82, Try.ntmps82
    go_wp2_with (go_at_call 22; refine (may_no _ _ _ _ _ HM.out).mono ?_; rintro e w1 ⟨rfl, hb1⟩; have B1 := Lib.hid (B0.out.trans (hb1.mono B0.out.size)); clear hb1)
    go_ret
    exact ⟨rfl, B1.out⟩
end Go.Proofs.Ytjgbgjkjnlaloaa.Drivec
