/- The package store's small functions, each by its contract: finding a word. -/
import Derived.Test.YtjgbgjkjnlaloaaHold
import Derived.Test.YtjgbgjkjnlaloaaRows
import Derived.WalkKit
import Derived.IntWalk
import Derived.WalkSpells
import Derived.Outline
namespace Go.Proofs.Ytjgbgjkjnlaloaa.Storec
open Go.RowKit Go.Proofs.Ytjgbgjkjnlaloaa.Memc
set_option linter.unusedVariables false
set_option maxRecDepth 100000

theorem only_c (p : Addr) (i : Int) (w : World) :
    Calls Try.prog 74 #[.pointer (some p), .int .i64 i] w fun e w' => e = .returned (.pointer (if i = 0 then some p else none)) ∧ w = w' := by
  by_cases h : i = 0
  · have hb : (i != 0) = false := by simp [h]
    rw [if_pos h]
    clear h
    go_enter Try.func74, Try.ntmps74
    go_wp2
    go_ret
    exact ⟨rfl, rfl⟩
  · have hb : (i != 0) = true := by simp [h]
    rw [if_neg h]
    clear h
    go_enter Try.func74, Try.ntmps74
    go_wp2
    go_ret
    exact ⟨rfl, rfl⟩

theorem among_no (s : Sl) (i : Int) (w : World) (hn : s.n ≤ maxLen) (h : i < 0 ∨ s.n ≤ i) :
    Calls Try.prog 75 #[.slice s.A s.n s.c, .int .i64 i] w fun e w' => e = .returned (.pointer none) ∧ w = w' := by
  unfold maxLen at hn
  rcases h with h | h
  · go_enter Try.func75, Try.ntmps75
    go_wp2
    go_ret
    exact ⟨rfl, rfl⟩
  · have h0 : decide (i < 0) = false := by simp; omega
    go_enter Try.func75, Try.ntmps75
    go_wp2
    go_ret
    exact ⟨rfl, rfl⟩

theorem among_yes (b n c k : Nat) (w : World) (hn : n ≤ maxLen) (h : k < n) :
    Calls Try.prog 75 #[.slice (some ⟨b, 0, none⟩) n c, .int .i64 k] w fun e w' => e = .returned (.pointer (some ⟨b, k, none⟩)) ∧ w = w' := by
  unfold maxLen at hn
  go_enter Try.func75, Try.ntmps75
  go_wp2
  go_ret
  exact ⟨rfl, rfl⟩
theorem only_yes (p : Addr) (w : World) :
    Calls Try.prog 74 #[.pointer (some p), .int .i64 0] w fun e w' => e = .returned (.pointer (some p)) ∧ w = w' :=
  (only_c p 0 w).mono fun _ _ h => h
theorem only_no (p : Addr) (i : Int) (hi : ¬ i = 0) (w : World) :
    Calls Try.prog 74 #[.pointer (some p), .int .i64 i] w fun e w' => e = .returned (.pointer none) ∧ w = w' :=
  (only_c p i w).mono fun _ _ h => ⟨by rw [h.1, if_neg hi], h.2⟩

/-- the word that was looked for is found -/
def Found (w : World) (base g : Nat) (r : R) (m : M) (a i : Int) (e : Ending) (w' : World) : Prop :=
  ∃ q : Option Addr, e = .returned (.pointer q) ∧ Lens w base g r m a i q ∧ w = w'

theorem found_no {w : World} {base g : Nat} {r : R} {m : M} {a i : Int} (h : ¬ there m a i) : Found w base g r m a i (.returned (.pointer none)) w := ⟨none, rfl, h, rfl⟩
theorem found_yes {w : World} {base g : Nat} {r : R} {m : M} {a i : Int} {p : Addr} (h : Lens w base g r m a i (some p)) : Found w base g r m a i (.returned (.pointer (some p))) w := ⟨some p, rfl, h, rfl⟩

set_option maxHeartbeats 1000000 in
theorem find_out (base g : Nat) (r : R) (m : M) (cap : Addr) (a i : Int) (w : World) (hc : w.cell? cap = some (.pointer (some ⟨g, 0, none⟩)))
    (ha : -9223372036854775808 ≤ a) (ha' : a ≤ 9223372036854775807) (h : a < 1 ∨ 9 < a) :
    Calls Try.prog 73 #[.int .i64 a, .int .i64 i, .pointer (some cap)] w (Found w base g r m a i) := by
  have hno : ¬ there m a i := by
    rintro ⟨h1, h2⟩
    rw [area_no m a h] at h2
    simp at h2; omega
  have H := found_no (w := w) (base := base) (g := g) (r := r) hno
  clear hno
  rcases h with h | h
  all_goals
    go_enter Try.func73, Try.ntmps73
    go_wp2
    go_ret
    exact H

set_option maxHeartbeats 1000000 in
theorem find_1 (base g : Nat) (r : R) (m : M) (cap : Addr) (i : Int) (w : World) (hc : w.cell? cap = some (.pointer (some ⟨g, 0, none⟩))) (H : Hold w base g r m) :
    Calls Try.prog 73 #[.int .i64 1, .int .i64 i, .pointer (some cap)] w (Found w base g r m 1 i) := by
  by_cases h : i = 0
  · subst h
    have HL := found_yes (lens_1 H)
    clear H
    go_enter Try.func73, Try.ntmps73
    go_wp2_with (go_at_call 74; refine (only_yes _ _).mono ?_; rintro e w' ⟨rfl, rfl⟩)
    go_ret
    exact HL
  · have hno : ¬ there m 1 i := by
      rintro ⟨h1, h2⟩
      rw [area_1] at h2
      simp at h2; omega
    have HL := found_no (w := w) (base := base) (g := g) (r := r) hno
    have HI := Lib.hid h
    clear H hno h
    go_enter Try.func73, Try.ntmps73
    go_wp2_with (go_at_call 74; refine (only_no _ _ HI.out _).mono ?_; rintro e w' ⟨rfl, rfl⟩)
    go_ret
    exact HL

set_option maxHeartbeats 1000000 in
theorem find_2 (base g : Nat) (r : R) (m : M) (cap : Addr) (i : Int) (w : World) (hc : w.cell? cap = some (.pointer (some ⟨g, 0, none⟩))) (H : Hold w base g r m) :
    Calls Try.prog 73 #[.int .i64 2, .int .i64 i, .pointer (some cap)] w (Found w base g r m 2 i) := by
  by_cases h : i = 0
  · subst h
    have HL := found_yes (lens_2 H)
    clear H
    go_enter Try.func73, Try.ntmps73
    go_wp2_with (go_at_call 74; refine (only_yes _ _).mono ?_; rintro e w' ⟨rfl, rfl⟩)
    go_ret
    exact HL
  · have hno : ¬ there m 2 i := by
      rintro ⟨h1, h2⟩
      rw [area_2] at h2
      simp at h2; omega
    have HL := found_no (w := w) (base := base) (g := g) (r := r) hno
    have HI := Lib.hid h
    clear H hno h
    go_enter Try.func73, Try.ntmps73
    go_wp2_with (go_at_call 74; refine (only_no _ _ HI.out _).mono ?_; rintro e w' ⟨rfl, rfl⟩)
    go_ret
    exact HL

set_option maxHeartbeats 1000000 in
theorem find_5 (base g : Nat) (r : R) (m : M) (cap : Addr) (i : Int) (w : World) (hc : w.cell? cap = some (.pointer (some ⟨g, 0, none⟩))) (H : Hold w base g r m) :
    Calls Try.prog 73 #[.int .i64 5, .int .i64 i, .pointer (some cap)] w (Found w base g r m 5 i) := by
  by_cases h : i = 0
  · subst h
    have HL := found_yes (lens_5 H)
    clear H
    go_enter Try.func73, Try.ntmps73
    go_wp2_with (go_at_call 74; refine (only_yes _ _).mono ?_; rintro e w' ⟨rfl, rfl⟩)
    go_ret
    exact HL
  · have hno : ¬ there m 5 i := by
      rintro ⟨h1, h2⟩
      rw [area_5] at h2
      simp at h2; omega
    have HL := found_no (w := w) (base := base) (g := g) (r := r) hno
    have HI := Lib.hid h
    clear H hno h
    go_enter Try.func73, Try.ntmps73
    go_wp2_with (go_at_call 74; refine (only_no _ _ HI.out _).mono ?_; rintro e w' ⟨rfl, rfl⟩)
    go_ret
    exact HL

set_option maxHeartbeats 1000000 in
theorem find_6 (base g : Nat) (r : R) (m : M) (cap : Addr) (i : Int) (w : World) (hc : w.cell? cap = some (.pointer (some ⟨g, 0, none⟩))) (H : Hold w base g r m) :
    Calls Try.prog 73 #[.int .i64 6, .int .i64 i, .pointer (some cap)] w (Found w base g r m 6 i) := by
  by_cases h : i = 0
  · subst h
    have HL := found_yes (lens_6 H)
    clear H
    go_enter Try.func73, Try.ntmps73
    go_wp2_with (go_at_call 74; refine (only_yes _ _).mono ?_; rintro e w' ⟨rfl, rfl⟩)
    go_ret
    exact HL
  · have hno : ¬ there m 6 i := by
      rintro ⟨h1, h2⟩
      rw [area_6] at h2
      simp at h2; omega
    have HL := found_no (w := w) (base := base) (g := g) (r := r) hno
    have HI := Lib.hid h
    clear H hno h
    go_enter Try.func73, Try.ntmps73
    go_wp2_with (go_at_call 74; refine (only_no _ _ HI.out _).mono ?_; rintro e w' ⟨rfl, rfl⟩)
    go_ret
    exact HL

set_option maxHeartbeats 1000000 in
theorem find_3 (base g : Nat) (r : R) (m : M) (cap : Addr) (i : Int) (w : World) (hc : w.cell? cap = some (.pointer (some ⟨g, 0, none⟩))) (H : Hold w base g r m) :
    Calls Try.prog 73 #[.int .i64 3, .int .i64 i, .pointer (some cap)] w (Found w base g r m 3 i) := by
  have hl : la 3 := by unfold la; omega
  have ho := (H.2.2.2.2.2.2.2.1 3 hl).n_
  rw [area_3] at ho
  obtain ⟨hn, hnc, hcm, _⟩ := ho
  have hn : r.L.n = m.li.length := hn
  have hm : r.L.n ≤ maxLen := Nat.le_trans hnc hcm
  have hcell : w.cell? ⟨g, 2, none⟩ = some (.slice r.L.A r.L.n r.L.c) := H.1.cell 2
  by_cases h : there m 3 i
  · obtain ⟨k, rfl⟩ : ∃ k : Nat, i = k := ⟨i.toNat, by have := h.1; omega⟩
    have hk : k < (m.area 3).length := by have := h.2; omega
    obtain ⟨b, hA, HL0⟩ := lens_list H hl hk
    have hA : r.L.A = some ⟨b, 0, none⟩ := hA
    have HL := found_yes HL0
    have hkn : k < r.L.n := by rw [hn]; exact hk
    rw [hA] at hcell
    clear hA hn H hl HL0 hk h hnc hcm
    go_enter Try.func73, Try.ntmps73
    go_wp2_with (go_at_call 75; refine (among_yes _ _ _ _ _ hm hkn).mono ?_; rintro e w' ⟨rfl, rfl⟩)
    go_ret
    exact HL
  · have hout : i < 0 ∨ (r.L.n : Int) ≤ i := by
      rw [hn]
      by_cases h1 : i < 0
      · exact .inl h1
      · refine .inr ?_
        by_cases h2 : i < (m.li.length : Int)
        · exact absurd (show there m 3 i from ⟨by omega, h2⟩) h
        · omega
    have HL := found_no (w := w) (base := base) (g := g) (r := r) h
    have HO : Hid (i < 0 ∨ (r.L.n : Int) ≤ i) := hout
    clear hn H hl h hnc hcm hout
    go_enter Try.func73, Try.ntmps73
    go_wp2_with (go_at_call 75; refine (among_no _ _ _ hm HO.out).mono ?_; rintro e w' ⟨rfl, rfl⟩)
    go_ret
    exact HL

set_option maxHeartbeats 1000000 in
theorem find_4 (base g : Nat) (r : R) (m : M) (cap : Addr) (i : Int) (w : World) (hc : w.cell? cap = some (.pointer (some ⟨g, 0, none⟩))) (H : Hold w base g r m) :
    Calls Try.prog 73 #[.int .i64 4, .int .i64 i, .pointer (some cap)] w (Found w base g r m 4 i) := by
  have hl : la 4 := by unfold la; omega
  have ho := (H.2.2.2.2.2.2.2.1 4 hl).n_
  rw [area_4] at ho
  obtain ⟨hn, hnc, hcm, _⟩ := ho
  have hn : r.P.n = m.pi.length := hn
  have hm : r.P.n ≤ maxLen := Nat.le_trans hnc hcm
  have hcell : w.cell? ⟨g, 3, none⟩ = some (.slice r.P.A r.P.n r.P.c) := H.1.cell 3
  by_cases h : there m 4 i
  · obtain ⟨k, rfl⟩ : ∃ k : Nat, i = k := ⟨i.toNat, by have := h.1; omega⟩
    have hk : k < (m.area 4).length := by have := h.2; omega
    obtain ⟨b, hA, HL0⟩ := lens_list H hl hk
    have hA : r.P.A = some ⟨b, 0, none⟩ := hA
    have HL := found_yes HL0
    have hkn : k < r.P.n := by rw [hn]; exact hk
    rw [hA] at hcell
    clear hA hn H hl HL0 hk h hnc hcm
    go_enter Try.func73, Try.ntmps73
    go_wp2_with (go_at_call 75; refine (among_yes _ _ _ _ _ hm hkn).mono ?_; rintro e w' ⟨rfl, rfl⟩)
    go_ret
    exact HL
  · have hout : i < 0 ∨ (r.P.n : Int) ≤ i := by
      rw [hn]
      by_cases h1 : i < 0
      · exact .inl h1
      · refine .inr ?_
        by_cases h2 : i < (m.pi.length : Int)
        · exact absurd (show there m 4 i from ⟨by omega, h2⟩) h
        · omega
    have HL := found_no (w := w) (base := base) (g := g) (r := r) h
    have HO : Hid (i < 0 ∨ (r.P.n : Int) ≤ i) := hout
    clear hn H hl h hnc hcm hout
    go_enter Try.func73, Try.ntmps73
    go_wp2_with (go_at_call 75; refine (among_no _ _ _ hm HO.out).mono ?_; rintro e w' ⟨rfl, rfl⟩)
    go_ret
    exact HL

set_option maxHeartbeats 1000000 in
theorem find_7 (base g : Nat) (r : R) (m : M) (cap : Addr) (i : Int) (w : World) (hc : w.cell? cap = some (.pointer (some ⟨g, 0, none⟩))) (H : Hold w base g r m) :
    Calls Try.prog 73 #[.int .i64 7, .int .i64 i, .pointer (some cap)] w (Found w base g r m 7 i) := by
  have hl : la 7 := by unfold la; omega
  have ho := (H.2.2.2.2.2.2.2.1 7 hl).n_
  rw [area_7] at ho
  obtain ⟨hn, hnc, hcm, _⟩ := ho
  have hn : r.K.n = m.lk.length := hn
  have hm : r.K.n ≤ maxLen := Nat.le_trans hnc hcm
  have hcell : w.cell? ⟨g, 6, none⟩ = some (.slice r.K.A r.K.n r.K.c) := H.1.cell 6
  by_cases h : there m 7 i
  · obtain ⟨k, rfl⟩ : ∃ k : Nat, i = k := ⟨i.toNat, by have := h.1; omega⟩
    have hk : k < (m.area 7).length := by have := h.2; omega
    obtain ⟨b, hA, HL0⟩ := lens_list H hl hk
    have hA : r.K.A = some ⟨b, 0, none⟩ := hA
    have HL := found_yes HL0
    have hkn : k < r.K.n := by rw [hn]; exact hk
    rw [hA] at hcell
    clear hA hn H hl HL0 hk h hnc hcm
    go_enter Try.func73, Try.ntmps73
    go_wp2_with (go_at_call 75; refine (among_yes _ _ _ _ _ hm hkn).mono ?_; rintro e w' ⟨rfl, rfl⟩)
    go_ret
    exact HL
  · have hout : i < 0 ∨ (r.K.n : Int) ≤ i := by
      rw [hn]
      by_cases h1 : i < 0
      · exact .inl h1
      · refine .inr ?_
        by_cases h2 : i < (m.lk.length : Int)
        · exact absurd (show there m 7 i from ⟨by omega, h2⟩) h
        · omega
    have HL := found_no (w := w) (base := base) (g := g) (r := r) h
    have HO : Hid (i < 0 ∨ (r.K.n : Int) ≤ i) := hout
    clear hn H hl h hnc hcm hout
    go_enter Try.func73, Try.ntmps73
    go_wp2_with (go_at_call 75; refine (among_no _ _ _ hm HO.out).mono ?_; rintro e w' ⟨rfl, rfl⟩)
    go_ret
    exact HL

set_option maxHeartbeats 1000000 in
theorem find_8 (base g : Nat) (r : R) (m : M) (cap : Addr) (i : Int) (w : World) (hc : w.cell? cap = some (.pointer (some ⟨g, 0, none⟩))) (H : Hold w base g r m) :
    Calls Try.prog 73 #[.int .i64 8, .int .i64 i, .pointer (some cap)] w (Found w base g r m 8 i) := by
  have hl : la 8 := by unfold la; omega
  have ho := (H.2.2.2.2.2.2.2.1 8 hl).n_
  rw [area_8] at ho
  obtain ⟨hn, hnc, hcm, _⟩ := ho
  have hn : r.X.n = m.nx.length := hn
  have hm : r.X.n ≤ maxLen := Nat.le_trans hnc hcm
  have hcell : w.cell? ⟨g, 7, none⟩ = some (.slice r.X.A r.X.n r.X.c) := H.1.cell 7
  by_cases h : there m 8 i
  · obtain ⟨k, rfl⟩ : ∃ k : Nat, i = k := ⟨i.toNat, by have := h.1; omega⟩
    have hk : k < (m.area 8).length := by have := h.2; omega
    obtain ⟨b, hA, HL0⟩ := lens_list H hl hk
    have hA : r.X.A = some ⟨b, 0, none⟩ := hA
    have HL := found_yes HL0
    have hkn : k < r.X.n := by rw [hn]; exact hk
    rw [hA] at hcell
    clear hA hn H hl HL0 hk h hnc hcm
    go_enter Try.func73, Try.ntmps73
    go_wp2_with (go_at_call 75; refine (among_yes _ _ _ _ _ hm hkn).mono ?_; rintro e w' ⟨rfl, rfl⟩)
    go_ret
    exact HL
  · have hout : i < 0 ∨ (r.X.n : Int) ≤ i := by
      rw [hn]
      by_cases h1 : i < 0
      · exact .inl h1
      · refine .inr ?_
        by_cases h2 : i < (m.nx.length : Int)
        · exact absurd (show there m 8 i from ⟨by omega, h2⟩) h
        · omega
    have HL := found_no (w := w) (base := base) (g := g) (r := r) h
    have HO : Hid (i < 0 ∨ (r.X.n : Int) ≤ i) := hout
    clear hn H hl h hnc hcm hout
    go_enter Try.func73, Try.ntmps73
    go_wp2_with (go_at_call 75; refine (among_no _ _ _ hm HO.out).mono ?_; rintro e w' ⟨rfl, rfl⟩)
    go_ret
    exact HL

set_option maxHeartbeats 1000000 in
theorem find_9 (base g : Nat) (r : R) (m : M) (cap : Addr) (i : Int) (w : World) (hc : w.cell? cap = some (.pointer (some ⟨g, 0, none⟩))) (H : Hold w base g r m) :
    Calls Try.prog 73 #[.int .i64 9, .int .i64 i, .pointer (some cap)] w (Found w base g r m 9 i) := by
  have hl : la 9 := by unfold la; omega
  have ho := (H.2.2.2.2.2.2.2.1 9 hl).n_
  rw [area_9] at ho
  obtain ⟨hn, hnc, hcm, _⟩ := ho
  have hn : r.S.n = m.sl.length := hn
  have hm : r.S.n ≤ maxLen := Nat.le_trans hnc hcm
  have hcell : w.cell? ⟨g, 8, none⟩ = some (.slice r.S.A r.S.n r.S.c) := H.1.cell 8
  by_cases h : there m 9 i
  · obtain ⟨k, rfl⟩ : ∃ k : Nat, i = k := ⟨i.toNat, by have := h.1; omega⟩
    have hk : k < (m.area 9).length := by have := h.2; omega
    obtain ⟨b, hA, HL0⟩ := lens_list H hl hk
    have hA : r.S.A = some ⟨b, 0, none⟩ := hA
    have HL := found_yes HL0
    have hkn : k < r.S.n := by rw [hn]; exact hk
    rw [hA] at hcell
    clear hA hn H hl HL0 hk h hnc hcm
    go_enter Try.func73, Try.ntmps73
    go_wp2_with (go_at_call 75; refine (among_yes _ _ _ _ _ hm hkn).mono ?_; rintro e w' ⟨rfl, rfl⟩)
    go_ret
    exact HL
  · have hout : i < 0 ∨ (r.S.n : Int) ≤ i := by
      rw [hn]
      by_cases h1 : i < 0
      · exact .inl h1
      · refine .inr ?_
        by_cases h2 : i < (m.sl.length : Int)
        · exact absurd (show there m 9 i from ⟨by omega, h2⟩) h
        · omega
    have HL := found_no (w := w) (base := base) (g := g) (r := r) h
    have HO : Hid (i < 0 ∨ (r.S.n : Int) ≤ i) := hout
    clear hn H hl h hnc hcm hout
    go_enter Try.func73, Try.ntmps73
    go_wp2_with (go_at_call 75; refine (among_no _ _ _ hm HO.out).mono ?_; rintro e w' ⟨rfl, rfl⟩)
    go_ret
    exact HL

/-- finding a word, whatever area and place are asked for -/
theorem find_c (base g : Nat) (r : R) (m : M) (cap : Addr) (a i : Int) (w : World) (hc : w.cell? cap = some (.pointer (some ⟨g, 0, none⟩))) (H : Hold w base g r m)
    (ha : -9223372036854775808 ≤ a) (ha' : a ≤ 9223372036854775807) :
    Calls Try.prog 73 #[.int .i64 a, .int .i64 i, .pointer (some cap)] w (Found w base g r m a i) := by
  by_cases h : a < 1 ∨ 9 < a
  · exact find_out base g r m cap a i w hc ha ha' h
  · rcases nine h with rfl | rfl | rfl | rfl | rfl | rfl | rfl | rfl | rfl
    · exact find_1 base g r m cap i w hc H
    · exact find_2 base g r m cap i w hc H
    · exact find_3 base g r m cap i w hc H
    · exact find_4 base g r m cap i w hc H
    · exact find_5 base g r m cap i w hc H
    · exact find_6 base g r m cap i w hc H
    · exact find_7 base g r m cap i w hc H
    · exact find_8 base g r m cap i w hc H
    · exact find_9 base g r m cap i w hc H
end Go.Proofs.Ytjgbgjkjnlaloaa.Storec
