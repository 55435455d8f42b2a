/- The package store's small functions, each by its contract: finding a word. · The package store's access, by its contract: what it tells, and the words behind it. · Copying the words: slices.Clone and the package store's copied, each by its contract. · The package store's Do, by its contract: the words behind an access, and what it tells; what it was handed stays. -/
import Derived.Test.YtffppdcpiieapaaRows
import Derived.WalkKit
import Derived.IntWalk
import Derived.WalkSpells
import Derived.Outline
import Derived.Lib.SliceRun
import Derived.Deep.RegionHeld3
import Derived.Deep.DrawnRows
import Derived.Test.YtffppdcpiieapaaQ1
namespace Go.Proofs.Ytffppdcpiieapaa.Storec
open Go.RowKit Go.Proofs.Ytffppdcpiieapaa.Memc
set_option linter.unusedVariables false
set_option maxRecDepth 100000

theorem only_c (p : Addr) (i : Int) (w : World) :
    Calls Try.prog 126 #[.pointer (some p), .int .i64 i] w fun e w' => e = .returned (.pointer (if i = 0 then some p else none)) ∧ w = w' := by
  by_cases h : i = 0
  · have hb : (i != 0) = false := by simp [h]
    rw [if_pos h]
    clear h
    go_enter Try.func126, Try.ntmps126
    go_wp2
    go_ret
    exact ⟨rfl, rfl⟩
  · have hb : (i != 0) = true := by simp [h]
    rw [if_neg h]
    clear h
    go_enter Try.func126, Try.ntmps126
    go_wp2
    go_ret
    exact ⟨rfl, rfl⟩

theorem among_no (s : Sl) (i : Int) (w : World) (hn : s.n ≤ maxLen) (h : i < 0 ∨ s.n ≤ i) :
    Calls Try.prog 127 #[.slice s.A s.n s.c, .int .i64 i] w fun e w' => e = .returned (.pointer none) ∧ w = w' := by
  unfold maxLen at hn
  rcases h with h | h
  · go_enter Try.func127, Try.ntmps127
    go_wp2
    go_ret
    exact ⟨rfl, rfl⟩
  · have h0 : decide (i < 0) = false := by simp; omega
    go_enter Try.func127, Try.ntmps127
    go_wp2
    go_ret
    exact ⟨rfl, rfl⟩

theorem among_yes (b n c k : Nat) (w : World) (hn : n ≤ maxLen) (h : k < n) :
    Calls Try.prog 127 #[.slice (some ⟨b, 0, none⟩) n c, .int .i64 k] w fun e w' => e = .returned (.pointer (some ⟨b, k, none⟩)) ∧ w = w' := by
  unfold maxLen at hn
  go_enter Try.func127, Try.ntmps127
  go_wp2
  go_ret
  exact ⟨rfl, rfl⟩
theorem only_yes (p : Addr) (w : World) :
    Calls Try.prog 126 #[.pointer (some p), .int .i64 0] w fun e w' => e = .returned (.pointer (some p)) ∧ w = w' :=
  (only_c p 0 w).mono fun _ _ h => h
theorem only_no (p : Addr) (i : Int) (hi : ¬ i = 0) (w : World) :
    Calls Try.prog 126 #[.pointer (some p), .int .i64 i] w fun e w' => e = .returned (.pointer none) ∧ w = w' :=
  (only_c p i w).mono fun _ _ h => ⟨by rw [h.1, if_neg hi], h.2⟩

/-- the word that was looked for is found -/
def Found (w : World) (base g : Nat) (r : R) (m : M) (a i : Int) (e : Ending) (w' : World) : Prop :=
  ∃ q : Option Addr, e = .returned (.pointer q) ∧ Lens w base g r m a i q ∧ w = w'

theorem found_no {w : World} {base g : Nat} {r : R} {m : M} {a i : Int} (h : ¬ there m a i) : Found w base g r m a i (.returned (.pointer none)) w := ⟨none, rfl, h, rfl⟩
theorem found_yes {w : World} {base g : Nat} {r : R} {m : M} {a i : Int} {p : Addr} (h : Lens w base g r m a i (some p)) : Found w base g r m a i (.returned (.pointer (some p))) w := ⟨some p, rfl, h, rfl⟩

set_option maxHeartbeats 1000000 in
theorem find_out (base g : Nat) (r : R) (m : M) (cap : Addr) (a i : Int) (w : World) (hc : w.cell? cap = some (.pointer (some ⟨g, 0, none⟩)))
    (ha : -9223372036854775808 ≤ a) (ha' : a ≤ 9223372036854775807) (h : a < 1 ∨ 9 < a) :
    Calls Try.prog 125 #[.int .i64 a, .int .i64 i, .pointer (some cap)] w (Found w base g r m a i) := by
  have hno : ¬ there m a i := by
    rintro ⟨h1, h2⟩
    rw [area_no m a h] at h2
    simp at h2; omega
  have H := found_no (w := w) (base := base) (g := g) (r := r) hno
  clear hno
  rcases h with h | h
  all_goals
    go_enter Try.func125, Try.ntmps125
    go_wp2
    go_ret
    exact H

set_option maxHeartbeats 1000000 in
theorem find_1 (base g : Nat) (r : R) (m : M) (cap : Addr) (i : Int) (w : World) (hc : w.cell? cap = some (.pointer (some ⟨g, 0, none⟩))) (H : Hold w base g r m) :
    Calls Try.prog 125 #[.int .i64 1, .int .i64 i, .pointer (some cap)] w (Found w base g r m 1 i) := by
  by_cases h : i = 0
  · subst h
    have HL := found_yes (lens_1 H)
    clear H
    go_enter Try.func125, Try.ntmps125
    go_wp2_with (go_at_call 126; refine (only_yes _ _).mono ?_; rintro e w' ⟨rfl, rfl⟩)
    go_ret
    exact HL
  · have hno : ¬ there m 1 i := by
      rintro ⟨h1, h2⟩
      rw [area_1] at h2
      simp at h2; omega
    have HL := found_no (w := w) (base := base) (g := g) (r := r) hno
    have HI := Lib.hid h
    clear H hno h
    go_enter Try.func125, Try.ntmps125
    go_wp2_with (go_at_call 126; refine (only_no _ _ HI.out _).mono ?_; rintro e w' ⟨rfl, rfl⟩)
    go_ret
    exact HL

set_option maxHeartbeats 1000000 in
theorem find_2 (base g : Nat) (r : R) (m : M) (cap : Addr) (i : Int) (w : World) (hc : w.cell? cap = some (.pointer (some ⟨g, 0, none⟩))) (H : Hold w base g r m) :
    Calls Try.prog 125 #[.int .i64 2, .int .i64 i, .pointer (some cap)] w (Found w base g r m 2 i) := by
  by_cases h : i = 0
  · subst h
    have HL := found_yes (lens_2 H)
    clear H
    go_enter Try.func125, Try.ntmps125
    go_wp2_with (go_at_call 126; refine (only_yes _ _).mono ?_; rintro e w' ⟨rfl, rfl⟩)
    go_ret
    exact HL
  · have hno : ¬ there m 2 i := by
      rintro ⟨h1, h2⟩
      rw [area_2] at h2
      simp at h2; omega
    have HL := found_no (w := w) (base := base) (g := g) (r := r) hno
    have HI := Lib.hid h
    clear H hno h
    go_enter Try.func125, Try.ntmps125
    go_wp2_with (go_at_call 126; refine (only_no _ _ HI.out _).mono ?_; rintro e w' ⟨rfl, rfl⟩)
    go_ret
    exact HL

set_option maxHeartbeats 1000000 in
theorem find_5 (base g : Nat) (r : R) (m : M) (cap : Addr) (i : Int) (w : World) (hc : w.cell? cap = some (.pointer (some ⟨g, 0, none⟩))) (H : Hold w base g r m) :
    Calls Try.prog 125 #[.int .i64 5, .int .i64 i, .pointer (some cap)] w (Found w base g r m 5 i) := by
  by_cases h : i = 0
  · subst h
    have HL := found_yes (lens_5 H)
    clear H
    go_enter Try.func125, Try.ntmps125
    go_wp2_with (go_at_call 126; refine (only_yes _ _).mono ?_; rintro e w' ⟨rfl, rfl⟩)
    go_ret
    exact HL
  · have hno : ¬ there m 5 i := by
      rintro ⟨h1, h2⟩
      rw [area_5] at h2
      simp at h2; omega
    have HL := found_no (w := w) (base := base) (g := g) (r := r) hno
    have HI := Lib.hid h
    clear H hno h
    go_enter Try.func125, Try.ntmps125
    go_wp2_with (go_at_call 126; refine (only_no _ _ HI.out _).mono ?_; rintro e w' ⟨rfl, rfl⟩)
    go_ret
    exact HL

set_option maxHeartbeats 1000000 in
theorem find_6 (base g : Nat) (r : R) (m : M) (cap : Addr) (i : Int) (w : World) (hc : w.cell? cap = some (.pointer (some ⟨g, 0, none⟩))) (H : Hold w base g r m) :
    Calls Try.prog 125 #[.int .i64 6, .int .i64 i, .pointer (some cap)] w (Found w base g r m 6 i) := by
  by_cases h : i = 0
  · subst h
    have HL := found_yes (lens_6 H)
    clear H
    go_enter Try.func125, Try.ntmps125
    go_wp2_with (go_at_call 126; refine (only_yes _ _).mono ?_; rintro e w' ⟨rfl, rfl⟩)
    go_ret
    exact HL
  · have hno : ¬ there m 6 i := by
      rintro ⟨h1, h2⟩
      rw [area_6] at h2
      simp at h2; omega
    have HL := found_no (w := w) (base := base) (g := g) (r := r) hno
    have HI := Lib.hid h
    clear H hno h
    go_enter Try.func125, Try.ntmps125
    go_wp2_with (go_at_call 126; refine (only_no _ _ HI.out _).mono ?_; rintro e w' ⟨rfl, rfl⟩)
    go_ret
    exact HL

set_option maxHeartbeats 1000000 in
theorem find_3 (base g : Nat) (r : R) (m : M) (cap : Addr) (i : Int) (w : World) (hc : w.cell? cap = some (.pointer (some ⟨g, 0, none⟩))) (H : Hold w base g r m) :
    Calls Try.prog 125 #[.int .i64 3, .int .i64 i, .pointer (some cap)] w (Found w base g r m 3 i) := by
  have hl : la 3 := by unfold la; omega
  have ho := (H.2.2.2.2.2.2.2.1 3 hl).n_
  rw [area_3] at ho
  obtain ⟨hn, hnc, hcm, _⟩ := ho
  have hn : r.L.n = m.li.length := hn
  have hm : r.L.n ≤ maxLen := Nat.le_trans hnc hcm
  have hcell : w.cell? ⟨g, 2, none⟩ = some (.slice r.L.A r.L.n r.L.c) := H.1.cell 2
  by_cases h : there m 3 i
  · obtain ⟨k, rfl⟩ : ∃ k : Nat, i = k := ⟨i.toNat, by have := h.1; omega⟩
    have hk : k < (m.area 3).length := by have := h.2; omega
    obtain ⟨b, hA, HL0⟩ := lens_list H hl hk
    have hA : r.L.A = some ⟨b, 0, none⟩ := hA
    have HL := found_yes HL0
    have hkn : k < r.L.n := by rw [hn]; exact hk
    rw [hA] at hcell
    clear hA hn H hl HL0 hk h hnc hcm
    go_enter Try.func125, Try.ntmps125
    go_wp2_with (go_at_call 127; refine (among_yes _ _ _ _ _ hm hkn).mono ?_; rintro e w' ⟨rfl, rfl⟩)
    go_ret
    exact HL
  · have hout : i < 0 ∨ (r.L.n : Int) ≤ i := by
      rw [hn]
      by_cases h1 : i < 0
      · exact .inl h1
      · refine .inr ?_
        by_cases h2 : i < (m.li.length : Int)
        · exact absurd (show there m 3 i from ⟨by omega, h2⟩) h
        · omega
    have HL := found_no (w := w) (base := base) (g := g) (r := r) h
    have HO : Hid (i < 0 ∨ (r.L.n : Int) ≤ i) := hout
    clear hn H hl h hnc hcm hout
    go_enter Try.func125, Try.ntmps125
    go_wp2_with (go_at_call 127; refine (among_no _ _ _ hm HO.out).mono ?_; rintro e w' ⟨rfl, rfl⟩)
    go_ret
    exact HL

set_option maxHeartbeats 1000000 in
theorem find_4 (base g : Nat) (r : R) (m : M) (cap : Addr) (i : Int) (w : World) (hc : w.cell? cap = some (.pointer (some ⟨g, 0, none⟩))) (H : Hold w base g r m) :
    Calls Try.prog 125 #[.int .i64 4, .int .i64 i, .pointer (some cap)] w (Found w base g r m 4 i) := by
  have hl : la 4 := by unfold la; omega
  have ho := (H.2.2.2.2.2.2.2.1 4 hl).n_
  rw [area_4] at ho
  obtain ⟨hn, hnc, hcm, _⟩ := ho
  have hn : r.P.n = m.pi.length := hn
  have hm : r.P.n ≤ maxLen := Nat.le_trans hnc hcm
  have hcell : w.cell? ⟨g, 3, none⟩ = some (.slice r.P.A r.P.n r.P.c) := H.1.cell 3
  by_cases h : there m 4 i
  · obtain ⟨k, rfl⟩ : ∃ k : Nat, i = k := ⟨i.toNat, by have := h.1; omega⟩
    have hk : k < (m.area 4).length := by have := h.2; omega
    obtain ⟨b, hA, HL0⟩ := lens_list H hl hk
    have hA : r.P.A = some ⟨b, 0, none⟩ := hA
    have HL := found_yes HL0
    have hkn : k < r.P.n := by rw [hn]; exact hk
    rw [hA] at hcell
    clear hA hn H hl HL0 hk h hnc hcm
    go_enter Try.func125, Try.ntmps125
    go_wp2_with (go_at_call 127; refine (among_yes _ _ _ _ _ hm hkn).mono ?_; rintro e w' ⟨rfl, rfl⟩)
    go_ret
    exact HL
  · have hout : i < 0 ∨ (r.P.n : Int) ≤ i := by
      rw [hn]
      by_cases h1 : i < 0
      · exact .inl h1
      · refine .inr ?_
        by_cases h2 : i < (m.pi.length : Int)
        · exact absurd (show there m 4 i from ⟨by omega, h2⟩) h
        · omega
    have HL := found_no (w := w) (base := base) (g := g) (r := r) h
    have HO : Hid (i < 0 ∨ (r.P.n : Int) ≤ i) := hout
    clear hn H hl h hnc hcm hout
    go_enter Try.func125, Try.ntmps125
    go_wp2_with (go_at_call 127; refine (among_no _ _ _ hm HO.out).mono ?_; rintro e w' ⟨rfl, rfl⟩)
    go_ret
    exact HL

set_option maxHeartbeats 1000000 in
theorem find_7 (base g : Nat) (r : R) (m : M) (cap : Addr) (i : Int) (w : World) (hc : w.cell? cap = some (.pointer (some ⟨g, 0, none⟩))) (H : Hold w base g r m) :
    Calls Try.prog 125 #[.int .i64 7, .int .i64 i, .pointer (some cap)] w (Found w base g r m 7 i) := by
  have hl : la 7 := by unfold la; omega
  have ho := (H.2.2.2.2.2.2.2.1 7 hl).n_
  rw [area_7] at ho
  obtain ⟨hn, hnc, hcm, _⟩ := ho
  have hn : r.K.n = m.lk.length := hn
  have hm : r.K.n ≤ maxLen := Nat.le_trans hnc hcm
  have hcell : w.cell? ⟨g, 6, none⟩ = some (.slice r.K.A r.K.n r.K.c) := H.1.cell 6
  by_cases h : there m 7 i
  · obtain ⟨k, rfl⟩ : ∃ k : Nat, i = k := ⟨i.toNat, by have := h.1; omega⟩
    have hk : k < (m.area 7).length := by have := h.2; omega
    obtain ⟨b, hA, HL0⟩ := lens_list H hl hk
    have hA : r.K.A = some ⟨b, 0, none⟩ := hA
    have HL := found_yes HL0
    have hkn : k < r.K.n := by rw [hn]; exact hk
    rw [hA] at hcell
    clear hA hn H hl HL0 hk h hnc hcm
    go_enter Try.func125, Try.ntmps125
    go_wp2_with (go_at_call 127; refine (among_yes _ _ _ _ _ hm hkn).mono ?_; rintro e w' ⟨rfl, rfl⟩)
    go_ret
    exact HL
  · have hout : i < 0 ∨ (r.K.n : Int) ≤ i := by
      rw [hn]
      by_cases h1 : i < 0
      · exact .inl h1
      · refine .inr ?_
        by_cases h2 : i < (m.lk.length : Int)
        · exact absurd (show there m 7 i from ⟨by omega, h2⟩) h
        · omega
    have HL := found_no (w := w) (base := base) (g := g) (r := r) h
    have HO : Hid (i < 0 ∨ (r.K.n : Int) ≤ i) := hout
    clear hn H hl h hnc hcm hout
    go_enter Try.func125, Try.ntmps125
    go_wp2_with (go_at_call 127; refine (among_no _ _ _ hm HO.out).mono ?_; rintro e w' ⟨rfl, rfl⟩)
    go_ret
    exact HL

set_option maxHeartbeats 1000000 in
theorem find_8 (base g : Nat) (r : R) (m : M) (cap : Addr) (i : Int) (w : World) (hc : w.cell? cap = some (.pointer (some ⟨g, 0, none⟩))) (H : Hold w base g r m) :
    Calls Try.prog 125 #[.int .i64 8, .int .i64 i, .pointer (some cap)] w (Found w base g r m 8 i) := by
  have hl : la 8 := by unfold la; omega
  have ho := (H.2.2.2.2.2.2.2.1 8 hl).n_
  rw [area_8] at ho
  obtain ⟨hn, hnc, hcm, _⟩ := ho
  have hn : r.X.n = m.nx.length := hn
  have hm : r.X.n ≤ maxLen := Nat.le_trans hnc hcm
  have hcell : w.cell? ⟨g, 7, none⟩ = some (.slice r.X.A r.X.n r.X.c) := H.1.cell 7
  by_cases h : there m 8 i
  · obtain ⟨k, rfl⟩ : ∃ k : Nat, i = k := ⟨i.toNat, by have := h.1; omega⟩
    have hk : k < (m.area 8).length := by have := h.2; omega
    obtain ⟨b, hA, HL0⟩ := lens_list H hl hk
    have hA : r.X.A = some ⟨b, 0, none⟩ := hA
    have HL := found_yes HL0
    have hkn : k < r.X.n := by rw [hn]; exact hk
    rw [hA] at hcell
    clear hA hn H hl HL0 hk h hnc hcm
    go_enter Try.func125, Try.ntmps125
    go_wp2_with (go_at_call 127; refine (among_yes _ _ _ _ _ hm hkn).mono ?_; rintro e w' ⟨rfl, rfl⟩)
    go_ret
    exact HL
  · have hout : i < 0 ∨ (r.X.n : Int) ≤ i := by
      rw [hn]
      by_cases h1 : i < 0
      · exact .inl h1
      · refine .inr ?_
        by_cases h2 : i < (m.nx.length : Int)
        · exact absurd (show there m 8 i from ⟨by omega, h2⟩) h
        · omega
    have HL := found_no (w := w) (base := base) (g := g) (r := r) h
    have HO : Hid (i < 0 ∨ (r.X.n : Int) ≤ i) := hout
    clear hn H hl h hnc hcm hout
    go_enter Try.func125, Try.ntmps125
    go_wp2_with (go_at_call 127; refine (among_no _ _ _ hm HO.out).mono ?_; rintro e w' ⟨rfl, rfl⟩)
    go_ret
    exact HL

set_option maxHeartbeats 1000000 in
theorem find_9 (base g : Nat) (r : R) (m : M) (cap : Addr) (i : Int) (w : World) (hc : w.cell? cap = some (.pointer (some ⟨g, 0, none⟩))) (H : Hold w base g r m) :
    Calls Try.prog 125 #[.int .i64 9, .int .i64 i, .pointer (some cap)] w (Found w base g r m 9 i) := by
  have hl : la 9 := by unfold la; omega
  have ho := (H.2.2.2.2.2.2.2.1 9 hl).n_
  rw [area_9] at ho
  obtain ⟨hn, hnc, hcm, _⟩ := ho
  have hn : r.S.n = m.sl.length := hn
  have hm : r.S.n ≤ maxLen := Nat.le_trans hnc hcm
  have hcell : w.cell? ⟨g, 8, none⟩ = some (.slice r.S.A r.S.n r.S.c) := H.1.cell 8
  by_cases h : there m 9 i
  · obtain ⟨k, rfl⟩ : ∃ k : Nat, i = k := ⟨i.toNat, by have := h.1; omega⟩
    have hk : k < (m.area 9).length := by have := h.2; omega
    obtain ⟨b, hA, HL0⟩ := lens_list H hl hk
    have hA : r.S.A = some ⟨b, 0, none⟩ := hA
    have HL := found_yes HL0
    have hkn : k < r.S.n := by rw [hn]; exact hk
    rw [hA] at hcell
    clear hA hn H hl HL0 hk h hnc hcm
    go_enter Try.func125, Try.ntmps125
    go_wp2_with (go_at_call 127; refine (among_yes _ _ _ _ _ hm hkn).mono ?_; rintro e w' ⟨rfl, rfl⟩)
    go_ret
    exact HL
  · have hout : i < 0 ∨ (r.S.n : Int) ≤ i := by
      rw [hn]
      by_cases h1 : i < 0
      · exact .inl h1
      · refine .inr ?_
        by_cases h2 : i < (m.sl.length : Int)
        · exact absurd (show there m 9 i from ⟨by omega, h2⟩) h
        · omega
    have HL := found_no (w := w) (base := base) (g := g) (r := r) h
    have HO : Hid (i < 0 ∨ (r.S.n : Int) ≤ i) := hout
    clear hn H hl h hnc hcm hout
    go_enter Try.func125, Try.ntmps125
    go_wp2_with (go_at_call 127; refine (among_no _ _ _ hm HO.out).mono ?_; rintro e w' ⟨rfl, rfl⟩)
    go_ret
    exact HL

/-- finding a word, whatever area and place are asked for -/
theorem find_c (base g : Nat) (r : R) (m : M) (cap : Addr) (a i : Int) (w : World) (hc : w.cell? cap = some (.pointer (some ⟨g, 0, none⟩))) (H : Hold w base g r m)
    (ha : -9223372036854775808 ≤ a) (ha' : a ≤ 9223372036854775807) :
    Calls Try.prog 125 #[.int .i64 a, .int .i64 i, .pointer (some cap)] w (Found w base g r m a i) := by
  by_cases h : a < 1 ∨ 9 < a
  · exact find_out base g r m cap a i w hc ha ha' h
  · rcases nine h with rfl | rfl | rfl | rfl | rfl | rfl | rfl | rfl | rfl
    · exact find_1 base g r m cap i w hc H
    · exact find_2 base g r m cap i w hc H
    · exact find_3 base g r m cap i w hc H
    · exact find_4 base g r m cap i w hc H
    · exact find_5 base g r m cap i w hc H
    · exact find_6 base g r m cap i w hc H
    · exact find_7 base g r m cap i w hc H
    · exact find_8 base g r m cap i w hc H
    · exact find_9 base g r m cap i w hc H
end Go.Proofs.Ytffppdcpiieapaa.Storec

namespace Go.Proofs.Ytffppdcpiieapaa.Storec
open Go.RowKit Go.Proofs.Ytffppdcpiieapaa.Memc
set_option linter.unusedVariables false
set_option maxRecDepth 100000

theorem find_yes (base g : Nat) (r : R) (m : M) (cap : Addr) (a i : Int) (w : World) (hc : w.cell? cap = some (.pointer (some ⟨g, 0, none⟩))) (H : Hold w base g r m)
    (ha : -9223372036854775808 ≤ a) (ha' : a ≤ 9223372036854775807) (ht : there m a i) :
    Calls Try.prog 125 #[.int .i64 a, .int .i64 i, .pointer (some cap)] w fun e w' => ∃ p : Addr, e = .returned (.pointer (some p)) ∧ Lens w base g r m a i (some p) ∧ w = w' :=
  (find_c base g r m cap a i w hc H ha ha').mono fun e w' ⟨q, he, hl, hw⟩ => by
    rcases q with _ | p
    · exact absurd ht hl
    · exact ⟨p, he, hl, hw⟩
theorem find_none (base g : Nat) (r : R) (m : M) (cap : Addr) (a i : Int) (w : World) (hc : w.cell? cap = some (.pointer (some ⟨g, 0, none⟩))) (H : Hold w base g r m)
    (ha : -9223372036854775808 ≤ a) (ha' : a ≤ 9223372036854775807) (ht : ¬ there m a i) :
    Calls Try.prog 125 #[.int .i64 a, .int .i64 i, .pointer (some cap)] w fun e w' => e = .returned (.pointer none) ∧ w = w' :=
  (find_c base g r m cap a i w hc H ha ha').mono fun e w' ⟨q, he, hl, hw⟩ => by
    rcases q with _ | p
    · exact ⟨he, hw⟩
    · exact absurd hl.1 ht

def clo (cap : Addr) : Value := .func (.func 125) #[] #[.pointer (some cap)]
def Acc.v (c : Acc) : Value := .agg #[.int .i64 c.d, .int .i64 c.ar, .int .i64 c.at_, .int .u64 c.old, .int .u64 c.new]

/-- blocks that hold no words are as they were -/
def Others (w w' : World) : Prop := ∀ (k : Nat) (t : TypeId) (cs : Array Value), Blk w k t cs → t ≠ 33 → t ≠ 30 → Blk w' k t cs
theorem Others.alloc (w : World) (o : Obj) : Others w (w.alloc o) := fun k t cs h _ _ => h.alloc o
theorem Others.put_ {w : World} {o : Obj} {p : Addr} {v : Value} (h : Kin (w.alloc o) p.block) : Others w ((w.alloc o).setCell p v) := fun k t cs hk h1 h2 =>
  (hk.alloc o).far (h.ne_ (hk.alloc o) h1 h2) v

/-- what an access comes to -/
def Did (w : World) (base g : Nat) (m : M) (c : Acc) (e : Ending) (w' : World) : Prop :=
  (∃ r', Hold w' base g r' (acc m c).1) ∧ e = .returned (.tuple #[.int .u64 (acc m c).2.1, .bool (acc m c).2.2]) ∧ Below base w w' ∧ Others w w'

set_option maxHeartbeats 1000000 in
theorem access_none (base g : Nat) (r : R) (m : M) (cap : Addr) (d ar at_ old new : Int) (w : World) (hc : w.cell? cap = some (.pointer (some ⟨g, 0, none⟩))) (hcb : cap.block < w.heap.size) (H : Hold w base g r m)
    (hb : base ≤ w.heap.size) (ha : -9223372036854775808 ≤ ar) (ha' : ar ≤ 9223372036854775807) (ht : ¬ there m ar at_) :
    Calls Try.prog 122 #[.func (.func 125) #[] #[.pointer (some cap)], .agg #[.int .i64 d, .int .i64 ar, .int .i64 at_, .int .u64 old, .int .u64 new]] w
      (fun e w' => Hold w' base g r m ∧ e = .returned (.tuple #[.int .u64 0, .bool false]) ∧ Below base w w' ∧ Others w w') := by
  have HT := Lib.hid ht
  clear ht
  go_enter Try.func122, Try.ntmps122
  go_wp2_with (go_at_call 125; refine (find_none base g r m cap _ _ _ (by go_simp) (H.alloc _) (by omega) (by omega) HT.out).mono ?_; rintro e w' ⟨rfl, rfl⟩)
  go_ret2
  exact ⟨H.alloc _, rfl, (Below.refl _ _).alloc hb _, Others.alloc _ _⟩

set_option maxHeartbeats 1000000 in
theorem access_other (base g : Nat) (r : R) (m : M) (cap : Addr) (d ar at_ old new : Int) (w : World) (hc : w.cell? cap = some (.pointer (some ⟨g, 0, none⟩))) (hcb : cap.block < w.heap.size) (H : Hold w base g r m)
    (hb : base ≤ w.heap.size) (ha : -9223372036854775808 ≤ ar) (ha' : ar ≤ 9223372036854775807) (ht : there m ar at_) (hd : d < 1 ∨ 3 < d) :
    Calls Try.prog 122 #[.func (.func 125) #[] #[.pointer (some cap)], .agg #[.int .i64 d, .int .i64 ar, .int .i64 at_, .int .u64 old, .int .u64 new]] w
      (fun e w' => Hold w' base g r m ∧ e = .returned (.tuple #[.int .u64 0, .bool false]) ∧ Below base w w' ∧ Others w w') := by
  have HT := Lib.hid ht
  clear ht
  have e1 : (d == 1) = false := by simp; omega
  have e2 : (d == 2) = false := by simp; omega
  have e3 : (d == 3) = false := by simp; omega
  clear hd
  go_enter Try.func122, Try.ntmps122
  go_wp2_with (go_at_call 125; refine (find_yes base g r m cap _ _ _ (by go_simp) (H.alloc _) (by omega) (by omega) HT.out).mono ?_; rintro e w' ⟨p, rfl, ⟨_, hpb, hpl, hpc, hpf, hpk, hpS⟩, rfl⟩; have HK := Lib.hid hpk; clear hpk)
  go_ret2
  exact ⟨H.alloc _, rfl, (Below.refl _ _).alloc hb _, Others.alloc _ _⟩

set_option maxHeartbeats 1000000 in
theorem access_read (base g : Nat) (r : R) (m : M) (cap : Addr) (ar at_ old new : Int) (w : World) (hc : w.cell? cap = some (.pointer (some ⟨g, 0, none⟩))) (hcb : cap.block < w.heap.size) (H : Hold w base g r m)
    (hb : base ≤ w.heap.size) (ha : -9223372036854775808 ≤ ar) (ha' : ar ≤ 9223372036854775807) (ht : there m ar at_) :
    Calls Try.prog 122 #[.func (.func 125) #[] #[.pointer (some cap)], .agg #[.int .i64 1, .int .i64 ar, .int .i64 at_, .int .u64 old, .int .u64 new]] w
      (fun e w' => Hold w' base g r m ∧ e = .returned (.tuple #[.int .u64 (get m ar at_), .bool false]) ∧ Below base w w' ∧ Others w w') := by
  have HT := Lib.hid ht
  clear ht
  go_enter Try.func122, Try.ntmps122
  go_wp2_with (go_at_call 125; refine (find_yes base g r m cap _ _ _ (by go_simp) (H.alloc _) (by omega) (by omega) HT.out).mono ?_; rintro e w' ⟨p, rfl, ⟨_, hpb, hpl, hpc, hpf, hpk, hpS⟩, rfl⟩; have HK := Lib.hid hpk; clear hpk)
  go_ret2
  exact ⟨H.alloc _, rfl, (Below.refl _ _).alloc hb _, Others.alloc _ _⟩

set_option maxHeartbeats 1000000 in
theorem access_write (base g : Nat) (r : R) (m : M) (cap : Addr) (ar at_ old new : Int) (w : World) (hc : w.cell? cap = some (.pointer (some ⟨g, 0, none⟩))) (hcb : cap.block < w.heap.size) (H : Hold w base g r m)
    (hb : base ≤ w.heap.size) (ha : -9223372036854775808 ≤ ar) (ha' : ar ≤ 9223372036854775807) (ht : there m ar at_) (hv0 : 0 ≤ new ∧ new ≤ 18446744073709551615) :
    Calls Try.prog 122 #[.func (.func 125) #[] #[.pointer (some cap)], .agg #[.int .i64 2, .int .i64 ar, .int .i64 at_, .int .u64 old, .int .u64 new]] w
      (fun e w' => (∃ r', Hold w' base g r' (set m ar at_ new)) ∧ e = .returned (.tuple #[.int .u64 (get m ar at_), .bool true]) ∧ Below base w w' ∧ Others w w') := by
  have HT := Lib.hid ht
  clear ht
  have hv : Hid (0 ≤ new ∧ new ≤ 18446744073709551615) := hv0
  clear hv0
  go_enter Try.func122, Try.ntmps122
  go_wp2_with (go_at_call 125; refine (find_yes base g r m cap _ _ _ (by go_simp) (H.alloc _) (by omega) (by omega) HT.out).mono ?_; rintro e w' ⟨p, rfl, ⟨_, hpb, hpl, hpc, hpf, hpk, hpS⟩, rfl⟩; have HK := Lib.hid hpk; clear hpk)
  go_ret2
  exact ⟨hpS _ (H.alloc _) new hv.out, rfl, ((Below.refl _ _).alloc hb _).setCell hpb _, Others.put_ HK.out⟩

set_option maxHeartbeats 1000000 in
theorem access_swap (base g : Nat) (r : R) (m : M) (cap : Addr) (ar at_ old new : Int) (w : World) (hc : w.cell? cap = some (.pointer (some ⟨g, 0, none⟩))) (hcb : cap.block < w.heap.size) (H : Hold w base g r m)
    (hb : base ≤ w.heap.size) (ha : -9223372036854775808 ≤ ar) (ha' : ar ≤ 9223372036854775807) (ht : there m ar at_) (hv0 : 0 ≤ new ∧ new ≤ 18446744073709551615) (he : get m ar at_ = old) :
    Calls Try.prog 122 #[.func (.func 125) #[] #[.pointer (some cap)], .agg #[.int .i64 3, .int .i64 ar, .int .i64 at_, .int .u64 old, .int .u64 new]] w
      (fun e w' => (∃ r', Hold w' base g r' (set m ar at_ new)) ∧ e = .returned (.tuple #[.int .u64 (get m ar at_), .bool true]) ∧ Below base w w' ∧ Others w w') := by
  have HT := Lib.hid ht
  clear ht
  have hv : Hid (0 ≤ new ∧ new ≤ 18446744073709551615) := hv0
  clear hv0
  have e1 : (get m ar at_ != old) = false := by simp [he]
  clear he
  go_enter Try.func122, Try.ntmps122
  go_wp2_with (go_at_call 125; refine (find_yes base g r m cap _ _ _ (by go_simp) (H.alloc _) (by omega) (by omega) HT.out).mono ?_; rintro e w' ⟨p, rfl, ⟨_, hpb, hpl, hpc, hpf, hpk, hpS⟩, rfl⟩; have HK := Lib.hid hpk; clear hpk)
  go_ret2
  exact ⟨hpS _ (H.alloc _) new hv.out, rfl, ((Below.refl _ _).alloc hb _).setCell hpb _, Others.put_ HK.out⟩

set_option maxHeartbeats 1000000 in
theorem access_stays (base g : Nat) (r : R) (m : M) (cap : Addr) (ar at_ old new : Int) (w : World) (hc : w.cell? cap = some (.pointer (some ⟨g, 0, none⟩))) (hcb : cap.block < w.heap.size) (H : Hold w base g r m)
    (hb : base ≤ w.heap.size) (ha : -9223372036854775808 ≤ ar) (ha' : ar ≤ 9223372036854775807) (ht : there m ar at_) (he : ¬ get m ar at_ = old) :
    Calls Try.prog 122 #[.func (.func 125) #[] #[.pointer (some cap)], .agg #[.int .i64 3, .int .i64 ar, .int .i64 at_, .int .u64 old, .int .u64 new]] w
      (fun e w' => Hold w' base g r m ∧ e = .returned (.tuple #[.int .u64 (get m ar at_), .bool false]) ∧ Below base w w' ∧ Others w w') := by
  have HT := Lib.hid ht
  clear ht
  have e1 : (get m ar at_ != old) = true := by simp [he]
  clear he
  go_enter Try.func122, Try.ntmps122
  go_wp2_with (go_at_call 125; refine (find_yes base g r m cap _ _ _ (by go_simp) (H.alloc _) (by omega) (by omega) HT.out).mono ?_; rintro e w' ⟨p, rfl, ⟨_, hpb, hpl, hpc, hpf, hpk, hpS⟩, rfl⟩; have HK := Lib.hid hpk; clear hpk)
  go_ret2
  exact ⟨H.alloc _, rfl, (Below.refl _ _).alloc hb _, Others.alloc _ _⟩

theorem access_c (base g : Nat) (r : R) (m : M) (cap : Addr) (c : Acc) (w : World) (hc : w.cell? cap = some (.pointer (some ⟨g, 0, none⟩))) (hcb : cap.block < w.heap.size) (H : Hold w base g r m)
    (hb : base ≤ w.heap.size) (hk : c.ok) :
    Calls Try.prog 122 #[.func (.func 125) #[] #[.pointer (some cap)], .agg #[.int .i64 c.d, .int .i64 c.ar, .int .i64 c.at_, .int .u64 c.old, .int .u64 c.new]] w (Did w base g m c) := by
  obtain ⟨d, ar, at_, old, new⟩ := c
  obtain ⟨⟨k1, k2⟩, ⟨k3, k4⟩, ⟨k5, k6⟩, k7, k8⟩ := hk
  by_cases ht : there m ar at_
  · by_cases h1 : d < 1 ∨ 3 < d
    · refine (access_other base g r m cap d ar at_ old new w hc hcb H hb k3 k4 ht h1).mono fun e w' ⟨h, he, hw⟩ => ?_
      have e1 : acc m ⟨d, ar, at_, old, new⟩ = (m, 0, false) := by unfold acc; rw [if_neg (by simp only; omega)]
      exact ⟨by rw [e1]; exact ⟨r, h⟩, by rw [e1]; exact he, hw⟩
    · rcases (show d = 1 ∨ d = 2 ∨ d = 3 by omega) with rfl | rfl | rfl
      · refine (access_read base g r m cap ar at_ old new w hc hcb H hb k3 k4 ht).mono fun e w' ⟨h, he, hw⟩ => ?_
        have e1 : acc m ⟨1, ar, at_, old, new⟩ = (m, get m ar at_, false) := by unfold acc; rw [if_pos ⟨ht, by simp⟩, if_pos (.inl rfl)]
        exact ⟨by rw [e1]; exact ⟨r, h⟩, by rw [e1]; exact he, hw⟩
      · refine (access_write base g r m cap ar at_ old new w hc hcb H hb k3 k4 ht k8).mono fun e w' ⟨h, he, hw⟩ => ?_
        have e1 : acc m ⟨2, ar, at_, old, new⟩ = (set m ar at_ new, get m ar at_, true) := by unfold acc; rw [if_pos ⟨ht, by simp⟩, if_neg (by simp)]
        exact ⟨by rw [e1]; exact h, by rw [e1]; exact he, hw⟩
      · by_cases he : get m ar at_ = old
        · refine (access_swap base g r m cap ar at_ old new w hc hcb H hb k3 k4 ht k8 he).mono fun e w' ⟨h, he', hw⟩ => ?_
          have e1 : acc m ⟨3, ar, at_, old, new⟩ = (set m ar at_ new, get m ar at_, true) := by unfold acc; rw [if_pos ⟨ht, by simp⟩, if_neg (by simp [he])]
          exact ⟨by rw [e1]; exact h, by rw [e1]; exact he', hw⟩
        · refine (access_stays base g r m cap ar at_ old new w hc hcb H hb k3 k4 ht he).mono fun e w' ⟨h, he', hw⟩ => ?_
          have e1 : acc m ⟨3, ar, at_, old, new⟩ = (m, get m ar at_, false) := by unfold acc; rw [if_pos ⟨ht, by simp⟩, if_pos (.inr ⟨rfl, he⟩)]
          exact ⟨by rw [e1]; exact ⟨r, h⟩, by rw [e1]; exact he', hw⟩
  · refine (access_none base g r m cap d ar at_ old new w hc hcb H hb k3 k4 ht).mono fun e w' ⟨h, he, hw⟩ => ?_
    have e1 : acc m ⟨d, ar, at_, old, new⟩ = (m, 0, false) := by unfold acc; rw [if_neg (fun hh => ht hh.1)]
    exact ⟨by rw [e1]; exact ⟨r, h⟩, by rw [e1]; exact he, hw⟩
end Go.Proofs.Ytffppdcpiieapaa.Storec

namespace Go.Proofs.Ytffppdcpiieapaa.Storec
open Go.RowKit Go.Proofs.Ytffppdcpiieapaa.Memc
set_option linter.unusedVariables false
set_option maxRecDepth 100000

theorem u64_info : (Try.prog.info? 30).map (fun i => (i.zero, i.size, i.bytes)) = some (some (.int .u64 0), 1, 8) := by kernel_rfl

/-- a new list of words -/
def Fresh (w : World) (xs : List Int) (e : Ending) (w' : World) : Prop :=
  ∃ s : Sl, e = .returned (.slice s.A s.n s.c) ∧ Own w' w.heap.size s xs ∧ Below w.heap.size w w'

theorem oneCell_ints (xs : List Int) : ∀ u ∈ xs.map (Value.int .u64), u.oneCell' = true := by
  intro u hu
  obtain ⟨x, _, rfl⟩ := List.mem_map.1 hu
  rfl

theorem own_new {w w' : World} {v : Value} {n : Nat} {xs : List Int} (hu : u64s xs) (hn : n = xs.length) (h : w'.ownsRow w.heap.size 30 1 v n ([] ++ xs.map (Value.int .u64))) (hb : Below w.heap.size w w') :
    Fresh w xs (.returned v) w' := by
  subst hn
  rcases h.2 with ⟨hv, _⟩ | ⟨g, cap, cur, hv, _⟩
  · exact ⟨⟨none, 0, 0⟩, by rw [hv], ⟨hu, by rw [hv] at h; simpa using h⟩, hb⟩
  · exact ⟨⟨some ⟨g, 0, none⟩, xs.length, cap⟩, by rw [hv], ⟨hu, by rw [hv] at h; simpa using h⟩, hb⟩

set_option maxHeartbeats 1000000 in
theorem clone_nil (w : World) (n c : Nat) :
    Calls Try.prog 124 #[.slice none n c] w fun e w' => e = .returned (.slice none 0 0) ∧ w = w' := by
  have hq := fun (W : World) (A : Option Addr) (n c n' c' : Nat) => Lib.run_eql_slice_nil (P := Try.prog) W 31 30 A n c n' c' Try.underlying31
  go_enter Try.func124, Try.ntmps124
  go_wp2
  go_ret
  exact ⟨rfl, rfl⟩

set_option maxHeartbeats 1000000 in
theorem clone_some (w : World) (B : Nat) (ad : Addr) (n c : Nat) (xs : List Int) (h : Rd w B ⟨some ad, n, c⟩ xs) (hB : B ≤ w.heap.size) (hm : xs.length ≤ 1000000) :
    Calls Try.prog 124 #[.slice (some ad) n c] w (Fresh w xs) := by
  have hq := fun (W : World) (A : Option Addr) (n c n' c' : Nat) => Lib.run_eql_slice_nil (P := Try.prog) W 31 30 A n c n' c' Try.underlying31
  obtain ⟨i0, hi0, hz0, hz1, hz2⟩ := info_parts u64_info
  obtain ⟨hn, hnc, hcm, hu, _, hcells⟩ := h
  simp only at hn hnc hcm hcells
  subst hn
  have hnews : ∀ (j : Nat) (u : Value), (xs.map (Value.int .u64))[j]? = some u → w.cell? (ad.add j) = some u := by
    intro j u hj
    rw [List.getElem?_map] at hj
    rcases hx : xs[j]? with _ | x
    · rw [hx] at hj; cases hj
    · rw [hx] at hj
      obtain ⟨ad', e, hb, hc⟩ := hcells (by have := (List.getElem?_eq_some_iff.1 hx).1; omega)
      injection e with e
      subst e
      rw [hc j x hx]; exact hj
  have hlow : ∀ (j : Nat) (u : Value), (xs.map (Value.int .u64))[j]? = some u → ad.block < B := by
    intro j u hj
    have hl : j < (xs.map (Value.int .u64)).length := (List.getElem?_eq_some_iff.1 hj).1
    obtain ⟨ad', e, hb, hc⟩ := hcells (by simp at hl; omega)
    injection e with e
    subst e
    exact hb
  have HN : ∀ o : Obj, Hid (∀ (j : Nat) (u : Value), (xs.map (Value.int .u64))[j]? = some u → (w.alloc o).cell? (ad.add j) = some u) := fun o j u hj =>
    (World.cell?_alloc_lt w o _ (by rw [block_of_add]; have := hlow j u hj; omega)).trans (hnews j u hj)
  have HU : Hid (u64s xs) := hu
  clear hnews hlow hcells hu
  go_enter Try.func124, Try.ntmps124
  go_wp2_with (at_builtin; refine wpList_append_own _ rfl _ _ 31 rfl w.heap.size 30 i0 _ 1 8 Try.underlying31 hi0 hz0 hz1 hz2 rfl (by omega) (.slice (some ⟨w.heap.size, 0, none⟩) 0 0) 0 [] rfl (World.ownsRow_made w _ 0 (Nat.le_refl _) (Nat.zero_le _) (by simp)) ad xs.length c (xs.map (Value.int .u64)) rfl (by simp) (HN _).out (oneCell_ints xs) (by unfold maxLen; omega) (by omega) (by simp) ?_; intro v1 w1 hown1 hg1 _)
  go_ret
  exact own_new HU.out (by simp) hown1 (((Below.refl _ _).alloc (Nat.le_refl _) _).grown hg1 (by simp) (by simp [Value.ownBlock]))

theorem clone_c (w : World) (B : Nat) (s : Sl) (xs : List Int) (h : Rd w B s xs) (hB : B ≤ w.heap.size) (hm : xs.length ≤ 1000000) :
    Calls Try.prog 124 #[.slice s.A s.n s.c] w (Fresh w xs) := by
  obtain ⟨A, n, c⟩ := s
  rcases A with _ | ad
  · refine (clone_nil w n c).mono fun e w' ⟨he, hw⟩ => ?_
    subst hw
    have hx : xs = [] := by
      have h1 : n = xs.length := h.1
      have h2 : c = 0 := h.2.2.2.2.1 rfl
      have h3 : n ≤ c := h.2.1
      exact List.eq_nil_of_length_eq_zero (by omega)
    subst hx
    exact ⟨⟨none, 0, 0⟩, he, ⟨u64s_nil, World.ownsRow_nil _ _ _ _⟩, Below.refl _ _⟩
  · exact clone_some w B ad n c xs h hB hm

/-- a copy of the words -/
def Copied (w : World) (m : M) (e : Ending) (w' : World) : Prop :=
  ∃ r : R, e = .returned (.agg #[.int .u64 r.e, .int .u64 r.f, .slice r.L.A r.L.n r.L.c, .slice r.P.A r.P.n r.P.c, .int .u64 r.h, .int .u64 r.t, .slice r.K.A r.K.n r.K.c, .slice r.X.A r.X.n r.X.c, .slice r.S.A r.S.n r.S.c]) ∧
    (r.e = m.e ∧ r.f = m.f ∧ r.h = m.h ∧ r.t = m.t) ∧ Five w' w.heap.size r m ∧ Below w.heap.size w w'

/-- rows one behind the other are apart -/
theorem five_mk {w : World} {base : Nat} {m : M} {e f h t : Int} {s1 s2 s3 s4 s5 : Sl} {n1 n2 n3 n4 : Nat}
    (o1 : Own w base s1 m.li) (o2 : Own w base s2 m.pi) (o3 : Own w base s3 m.lk) (o4 : Own w base s4 m.nx) (o5 : Own w base s5 m.sl)
    (i1 : ∀ ad, s1.A = some ad → ad.block < n1) (i2 : ∀ ad, s2.A = some ad → n1 ≤ ad.block ∧ ad.block < n2) (i3 : ∀ ad, s3.A = some ad → n2 ≤ ad.block ∧ ad.block < n3)
    (i4 : ∀ ad, s4.A = some ad → n3 ≤ ad.block ∧ ad.block < n4) (i5 : ∀ ad, s5.A = some ad → n4 ≤ ad.block) (l1 : n1 ≤ n2) (l2 : n2 ≤ n3) (l3 : n3 ≤ n4) :
    Five w base ⟨e, f, s1, s2, h, t, s3, s4, s5⟩ m := by
  constructor
  · intro a hl
    rcases hl with rfl | rfl | rfl | rfl | rfl
    · exact o1
    · exact o2
    · exact o3
    · exact o4
    · exact o5
  · intro a hl b hl' hne ad had ad' had'
    rcases hl with rfl | rfl | rfl | rfl | rfl <;> rcases hl' with rfl | rfl | rfl | rfl | rfl <;> first | exact absurd rfl hne | skip
    all_goals
      simp only [R.sl] at had had'
      first
        | (have := i1 _ had; have := i2 _ had'; omega) | (have := i1 _ had; have := i3 _ had'; omega) | (have := i1 _ had; have := i4 _ had'; omega) | (have := i1 _ had; have := i5 _ had'; omega)
        | (have := i2 _ had; have := i1 _ had'; omega) | (have := i2 _ had; have := i3 _ had'; omega) | (have := i2 _ had; have := i4 _ had'; omega) | (have := i2 _ had; have := i5 _ had'; omega)
        | (have := i3 _ had; have := i1 _ had'; omega) | (have := i3 _ had; have := i2 _ had'; omega) | (have := i3 _ had; have := i4 _ had'; omega) | (have := i3 _ had; have := i5 _ had'; omega)
        | (have := i4 _ had; have := i1 _ had'; omega) | (have := i4 _ had; have := i2 _ had'; omega) | (have := i4 _ had; have := i3 _ had'; omega) | (have := i4 _ had; have := i5 _ had'; omega)
        | (have := i5 _ had; have := i1 _ had'; omega) | (have := i5 _ had; have := i2 _ had'; omega) | (have := i5 _ had; have := i3 _ had'; omega) | (have := i5 _ had; have := i4 _ had'; omega)

/-- what is known behind k of the five copies: b: the box that holds them, c: where the result goes -/
structure Step (w W : World) (b c : Nat) (cs ds : Array Value) : Prop where
  below : Below w.heap.size w W
  box : Blk W b 33 cs
  res : Blk W c 33 ds
theorem Step.next {w W W' : World} {b c : Nat} {cs ds : Array Value} (h : Step w W b c cs ds) (hb : Below W.heap.size W W') (hbw : w.heap.size ≤ b) (i : Nat) (v : Value) (hne : b ≠ c) :
    Step w (W'.setCell ⟨b, i, none⟩ v) b c (cs.setIfInBounds i v) ds := by
  have hz := h.below.size
  refine ⟨(h.below.trans (hb.mono hz)).setCell hbw _, (h.box.below hb h.box.lt).set_ i v, (h.res.below hb h.res.lt).far (p := ⟨b, i, none⟩) (fun e => hne e.symm) v⟩



set_option maxHeartbeats 2000000 in
theorem copied_c (w : World) (B : Nat) (r : R) (m : M) (h : Rm w B r m) (hB : B ≤ w.heap.size) (hm : ∀ a, (m.area a).length ≤ 1000000) :
    Calls Try.prog 121 #[.agg #[.int .u64 r.e, .int .u64 r.f, .slice r.L.A r.L.n r.L.c, .slice r.P.A r.P.n r.P.c, .int .u64 r.h, .int .u64 r.t, .slice r.K.A r.K.n r.K.c, .slice r.X.A r.X.n r.X.c, .slice r.S.A r.S.n r.S.c]] w (Copied w m) := by
  have HR : Hid (Rm w w.heap.size r m) := h.more hB
  have HM : Hid (∀ a, (m.area a).length ≤ 1000000) := hm
  clear h hm hB
  have S0 : Step w ((w.alloc (.cells #[.int .u64 r.e, .int .u64 r.f, .slice r.L.A r.L.n r.L.c, .slice r.P.A r.P.n r.P.c, .int .u64 r.h, .int .u64 r.t, .slice r.K.A r.K.n r.K.c, .slice r.X.A r.X.n r.X.c, .slice r.S.A r.S.n r.S.c] 33)).alloc (.cells #[.int .u64 0, .int .u64 0, .slice none 0 0, .slice none 0 0, .int .u64 0, .int .u64 0, .slice none 0 0, .slice none 0 0, .slice none 0 0] 33)) w.heap.size (w.heap.size + 1) #[.int .u64 r.e, .int .u64 r.f, .slice r.L.A r.L.n r.L.c, .slice r.P.A r.P.n r.P.c, .int .u64 r.h, .int .u64 r.t, .slice r.K.A r.K.n r.K.c, .slice r.X.A r.X.n r.X.c, .slice r.S.A r.S.n r.S.c] #[.int .u64 0, .int .u64 0, .slice none 0 0, .slice none 0 0, .int .u64 0, .int .u64 0, .slice none 0 0, .slice none 0 0, .slice none 0 0] :=
    ⟨((Below.refl _ _).alloc (Nat.le_refl _) _).alloc (by simp) _, (Blk.new _ _ _).alloc _, by simpa using Blk.new (w.alloc (.cells #[.int .u64 r.e, .int .u64 r.f, .slice r.L.A r.L.n r.L.c, .slice r.P.A r.P.n r.P.c, .int .u64 r.h, .int .u64 r.t, .slice r.K.A r.K.n r.K.c, .slice r.X.A r.X.n r.X.c, .slice r.S.A r.S.n r.S.c] 33)) 33 #[.int .u64 0, .int .u64 0, .slice none 0 0, .slice none 0 0, .int .u64 0, .int .u64 0, .slice none 0 0, .slice none 0 0, .slice none 0 0]⟩
  have HS0 := Lib.hid S0
  clear S0
  go_enter Try.func121, Try.ntmps121
  go_wp2_with fail
  refine (clone_c _ w.heap.size r.L m.li (HR.out.2.2.2.2.2.1.below HS0.out.below) HS0.out.below.size (HM.out 3)).mono ?_
  rintro e w1 ⟨s1, rfl, ho1, hb1⟩
  have HO1 := Lib.hid ho1
  have HB1 := Lib.hid hb1
  have S1 : Step w (w1.setCell ⟨w.heap.size, 2, none⟩ (.slice s1.A s1.n s1.c)) w.heap.size (w.heap.size + 1) #[.int .u64 r.e, .int .u64 r.f, .slice s1.A s1.n s1.c, .slice r.P.A r.P.n r.P.c, .int .u64 r.h, .int .u64 r.t, .slice r.K.A r.K.n r.K.c, .slice r.X.A r.X.n r.X.c, .slice r.S.A r.S.n r.S.c] #[.int .u64 0, .int .u64 0, .slice none 0 0, .slice none 0 0, .int .u64 0, .int .u64 0, .slice none 0 0, .slice none 0 0, .slice none 0 0] := HS0.out.next hb1 (Nat.le_refl _) 2 _ (by omega)
  have HS1 := Lib.hid S1
  clear S1
  obtain ⟨rb1, rc1⟩ := two_below hb1 HS0.out.box HS0.out.res
  obtain ⟨cb1, fb1, cc1, fc1⟩ := two_rules rb1 rc1
  clear rb1 rc1 ho1 hb1
  go_wp2_with fail
  refine (clone_c _ w.heap.size r.P m.pi (HR.out.2.2.2.2.2.2.1.below HS1.out.below) HS1.out.below.size (HM.out 4)).mono ?_
  rintro e w2 ⟨s2, rfl, ho2, hb2⟩
  have HO2 := Lib.hid ho2
  have HB2 := Lib.hid hb2
  have S2 : Step w (w2.setCell ⟨w.heap.size, 3, none⟩ (.slice s2.A s2.n s2.c)) w.heap.size (w.heap.size + 1) #[.int .u64 r.e, .int .u64 r.f, .slice s1.A s1.n s1.c, .slice s2.A s2.n s2.c, .int .u64 r.h, .int .u64 r.t, .slice r.K.A r.K.n r.K.c, .slice r.X.A r.X.n r.X.c, .slice r.S.A r.S.n r.S.c] #[.int .u64 0, .int .u64 0, .slice none 0 0, .slice none 0 0, .int .u64 0, .int .u64 0, .slice none 0 0, .slice none 0 0, .slice none 0 0] := HS1.out.next hb2 (Nat.le_refl _) 3 _ (by omega)
  have HS2 := Lib.hid S2
  clear S2
  obtain ⟨rb2, rc2⟩ := two_below hb2 HS1.out.box HS1.out.res
  obtain ⟨cb2, fb2, cc2, fc2⟩ := two_rules rb2 rc2
  clear rb2 rc2 ho2 hb2 cb1 fb1 cc1 fc1
  go_wp2_with fail
  refine (clone_c _ w.heap.size r.K m.lk (HR.out.2.2.2.2.2.2.2.1.below HS2.out.below) HS2.out.below.size (HM.out 7)).mono ?_
  rintro e w3 ⟨s3, rfl, ho3, hb3⟩
  have HO3 := Lib.hid ho3
  have HB3 := Lib.hid hb3
  have S3 : Step w (w3.setCell ⟨w.heap.size, 6, none⟩ (.slice s3.A s3.n s3.c)) w.heap.size (w.heap.size + 1) #[.int .u64 r.e, .int .u64 r.f, .slice s1.A s1.n s1.c, .slice s2.A s2.n s2.c, .int .u64 r.h, .int .u64 r.t, .slice s3.A s3.n s3.c, .slice r.X.A r.X.n r.X.c, .slice r.S.A r.S.n r.S.c] #[.int .u64 0, .int .u64 0, .slice none 0 0, .slice none 0 0, .int .u64 0, .int .u64 0, .slice none 0 0, .slice none 0 0, .slice none 0 0] := HS2.out.next hb3 (Nat.le_refl _) 6 _ (by omega)
  have HS3 := Lib.hid S3
  clear S3
  obtain ⟨rb3, rc3⟩ := two_below hb3 HS2.out.box HS2.out.res
  obtain ⟨cb3, fb3, cc3, fc3⟩ := two_rules rb3 rc3
  clear rb3 rc3 ho3 hb3 cb2 fb2 cc2 fc2
  go_wp2_with fail
  refine (clone_c _ w.heap.size r.X m.nx (HR.out.2.2.2.2.2.2.2.2.1.below HS3.out.below) HS3.out.below.size (HM.out 8)).mono ?_
  rintro e w4 ⟨s4, rfl, ho4, hb4⟩
  have HO4 := Lib.hid ho4
  have HB4 := Lib.hid hb4
  have S4 : Step w (w4.setCell ⟨w.heap.size, 7, none⟩ (.slice s4.A s4.n s4.c)) w.heap.size (w.heap.size + 1) #[.int .u64 r.e, .int .u64 r.f, .slice s1.A s1.n s1.c, .slice s2.A s2.n s2.c, .int .u64 r.h, .int .u64 r.t, .slice s3.A s3.n s3.c, .slice s4.A s4.n s4.c, .slice r.S.A r.S.n r.S.c] #[.int .u64 0, .int .u64 0, .slice none 0 0, .slice none 0 0, .int .u64 0, .int .u64 0, .slice none 0 0, .slice none 0 0, .slice none 0 0] := HS3.out.next hb4 (Nat.le_refl _) 7 _ (by omega)
  have HS4 := Lib.hid S4
  clear S4
  obtain ⟨rb4, rc4⟩ := two_below hb4 HS3.out.box HS3.out.res
  obtain ⟨cb4, fb4, cc4, fc4⟩ := two_rules rb4 rc4
  clear rb4 rc4 ho4 hb4 cb3 fb3 cc3 fc3
  go_wp2_with fail
  refine (clone_c _ w.heap.size r.S m.sl (HR.out.2.2.2.2.2.2.2.2.2.below HS4.out.below) HS4.out.below.size (HM.out 9)).mono ?_
  rintro e w5 ⟨s5, rfl, ho5, hb5⟩
  have HO5 := Lib.hid ho5
  have HB5 := Lib.hid hb5
  have S5 : Step w (w5.setCell ⟨w.heap.size, 8, none⟩ (.slice s5.A s5.n s5.c)) w.heap.size (w.heap.size + 1) #[.int .u64 r.e, .int .u64 r.f, .slice s1.A s1.n s1.c, .slice s2.A s2.n s2.c, .int .u64 r.h, .int .u64 r.t, .slice s3.A s3.n s3.c, .slice s4.A s4.n s4.c, .slice s5.A s5.n s5.c] #[.int .u64 0, .int .u64 0, .slice none 0 0, .slice none 0 0, .int .u64 0, .int .u64 0, .slice none 0 0, .slice none 0 0, .slice none 0 0] := HS4.out.next hb5 (Nat.le_refl _) 8 _ (by omega)
  have HS5 := Lib.hid S5
  clear S5
  obtain ⟨rb5, rc5⟩ := two_below hb5 HS4.out.box HS4.out.res
  obtain ⟨cb5, fb5, cc5, fc5⟩ := two_rules rb5 rc5
  clear rb5 rc5 ho5 hb5 cb4 fb4 cc4 fc4
  go_wp2
  refine bodyPost_ret (v := .agg #[.int .u64 r.e, .int .u64 r.f, .slice s1.A s1.n s1.c, .slice s2.A s2.n s2.c, .int .u64 r.h, .int .u64 r.t, .slice s3.A s3.n s3.c, .slice s4.A s4.n s4.c, .slice s5.A s5.n s5.c]) (by simp [results, Try.results121, go_sem, cc5]) rfl ?_
  have q0 := HS0.out.res.lt
  have q1 := HS1.out.res.lt
  have q2 := HS2.out.res.lt
  have q3 := HS3.out.res.lt
  have q4 := HS4.out.res.lt
  have o1_1 := HO1.out.step (i := 2) (b := w.heap.size) (by omega) (.slice s1.A s1.n s1.c)
  have o1_2 := (o1_1.below HB2.out (Nat.le_refl _)).step (i := 3) (b := w.heap.size) (by omega) (.slice s2.A s2.n s2.c)
  have o1_3 := (o1_2.below HB3.out (Nat.le_refl _)).step (i := 6) (b := w.heap.size) (by omega) (.slice s3.A s3.n s3.c)
  have o1_4 := (o1_3.below HB4.out (Nat.le_refl _)).step (i := 7) (b := w.heap.size) (by omega) (.slice s4.A s4.n s4.c)
  have o1_5 := (o1_4.below HB5.out (Nat.le_refl _)).step (i := 8) (b := w.heap.size) (by omega) (.slice s5.A s5.n s5.c)
  have i1 := fun ad had => HO1.out.lt (ad := ad) had
  have o2_2 := HO2.out.step (i := 3) (b := w.heap.size) (by omega) (.slice s2.A s2.n s2.c)
  have o2_3 := (o2_2.below HB3.out (Nat.le_refl _)).step (i := 6) (b := w.heap.size) (by omega) (.slice s3.A s3.n s3.c)
  have o2_4 := (o2_3.below HB4.out (Nat.le_refl _)).step (i := 7) (b := w.heap.size) (by omega) (.slice s4.A s4.n s4.c)
  have o2_5 := (o2_4.below HB5.out (Nat.le_refl _)).step (i := 8) (b := w.heap.size) (by omega) (.slice s5.A s5.n s5.c)
  have i2 := fun ad had => HO2.out.lt (ad := ad) had
  have o3_3 := HO3.out.step (i := 6) (b := w.heap.size) (by omega) (.slice s3.A s3.n s3.c)
  have o3_4 := (o3_3.below HB4.out (Nat.le_refl _)).step (i := 7) (b := w.heap.size) (by omega) (.slice s4.A s4.n s4.c)
  have o3_5 := (o3_4.below HB5.out (Nat.le_refl _)).step (i := 8) (b := w.heap.size) (by omega) (.slice s5.A s5.n s5.c)
  have i3 := fun ad had => HO3.out.lt (ad := ad) had
  have o4_4 := HO4.out.step (i := 7) (b := w.heap.size) (by omega) (.slice s4.A s4.n s4.c)
  have o4_5 := (o4_4.below HB5.out (Nat.le_refl _)).step (i := 8) (b := w.heap.size) (by omega) (.slice s5.A s5.n s5.c)
  have i4 := fun ad had => HO4.out.lt (ad := ad) had
  have o5_5 := HO5.out.step (i := 8) (b := w.heap.size) (by omega) (.slice s5.A s5.n s5.c)
  have i5 := fun ad had => HO5.out.lt (ad := ad) had
  have z1 := HB2.out.size
  have z2 := HB3.out.size
  have z3 := HB4.out.size
  have z4 := HB5.out.size
  rw [size_set] at z1 z2 z3 z4
  rw [size_set] at q1 q2 q3 q4
  simp only [size_set] at i2
  simp only [size_set] at i3
  simp only [size_set] at i4
  simp only [size_set] at i5
  refine ⟨⟨r.e, r.f, s1, s2, r.h, r.t, s3, s4, s5⟩, rfl, ⟨HR.out.1, HR.out.2.1, HR.out.2.2.1, HR.out.2.2.2.1⟩, ?_, below_nine HS5.out.below (by omega) _ _ _ _ _ _ _ _ _⟩
  refine five_mk (n1 := w1.heap.size) (n2 := w2.heap.size) (n3 := w3.heap.size) (n4 := w4.heap.size)
    ((o1_5.nine (by omega) _ _ _ _ _ _ _ _ _).weaken (by omega))
    ((o2_5.nine (by simp only [size_set]; omega) _ _ _ _ _ _ _ _ _).weaken (by simp only [size_set]; omega))
    ((o3_5.nine (by simp only [size_set]; omega) _ _ _ _ _ _ _ _ _).weaken (by simp only [size_set]; omega))
    ((o4_5.nine (by simp only [size_set]; omega) _ _ _ _ _ _ _ _ _).weaken (by simp only [size_set]; omega))
    ((o5_5.nine (by simp only [size_set]; omega) _ _ _ _ _ _ _ _ _).weaken (by simp only [size_set]; omega))
    (fun ad had => (i1 ad had).2) i2 i3 i4 (fun ad had => (i5 ad had).1) z1 z2 z3
end Go.Proofs.Ytffppdcpiieapaa.Storec

namespace Go.Proofs.Ytffppdcpiieapaa.Storec
open Go.RowKit Go.Proofs.Ytffppdcpiieapaa.Memc
set_option linter.unusedVariables false
set_option maxRecDepth 100000
attribute [local go_sem ↓] Go.wp_at_zero Go.wp_at_succ

theorem finder_c (p : Addr) (w : World) :
    Calls Try.prog 123 #[.pointer (some p)] w fun e w' => e = .returned (.func (.func 125) #[] #[.pointer (some ⟨w.heap.size, 0, none⟩)]) ∧ w' = w.alloc (.cells #[.pointer (some p)] 173) := by
  have hmf : ∀ (fn : Fn) (first cap : Array Value) (w : World), (Instr.makeFunc fn first cap).run Try.prog w = .ok (.func fn first cap) w := fun _ _ _ _ => rfl
  go_enter Try.func123, Try.ntmps123
  go_wp2
  go_ret
  exact ⟨rfl, rfl⟩

/-- what Do comes to -/
def Done (w : World) (m : M) (c : Acc) (e : Ending) (w' : World) : Prop :=
  ∃ r : R, e = .returned (.tuple #[.agg #[.int .u64 r.e, .int .u64 r.f, .slice r.L.A r.L.n r.L.c, .slice r.P.A r.P.n r.P.c, .int .u64 r.h, .int .u64 r.t, .slice r.K.A r.K.n r.K.c, .slice r.X.A r.X.n r.X.c, .slice r.S.A r.S.n r.S.c], .int .u64 (acc m c).2.1, .bool (acc m c).2.2]) ∧ Rm w' w'.heap.size r (acc m c).1 ∧ Below w.heap.size w w'

/-- what Do comes to, the rows being its own -/
def DoneOwn (w : World) (m : M) (c : Acc) (e : Ending) (w' : World) : Prop :=
  ∃ r : R, e = .returned (.tuple #[.agg #[.int .u64 r.e, .int .u64 r.f, .slice r.L.A r.L.n r.L.c, .slice r.P.A r.P.n r.P.c, .int .u64 r.h, .int .u64 r.t, .slice r.K.A r.K.n r.K.c, .slice r.X.A r.X.n r.X.c, .slice r.S.A r.S.n r.S.c], .int .u64 (acc m c).2.1, .bool (acc m c).2.2]) ∧ Rm w' w'.heap.size r (acc m c).1 ∧ Below w.heap.size w w' ∧ ∀ a, la a → Own w' w.heap.size (r.sl a) ((acc m c).1.area a)

set_option maxHeartbeats 4000000 in
theorem do_own (w : World) (B : Nat) (r : R) (m : M) (c : Acc) (h : Rm w B r m) (hB : B ≤ w.heap.size) (hm : ∀ a, (m.area a).length ≤ 1000000) (hc : c.ok) :
    Calls Try.prog 115 #[.agg #[.int .u64 r.e, .int .u64 r.f, .slice r.L.A r.L.n r.L.c, .slice r.P.A r.P.n r.P.c, .int .u64 r.h, .int .u64 r.t, .slice r.K.A r.K.n r.K.c, .slice r.X.A r.X.n r.X.c, .slice r.S.A r.S.n r.S.c], .agg #[.int .i64 c.d, .int .i64 c.ar, .int .i64 c.at_, .int .u64 c.old, .int .u64 c.new]] w (DoneOwn w m c) := by
  have HR : Hid (Rm w w.heap.size r m) := h.more hB
  have HM : Hid (∀ a, (m.area a).length ≤ 1000000) := hm
  have HC := Lib.hid hc
  clear h hm hB hc
  have b0 : Below w.heap.size w (((w.alloc (.cells #[.int .u64 r.e, .int .u64 r.f, .slice r.L.A r.L.n r.L.c, .slice r.P.A r.P.n r.P.c, .int .u64 r.h, .int .u64 r.t, .slice r.K.A r.K.n r.K.c, .slice r.X.A r.X.n r.X.c, .slice r.S.A r.S.n r.S.c] 33)).alloc (.cells #[.int .i64 c.d, .int .i64 c.ar, .int .i64 c.at_, .int .u64 c.old, .int .u64 c.new] 57)).alloc (.cells #[.int .u64 0, .int .u64 0, .slice none 0 0, .slice none 0 0, .int .u64 0, .int .u64 0, .slice none 0 0, .slice none 0 0, .slice none 0 0] 33)) :=
    (((Below.refl _ _).alloc (Nat.le_refl _) _).alloc (by simp) _).alloc (by simp; omega) _
  have k1 : Blk (((w.alloc (.cells #[.int .u64 r.e, .int .u64 r.f, .slice r.L.A r.L.n r.L.c, .slice r.P.A r.P.n r.P.c, .int .u64 r.h, .int .u64 r.t, .slice r.K.A r.K.n r.K.c, .slice r.X.A r.X.n r.X.c, .slice r.S.A r.S.n r.S.c] 33)).alloc (.cells #[.int .i64 c.d, .int .i64 c.ar, .int .i64 c.at_, .int .u64 c.old, .int .u64 c.new] 57)).alloc (.cells #[.int .u64 0, .int .u64 0, .slice none 0 0, .slice none 0 0, .int .u64 0, .int .u64 0, .slice none 0 0, .slice none 0 0, .slice none 0 0] 33)) (w.heap.size + 1) 57 #[.int .i64 c.d, .int .i64 c.ar, .int .i64 c.at_, .int .u64 c.old, .int .u64 c.new] := by
    simpa using (Blk.new (w.alloc (.cells #[.int .u64 r.e, .int .u64 r.f, .slice r.L.A r.L.n r.L.c, .slice r.P.A r.P.n r.P.c, .int .u64 r.h, .int .u64 r.t, .slice r.K.A r.K.n r.K.c, .slice r.X.A r.X.n r.X.c, .slice r.S.A r.S.n r.S.c] 33)) 57 #[.int .i64 c.d, .int .i64 c.ar, .int .i64 c.at_, .int .u64 c.old, .int .u64 c.new]).alloc (.cells #[.int .u64 0, .int .u64 0, .slice none 0 0, .slice none 0 0, .int .u64 0, .int .u64 0, .slice none 0 0, .slice none 0 0, .slice none 0 0] 33)
  have k2 : Blk (((w.alloc (.cells #[.int .u64 r.e, .int .u64 r.f, .slice r.L.A r.L.n r.L.c, .slice r.P.A r.P.n r.P.c, .int .u64 r.h, .int .u64 r.t, .slice r.K.A r.K.n r.K.c, .slice r.X.A r.X.n r.X.c, .slice r.S.A r.S.n r.S.c] 33)).alloc (.cells #[.int .i64 c.d, .int .i64 c.ar, .int .i64 c.at_, .int .u64 c.old, .int .u64 c.new] 57)).alloc (.cells #[.int .u64 0, .int .u64 0, .slice none 0 0, .slice none 0 0, .int .u64 0, .int .u64 0, .slice none 0 0, .slice none 0 0, .slice none 0 0] 33)) (w.heap.size + 1 + 1) 33 #[.int .u64 0, .int .u64 0, .slice none 0 0, .slice none 0 0, .int .u64 0, .int .u64 0, .slice none 0 0, .slice none 0 0, .slice none 0 0] := by
    simpa using Blk.new ((w.alloc (.cells #[.int .u64 r.e, .int .u64 r.f, .slice r.L.A r.L.n r.L.c, .slice r.P.A r.P.n r.P.c, .int .u64 r.h, .int .u64 r.t, .slice r.K.A r.K.n r.K.c, .slice r.X.A r.X.n r.X.c, .slice r.S.A r.S.n r.S.c] 33)).alloc (.cells #[.int .i64 c.d, .int .i64 c.ar, .int .i64 c.at_, .int .u64 c.old, .int .u64 c.new] 57)) 33 #[.int .u64 0, .int .u64 0, .slice none 0 0, .slice none 0 0, .int .u64 0, .int .u64 0, .slice none 0 0, .slice none 0 0, .slice none 0 0]
  have HB0 := Lib.hid b0
  have K1 := Lib.hid k1
  have K2 := Lib.hid k2
  clear b0 k1 k2
  go_enter Try.func115, Try.ntmps115
  go_wp2_with fail
  refine (copied_c _ w.heap.size r m (HR.out.below HB0.out) HB0.out.size HM.out).mono ?_
  rintro e w1 ⟨r1, rfl, hs1, hf1, hb1⟩
  have HS1 := Lib.hid hs1
  have HF1 := Lib.hid hf1
  have HB1 := Lib.hid hb1
  obtain ⟨x1, x2⟩ := two_below hb1 K1.out K2.out
  obtain ⟨cb, fb, cc, fc⟩ := two_rules x1 x2
  have X1 := Lib.hid x1
  have X2 := Lib.hid x2
  clear x1 x2 hs1 hf1 hb1
  have hh : Hold (((((((((w1.setCell ⟨w.heap.size + 1 + 1, 0, none⟩ (.int .u64 r1.e)).setCell ⟨w.heap.size + 1 + 1, 1, none⟩ (.int .u64 r1.f)).setCell ⟨w.heap.size + 1 + 1, 2, none⟩ (.slice r1.L.A r1.L.n r1.L.c)).setCell ⟨w.heap.size + 1 + 1, 3, none⟩ (.slice r1.P.A r1.P.n r1.P.c)).setCell ⟨w.heap.size + 1 + 1, 4, none⟩ (.int .u64 r1.h)).setCell ⟨w.heap.size + 1 + 1, 5, none⟩ (.int .u64 r1.t)).setCell ⟨w.heap.size + 1 + 1, 6, none⟩ (.slice r1.K.A r1.K.n r1.K.c)).setCell ⟨w.heap.size + 1 + 1, 7, none⟩ (.slice r1.X.A r1.X.n r1.X.c)).setCell ⟨w.heap.size + 1 + 1, 8, none⟩ (.slice r1.S.A r1.S.n r1.S.c)) (w.heap.size + 1 + 1) (w.heap.size + 1 + 1) r1 m := hold_nine X2.out HS1.out HR.out.2.2.2.2.1 HF1.out (Nat.le_refl _) (by simp)
  have hx : Blk (((((((((w1.setCell ⟨w.heap.size + 1 + 1, 0, none⟩ (.int .u64 r1.e)).setCell ⟨w.heap.size + 1 + 1, 1, none⟩ (.int .u64 r1.f)).setCell ⟨w.heap.size + 1 + 1, 2, none⟩ (.slice r1.L.A r1.L.n r1.L.c)).setCell ⟨w.heap.size + 1 + 1, 3, none⟩ (.slice r1.P.A r1.P.n r1.P.c)).setCell ⟨w.heap.size + 1 + 1, 4, none⟩ (.int .u64 r1.h)).setCell ⟨w.heap.size + 1 + 1, 5, none⟩ (.int .u64 r1.t)).setCell ⟨w.heap.size + 1 + 1, 6, none⟩ (.slice r1.K.A r1.K.n r1.K.c)).setCell ⟨w.heap.size + 1 + 1, 7, none⟩ (.slice r1.X.A r1.X.n r1.X.c)).setCell ⟨w.heap.size + 1 + 1, 8, none⟩ (.slice r1.S.A r1.S.n r1.S.c)) (w.heap.size + 1) 57 #[.int .i64 c.d, .int .i64 c.ar, .int .i64 c.at_, .int .u64 c.old, .int .u64 c.new] := blk_nine_far X1.out (by omega)
  have hbw : Below w.heap.size w (((((((((w1.setCell ⟨w.heap.size + 1 + 1, 0, none⟩ (.int .u64 r1.e)).setCell ⟨w.heap.size + 1 + 1, 1, none⟩ (.int .u64 r1.f)).setCell ⟨w.heap.size + 1 + 1, 2, none⟩ (.slice r1.L.A r1.L.n r1.L.c)).setCell ⟨w.heap.size + 1 + 1, 3, none⟩ (.slice r1.P.A r1.P.n r1.P.c)).setCell ⟨w.heap.size + 1 + 1, 4, none⟩ (.int .u64 r1.h)).setCell ⟨w.heap.size + 1 + 1, 5, none⟩ (.int .u64 r1.t)).setCell ⟨w.heap.size + 1 + 1, 6, none⟩ (.slice r1.K.A r1.K.n r1.K.c)).setCell ⟨w.heap.size + 1 + 1, 7, none⟩ (.slice r1.X.A r1.X.n r1.X.c)).setCell ⟨w.heap.size + 1 + 1, 8, none⟩ (.slice r1.S.A r1.S.n r1.S.c)) := below_nine (HB0.out.trans (HB1.out.mono HB0.out.size)) (by omega) _ _ _ _ _ _ _ _ _
  have HH := Lib.hid hh
  have HX := Lib.hid hx
  have HBW := Lib.hid hbw
  clear hh hx hbw
  go_wp2_with fail
  generalize (((((((((w1.setCell ⟨w.heap.size + 1 + 1, 0, none⟩ (.int .u64 r1.e)).setCell ⟨w.heap.size + 1 + 1, 1, none⟩ (.int .u64 r1.f)).setCell ⟨w.heap.size + 1 + 1, 2, none⟩ (.slice r1.L.A r1.L.n r1.L.c)).setCell ⟨w.heap.size + 1 + 1, 3, none⟩ (.slice r1.P.A r1.P.n r1.P.c)).setCell ⟨w.heap.size + 1 + 1, 4, none⟩ (.int .u64 r1.h)).setCell ⟨w.heap.size + 1 + 1, 5, none⟩ (.int .u64 r1.t)).setCell ⟨w.heap.size + 1 + 1, 6, none⟩ (.slice r1.K.A r1.K.n r1.K.c)).setCell ⟨w.heap.size + 1 + 1, 7, none⟩ (.slice r1.X.A r1.X.n r1.X.c)).setCell ⟨w.heap.size + 1 + 1, 8, none⟩ (.slice r1.S.A r1.S.n r1.S.c)) = W at HH HX HBW ⊢
  clear HB0 K1 K2 HS1 HF1 HB1 X1 X2 cb fb cc fc HR HM
  have hX := HX.out.cell
  have hzX := HX.out.lt
  have hzH := HH.out.1.lt
  have hne := World.new_ne W
  go_region_held3 (fun w' => w'.cell? ⟨w.heap.size + 1, 0, none⟩ = some (.int .i64 c.d) ∧ w'.cell? ⟨w.heap.size + 1, 1, none⟩ = some (.int .i64 c.ar) ∧ w'.cell? ⟨w.heap.size + 1, 2, none⟩ = some (.int .i64 c.at_) ∧ w'.cell? ⟨w.heap.size + 1, 3, none⟩ = some (.int .u64 c.old) ∧ w'.cell? ⟨w.heap.size + 1, 4, none⟩ = some (.int .u64 c.new)) (first | go_keep | exact cells5 (((HX.out.alloc _).drew.below hb2 (by omega))))
    (first | (go_at_call 123; refine (finder_c _ _).mono ?_; rintro e w' ⟨rfl, rfl⟩) | (go_at_call 122; refine (access_c (w.heap.size + 1 + 1) (w.heap.size + 1 + 1) r1 m ⟨W.heap.size, 0, none⟩ c _ (by go_simp) (by simp) (HH.out.alloc _).drew (by simp; omega) HC.out).mono ?_; rintro e w' ⟨⟨r2, hr2⟩, rfl, hb2, _⟩))
  have HR2 := Lib.hid hr2
  have HB2 := Lib.hid hb2
  have hc2 : ∀ i, w'.cell? ⟨w.heap.size + 1 + 1, i, none⟩ = (#[.int .u64 r2.e, .int .u64 r2.f, .slice r2.L.A r2.L.n r2.L.c, .slice r2.P.A r2.P.n r2.P.c, .int .u64 r2.h, .int .u64 r2.t, .slice r2.K.A r2.K.n r2.K.c, .slice r2.X.A r2.X.n r2.X.c, .slice r2.S.A r2.S.n r2.S.c] : Array Value)[i]? := hr2.1.cell
  have hf2 := hr2.1.frozen
  clear hr2 hb2
  go_wp2
  refine bodyPost_ret (v := .tuple #[.agg #[.int .u64 r2.e, .int .u64 r2.f, .slice r2.L.A r2.L.n r2.L.c, .slice r2.P.A r2.P.n r2.P.c, .int .u64 r2.h, .int .u64 r2.t, .slice r2.K.A r2.K.n r2.K.c, .slice r2.X.A r2.X.n r2.X.c, .slice r2.S.A r2.S.n r2.S.c], .int .u64 (acc m c).2.1, .bool (acc m c).2.2]) (by simp [results, Try.results115, go_sem, hc2]) rfl ?_
  exact ⟨r2, rfl, HR2.out.again.rm, below_nine (HBW.out.trans ((((Below.refl _ _).alloc (by have := HBW.out.size; omega) _).drew).trans (HB2.out.mono (by omega)))) (by omega) _ _ _ _ _ _ _ _ _, fun a hl => (HR2.out.again.2.2.2.2.2.2.2.1 a hl).weaken (by omega)⟩
end Go.Proofs.Ytffppdcpiieapaa.Storec
