/- The document's answer for the store: the words of an area, by its contract. -/
import Derived.Test.YtjgbgjkjnlaloaaRefA
namespace Go.Proofs.Ytjgbgjkjnlaloaa.Refc
open Go.RowKit Go.Proofs.Ytjgbgjkjnlaloaa.Memc
set_option linter.unusedVariables false
set_option maxRecDepth 100000

/-- a list of words, old or new -/
def Lists (w : World) (xs : List Int) (e : Ending) (w' : World) : Prop :=
  ∃ s : Sl, e = .returned (.slice s.A s.n s.c) ∧ Rd w' w'.heap.size s xs ∧ Below w.heap.size w w'

theorem lists_one {w w' : World} {g : Nat} {x : Int} (hx : 0 ≤ x ∧ x ≤ 18446744073709551615) (h : Blk w' g 22 #[.int .u64 x]) (hb : Below w.heap.size w w') :
    Lists w [x] (.returned (.slice (some ⟨g, 0, none⟩) 1 1)) w' :=
  ⟨⟨some ⟨g, 0, none⟩, 1, 1⟩, rfl, ⟨rfl, Nat.le_refl _, by show 1 ≤ maxLen; unfold maxLen; omega, fun y hy => (by rw [List.mem_singleton.1 hy]; exact hx), fun h => (by cases h), fun _ => ⟨_, rfl, h.lt, fun j y hj => by
    rcases j with _ | j
    · simp only [List.getElem?_cons_zero, Option.some.injEq] at hj
      subst hj
      exact h.cell 0
    · simp at hj⟩⟩, hb⟩
theorem lists_old {w w' : World} {B : Nat} {s : Sl} {xs : List Int} (h : Rd w B s xs) (hB : B ≤ w.heap.size) (hb : Below w.heap.size w w') : Lists w xs (.returned (.slice s.A s.n s.c)) w' :=
  ⟨s, rfl, ((h.more hB).below hb).more hb.size, hb⟩

set_option maxHeartbeats 1000000 in
theorem area_c1 (w : World) (B : Nat) (r : R) (m : M) (h : Rm w B r m) (hB : B ≤ w.heap.size) :
    Calls Try.prog 26 #[.agg #[.int .u64 r.e, .int .u64 r.f, .slice r.L.A r.L.n r.L.c, .slice r.P.A r.P.n r.P.c, .int .u64 r.h, .int .u64 r.t, .slice r.K.A r.K.n r.K.c, .slice r.X.A r.X.n r.X.c, .slice r.S.A r.S.n r.S.c], .int .i64 1] w (Lists w (m.area 1)) := by
  have HK : Hid (0 ≤ r.e ∧ r.e ≤ 18446744073709551615) := by rw [h.1]; exact h.2.2.2.2.1 1 _ (by rw [area_1]; exact List.mem_singleton.2 rfl)
  have HE : Hid (m.area 1 = [r.e]) := Lib.hid (by rw [area_1, h.1])
  clear h
  go_enter Try.func26, Try.ntmps26
  go_wp2
  go_ret
  rw [HE.out]
  exact lists_one HK.out (blk_at (by simp)) (((Below.refl _ _).alloc (Nat.le_refl _) _).alloc (by simp) _)

set_option maxHeartbeats 1000000 in
theorem area_c2 (w : World) (B : Nat) (r : R) (m : M) (h : Rm w B r m) (hB : B ≤ w.heap.size) :
    Calls Try.prog 26 #[.agg #[.int .u64 r.e, .int .u64 r.f, .slice r.L.A r.L.n r.L.c, .slice r.P.A r.P.n r.P.c, .int .u64 r.h, .int .u64 r.t, .slice r.K.A r.K.n r.K.c, .slice r.X.A r.X.n r.X.c, .slice r.S.A r.S.n r.S.c], .int .i64 2] w (Lists w (m.area 2)) := by
  have HK : Hid (0 ≤ r.f ∧ r.f ≤ 18446744073709551615) := by rw [h.2.1]; exact h.2.2.2.2.1 2 _ (by rw [area_2]; exact List.mem_singleton.2 rfl)
  have HE : Hid (m.area 2 = [r.f]) := Lib.hid (by rw [area_2, h.2.1])
  clear h
  go_enter Try.func26, Try.ntmps26
  go_wp2
  go_ret
  rw [HE.out]
  exact lists_one HK.out (blk_at (by simp)) (((Below.refl _ _).alloc (Nat.le_refl _) _).alloc (by simp) _)

set_option maxHeartbeats 1000000 in
theorem area_c5 (w : World) (B : Nat) (r : R) (m : M) (h : Rm w B r m) (hB : B ≤ w.heap.size) :
    Calls Try.prog 26 #[.agg #[.int .u64 r.e, .int .u64 r.f, .slice r.L.A r.L.n r.L.c, .slice r.P.A r.P.n r.P.c, .int .u64 r.h, .int .u64 r.t, .slice r.K.A r.K.n r.K.c, .slice r.X.A r.X.n r.X.c, .slice r.S.A r.S.n r.S.c], .int .i64 5] w (Lists w (m.area 5)) := by
  have HK : Hid (0 ≤ r.h ∧ r.h ≤ 18446744073709551615) := by rw [h.2.2.1]; exact h.2.2.2.2.1 5 _ (by rw [area_5]; exact List.mem_singleton.2 rfl)
  have HE : Hid (m.area 5 = [r.h]) := Lib.hid (by rw [area_5, h.2.2.1])
  clear h
  go_enter Try.func26, Try.ntmps26
  go_wp2
  go_ret
  rw [HE.out]
  exact lists_one HK.out (blk_at (by simp)) (((Below.refl _ _).alloc (Nat.le_refl _) _).alloc (by simp) _)

set_option maxHeartbeats 1000000 in
theorem area_c6 (w : World) (B : Nat) (r : R) (m : M) (h : Rm w B r m) (hB : B ≤ w.heap.size) :
    Calls Try.prog 26 #[.agg #[.int .u64 r.e, .int .u64 r.f, .slice r.L.A r.L.n r.L.c, .slice r.P.A r.P.n r.P.c, .int .u64 r.h, .int .u64 r.t, .slice r.K.A r.K.n r.K.c, .slice r.X.A r.X.n r.X.c, .slice r.S.A r.S.n r.S.c], .int .i64 6] w (Lists w (m.area 6)) := by
  have HK : Hid (0 ≤ r.t ∧ r.t ≤ 18446744073709551615) := by rw [h.2.2.2.1]; exact h.2.2.2.2.1 6 _ (by rw [area_6]; exact List.mem_singleton.2 rfl)
  have HE : Hid (m.area 6 = [r.t]) := Lib.hid (by rw [area_6, h.2.2.2.1])
  clear h
  go_enter Try.func26, Try.ntmps26
  go_wp2
  go_ret
  rw [HE.out]
  exact lists_one HK.out (blk_at (by simp)) (((Below.refl _ _).alloc (Nat.le_refl _) _).alloc (by simp) _)

set_option maxHeartbeats 1000000 in
theorem area_c3 (w : World) (B : Nat) (r : R) (m : M) (h : Rm w B r m) (hB : B ≤ w.heap.size) :
    Calls Try.prog 26 #[.agg #[.int .u64 r.e, .int .u64 r.f, .slice r.L.A r.L.n r.L.c, .slice r.P.A r.P.n r.P.c, .int .u64 r.h, .int .u64 r.t, .slice r.K.A r.K.n r.K.c, .slice r.X.A r.X.n r.X.c, .slice r.S.A r.S.n r.S.c], .int .i64 3] w (Lists w (m.area 3)) := by
  have HR : Hid (Rd w B r.L m.li) := h.2.2.2.2.2.1
  have HB := Lib.hid hB
  clear h hB
  go_enter Try.func26, Try.ntmps26
  go_wp2
  go_ret
  exact lists_old HR.out HB.out ((Below.refl _ _).alloc (Nat.le_refl _) _)

set_option maxHeartbeats 1000000 in
theorem area_c4 (w : World) (B : Nat) (r : R) (m : M) (h : Rm w B r m) (hB : B ≤ w.heap.size) :
    Calls Try.prog 26 #[.agg #[.int .u64 r.e, .int .u64 r.f, .slice r.L.A r.L.n r.L.c, .slice r.P.A r.P.n r.P.c, .int .u64 r.h, .int .u64 r.t, .slice r.K.A r.K.n r.K.c, .slice r.X.A r.X.n r.X.c, .slice r.S.A r.S.n r.S.c], .int .i64 4] w (Lists w (m.area 4)) := by
  have HR : Hid (Rd w B r.P m.pi) := h.2.2.2.2.2.2.1
  have HB := Lib.hid hB
  clear h hB
  go_enter Try.func26, Try.ntmps26
  go_wp2
  go_ret
  exact lists_old HR.out HB.out ((Below.refl _ _).alloc (Nat.le_refl _) _)

set_option maxHeartbeats 1000000 in
theorem area_c7 (w : World) (B : Nat) (r : R) (m : M) (h : Rm w B r m) (hB : B ≤ w.heap.size) :
    Calls Try.prog 26 #[.agg #[.int .u64 r.e, .int .u64 r.f, .slice r.L.A r.L.n r.L.c, .slice r.P.A r.P.n r.P.c, .int .u64 r.h, .int .u64 r.t, .slice r.K.A r.K.n r.K.c, .slice r.X.A r.X.n r.X.c, .slice r.S.A r.S.n r.S.c], .int .i64 7] w (Lists w (m.area 7)) := by
  have HR : Hid (Rd w B r.K m.lk) := h.2.2.2.2.2.2.2.1
  have HB := Lib.hid hB
  clear h hB
  go_enter Try.func26, Try.ntmps26
  go_wp2
  go_ret
  exact lists_old HR.out HB.out ((Below.refl _ _).alloc (Nat.le_refl _) _)

set_option maxHeartbeats 1000000 in
theorem area_c8 (w : World) (B : Nat) (r : R) (m : M) (h : Rm w B r m) (hB : B ≤ w.heap.size) :
    Calls Try.prog 26 #[.agg #[.int .u64 r.e, .int .u64 r.f, .slice r.L.A r.L.n r.L.c, .slice r.P.A r.P.n r.P.c, .int .u64 r.h, .int .u64 r.t, .slice r.K.A r.K.n r.K.c, .slice r.X.A r.X.n r.X.c, .slice r.S.A r.S.n r.S.c], .int .i64 8] w (Lists w (m.area 8)) := by
  have HR : Hid (Rd w B r.X m.nx) := h.2.2.2.2.2.2.2.2.1
  have HB := Lib.hid hB
  clear h hB
  go_enter Try.func26, Try.ntmps26
  go_wp2
  go_ret
  exact lists_old HR.out HB.out ((Below.refl _ _).alloc (Nat.le_refl _) _)

set_option maxHeartbeats 1000000 in
theorem area_c9 (w : World) (B : Nat) (r : R) (m : M) (h : Rm w B r m) (hB : B ≤ w.heap.size) :
    Calls Try.prog 26 #[.agg #[.int .u64 r.e, .int .u64 r.f, .slice r.L.A r.L.n r.L.c, .slice r.P.A r.P.n r.P.c, .int .u64 r.h, .int .u64 r.t, .slice r.K.A r.K.n r.K.c, .slice r.X.A r.X.n r.X.c, .slice r.S.A r.S.n r.S.c], .int .i64 9] w (Lists w (m.area 9)) := by
  have HR : Hid (Rd w B r.S m.sl) := h.2.2.2.2.2.2.2.2.2
  have HB := Lib.hid hB
  clear h hB
  go_enter Try.func26, Try.ntmps26
  go_wp2
  go_ret
  exact lists_old HR.out HB.out ((Below.refl _ _).alloc (Nat.le_refl _) _)

set_option maxHeartbeats 1000000 in
theorem area_out (w : World) (r : R) (m : M) (a : Int) (ha : -9223372036854775808 ≤ a) (ha' : a ≤ 9223372036854775807) (h : a < 1 ∨ 9 < a) :
    Calls Try.prog 26 #[.agg #[.int .u64 r.e, .int .u64 r.f, .slice r.L.A r.L.n r.L.c, .slice r.P.A r.P.n r.P.c, .int .u64 r.h, .int .u64 r.t, .slice r.K.A r.K.n r.K.c, .slice r.X.A r.X.n r.X.c, .slice r.S.A r.S.n r.S.c], .int .i64 a] w (Lists w (m.area a)) := by
  have HE : Hid (m.area a = []) := area_no m a h
  rcases h with h | h
  all_goals
    go_enter Try.func26, Try.ntmps26
    go_wp2
    go_ret
    rw [HE.out]
    exact lists_old (s := ⟨none, 0, 0⟩) (Rd.nil w 0 none) (Nat.zero_le _) ((Below.refl _ _).alloc (Nat.le_refl _) _)

theorem area_c (w : World) (B : Nat) (r : R) (m : M) (a : Int) (h : Rm w B r m) (hB : B ≤ w.heap.size) (ha : -9223372036854775808 ≤ a) (ha' : a ≤ 9223372036854775807) :
    Calls Try.prog 26 #[.agg #[.int .u64 r.e, .int .u64 r.f, .slice r.L.A r.L.n r.L.c, .slice r.P.A r.P.n r.P.c, .int .u64 r.h, .int .u64 r.t, .slice r.K.A r.K.n r.K.c, .slice r.X.A r.X.n r.X.c, .slice r.S.A r.S.n r.S.c], .int .i64 a] w (Lists w (m.area a)) := by
  by_cases ho : a < 1 ∨ 9 < a
  · exact area_out w r m a ha ha' ho
  · rcases nine ho with rfl | rfl | rfl | rfl | rfl | rfl | rfl | rfl | rfl
    · exact area_c1 w B r m h hB
    · exact area_c2 w B r m h hB
    · exact area_c3 w B r m h hB
    · exact area_c4 w B r m h hB
    · exact area_c5 w B r m h hB
    · exact area_c6 w B r m h hB
    · exact area_c7 w B r m h hB
    · exact area_c8 w B r m h hB
    · exact area_c9 w B r m h hB
end Go.Proofs.Ytjgbgjkjnlaloaa.Refc
