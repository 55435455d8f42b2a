/- The document's answer for the store: the words with those of an area being others, by its contract. -/
import Derived.Test.YtjgbgjkjnlaloaaRefB
namespace Go.Proofs.Ytjgbgjkjnlaloaa.Refc
open Go.RowKit Go.Proofs.Ytjgbgjkjnlaloaa.Memc
set_option linter.unusedVariables false
set_option maxRecDepth 100000

/-- an answer of words -/
def Gives (w : World) (m : M) (e : Ending) (w' : World) : Prop :=
  ∃ r : R, e = .returned (.agg #[.int .u64 r.e, .int .u64 r.f, .slice r.L.A r.L.n r.L.c, .slice r.P.A r.P.n r.P.c, .int .u64 r.h, .int .u64 r.t, .slice r.K.A r.K.n r.K.c, .slice r.X.A r.X.n r.X.c, .slice r.S.A r.S.n r.S.c]) ∧ Rm w' w'.heap.size r m ∧ Below w.heap.size w w'

/-- an answer of words, each of whose rows is one of q's or s -/
def Puts (w : World) (q : R) (s : Sl) (m : M) (e : Ending) (w' : World) : Prop :=
  ∃ r : R, e = .returned (.agg #[.int .u64 r.e, .int .u64 r.f, .slice r.L.A r.L.n r.L.c, .slice r.P.A r.P.n r.P.c, .int .u64 r.h, .int .u64 r.t, .slice r.K.A r.K.n r.K.c, .slice r.X.A r.X.n r.X.c, .slice r.S.A r.S.n r.S.c]) ∧ Rm w' w'.heap.size r m ∧ Below w.heap.size w w' ∧ ∀ b, la b → r.sl b = q.sl b ∨ r.sl b = s

theorem put_ok {m : M} (h : m.ok) (a : Int) (l : List Int) (hl : u64s l) (h1 : a = 1 ∨ a = 2 ∨ a = 5 ∨ a = 6 → l.length = 1) : (m.put a l).ok := by
  intro b
  by_cases hab : a = b
  · subst hab
    by_cases hla : a < 1 ∨ 9 < a
    · rw [area_no _ _ hla]; exact u64s_nil
    · rcases nine hla with rfl | rfl | rfl | rfl | rfl | rfl | rfl | rfl | rfl <;> first | exact hl | skip
      all_goals
        have := h1 (by simp)
        obtain ⟨x, rfl⟩ := List.length_eq_one_iff.1 this
        exact hl
  · rw [area_put_other _ _ _ _ hab]; exact h b

set_option maxHeartbeats 1000000 in
theorem with_c1 (w : World) (B : Nat) (r : R) (m : M) (s : Sl) (x : Int) (h : Rm w B r m) (hs : Rd w B s [x]) (hB : B ≤ w.heap.size) :
    Calls Try.prog 40 #[.agg #[.int .u64 r.e, .int .u64 r.f, .slice r.L.A r.L.n r.L.c, .slice r.P.A r.P.n r.P.c, .int .u64 r.h, .int .u64 r.t, .slice r.K.A r.K.n r.K.c, .slice r.X.A r.X.n r.X.c, .slice r.S.A r.S.n r.S.c], .int .i64 1, .slice s.A s.n s.c] w (Puts w r s (m.put 1 [x])) := by
  have HR := Lib.hid h
  obtain ⟨ad, hA, had, hc⟩ := hs.at_ (k := 0) (by simp)
  have hc : w.cell? (ad.add 0) = some (.int .u64 x) := hc
  have hc0 : w.cell? ad = some (.int .u64 x) := (congrArg w.cell? (show ad.add 0 = ad by simp [Addr.add])).symm.trans hc
  have hn : s.n = 1 := hs.1
  have HU : Hid (u64s [x]) := hs.2.2.2.1
  have HB := Lib.hid hB
  have hlt : ad.block < w.heap.size := by omega
  rw [hA, hn]
  clear h hA hn hs hB had
  go_enter Try.func40, Try.ntmps40
  go_wp2
  refine bodyPost_ret (v := .agg #[.int .u64 x, .int .u64 r.f, .slice r.L.A r.L.n r.L.c, .slice r.P.A r.P.n r.P.c, .int .u64 r.h, .int .u64 r.t, .slice r.K.A r.K.n r.K.c, .slice r.X.A r.X.n r.X.c, .slice r.S.A r.S.n r.S.c]) (by simp [results, Try.results40, go_sem]) rfl ?_
  refine ⟨⟨x, r.f, r.L, r.P, r.h, r.t, r.K, r.X, r.S⟩, rfl, ?_, by repeat (first | exact Below.refl _ _ | refine Below.setCell ?_ (by simp) _ | refine Below.alloc ?_ (by simp) _), fun b hl => by rcases hl with rfl | rfl | rfl | rfl | rfl <;> first | exact .inl rfl | exact .inr rfl⟩
  have hp : Rm w w.heap.size ⟨x, r.f, r.L, r.P, r.h, r.t, r.K, r.X, r.S⟩ (m.put 1 [x]) := Rm.more ⟨rfl, HR.out.2.1, HR.out.2.2.1, HR.out.2.2.2.1, put_ok HR.out.2.2.2.2.1 _ _ HU.out (fun _ => rfl), HR.out.2.2.2.2.2⟩ HB.out
  exact ((hp.alloc (Nat.le_refl _) _).alloc (by simp) _).more (by simp; omega)

set_option maxHeartbeats 1000000 in
theorem with_c2 (w : World) (B : Nat) (r : R) (m : M) (s : Sl) (x : Int) (h : Rm w B r m) (hs : Rd w B s [x]) (hB : B ≤ w.heap.size) :
    Calls Try.prog 40 #[.agg #[.int .u64 r.e, .int .u64 r.f, .slice r.L.A r.L.n r.L.c, .slice r.P.A r.P.n r.P.c, .int .u64 r.h, .int .u64 r.t, .slice r.K.A r.K.n r.K.c, .slice r.X.A r.X.n r.X.c, .slice r.S.A r.S.n r.S.c], .int .i64 2, .slice s.A s.n s.c] w (Puts w r s (m.put 2 [x])) := by
  have HR := Lib.hid h
  obtain ⟨ad, hA, had, hc⟩ := hs.at_ (k := 0) (by simp)
  have hc : w.cell? (ad.add 0) = some (.int .u64 x) := hc
  have hc0 : w.cell? ad = some (.int .u64 x) := (congrArg w.cell? (show ad.add 0 = ad by simp [Addr.add])).symm.trans hc
  have hn : s.n = 1 := hs.1
  have HU : Hid (u64s [x]) := hs.2.2.2.1
  have HB := Lib.hid hB
  have hlt : ad.block < w.heap.size := by omega
  rw [hA, hn]
  clear h hA hn hs hB had
  go_enter Try.func40, Try.ntmps40
  go_wp2
  refine bodyPost_ret (v := .agg #[.int .u64 r.e, .int .u64 x, .slice r.L.A r.L.n r.L.c, .slice r.P.A r.P.n r.P.c, .int .u64 r.h, .int .u64 r.t, .slice r.K.A r.K.n r.K.c, .slice r.X.A r.X.n r.X.c, .slice r.S.A r.S.n r.S.c]) (by simp [results, Try.results40, go_sem]) rfl ?_
  refine ⟨⟨r.e, x, r.L, r.P, r.h, r.t, r.K, r.X, r.S⟩, rfl, ?_, by repeat (first | exact Below.refl _ _ | refine Below.setCell ?_ (by simp) _ | refine Below.alloc ?_ (by simp) _), fun b hl => by rcases hl with rfl | rfl | rfl | rfl | rfl <;> first | exact .inl rfl | exact .inr rfl⟩
  have hp : Rm w w.heap.size ⟨r.e, x, r.L, r.P, r.h, r.t, r.K, r.X, r.S⟩ (m.put 2 [x]) := Rm.more ⟨HR.out.1, rfl, HR.out.2.2.1, HR.out.2.2.2.1, put_ok HR.out.2.2.2.2.1 _ _ HU.out (fun _ => rfl), HR.out.2.2.2.2.2⟩ HB.out
  exact ((hp.alloc (Nat.le_refl _) _).alloc (by simp) _).more (by simp; omega)

set_option maxHeartbeats 1000000 in
theorem with_c5 (w : World) (B : Nat) (r : R) (m : M) (s : Sl) (x : Int) (h : Rm w B r m) (hs : Rd w B s [x]) (hB : B ≤ w.heap.size) :
    Calls Try.prog 40 #[.agg #[.int .u64 r.e, .int .u64 r.f, .slice r.L.A r.L.n r.L.c, .slice r.P.A r.P.n r.P.c, .int .u64 r.h, .int .u64 r.t, .slice r.K.A r.K.n r.K.c, .slice r.X.A r.X.n r.X.c, .slice r.S.A r.S.n r.S.c], .int .i64 5, .slice s.A s.n s.c] w (Puts w r s (m.put 5 [x])) := by
  have HR := Lib.hid h
  obtain ⟨ad, hA, had, hc⟩ := hs.at_ (k := 0) (by simp)
  have hc : w.cell? (ad.add 0) = some (.int .u64 x) := hc
  have hc0 : w.cell? ad = some (.int .u64 x) := (congrArg w.cell? (show ad.add 0 = ad by simp [Addr.add])).symm.trans hc
  have hn : s.n = 1 := hs.1
  have HU : Hid (u64s [x]) := hs.2.2.2.1
  have HB := Lib.hid hB
  have hlt : ad.block < w.heap.size := by omega
  rw [hA, hn]
  clear h hA hn hs hB had
  go_enter Try.func40, Try.ntmps40
  go_wp2
  refine bodyPost_ret (v := .agg #[.int .u64 r.e, .int .u64 r.f, .slice r.L.A r.L.n r.L.c, .slice r.P.A r.P.n r.P.c, .int .u64 x, .int .u64 r.t, .slice r.K.A r.K.n r.K.c, .slice r.X.A r.X.n r.X.c, .slice r.S.A r.S.n r.S.c]) (by simp [results, Try.results40, go_sem]) rfl ?_
  refine ⟨⟨r.e, r.f, r.L, r.P, x, r.t, r.K, r.X, r.S⟩, rfl, ?_, by repeat (first | exact Below.refl _ _ | refine Below.setCell ?_ (by simp) _ | refine Below.alloc ?_ (by simp) _), fun b hl => by rcases hl with rfl | rfl | rfl | rfl | rfl <;> first | exact .inl rfl | exact .inr rfl⟩
  have hp : Rm w w.heap.size ⟨r.e, r.f, r.L, r.P, x, r.t, r.K, r.X, r.S⟩ (m.put 5 [x]) := Rm.more ⟨HR.out.1, HR.out.2.1, rfl, HR.out.2.2.2.1, put_ok HR.out.2.2.2.2.1 _ _ HU.out (fun _ => rfl), HR.out.2.2.2.2.2⟩ HB.out
  exact ((hp.alloc (Nat.le_refl _) _).alloc (by simp) _).more (by simp; omega)

set_option maxHeartbeats 1000000 in
theorem with_c6 (w : World) (B : Nat) (r : R) (m : M) (s : Sl) (x : Int) (h : Rm w B r m) (hs : Rd w B s [x]) (hB : B ≤ w.heap.size) :
    Calls Try.prog 40 #[.agg #[.int .u64 r.e, .int .u64 r.f, .slice r.L.A r.L.n r.L.c, .slice r.P.A r.P.n r.P.c, .int .u64 r.h, .int .u64 r.t, .slice r.K.A r.K.n r.K.c, .slice r.X.A r.X.n r.X.c, .slice r.S.A r.S.n r.S.c], .int .i64 6, .slice s.A s.n s.c] w (Puts w r s (m.put 6 [x])) := by
  have HR := Lib.hid h
  obtain ⟨ad, hA, had, hc⟩ := hs.at_ (k := 0) (by simp)
  have hc : w.cell? (ad.add 0) = some (.int .u64 x) := hc
  have hc0 : w.cell? ad = some (.int .u64 x) := (congrArg w.cell? (show ad.add 0 = ad by simp [Addr.add])).symm.trans hc
  have hn : s.n = 1 := hs.1
  have HU : Hid (u64s [x]) := hs.2.2.2.1
  have HB := Lib.hid hB
  have hlt : ad.block < w.heap.size := by omega
  rw [hA, hn]
  clear h hA hn hs hB had
  go_enter Try.func40, Try.ntmps40
  go_wp2
  refine bodyPost_ret (v := .agg #[.int .u64 r.e, .int .u64 r.f, .slice r.L.A r.L.n r.L.c, .slice r.P.A r.P.n r.P.c, .int .u64 r.h, .int .u64 x, .slice r.K.A r.K.n r.K.c, .slice r.X.A r.X.n r.X.c, .slice r.S.A r.S.n r.S.c]) (by simp [results, Try.results40, go_sem]) rfl ?_
  refine ⟨⟨r.e, r.f, r.L, r.P, r.h, x, r.K, r.X, r.S⟩, rfl, ?_, by repeat (first | exact Below.refl _ _ | refine Below.setCell ?_ (by simp) _ | refine Below.alloc ?_ (by simp) _), fun b hl => by rcases hl with rfl | rfl | rfl | rfl | rfl <;> first | exact .inl rfl | exact .inr rfl⟩
  have hp : Rm w w.heap.size ⟨r.e, r.f, r.L, r.P, r.h, x, r.K, r.X, r.S⟩ (m.put 6 [x]) := Rm.more ⟨HR.out.1, HR.out.2.1, HR.out.2.2.1, rfl, put_ok HR.out.2.2.2.2.1 _ _ HU.out (fun _ => rfl), HR.out.2.2.2.2.2⟩ HB.out
  exact ((hp.alloc (Nat.le_refl _) _).alloc (by simp) _).more (by simp; omega)

set_option maxHeartbeats 1000000 in
theorem with_c3 (w : World) (B : Nat) (r : R) (m : M) (s : Sl) (l : List Int) (h : Rm w B r m) (hs : Rd w B s l) (hB : B ≤ w.heap.size) :
    Calls Try.prog 40 #[.agg #[.int .u64 r.e, .int .u64 r.f, .slice r.L.A r.L.n r.L.c, .slice r.P.A r.P.n r.P.c, .int .u64 r.h, .int .u64 r.t, .slice r.K.A r.K.n r.K.c, .slice r.X.A r.X.n r.X.c, .slice r.S.A r.S.n r.S.c], .int .i64 3, .slice s.A s.n s.c] w (Puts w r s (m.put 3 l)) := by
  have HR := Lib.hid h
  have HS := Lib.hid hs
  have HB := Lib.hid hB
  clear h hs hB
  go_enter Try.func40, Try.ntmps40
  go_wp2
  refine bodyPost_ret (v := .agg #[.int .u64 r.e, .int .u64 r.f, .slice s.A s.n s.c, .slice r.P.A r.P.n r.P.c, .int .u64 r.h, .int .u64 r.t, .slice r.K.A r.K.n r.K.c, .slice r.X.A r.X.n r.X.c, .slice r.S.A r.S.n r.S.c]) (by simp [results, Try.results40, go_sem]) rfl ?_
  refine ⟨⟨r.e, r.f, s, r.P, r.h, r.t, r.K, r.X, r.S⟩, rfl, ?_, by repeat (first | exact Below.refl _ _ | refine Below.setCell ?_ (by simp) _ | refine Below.alloc ?_ (by simp) _), fun b hl => by rcases hl with rfl | rfl | rfl | rfl | rfl <;> first | exact .inl rfl | exact .inr rfl⟩
  have hp : Rm w w.heap.size ⟨r.e, r.f, s, r.P, r.h, r.t, r.K, r.X, r.S⟩ (m.put 3 l) := Rm.more ⟨HR.out.1, HR.out.2.1, HR.out.2.2.1, HR.out.2.2.2.1, put_ok HR.out.2.2.2.2.1 _ _ HS.out.2.2.2.1 (fun h => by omega), HS.out, HR.out.2.2.2.2.2.2.1, HR.out.2.2.2.2.2.2.2.1, HR.out.2.2.2.2.2.2.2.2.1, HR.out.2.2.2.2.2.2.2.2.2⟩ HB.out
  exact ((hp.alloc (Nat.le_refl _) _).alloc (by simp) _).more (by simp; omega)

set_option maxHeartbeats 1000000 in
theorem with_c4 (w : World) (B : Nat) (r : R) (m : M) (s : Sl) (l : List Int) (h : Rm w B r m) (hs : Rd w B s l) (hB : B ≤ w.heap.size) :
    Calls Try.prog 40 #[.agg #[.int .u64 r.e, .int .u64 r.f, .slice r.L.A r.L.n r.L.c, .slice r.P.A r.P.n r.P.c, .int .u64 r.h, .int .u64 r.t, .slice r.K.A r.K.n r.K.c, .slice r.X.A r.X.n r.X.c, .slice r.S.A r.S.n r.S.c], .int .i64 4, .slice s.A s.n s.c] w (Puts w r s (m.put 4 l)) := by
  have HR := Lib.hid h
  have HS := Lib.hid hs
  have HB := Lib.hid hB
  clear h hs hB
  go_enter Try.func40, Try.ntmps40
  go_wp2
  refine bodyPost_ret (v := .agg #[.int .u64 r.e, .int .u64 r.f, .slice r.L.A r.L.n r.L.c, .slice s.A s.n s.c, .int .u64 r.h, .int .u64 r.t, .slice r.K.A r.K.n r.K.c, .slice r.X.A r.X.n r.X.c, .slice r.S.A r.S.n r.S.c]) (by simp [results, Try.results40, go_sem]) rfl ?_
  refine ⟨⟨r.e, r.f, r.L, s, r.h, r.t, r.K, r.X, r.S⟩, rfl, ?_, by repeat (first | exact Below.refl _ _ | refine Below.setCell ?_ (by simp) _ | refine Below.alloc ?_ (by simp) _), fun b hl => by rcases hl with rfl | rfl | rfl | rfl | rfl <;> first | exact .inl rfl | exact .inr rfl⟩
  have hp : Rm w w.heap.size ⟨r.e, r.f, r.L, s, r.h, r.t, r.K, r.X, r.S⟩ (m.put 4 l) := Rm.more ⟨HR.out.1, HR.out.2.1, HR.out.2.2.1, HR.out.2.2.2.1, put_ok HR.out.2.2.2.2.1 _ _ HS.out.2.2.2.1 (fun h => by omega), HR.out.2.2.2.2.2.1, HS.out, HR.out.2.2.2.2.2.2.2.1, HR.out.2.2.2.2.2.2.2.2.1, HR.out.2.2.2.2.2.2.2.2.2⟩ HB.out
  exact ((hp.alloc (Nat.le_refl _) _).alloc (by simp) _).more (by simp; omega)

set_option maxHeartbeats 1000000 in
theorem with_c7 (w : World) (B : Nat) (r : R) (m : M) (s : Sl) (l : List Int) (h : Rm w B r m) (hs : Rd w B s l) (hB : B ≤ w.heap.size) :
    Calls Try.prog 40 #[.agg #[.int .u64 r.e, .int .u64 r.f, .slice r.L.A r.L.n r.L.c, .slice r.P.A r.P.n r.P.c, .int .u64 r.h, .int .u64 r.t, .slice r.K.A r.K.n r.K.c, .slice r.X.A r.X.n r.X.c, .slice r.S.A r.S.n r.S.c], .int .i64 7, .slice s.A s.n s.c] w (Puts w r s (m.put 7 l)) := by
  have HR := Lib.hid h
  have HS := Lib.hid hs
  have HB := Lib.hid hB
  clear h hs hB
  go_enter Try.func40, Try.ntmps40
  go_wp2
  refine bodyPost_ret (v := .agg #[.int .u64 r.e, .int .u64 r.f, .slice r.L.A r.L.n r.L.c, .slice r.P.A r.P.n r.P.c, .int .u64 r.h, .int .u64 r.t, .slice s.A s.n s.c, .slice r.X.A r.X.n r.X.c, .slice r.S.A r.S.n r.S.c]) (by simp [results, Try.results40, go_sem]) rfl ?_
  refine ⟨⟨r.e, r.f, r.L, r.P, r.h, r.t, s, r.X, r.S⟩, rfl, ?_, by repeat (first | exact Below.refl _ _ | refine Below.setCell ?_ (by simp) _ | refine Below.alloc ?_ (by simp) _), fun b hl => by rcases hl with rfl | rfl | rfl | rfl | rfl <;> first | exact .inl rfl | exact .inr rfl⟩
  have hp : Rm w w.heap.size ⟨r.e, r.f, r.L, r.P, r.h, r.t, s, r.X, r.S⟩ (m.put 7 l) := Rm.more ⟨HR.out.1, HR.out.2.1, HR.out.2.2.1, HR.out.2.2.2.1, put_ok HR.out.2.2.2.2.1 _ _ HS.out.2.2.2.1 (fun h => by omega), HR.out.2.2.2.2.2.1, HR.out.2.2.2.2.2.2.1, HS.out, HR.out.2.2.2.2.2.2.2.2.1, HR.out.2.2.2.2.2.2.2.2.2⟩ HB.out
  exact ((hp.alloc (Nat.le_refl _) _).alloc (by simp) _).more (by simp; omega)

set_option maxHeartbeats 1000000 in
theorem with_c8 (w : World) (B : Nat) (r : R) (m : M) (s : Sl) (l : List Int) (h : Rm w B r m) (hs : Rd w B s l) (hB : B ≤ w.heap.size) :
    Calls Try.prog 40 #[.agg #[.int .u64 r.e, .int .u64 r.f, .slice r.L.A r.L.n r.L.c, .slice r.P.A r.P.n r.P.c, .int .u64 r.h, .int .u64 r.t, .slice r.K.A r.K.n r.K.c, .slice r.X.A r.X.n r.X.c, .slice r.S.A r.S.n r.S.c], .int .i64 8, .slice s.A s.n s.c] w (Puts w r s (m.put 8 l)) := by
  have HR := Lib.hid h
  have HS := Lib.hid hs
  have HB := Lib.hid hB
  clear h hs hB
  go_enter Try.func40, Try.ntmps40
  go_wp2
  refine bodyPost_ret (v := .agg #[.int .u64 r.e, .int .u64 r.f, .slice r.L.A r.L.n r.L.c, .slice r.P.A r.P.n r.P.c, .int .u64 r.h, .int .u64 r.t, .slice r.K.A r.K.n r.K.c, .slice s.A s.n s.c, .slice r.S.A r.S.n r.S.c]) (by simp [results, Try.results40, go_sem]) rfl ?_
  refine ⟨⟨r.e, r.f, r.L, r.P, r.h, r.t, r.K, s, r.S⟩, rfl, ?_, by repeat (first | exact Below.refl _ _ | refine Below.setCell ?_ (by simp) _ | refine Below.alloc ?_ (by simp) _), fun b hl => by rcases hl with rfl | rfl | rfl | rfl | rfl <;> first | exact .inl rfl | exact .inr rfl⟩
  have hp : Rm w w.heap.size ⟨r.e, r.f, r.L, r.P, r.h, r.t, r.K, s, r.S⟩ (m.put 8 l) := Rm.more ⟨HR.out.1, HR.out.2.1, HR.out.2.2.1, HR.out.2.2.2.1, put_ok HR.out.2.2.2.2.1 _ _ HS.out.2.2.2.1 (fun h => by omega), HR.out.2.2.2.2.2.1, HR.out.2.2.2.2.2.2.1, HR.out.2.2.2.2.2.2.2.1, HS.out, HR.out.2.2.2.2.2.2.2.2.2⟩ HB.out
  exact ((hp.alloc (Nat.le_refl _) _).alloc (by simp) _).more (by simp; omega)

set_option maxHeartbeats 1000000 in
theorem with_c9 (w : World) (B : Nat) (r : R) (m : M) (s : Sl) (l : List Int) (h : Rm w B r m) (hs : Rd w B s l) (hB : B ≤ w.heap.size) :
    Calls Try.prog 40 #[.agg #[.int .u64 r.e, .int .u64 r.f, .slice r.L.A r.L.n r.L.c, .slice r.P.A r.P.n r.P.c, .int .u64 r.h, .int .u64 r.t, .slice r.K.A r.K.n r.K.c, .slice r.X.A r.X.n r.X.c, .slice r.S.A r.S.n r.S.c], .int .i64 9, .slice s.A s.n s.c] w (Puts w r s (m.put 9 l)) := by
  have HR := Lib.hid h
  have HS := Lib.hid hs
  have HB := Lib.hid hB
  clear h hs hB
  go_enter Try.func40, Try.ntmps40
  go_wp2
  refine bodyPost_ret (v := .agg #[.int .u64 r.e, .int .u64 r.f, .slice r.L.A r.L.n r.L.c, .slice r.P.A r.P.n r.P.c, .int .u64 r.h, .int .u64 r.t, .slice r.K.A r.K.n r.K.c, .slice r.X.A r.X.n r.X.c, .slice s.A s.n s.c]) (by simp [results, Try.results40, go_sem]) rfl ?_
  refine ⟨⟨r.e, r.f, r.L, r.P, r.h, r.t, r.K, r.X, s⟩, rfl, ?_, by repeat (first | exact Below.refl _ _ | refine Below.setCell ?_ (by simp) _ | refine Below.alloc ?_ (by simp) _), fun b hl => by rcases hl with rfl | rfl | rfl | rfl | rfl <;> first | exact .inl rfl | exact .inr rfl⟩
  have hp : Rm w w.heap.size ⟨r.e, r.f, r.L, r.P, r.h, r.t, r.K, r.X, s⟩ (m.put 9 l) := Rm.more ⟨HR.out.1, HR.out.2.1, HR.out.2.2.1, HR.out.2.2.2.1, put_ok HR.out.2.2.2.2.1 _ _ HS.out.2.2.2.1 (fun h => by omega), HR.out.2.2.2.2.2.1, HR.out.2.2.2.2.2.2.1, HR.out.2.2.2.2.2.2.2.1, HR.out.2.2.2.2.2.2.2.2.1, HS.out⟩ HB.out
  exact ((hp.alloc (Nat.le_refl _) _).alloc (by simp) _).more (by simp; omega)

theorem with_c (w : World) (B : Nat) (r : R) (m : M) (s : Sl) (a : Int) (l : List Int) (h : Rm w B r m) (hs : Rd w B s l) (hB : B ≤ w.heap.size) (hl : l.length = (m.area a).length) (ha : 1 ≤ a) (ha' : a ≤ 9) :
    Calls Try.prog 40 #[.agg #[.int .u64 r.e, .int .u64 r.f, .slice r.L.A r.L.n r.L.c, .slice r.P.A r.P.n r.P.c, .int .u64 r.h, .int .u64 r.t, .slice r.K.A r.K.n r.K.c, .slice r.X.A r.X.n r.X.c, .slice r.S.A r.S.n r.S.c], .int .i64 a, .slice s.A s.n s.c] w (Puts w r s (m.put a l)) := by
  rcases nine (show ¬ (a < 1 ∨ 9 < a) by omega) with rfl | rfl | rfl | rfl | rfl | rfl | rfl | rfl | rfl
  · obtain ⟨x, rfl⟩ := List.length_eq_one_iff.1 (show l.length = 1 from hl)
    exact with_c1 w B r m s x h hs hB
  · obtain ⟨x, rfl⟩ := List.length_eq_one_iff.1 (show l.length = 1 from hl)
    exact with_c2 w B r m s x h hs hB
  · exact with_c3 w B r m s l h hs hB
  · exact with_c4 w B r m s l h hs hB
  · obtain ⟨x, rfl⟩ := List.length_eq_one_iff.1 (show l.length = 1 from hl)
    exact with_c5 w B r m s x h hs hB
  · obtain ⟨x, rfl⟩ := List.length_eq_one_iff.1 (show l.length = 1 from hl)
    exact with_c6 w B r m s x h hs hB
  · exact with_c7 w B r m s l h hs hB
  · exact with_c8 w B r m s l h hs hB
  · exact with_c9 w B r m s l h hs hB
end Go.Proofs.Ytjgbgjkjnlaloaa.Refc
