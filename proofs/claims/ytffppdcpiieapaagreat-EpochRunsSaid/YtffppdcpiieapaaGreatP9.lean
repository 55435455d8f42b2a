/- A part of the proof. -/
import Derived.Deep.RegionHeld3
import Derived.Deep.DrawnRows
import Derived.Deep.QuietTactic
import Derived.BigQuiet
import Derived.Test.YtffppdcpiieapaaGreatP1
import Derived.Test.YtffppdcpiieapaaGreatP8
namespace Go.Proofs.YtffppdcpiieapaaGreat.Refc
open Go.RowKit Memc
set_option linter.unusedVariables false
set_option maxRecDepth 100000

def Gives (w : World) (m : M) (e : Ending) (w' : World) : Prop :=
 ∃ r : R, e = .returned (.agg #[.int .u64 r.e, .int .u64 r.f, .slice r.L.A r.L.n r.L.c, .slice r.P.A r.P.n r.P.c, .int .u64 r.h, .int .u64 r.t, .slice r.K.A r.K.n r.K.c, .slice r.X.A r.X.n r.X.c, .slice r.S.A r.S.n r.S.c]) /\ Rm w' w'.heap.size r m /\ Below w.heap.size w w'

def Puts (w : World) (q : R) (s : Sl) (m : M) (e : Ending) (w' : World) : Prop :=
 ∃ r : R, e = .returned (.agg #[.int .u64 r.e, .int .u64 r.f, .slice r.L.A r.L.n r.L.c, .slice r.P.A r.P.n r.P.c, .int .u64 r.h, .int .u64 r.t, .slice r.K.A r.K.n r.K.c, .slice r.X.A r.X.n r.X.c, .slice r.S.A r.S.n r.S.c]) /\ Rm w' w'.heap.size r m /\ Below w.heap.size w w' /\ ∀ b, la b -> r.sl b = q.sl b \/ r.sl b = s

theorem put_ok {m : M} (h : m.ok) (a : Int) (l : List Int) (hl : u64s l) (h1 : a = 1 \/ a = 2 \/ a = 5 \/ a = 6 -> l.length = 1) : (m.put a l).ok := by
 intro b
 by_cases hab : a = b
 · subst hab
   by_cases hla : a < 1 \/ 9 < a
   · rw [area_no _ _ hla]; exact u64s_nil
   · rcases nine hla with rfl | rfl | rfl | rfl | rfl | rfl | rfl | rfl | rfl <;> first | exact hl | skip
     all_goals
       have := h1 (by simp)
       obtain ⟨x, rfl⟩ := List.length_eq_one_iff.1 this
       exact hl
 · rw [area_put_other _ _ _ _ hab]; exact h b

set_option maxHeartbeats 1000000 in
theorem with_c1 (w : World) (B : Nat) (r : R) (m : M) (s : Sl) (x : Int) (h : Rm w B r m) (hs : Rd w B s [x]) (hB : B <= w.heap.size) :
   Calls Tryz.prog 76 #[.agg #[.int .u64 r.e, .int .u64 r.f, .slice r.L.A r.L.n r.L.c, .slice r.P.A r.P.n r.P.c, .int .u64 r.h, .int .u64 r.t, .slice r.K.A r.K.n r.K.c, .slice r.X.A r.X.n r.X.c, .slice r.S.A r.S.n r.S.c], .int .i64 1, .slice s.A s.n s.c] w (Puts w r s (m.put 1 [x])) := by
 have HR := lh h
 obtain ⟨ad, hA, had, hc⟩ := hs.at_ (k := 0) (by simp)
 have hc : w.cell? (ad.add 0) = some (.int .u64 x) := hc
 have hc0 : w.cell? ad = some (.int .u64 x) := (congrArg w.cell? (show ad.add 0 = ad by simp [Addr.add])).symm.trans hc
 have hn : s.n = 1 := hs.1
 have HU : Hid (u64s [x]) := hs.2.2.2.1
 have HB := lh hB
 have hlt : ad.block < w.heap.size := by omega
 rw [hA, hn]
 clear h hA hn hs hB had
 go_enter Tryz.func76, Tryz.ntmps76
 go_wp2
 refine bodyPost_ret (v := .agg #[.int .u64 x, .int .u64 r.f, .slice r.L.A r.L.n r.L.c, .slice r.P.A r.P.n r.P.c, .int .u64 r.h, .int .u64 r.t, .slice r.K.A r.K.n r.K.c, .slice r.X.A r.X.n r.X.c, .slice r.S.A r.S.n r.S.c]) (by simp [results, Tryz.results76, go_sem]) rfl ?_
 refine ⟨⟨x, r.f, r.L, r.P, r.h, r.t, r.K, r.X, r.S⟩, rfl, ?_, by repeat (first | exact Below.refl _ _ | refine Below.setCell ?_ (by simp) _ | refine Below.alloc ?_ (by simp) _), fun b hl => by rcases hl with rfl | rfl | rfl | rfl | rfl <;> first | exact .inl rfl | exact .inr rfl⟩
 have hp : Rm w w.heap.size ⟨x, r.f, r.L, r.P, r.h, r.t, r.K, r.X, r.S⟩ (m.put 1 [x]) := Rm.more ⟨rfl, HR.out.2.1, HR.out.2.2.1, HR.out.2.2.2.1, put_ok HR.out.2.2.2.2.1 _ _ HU.out (fun _ => rfl), HR.out.2.2.2.2.2⟩ HB.out
 exact ((hp.alloc (Nat.le_refl _) _).alloc (by simp) _).more (by simp; omega)

set_option maxHeartbeats 1000000 in
theorem with_c2 (w : World) (B : Nat) (r : R) (m : M) (s : Sl) (x : Int) (h : Rm w B r m) (hs : Rd w B s [x]) (hB : B <= w.heap.size) :
   Calls Tryz.prog 76 #[.agg #[.int .u64 r.e, .int .u64 r.f, .slice r.L.A r.L.n r.L.c, .slice r.P.A r.P.n r.P.c, .int .u64 r.h, .int .u64 r.t, .slice r.K.A r.K.n r.K.c, .slice r.X.A r.X.n r.X.c, .slice r.S.A r.S.n r.S.c], .int .i64 2, .slice s.A s.n s.c] w (Puts w r s (m.put 2 [x])) := by
 have HR := lh h
 obtain ⟨ad, hA, had, hc⟩ := hs.at_ (k := 0) (by simp)
 have hc : w.cell? (ad.add 0) = some (.int .u64 x) := hc
 have hc0 : w.cell? ad = some (.int .u64 x) := (congrArg w.cell? (show ad.add 0 = ad by simp [Addr.add])).symm.trans hc
 have hn : s.n = 1 := hs.1
 have HU : Hid (u64s [x]) := hs.2.2.2.1
 have HB := lh hB
 have hlt : ad.block < w.heap.size := by omega
 rw [hA, hn]
 clear h hA hn hs hB had
 go_enter Tryz.func76, Tryz.ntmps76
 go_wp2
 refine bodyPost_ret (v := .agg #[.int .u64 r.e, .int .u64 x, .slice r.L.A r.L.n r.L.c, .slice r.P.A r.P.n r.P.c, .int .u64 r.h, .int .u64 r.t, .slice r.K.A r.K.n r.K.c, .slice r.X.A r.X.n r.X.c, .slice r.S.A r.S.n r.S.c]) (by simp [results, Tryz.results76, go_sem]) rfl ?_
 refine ⟨⟨r.e, x, r.L, r.P, r.h, r.t, r.K, r.X, r.S⟩, rfl, ?_, by repeat (first | exact Below.refl _ _ | refine Below.setCell ?_ (by simp) _ | refine Below.alloc ?_ (by simp) _), fun b hl => by rcases hl with rfl | rfl | rfl | rfl | rfl <;> first | exact .inl rfl | exact .inr rfl⟩
 have hp : Rm w w.heap.size ⟨r.e, x, r.L, r.P, r.h, r.t, r.K, r.X, r.S⟩ (m.put 2 [x]) := Rm.more ⟨HR.out.1, rfl, HR.out.2.2.1, HR.out.2.2.2.1, put_ok HR.out.2.2.2.2.1 _ _ HU.out (fun _ => rfl), HR.out.2.2.2.2.2⟩ HB.out
 exact ((hp.alloc (Nat.le_refl _) _).alloc (by simp) _).more (by simp; omega)

set_option maxHeartbeats 1000000 in
theorem with_c5 (w : World) (B : Nat) (r : R) (m : M) (s : Sl) (x : Int) (h : Rm w B r m) (hs : Rd w B s [x]) (hB : B <= w.heap.size) :
   Calls Tryz.prog 76 #[.agg #[.int .u64 r.e, .int .u64 r.f, .slice r.L.A r.L.n r.L.c, .slice r.P.A r.P.n r.P.c, .int .u64 r.h, .int .u64 r.t, .slice r.K.A r.K.n r.K.c, .slice r.X.A r.X.n r.X.c, .slice r.S.A r.S.n r.S.c], .int .i64 5, .slice s.A s.n s.c] w (Puts w r s (m.put 5 [x])) := by
 have HR := lh h
 obtain ⟨ad, hA, had, hc⟩ := hs.at_ (k := 0) (by simp)
 have hc : w.cell? (ad.add 0) = some (.int .u64 x) := hc
 have hc0 : w.cell? ad = some (.int .u64 x) := (congrArg w.cell? (show ad.add 0 = ad by simp [Addr.add])).symm.trans hc
 have hn : s.n = 1 := hs.1
 have HU : Hid (u64s [x]) := hs.2.2.2.1
 have HB := lh hB
 have hlt : ad.block < w.heap.size := by omega
 rw [hA, hn]
 clear h hA hn hs hB had
 go_enter Tryz.func76, Tryz.ntmps76
 go_wp2
 refine bodyPost_ret (v := .agg #[.int .u64 r.e, .int .u64 r.f, .slice r.L.A r.L.n r.L.c, .slice r.P.A r.P.n r.P.c, .int .u64 x, .int .u64 r.t, .slice r.K.A r.K.n r.K.c, .slice r.X.A r.X.n r.X.c, .slice r.S.A r.S.n r.S.c]) (by simp [results, Tryz.results76, go_sem]) rfl ?_
 refine ⟨⟨r.e, r.f, r.L, r.P, x, r.t, r.K, r.X, r.S⟩, rfl, ?_, by repeat (first | exact Below.refl _ _ | refine Below.setCell ?_ (by simp) _ | refine Below.alloc ?_ (by simp) _), fun b hl => by rcases hl with rfl | rfl | rfl | rfl | rfl <;> first | exact .inl rfl | exact .inr rfl⟩
 have hp : Rm w w.heap.size ⟨r.e, r.f, r.L, r.P, x, r.t, r.K, r.X, r.S⟩ (m.put 5 [x]) := Rm.more ⟨HR.out.1, HR.out.2.1, rfl, HR.out.2.2.2.1, put_ok HR.out.2.2.2.2.1 _ _ HU.out (fun _ => rfl), HR.out.2.2.2.2.2⟩ HB.out
 exact ((hp.alloc (Nat.le_refl _) _).alloc (by simp) _).more (by simp; omega)

set_option maxHeartbeats 1000000 in
theorem with_c6 (w : World) (B : Nat) (r : R) (m : M) (s : Sl) (x : Int) (h : Rm w B r m) (hs : Rd w B s [x]) (hB : B <= w.heap.size) :
   Calls Tryz.prog 76 #[.agg #[.int .u64 r.e, .int .u64 r.f, .slice r.L.A r.L.n r.L.c, .slice r.P.A r.P.n r.P.c, .int .u64 r.h, .int .u64 r.t, .slice r.K.A r.K.n r.K.c, .slice r.X.A r.X.n r.X.c, .slice r.S.A r.S.n r.S.c], .int .i64 6, .slice s.A s.n s.c] w (Puts w r s (m.put 6 [x])) := by
 have HR := lh h
 obtain ⟨ad, hA, had, hc⟩ := hs.at_ (k := 0) (by simp)
 have hc : w.cell? (ad.add 0) = some (.int .u64 x) := hc
 have hc0 : w.cell? ad = some (.int .u64 x) := (congrArg w.cell? (show ad.add 0 = ad by simp [Addr.add])).symm.trans hc
 have hn : s.n = 1 := hs.1
 have HU : Hid (u64s [x]) := hs.2.2.2.1
 have HB := lh hB
 have hlt : ad.block < w.heap.size := by omega
 rw [hA, hn]
 clear h hA hn hs hB had
 go_enter Tryz.func76, Tryz.ntmps76
 go_wp2
 refine bodyPost_ret (v := .agg #[.int .u64 r.e, .int .u64 r.f, .slice r.L.A r.L.n r.L.c, .slice r.P.A r.P.n r.P.c, .int .u64 r.h, .int .u64 x, .slice r.K.A r.K.n r.K.c, .slice r.X.A r.X.n r.X.c, .slice r.S.A r.S.n r.S.c]) (by simp [results, Tryz.results76, go_sem]) rfl ?_
 refine ⟨⟨r.e, r.f, r.L, r.P, r.h, x, r.K, r.X, r.S⟩, rfl, ?_, by repeat (first | exact Below.refl _ _ | refine Below.setCell ?_ (by simp) _ | refine Below.alloc ?_ (by simp) _), fun b hl => by rcases hl with rfl | rfl | rfl | rfl | rfl <;> first | exact .inl rfl | exact .inr rfl⟩
 have hp : Rm w w.heap.size ⟨r.e, r.f, r.L, r.P, r.h, x, r.K, r.X, r.S⟩ (m.put 6 [x]) := Rm.more ⟨HR.out.1, HR.out.2.1, HR.out.2.2.1, rfl, put_ok HR.out.2.2.2.2.1 _ _ HU.out (fun _ => rfl), HR.out.2.2.2.2.2⟩ HB.out
 exact ((hp.alloc (Nat.le_refl _) _).alloc (by simp) _).more (by simp; omega)

set_option maxHeartbeats 1000000 in
theorem with_c3 (w : World) (B : Nat) (r : R) (m : M) (s : Sl) (l : List Int) (h : Rm w B r m) (hs : Rd w B s l) (hB : B <= w.heap.size) :
   Calls Tryz.prog 76 #[.agg #[.int .u64 r.e, .int .u64 r.f, .slice r.L.A r.L.n r.L.c, .slice r.P.A r.P.n r.P.c, .int .u64 r.h, .int .u64 r.t, .slice r.K.A r.K.n r.K.c, .slice r.X.A r.X.n r.X.c, .slice r.S.A r.S.n r.S.c], .int .i64 3, .slice s.A s.n s.c] w (Puts w r s (m.put 3 l)) := by
 have HR := lh h
 have HS := lh hs
 have HB := lh hB
 clear h hs hB
 go_enter Tryz.func76, Tryz.ntmps76
 go_wp2
 refine bodyPost_ret (v := .agg #[.int .u64 r.e, .int .u64 r.f, .slice s.A s.n s.c, .slice r.P.A r.P.n r.P.c, .int .u64 r.h, .int .u64 r.t, .slice r.K.A r.K.n r.K.c, .slice r.X.A r.X.n r.X.c, .slice r.S.A r.S.n r.S.c]) (by simp [results, Tryz.results76, go_sem]) rfl ?_
 refine ⟨⟨r.e, r.f, s, r.P, r.h, r.t, r.K, r.X, r.S⟩, rfl, ?_, by repeat (first | exact Below.refl _ _ | refine Below.setCell ?_ (by simp) _ | refine Below.alloc ?_ (by simp) _), fun b hl => by rcases hl with rfl | rfl | rfl | rfl | rfl <;> first | exact .inl rfl | exact .inr rfl⟩
 have hp : Rm w w.heap.size ⟨r.e, r.f, s, r.P, r.h, r.t, r.K, r.X, r.S⟩ (m.put 3 l) := Rm.more ⟨HR.out.1, HR.out.2.1, HR.out.2.2.1, HR.out.2.2.2.1, put_ok HR.out.2.2.2.2.1 _ _ HS.out.2.2.2.1 (fun h => by omega), HS.out, HR.out.2.2.2.2.2.2.1, HR.out.2.2.2.2.2.2.2.1, HR.out.2.2.2.2.2.2.2.2.1, HR.out.2.2.2.2.2.2.2.2.2⟩ HB.out
 exact ((hp.alloc (Nat.le_refl _) _).alloc (by simp) _).more (by simp; omega)

set_option maxHeartbeats 1000000 in
theorem with_c4 (w : World) (B : Nat) (r : R) (m : M) (s : Sl) (l : List Int) (h : Rm w B r m) (hs : Rd w B s l) (hB : B <= w.heap.size) :
   Calls Tryz.prog 76 #[.agg #[.int .u64 r.e, .int .u64 r.f, .slice r.L.A r.L.n r.L.c, .slice r.P.A r.P.n r.P.c, .int .u64 r.h, .int .u64 r.t, .slice r.K.A r.K.n r.K.c, .slice r.X.A r.X.n r.X.c, .slice r.S.A r.S.n r.S.c], .int .i64 4, .slice s.A s.n s.c] w (Puts w r s (m.put 4 l)) := by
 have HR := lh h
 have HS := lh hs
 have HB := lh hB
 clear h hs hB
 go_enter Tryz.func76, Tryz.ntmps76
 go_wp2
 refine bodyPost_ret (v := .agg #[.int .u64 r.e, .int .u64 r.f, .slice r.L.A r.L.n r.L.c, .slice s.A s.n s.c, .int .u64 r.h, .int .u64 r.t, .slice r.K.A r.K.n r.K.c, .slice r.X.A r.X.n r.X.c, .slice r.S.A r.S.n r.S.c]) (by simp [results, Tryz.results76, go_sem]) rfl ?_
 refine ⟨⟨r.e, r.f, r.L, s, r.h, r.t, r.K, r.X, r.S⟩, rfl, ?_, by repeat (first | exact Below.refl _ _ | refine Below.setCell ?_ (by simp) _ | refine Below.alloc ?_ (by simp) _), fun b hl => by rcases hl with rfl | rfl | rfl | rfl | rfl <;> first | exact .inl rfl | exact .inr rfl⟩
 have hp : Rm w w.heap.size ⟨r.e, r.f, r.L, s, r.h, r.t, r.K, r.X, r.S⟩ (m.put 4 l) := Rm.more ⟨HR.out.1, HR.out.2.1, HR.out.2.2.1, HR.out.2.2.2.1, put_ok HR.out.2.2.2.2.1 _ _ HS.out.2.2.2.1 (fun h => by omega), HR.out.2.2.2.2.2.1, HS.out, HR.out.2.2.2.2.2.2.2.1, HR.out.2.2.2.2.2.2.2.2.1, HR.out.2.2.2.2.2.2.2.2.2⟩ HB.out
 exact ((hp.alloc (Nat.le_refl _) _).alloc (by simp) _).more (by simp; omega)

set_option maxHeartbeats 1000000 in
theorem with_c7 (w : World) (B : Nat) (r : R) (m : M) (s : Sl) (l : List Int) (h : Rm w B r m) (hs : Rd w B s l) (hB : B <= w.heap.size) :
   Calls Tryz.prog 76 #[.agg #[.int .u64 r.e, .int .u64 r.f, .slice r.L.A r.L.n r.L.c, .slice r.P.A r.P.n r.P.c, .int .u64 r.h, .int .u64 r.t, .slice r.K.A r.K.n r.K.c, .slice r.X.A r.X.n r.X.c, .slice r.S.A r.S.n r.S.c], .int .i64 7, .slice s.A s.n s.c] w (Puts w r s (m.put 7 l)) := by
 have HR := lh h
 have HS := lh hs
 have HB := lh hB
 clear h hs hB
 go_enter Tryz.func76, Tryz.ntmps76
 go_wp2
 refine bodyPost_ret (v := .agg #[.int .u64 r.e, .int .u64 r.f, .slice r.L.A r.L.n r.L.c, .slice r.P.A r.P.n r.P.c, .int .u64 r.h, .int .u64 r.t, .slice s.A s.n s.c, .slice r.X.A r.X.n r.X.c, .slice r.S.A r.S.n r.S.c]) (by simp [results, Tryz.results76, go_sem]) rfl ?_
 refine ⟨⟨r.e, r.f, r.L, r.P, r.h, r.t, s, r.X, r.S⟩, rfl, ?_, by repeat (first | exact Below.refl _ _ | refine Below.setCell ?_ (by simp) _ | refine Below.alloc ?_ (by simp) _), fun b hl => by rcases hl with rfl | rfl | rfl | rfl | rfl <;> first | exact .inl rfl | exact .inr rfl⟩
 have hp : Rm w w.heap.size ⟨r.e, r.f, r.L, r.P, r.h, r.t, s, r.X, r.S⟩ (m.put 7 l) := Rm.more ⟨HR.out.1, HR.out.2.1, HR.out.2.2.1, HR.out.2.2.2.1, put_ok HR.out.2.2.2.2.1 _ _ HS.out.2.2.2.1 (fun h => by omega), HR.out.2.2.2.2.2.1, HR.out.2.2.2.2.2.2.1, HS.out, HR.out.2.2.2.2.2.2.2.2.1, HR.out.2.2.2.2.2.2.2.2.2⟩ HB.out
 exact ((hp.alloc (Nat.le_refl _) _).alloc (by simp) _).more (by simp; omega)

set_option maxHeartbeats 1000000 in
theorem with_c8 (w : World) (B : Nat) (r : R) (m : M) (s : Sl) (l : List Int) (h : Rm w B r m) (hs : Rd w B s l) (hB : B <= w.heap.size) :
   Calls Tryz.prog 76 #[.agg #[.int .u64 r.e, .int .u64 r.f, .slice r.L.A r.L.n r.L.c, .slice r.P.A r.P.n r.P.c, .int .u64 r.h, .int .u64 r.t, .slice r.K.A r.K.n r.K.c, .slice r.X.A r.X.n r.X.c, .slice r.S.A r.S.n r.S.c], .int .i64 8, .slice s.A s.n s.c] w (Puts w r s (m.put 8 l)) := by
 have HR := lh h
 have HS := lh hs
 have HB := lh hB
 clear h hs hB
 go_enter Tryz.func76, Tryz.ntmps76
 go_wp2
 refine bodyPost_ret (v := .agg #[.int .u64 r.e, .int .u64 r.f, .slice r.L.A r.L.n r.L.c, .slice r.P.A r.P.n r.P.c, .int .u64 r.h, .int .u64 r.t, .slice r.K.A r.K.n r.K.c, .slice s.A s.n s.c, .slice r.S.A r.S.n r.S.c]) (by simp [results, Tryz.results76, go_sem]) rfl ?_
 refine ⟨⟨r.e, r.f, r.L, r.P, r.h, r.t, r.K, s, r.S⟩, rfl, ?_, by repeat (first | exact Below.refl _ _ | refine Below.setCell ?_ (by simp) _ | refine Below.alloc ?_ (by simp) _), fun b hl => by rcases hl with rfl | rfl | rfl | rfl | rfl <;> first | exact .inl rfl | exact .inr rfl⟩
 have hp : Rm w w.heap.size ⟨r.e, r.f, r.L, r.P, r.h, r.t, r.K, s, r.S⟩ (m.put 8 l) := Rm.more ⟨HR.out.1, HR.out.2.1, HR.out.2.2.1, HR.out.2.2.2.1, put_ok HR.out.2.2.2.2.1 _ _ HS.out.2.2.2.1 (fun h => by omega), HR.out.2.2.2.2.2.1, HR.out.2.2.2.2.2.2.1, HR.out.2.2.2.2.2.2.2.1, HS.out, HR.out.2.2.2.2.2.2.2.2.2⟩ HB.out
 exact ((hp.alloc (Nat.le_refl _) _).alloc (by simp) _).more (by simp; omega)

set_option maxHeartbeats 1000000 in
theorem with_c9 (w : World) (B : Nat) (r : R) (m : M) (s : Sl) (l : List Int) (h : Rm w B r m) (hs : Rd w B s l) (hB : B <= w.heap.size) :
   Calls Tryz.prog 76 #[.agg #[.int .u64 r.e, .int .u64 r.f, .slice r.L.A r.L.n r.L.c, .slice r.P.A r.P.n r.P.c, .int .u64 r.h, .int .u64 r.t, .slice r.K.A r.K.n r.K.c, .slice r.X.A r.X.n r.X.c, .slice r.S.A r.S.n r.S.c], .int .i64 9, .slice s.A s.n s.c] w (Puts w r s (m.put 9 l)) := by
 have HR := lh h
 have HS := lh hs
 have HB := lh hB
 clear h hs hB
 go_enter Tryz.func76, Tryz.ntmps76
 go_wp2
 refine bodyPost_ret (v := .agg #[.int .u64 r.e, .int .u64 r.f, .slice r.L.A r.L.n r.L.c, .slice r.P.A r.P.n r.P.c, .int .u64 r.h, .int .u64 r.t, .slice r.K.A r.K.n r.K.c, .slice r.X.A r.X.n r.X.c, .slice s.A s.n s.c]) (by simp [results, Tryz.results76, go_sem]) rfl ?_
 refine ⟨⟨r.e, r.f, r.L, r.P, r.h, r.t, r.K, r.X, s⟩, rfl, ?_, by repeat (first | exact Below.refl _ _ | refine Below.setCell ?_ (by simp) _ | refine Below.alloc ?_ (by simp) _), fun b hl => by rcases hl with rfl | rfl | rfl | rfl | rfl <;> first | exact .inl rfl | exact .inr rfl⟩
 have hp : Rm w w.heap.size ⟨r.e, r.f, r.L, r.P, r.h, r.t, r.K, r.X, s⟩ (m.put 9 l) := Rm.more ⟨HR.out.1, HR.out.2.1, HR.out.2.2.1, HR.out.2.2.2.1, put_ok HR.out.2.2.2.2.1 _ _ HS.out.2.2.2.1 (fun h => by omega), HR.out.2.2.2.2.2.1, HR.out.2.2.2.2.2.2.1, HR.out.2.2.2.2.2.2.2.1, HR.out.2.2.2.2.2.2.2.2.1, HS.out⟩ HB.out
 exact ((hp.alloc (Nat.le_refl _) _).alloc (by simp) _).more (by simp; omega)

theorem with_c (w : World) (B : Nat) (r : R) (m : M) (s : Sl) (a : Int) (l : List Int) (h : Rm w B r m) (hs : Rd w B s l) (hB : B <= w.heap.size) (hl : l.length = (m.area a).length) (ha : 1 <= a) (ha' : a <= 9) :
   Calls Tryz.prog 76 #[.agg #[.int .u64 r.e, .int .u64 r.f, .slice r.L.A r.L.n r.L.c, .slice r.P.A r.P.n r.P.c, .int .u64 r.h, .int .u64 r.t, .slice r.K.A r.K.n r.K.c, .slice r.X.A r.X.n r.X.c, .slice r.S.A r.S.n r.S.c], .int .i64 a, .slice s.A s.n s.c] w (Puts w r s (m.put a l)) := by
 rcases nine (show ¬ (a < 1 \/ 9 < a) by omega) with rfl | rfl | rfl | rfl | rfl | rfl | rfl | rfl | rfl
 · obtain ⟨x, rfl⟩ := List.length_eq_one_iff.1 (show l.length = 1 from hl)
   exact with_c1 w B r m s x h hs hB
 · obtain ⟨x, rfl⟩ := List.length_eq_one_iff.1 (show l.length = 1 from hl)
   exact with_c2 w B r m s x h hs hB
 · exact with_c3 w B r m s l h hs hB
 · exact with_c4 w B r m s l h hs hB
 · obtain ⟨x, rfl⟩ := List.length_eq_one_iff.1 (show l.length = 1 from hl)
   exact with_c5 w B r m s x h hs hB
 · obtain ⟨x, rfl⟩ := List.length_eq_one_iff.1 (show l.length = 1 from hl)
   exact with_c6 w B r m s x h hs hB
 · exact with_c7 w B r m s l h hs hB
 · exact with_c8 w B r m s l h hs hB
 · exact with_c9 w B r m s l h hs hB
end Go.Proofs.YtffppdcpiieapaaGreat.Refc

namespace Go.Proofs.YtffppdcpiieapaaGreat.Refc
open Go.RowKit Memc
set_option linter.unusedVariables false
set_option maxRecDepth 100000
attribute [local go_sem ↓] Go.wp_at_zero Go.wp_at_succ

def Few (m : M) : Prop := ∀ a : Int, 1 <= a -> a <= 9 -> (m.area a).length <= 5000

theorem few_area {m : M} (h : Few m) (a : Int) : (m.area a).length <= 1000000 := by
 by_cases ho : a < 1 \/ 9 < a
 · rw [area_no _ _ ho]; exact Nat.zero_le _
 · have := h a (by omega) (by omega); omega

def Upto (m : M) (k : Nat) : Prop := ∀ a : Int, 1 <= a -> a < (k : Int) -> (m.area a).length <= 5000

set_option maxHeartbeats 2000000 in
theorem same_yes (w : World) (B B' : Nat) (r q : R) (m : M) (h : Rm w B r m) (hB : B <= w.heap.size) (h' : Rm w B' q m) (hB' : B' <= w.heap.size) :
   Calls Tryz.prog 8 #[.agg #[.int .u64 r.e, .int .u64 r.f, .slice r.L.A r.L.n r.L.c, .slice r.P.A r.P.n r.P.c, .int .u64 r.h, .int .u64 r.t, .slice r.K.A r.K.n r.K.c, .slice r.X.A r.X.n r.X.c, .slice r.S.A r.S.n r.S.c], .agg #[.int .u64 q.e, .int .u64 q.f, .slice q.L.A q.L.n q.L.c, .slice q.P.A q.P.n q.P.c, .int .u64 q.h, .int .u64 q.t, .slice q.K.A q.K.n q.K.c, .slice q.X.A q.X.n q.X.c, .slice q.S.A q.S.n q.S.c]] w (Tells w true) := by
 have HR : Hid (Rm w w.heap.size r m) := h.more hB
 have HQ : Hid (Rm w w.heap.size q m) := h'.more hB'
 clear h hB h' hB'
 go_enter Tryz.func8, Tryz.ntmps8
 go_wp2_with fail
 go_loopw [5] (fun i wr => ∃ k : Nat, i = .int .i64 k /\ 1 <= k /\ k <= 10 /\ Blk wr w.heap.size 33 #[.int .u64 r.e, .int .u64 r.f, .slice r.L.A r.L.n r.L.c, .slice r.P.A r.P.n r.P.c, .int .u64 r.h, .int .u64 r.t, .slice r.K.A r.K.n r.K.c, .slice r.X.A r.X.n r.X.c, .slice r.S.A r.S.n r.S.c] /\ Blk wr (w.heap.size + 1) 33 #[.int .u64 q.e, .int .u64 q.f, .slice q.L.A q.L.n q.L.c, .slice q.P.A q.P.n q.P.c, .int .u64 q.h, .int .u64 q.t, .slice q.K.A q.K.n q.K.c, .slice q.X.A q.X.n q.X.c, .slice q.S.A q.S.n q.S.c] /\ Below w.heap.size w wr) (fun i _ => 10 - (intOf i).toNat)
 case atStart => exact ⟨1, rfl, by omega, by omega, (Blk.new _ _ _).alloc _, blk_at (by simp), ((Below.refl _ _).alloc (Nat.le_refl _) _).alloc (by simp) _⟩
 case round =>
   obtain ⟨k, rfl, hk1, hk2, xb, yb, hbw⟩ := hrel
   by_cases hlt : k < 10
   · have hle : (k : Int) <= 9 := by omega
     have kl : -9223372036854775808 <= (k : Int) := by omega
     have kh : (k : Int) <= 9223372036854775807 := by omega
     have hx := xb.cell
     have hy := yb.cell
     have X0 := lh xb.drew
     have Y0 := lh yb.drew
     have W0 := lh hbw.drew
     clear xb yb hbw
     go_wp2_with fail
     go_region_held3 (fun w' => (∀ i, w'.cell? ⟨w.heap.size, i, none⟩ = (#[.int .u64 r.e, .int .u64 r.f, .slice r.L.A r.L.n r.L.c, .slice r.P.A r.P.n r.P.c, .int .u64 r.h, .int .u64 r.t, .slice r.K.A r.K.n r.K.c, .slice r.X.A r.X.n r.X.c, .slice r.S.A r.S.n r.S.c] : Array Value)[i]?) /\ (∀ i, w'.cell? ⟨w.heap.size + 1, i, none⟩ = (#[.int .u64 q.e, .int .u64 q.f, .slice q.L.A q.L.n q.L.c, .slice q.P.A q.P.n q.P.c, .int .u64 q.h, .int .u64 q.t, .slice q.K.A q.K.n q.K.c, .slice q.X.A q.X.n q.X.c, .slice q.S.A q.S.n q.S.c] : Array Value)[i]?)) (exact ⟨X0.out.cell, Y0.out.cell⟩)
       (first | (go_at_call 24; (with_reducible refine (area_c _ w.heap.size r m k (HR.out.below W0.out) W0.out.size kl kh).mono ?_); rintro e w1 ⟨s, rfl, hrd, hb1⟩; (try (have PR2 := lh (PR.out.below hb1))); have PR := lh hrd; have W1 := lh (W0.out.trans (hb1.mono W0.out.size)); have Z := two_below hb1 X0.out Y0.out; clear X0 Y0 W0; have X0 := lh Z.1; have Y0 := lh Z.2; have W0 := lh W1.out; clear Z W1 hrd hb1) | (go_at_call 24; (with_reducible refine (area_c _ w.heap.size q m k (HQ.out.below W0.out) W0.out.size kl kh).mono ?_); rintro e w1 ⟨s, rfl, hrd, hb1⟩; (try (have PR2 := lh (PR.out.below hb1))); have PR := lh hrd; have W1 := lh (W0.out.trans (hb1.mono W0.out.size)); have Z := two_below hb1 X0.out Y0.out; clear X0 Y0 W0; have X0 := lh Z.1; have Y0 := lh Z.2; have W0 := lh W1.out; clear Z W1 hrd hb1) | (go_at_call 23; (first | (with_reducible refine (same_c _ _ _ _ _ _ _ PR.out PR2.out).mono ?_) | (with_reducible refine (same_c _ _ _ _ _ _ _ PR2.out PR.out).mono ?_)); rintro e w1 ⟨rfl, hb1⟩; have W1 := lh (W0.out.trans (hb1.mono W0.out.size)); have Z := two_below hb1 X0.out Y0.out; clear X0 Y0 W0; have X0 := lh Z.1; have Y0 := lh Z.2; have W0 := lh W1.out; clear Z W1 hb1))
     all_goals
       go_wp2
       go_roundw
       case rel => exact ⟨k + 1, by go_num, by omega, by omega, X0.out, Y0.out, W0.out⟩
       case measure => simp [intOf]; omega
   · have hbw' := lh hbw
     clear xb yb hbw
     obtain rfl : k = 10 := by omega
     go_wp2
     go_ret
     exact ⟨rfl, hbw'.out⟩
end Go.Proofs.YtffppdcpiieapaaGreat.Refc

namespace Go.Proofs.YtffppdcpiieapaaGreat.Machc
open Go.RowKit Memc Refc
set_option linter.unusedVariables false
set_option maxRecDepth 100000

structure Ck where
 th : Int
 kd : Int
 vl : Int
 fr : Int
 to : Int
 cd : Int
 ou : Int
def Ck.cells (c : Ck) : List Value := [.int .i64 c.th, .int .i64 c.kd, .int .u32 c.vl, .int .i64 c.fr, .int .i64 c.to, .int .i64 c.cd, .int .u32 c.ou]
def RdK (w : World) (B : Nat) (s : Sl) (l : List Ck) : Prop :=
 s.n = l.length /\ s.n <= s.c /\ s.c <= maxLen /\
 (0 < s.n -> ∃ b off, s.A = some ⟨b, off, none⟩ /\ b < B /\ ∀ (i : Nat) (x : Ck), l[i]? = some x -> ∀ (j : Nat) (v : Value), x.cells[j]? = some v -> w.cell? ⟨b, off + i * 7 + j, none⟩ = some v)
theorem RdK.below {w w' : World} {B : Nat} {s : Sl} {l : List Ck} (h : RdK w B s l) (hb : Below B w w') : RdK w' B s l :=
 ⟨h.1, h.2.1, h.2.2.1, fun hn => by
   obtain ⟨b, off, e, hlt, hc⟩ := h.2.2.2 hn
   exact ⟨b, off, e, hlt, fun i x hx j v hv => (hb.cell (p := ⟨b, off + i * 7 + j, none⟩) hlt).trans (hc i x hx j v hv)⟩⟩
theorem RdK.more {w : World} {B B' : Nat} {s : Sl} {l : List Ck} (h : RdK w B s l) (hB : B <= B') : RdK w B' s l :=
 ⟨h.1, h.2.1, h.2.2.1, fun hn => by
   obtain ⟨b, off, e, hlt, hc⟩ := h.2.2.2 hn
   exact ⟨b, off, e, by omega, hc⟩⟩
theorem RdK.step {w : World} {B b off n c k : Nat} {l : List Ck} {x : Ck} (h : RdK w B ⟨some ⟨b, off, none⟩, n, c⟩ l) (hx : l[k]? = some x) :
   w.cell? ⟨b, off + k * 7, none⟩ = some (.int .i64 x.th) /\ w.cell? ⟨b, off + k * 7 + 1, none⟩ = some (.int .i64 x.kd) /\ w.cell? ⟨b, off + k * 7 + 2, none⟩ = some (.int .u32 x.vl) /\ w.cell? ⟨b, off + k * 7 + 3, none⟩ = some (.int .i64 x.fr) /\
   w.cell? ⟨b, off + k * 7 + 4, none⟩ = some (.int .i64 x.to) /\ w.cell? ⟨b, off + k * 7 + 5, none⟩ = some (.int .i64 x.cd) /\ w.cell? ⟨b, off + k * 7 + 6, none⟩ = some (.int .u32 x.ou) := by
 obtain ⟨b', off', e, _, hc⟩ := h.2.2.2 (by show 0 < n; have := h.1; simp only at this; have := (List.getElem?_eq_some_iff.1 hx).1; omega)
 injection e with e
 injection e with e1 e2
 subst e1
 subst e2
 exact ⟨hc k x hx 0 _ rfl, hc k x hx 1 _ rfl, hc k x hx 2 _ rfl, hc k x hx 3 _ rfl, hc k x hx 4 _ rfl, hc k x hx 5 _ rfl, hc k x hx 6 _ rfl⟩
theorem below_drawn {n : Nat} {w w' : World} (h : Below n w w') (k : Nat) : Below n w (w'.drewN k) := ⟨h.1, h.2, h.3, h.4, h.5⟩

set_option maxHeartbeats 4000000 in
theorem same3_yes (w : World) (r q : R) (m : M) (sS sK qS qK : Sl) (ss : List St) (ks : List Ck) (hm : Rm w w.heap.size r m) (hm' : Rm w w.heap.size q m)
   (hs : RdS w w.heap.size sS ss) (hs' : RdS w w.heap.size qS ss) (hk : RdK w w.heap.size sK ks) (hk' : RdK w w.heap.size qK ks) :
   Calls Tryz.prog 9 #[.agg #[.slice sS.A sS.n sS.c, .slice sK.A sK.n sK.c, .int .u64 r.e, .int .u64 r.f, .slice r.L.A r.L.n r.L.c, .slice r.P.A r.P.n r.P.c, .int .u64 r.h, .int .u64 r.t, .slice r.K.A r.K.n r.K.c, .slice r.X.A r.X.n r.X.c, .slice r.S.A r.S.n r.S.c], .agg #[.slice qS.A qS.n qS.c, .slice qK.A qK.n qK.c, .int .u64 q.e, .int .u64 q.f, .slice q.L.A q.L.n q.L.c, .slice q.P.A q.P.n q.P.c, .int .u64 q.h, .int .u64 q.t, .slice q.K.A q.K.n q.K.c, .slice q.X.A q.X.n q.X.c, .slice q.S.A q.S.n q.S.c]] w (Tells w true) := by
 obtain ⟨sSA, sn, sSc⟩ := sS
 obtain ⟨qSA, qSn, qSc⟩ := qS
 obtain ⟨sKA, kn, sKc⟩ := sK
 obtain ⟨qKA, qKn, qKc⟩ := qK
 have e1 : qSn = sn := hs'.1.trans hs.1.symm
 have e2 : qKn = kn := hk'.1.trans hk.1.symm
 subst e1 e2
 change Calls Tryz.prog 9 #[.agg #[.slice sSA qSn sSc, .slice sKA qKn sKc, .int .u64 r.e, .int .u64 r.f, .slice r.L.A r.L.n r.L.c, .slice r.P.A r.P.n r.P.c, .int .u64 r.h, .int .u64 r.t, .slice r.K.A r.K.n r.K.c, .slice r.X.A r.X.n r.X.c, .slice r.S.A r.S.n r.S.c], .agg #[.slice qSA qSn qSc, .slice qKA qKn qKc, .int .u64 q.e, .int .u64 q.f, .slice q.L.A q.L.n q.L.c, .slice q.P.A q.P.n q.P.c, .int .u64 q.h, .int .u64 q.t, .slice q.K.A q.K.n q.K.c, .slice q.X.A q.X.n q.X.c, .slice q.S.A q.S.n q.S.c]] w (Tells w true)
 have hsl := hs.1
 have hkl := hk.1
 simp only at hsl hkl
 have hmx1 : (qSn : Int) <= 9223372036854775807 := by have h1 := hs.2.1; have h2 := hs.2.2.1; simp only at h1 h2; unfold maxLen at h2; omega
 have hmx2 : (qKn : Int) <= 9223372036854775807 := by have h1 := hk.2.1; have h2 := hk.2.2.1; simp only at h1 h2; unfold maxLen at h2; omega
 have HM := lh hm
 have HM' := lh hm'
 have HS := lh hs
 have HS' := lh hs'
 have HK := lh hk
 have HK' := lh hk'
 have HSL := lh hsl
 have HKL := lh hkl
 clear hm hm' hs hs' hk hk' hsl hkl
 have X0 : Hid (Blk ((w.alloc (.cells #[.slice sSA qSn sSc, .slice sKA qKn sKc, .int .u64 r.e, .int .u64 r.f, .slice r.L.A r.L.n r.L.c, .slice r.P.A r.P.n r.P.c, .int .u64 r.h, .int .u64 r.t, .slice r.K.A r.K.n r.K.c, .slice r.X.A r.X.n r.X.c, .slice r.S.A r.S.n r.S.c] 35)).alloc (.cells #[.slice qSA qSn qSc, .slice qKA qKn qKc, .int .u64 q.e, .int .u64 q.f, .slice q.L.A q.L.n q.L.c, .slice q.P.A q.P.n q.P.c, .int .u64 q.h, .int .u64 q.t, .slice q.K.A q.K.n q.K.c, .slice q.X.A q.X.n q.X.c, .slice q.S.A q.S.n q.S.c] 35)) w.heap.size 35 #[.slice sSA qSn sSc, .slice sKA qKn sKc, .int .u64 r.e, .int .u64 r.f, .slice r.L.A r.L.n r.L.c, .slice r.P.A r.P.n r.P.c, .int .u64 r.h, .int .u64 r.t, .slice r.K.A r.K.n r.K.c, .slice r.X.A r.X.n r.X.c, .slice r.S.A r.S.n r.S.c]) := lh ((blk_at rfl).alloc _)
 have Y0 : Hid (Blk ((w.alloc (.cells #[.slice sSA qSn sSc, .slice sKA qKn sKc, .int .u64 r.e, .int .u64 r.f, .slice r.L.A r.L.n r.L.c, .slice r.P.A r.P.n r.P.c, .int .u64 r.h, .int .u64 r.t, .slice r.K.A r.K.n r.K.c, .slice r.X.A r.X.n r.X.c, .slice r.S.A r.S.n r.S.c] 35)).alloc (.cells #[.slice qSA qSn qSc, .slice qKA qKn qKc, .int .u64 q.e, .int .u64 q.f, .slice q.L.A q.L.n q.L.c, .slice q.P.A q.P.n q.P.c, .int .u64 q.h, .int .u64 q.t, .slice q.K.A q.K.n q.K.c, .slice q.X.A q.X.n q.X.c, .slice q.S.A q.S.n q.S.c] 35)) (w.heap.size + 1) 35 #[.slice qSA qSn qSc, .slice qKA qKn qKc, .int .u64 q.e, .int .u64 q.f, .slice q.L.A q.L.n q.L.c, .slice q.P.A q.P.n q.P.c, .int .u64 q.h, .int .u64 q.t, .slice q.K.A q.K.n q.K.c, .slice q.X.A q.X.n q.X.c, .slice q.S.A q.S.n q.S.c]) := lh (blk_at (by simp))
 have B0 : Hid (Below w.heap.size w ((w.alloc (.cells #[.slice sSA qSn sSc, .slice sKA qKn sKc, .int .u64 r.e, .int .u64 r.f, .slice r.L.A r.L.n r.L.c, .slice r.P.A r.P.n r.P.c, .int .u64 r.h, .int .u64 r.t, .slice r.K.A r.K.n r.K.c, .slice r.X.A r.X.n r.X.c, .slice r.S.A r.S.n r.S.c] 35)).alloc (.cells #[.slice qSA qSn qSc, .slice qKA qKn qKc, .int .u64 q.e, .int .u64 q.f, .slice q.L.A q.L.n q.L.c, .slice q.P.A q.P.n q.P.c, .int .u64 q.h, .int .u64 q.t, .slice q.K.A q.K.n q.K.c, .slice q.X.A q.X.n q.X.c, .slice q.S.A q.S.n q.S.c] 35))) := lh (((Below.refl _ _).alloc (Nat.le_refl _) _).alloc (by simp) _)
 go_enter Tryz.func9, Tryz.ntmps9
 have hx := X0.out.cell
 have hy := Y0.out.cell
 have hmr := fun (W : World) (h : Below w.heap.size w W) => HM.out.below h
 go_wp2_with (go_at_call 8; (with_reducible refine (same_yes _ w.heap.size w.heap.size r q m (HM.out.below B0.out) B0.out.size (HM'.out.below B0.out) B0.out.size).mono ?_); rintro e w1 ⟨rfl, hb1⟩; go_must (have X1 := lh (X0.out.below hb1 X0.out.lt); have Y1 := lh (Y0.out.below hb1 Y0.out.lt); have B1 := lh (B0.out.trans (hb1.mono B0.out.size))); clear hb1 hx hy hmr X0 Y0 B0)
 go_loopw [5] (fun i wr => ∃ k : Nat, i = .int .i64 k /\ k <= qSn /\ Below w1.heap.size w1 wr) (fun i _ => qSn - (intOf i).toNat)
 case atStart => exact ⟨0, rfl, Nat.zero_le _, Below.refl _ _⟩
 case round =>
 obtain ⟨k, rfl, hk, hbw⟩ := hrel
 have hxx := (X1.out.below hbw X1.out.lt).cell
 have hyy := (Y1.out.below hbw Y1.out.lt).cell
 have W2 := lh hbw
 have HKLE := lh hk
 clear hbw hk
 by_cases hlt : k < qSn
 · obtain ⟨x, hx⟩ : ∃ x, ss[k]? = some x := ⟨_, List.getElem?_eq_getElem (by have := HSL.out; omega)⟩
   obtain ⟨bS, oS, e, hbS, _⟩ := HS.out.2.2.2.2 (by show 0 < qSn; omega)
   simp only at e; subst e
   obtain ⟨bQ, oQ, e, hbQ, _⟩ := HS'.out.2.2.2.2 (by show 0 < qSn; omega)
   simp only at e; subst e
   have BW := lh (B1.out.trans (W2.out.mono B1.out.size))
   obtain ⟨a0, a1, a2, a3, a4, a5, a6, a7⟩ := (HS.out.below BW.out).step hx
   obtain ⟨c0, c1, c2, c3, c4, c5, c6, c7⟩ := (HS'.out.below BW.out).step hx
   have k0 : (0 : Int) <= k := by omega
   have k1 : (k : Int) < qSn := by omega
   clear hx
   go_wp2
   go_quiet (fail)
   go_wp2
   go_roundw
   case rel => exact ⟨k + 1, by go_num, by omega, below_drawn W2.out _⟩
   case measure => simp [intOf]; omega
 · have k1 : ¬ (k : Int) < qSn := by omega
   have hke : k = qSn := by have := HKLE.out; omega
   go_wp2
   clear hxx hyy k1 hlt
   go_loopw [6] (fun i wv => ∃ k : Nat, i = .int .i64 k /\ k <= qKn /\ Below w1.heap.size w1 wv) (fun i _ => qKn - (intOf i).toNat)
   case atStart => exact ⟨0, rfl, Nat.zero_le _, W2.out⟩
   case round =>
   obtain ⟨j, rfl, hj, hbw⟩ := hrel
   have hxx := (X1.out.below hbw X1.out.lt).cell
   have hyy := (Y1.out.below hbw Y1.out.lt).cell
   have W3 := lh hbw
   have HJLE := lh hj
   clear hbw hj
   by_cases hlt : j < qKn
   · obtain ⟨x, hx⟩ : ∃ x, ks[j]? = some x := ⟨_, List.getElem?_eq_getElem (by have := HKL.out; omega)⟩
     obtain ⟨bS, oS, e, hbS, _⟩ := HK.out.2.2.2 (by show 0 < qKn; omega)
     simp only at e; subst e
     obtain ⟨bQ, oQ, e, hbQ, _⟩ := HK'.out.2.2.2 (by show 0 < qKn; omega)
     simp only at e; subst e
     have BW := lh (B1.out.trans (W3.out.mono B1.out.size))
     obtain ⟨a0, a1, a2, a3, a4, a5, a6⟩ := (HK.out.below BW.out).step hx
     obtain ⟨c0, c1, c2, c3, c4, c5, c6⟩ := (HK'.out.below BW.out).step hx
     have k0 : (0 : Int) <= j := by omega
     have k1 : (j : Int) < qKn := by omega
     clear hx
     go_wp2
     go_quiet (fail)
     go_wp2
     go_roundw
     case rel => exact ⟨j + 1, by go_num, by omega, below_drawn W3.out _⟩
     case measure => simp [intOf]; omega
   · have k1 : ¬ (j : Int) < qKn := by omega
     go_wp2
     go_ret
     exact ⟨rfl, B1.out.trans (W3.out.mono B1.out.size)⟩

end Go.Proofs.YtffppdcpiieapaaGreat.Machc
