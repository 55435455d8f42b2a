/- Replaying steps, by the program: its contract. -/
import Derived.Test.YtjgbgjkjnlaloaaSteps
import Derived.Test.YtjgbgjkjnlaloaaStoreD
import Derived.Test.YtjgbgjkjnlaloaaNewB
import Derived.Test.YtjgbgjkjnlaloaaRefX
import Derived.Deep.RegionHeld3
namespace Go.Proofs.Ytjgbgjkjnlaloaa.Replc
open Go.RowKit Go.Proofs.Ytjgbgjkjnlaloaa.Memc Go.Proofs.Ytjgbgjkjnlaloaa.Storec Go.Proofs.Ytjgbgjkjnlaloaa.Newc Go.Proofs.Ytjgbgjkjnlaloaa.Refc
set_option linter.unusedVariables false
set_option maxRecDepth 100000

theorem hold_box {w : World} {base : Nat} {r : R} {m : Memc.M} (h5 : Five w base r m) (hs : r.e = m.e ∧ r.f = m.f ∧ r.h = m.h ∧ r.t = m.t) (hm : m.ok) (hb : base ≤ w.heap.size) :
    Hold (w.alloc (.cells #[.int .u64 r.e, .int .u64 r.f, .slice r.L.A r.L.n r.L.c, .slice r.P.A r.P.n r.P.c, .int .u64 r.h, .int .u64 r.t, .slice r.K.A r.K.n r.K.c, .slice r.X.A r.X.n r.X.c, .slice r.S.A r.S.n r.S.c] 25)) base w.heap.size r m := by
  refine ⟨Blk.new _ _ _, hb, hs.1, hs.2.1, hs.2.2.1, hs.2.2.2, hm, fun a hl => (h5.1 a hl).alloc _, fun a hl ad had => ⟨?_, fun c hl' hne ad' had' => h5.2 c hl' a hl hne ad' had' ad had⟩⟩
  have := ((h5.1 a hl).lt had).2
  omega

/-- what Replay comes to -/
def Replayed (w : World) (m0 : Memc.M) (l : List St) (e : Ending) (w' : World) : Prop :=
  ((∃ (m : Memc.M) (r : R), replay m0 l = some m ∧ e = .returned (.tuple #[.agg #[.int .u64 r.e, .int .u64 r.f, .slice r.L.A r.L.n r.L.c, .slice r.P.A r.P.n r.P.c, .int .u64 r.h, .int .u64 r.t, .slice r.K.A r.K.n r.K.c, .slice r.X.A r.X.n r.X.c, .slice r.S.A r.S.n r.S.c], .int .i64 0]) ∧ Rm w' w'.heap.size r m) ∨
    (replay m0 l = none ∧ e = .returned (.tuple #[.agg #[.int .u64 0, .int .u64 0, .slice none 0 0, .slice none 0 0, .int .u64 0, .int .u64 0, .slice none 0 0, .slice none 0 0, .slice none 0 0], .int .i64 1]))) ∧ Below w.heap.size w w'








set_option maxRecDepth 100000 in
set_option maxHeartbeats 4000000 in
theorem replay_zero (w : World) (k : Int) (K T M : Nat) (A : Option Addr) (c : Nat) (l : List St) (k1 : 1 ≤ k) (k2 : k ≤ 3) (a1 : 1 ≤ K) (a2 : K ≤ 64) (t1 : 1 ≤ T) (t2 : T ≤ 8) (m1 : 2 ≤ M) (m2 : M ≤ 64) (hl : l = []) :
    Calls Try.prog 21 #[.agg #[.int .i64 k, .int .i64 K, .int .i64 T, .int .i64 M], .slice (A) 0 c] w (Replayed w (newM k K T M) l) := by
  have B0 : Hid (Below w.heap.size w ((w.alloc (.cells #[.int .i64 k, .int .i64 K, .int .i64 T, .int .i64 M] 36)).alloc (.cells #[.int .u64 0, .int .u64 0, .slice none 0 0, .slice none 0 0, .int .u64 0, .int .u64 0, .slice none 0 0, .slice none 0 0, .slice none 0 0] 25))) := Lib.hid (((Below.refl _ _).alloc (Nat.le_refl _) _).alloc (by simp) _)
  have Y0 : Hid (Blk ((w.alloc (.cells #[.int .i64 k, .int .i64 K, .int .i64 T, .int .i64 M] 36)).alloc (.cells #[.int .u64 0, .int .u64 0, .slice none 0 0, .slice none 0 0, .int .u64 0, .int .u64 0, .slice none 0 0, .slice none 0 0, .slice none 0 0] 25)) (w.heap.size + 1) 25 #[.int .u64 0, .int .u64 0, .slice none 0 0, .slice none 0 0, .int .u64 0, .int .u64 0, .slice none 0 0, .slice none 0 0, .slice none 0 0]) := Lib.hid (blk_at (by simp))
  have HL := Lib.hid hl
  skip
  have hln : l.length = 0 := by rw [hl]; rfl
  have HN := Lib.hid hln
  clear hl hln
  go_enter Try.func21, Try.ntmps21
  go_wp2_with (first | (go_at_call 20; refine (new_yes _ k K T M k1 k2 a1 a2 t1 t2 m1 m2).mono ?_; rintro e w1 ⟨r1, rfl, hs1, hm1, h51, hb1⟩; go_must (have Y1 := Lib.hid (Y0.out.below hb1 Y0.out.lt); have B1 := Lib.hid (B0.out.trans (hb1.mono B0.out.size)); have H1 : Hid (Hold (w1.alloc (.cells #[.int .u64 r1.e, .int .u64 r1.f, .slice r1.L.A r1.L.n r1.L.c, .slice r1.P.A r1.P.n r1.P.c, .int .u64 r1.h, .int .u64 r1.t, .slice r1.K.A r1.K.n r1.K.c, .slice r1.X.A r1.X.n r1.X.c, .slice r1.S.A r1.S.n r1.S.c] 25)) (w.heap.size + 1 + 1) w1.heap.size r1 (newM k K T M)) := Lib.hid (hold_box (five_weaken h51 (by simp)) hs1 hm1 (Nat.le_trans (by simp) hb1.size)); have hy1 := Y1.out.lt; have hz1 : w.heap.size + 1 + 1 ≤ w1.heap.size := Nat.le_trans (by simp) hb1.size); clear hs1 hm1 h51 hb1) | (go_at_call 43; refine (finder_c _ _).mono ?_; rintro e w' ⟨rfl, rfl⟩))
  have H2 : Hid (Hold ((w1.alloc (.cells #[.int .u64 r1.e, .int .u64 r1.f, .slice r1.L.A r1.L.n r1.L.c, .slice r1.P.A r1.P.n r1.P.c, .int .u64 r1.h, .int .u64 r1.t, .slice r1.K.A r1.K.n r1.K.c, .slice r1.X.A r1.X.n r1.X.c, .slice r1.S.A r1.S.n r1.S.c] 25)).alloc (.cells #[.pointer (some ⟨w1.heap.size, 0, none⟩)] 90)) (w.heap.size + 1 + 1) w1.heap.size r1 (newM k K T M)) := Lib.hid (H1.out.alloc _)
  have C2 : Hid (Blk ((w1.alloc (.cells #[.int .u64 r1.e, .int .u64 r1.f, .slice r1.L.A r1.L.n r1.L.c, .slice r1.P.A r1.P.n r1.P.c, .int .u64 r1.h, .int .u64 r1.t, .slice r1.K.A r1.K.n r1.K.c, .slice r1.X.A r1.X.n r1.X.c, .slice r1.S.A r1.S.n r1.S.c] 25)).alloc (.cells #[.pointer (some ⟨w1.heap.size, 0, none⟩)] 90)) (w1.heap.size + 1) 90 #[.pointer (some ⟨w1.heap.size, 0, none⟩)]) := Lib.hid (blk_at (by simp))
  have Y2 : Hid (Blk ((w1.alloc (.cells #[.int .u64 r1.e, .int .u64 r1.f, .slice r1.L.A r1.L.n r1.L.c, .slice r1.P.A r1.P.n r1.P.c, .int .u64 r1.h, .int .u64 r1.t, .slice r1.K.A r1.K.n r1.K.c, .slice r1.X.A r1.X.n r1.X.c, .slice r1.S.A r1.S.n r1.S.c] 25)).alloc (.cells #[.pointer (some ⟨w1.heap.size, 0, none⟩)] 90)) (w.heap.size + 1) 25 #[.int .u64 0, .int .u64 0, .slice none 0 0, .slice none 0 0, .int .u64 0, .int .u64 0, .slice none 0 0, .slice none 0 0, .slice none 0 0]) := Lib.hid ((Y1.out.alloc _).alloc _)
  have B2 : Hid (Below w.heap.size w ((w1.alloc (.cells #[.int .u64 r1.e, .int .u64 r1.f, .slice r1.L.A r1.L.n r1.L.c, .slice r1.P.A r1.P.n r1.P.c, .int .u64 r1.h, .int .u64 r1.t, .slice r1.K.A r1.K.n r1.K.c, .slice r1.X.A r1.X.n r1.X.c, .slice r1.S.A r1.S.n r1.S.c] 25)).alloc (.cells #[.pointer (some ⟨w1.heap.size, 0, none⟩)] 90))) := Lib.hid ((B1.out.alloc B1.out.size _).alloc (Nat.le_trans B1.out.size (by simp)) _)
  generalize ((w1.alloc (.cells #[.int .u64 r1.e, .int .u64 r1.f, .slice r1.L.A r1.L.n r1.L.c, .slice r1.P.A r1.P.n r1.P.c, .int .u64 r1.h, .int .u64 r1.t, .slice r1.K.A r1.K.n r1.K.c, .slice r1.X.A r1.X.n r1.X.c, .slice r1.S.A r1.S.n r1.S.c] 25)).alloc (.cells #[.pointer (some ⟨w1.heap.size, 0, none⟩)] 90)) = V at H2 C2 Y2 B2 ⊢
  obtain ⟨g, hg⟩ : ∃ g, w1.heap.size = g := ⟨_, rfl⟩
  rw [hg] at H2 C2
  simp only [hg]
  have hg2 : w.heap.size + 1 + 1 ≤ g := by omega
  clear hg hz1 hy1 H1 Y1 B1 B0 Y0
  go_loopw [25] (fun i wr => ∃ (j : Nat) (q : R) (mq : Memc.M), i = .int .i64 j ∧ j ≤ 0 ∧ replay (newM k K T M) (l.take j) = some mq ∧ Hold wr (w.heap.size + 1 + 1) g q mq ∧ Blk wr (g + 1) 90 #[.pointer (some ⟨g, 0, none⟩)] ∧ Blk wr (w.heap.size + 1) 25 #[.int .u64 0, .int .u64 0, .slice none 0 0, .slice none 0 0, .int .u64 0, .int .u64 0, .slice none 0 0, .slice none 0 0, .slice none 0 0] ∧ Below w.heap.size w wr) (fun i _ => 0 - (intOf i).toNat)
  case atStart => exact ⟨0, r1, _, rfl, Nat.zero_le _, rfl, H2.out, C2.out, Y2.out, B2.out⟩
  case round =>
  obtain ⟨j, q, mq, rfl, hj, hrep, hh, hcb, hyb, hbw⟩ := hrel
  have RP := Lib.hid hrep
  have HH := Lib.hid hh
  have HCB := Lib.hid hcb
  have HYB := Lib.hid hyb
  have HBW := Lib.hid hbw
  clear hrep hh hcb hyb hbw H2 C2 Y2 B2
  obtain rfl : j = 0 := by omega
  have hcq : ∀ i, wr.cell? ⟨g, i, none⟩ = (#[.int .u64 q.e, .int .u64 q.f, .slice q.L.A q.L.n q.L.c, .slice q.P.A q.P.n q.P.c, .int .u64 q.h, .int .u64 q.t, .slice q.K.A q.K.n q.K.c, .slice q.X.A q.X.n q.X.c, .slice q.S.A q.S.n q.S.c] : Array Value)[i]? := HH.out.1.cell
  have hcy := HYB.out.cell
  have hfy := HYB.out.frozen
  go_wp2
  refine bodyPost_ret (v := .tuple #[.agg #[.int .u64 q.e, .int .u64 q.f, .slice q.L.A q.L.n q.L.c, .slice q.P.A q.P.n q.P.c, .int .u64 q.h, .int .u64 q.t, .slice q.K.A q.K.n q.K.c, .slice q.X.A q.X.n q.X.c, .slice q.S.A q.S.n q.S.c], .int .i64 0]) (by simp [results, Try.results21, go_sem, hcy]) rfl ?_
  have hrep := RP.out
  rw [List.take_of_length_le (by have := HN.out; omega)] at hrep
  have hn := rm_nine (b := w.heap.size + 1) HH.out.rm (fun a hl ad _ had => by have := ((HH.out.2.2.2.2.2.2.2.1 a hl).lt had).1; omega) q
  exact ⟨.inl ⟨mq, q, hrep, rfl, by simpa only [size_set] using hn⟩, below_nine HBW.out (by omega) _ _ _ _ _ _ _ _ _⟩

set_option maxRecDepth 100000 in
set_option maxHeartbeats 4000000 in
theorem replay_pos (w : World) (k : Int) (K T M : Nat) (b off n c : Nat) (l : List St) (k1 : 1 ≤ k) (k2 : k ≤ 3) (a1 : 1 ≤ K) (a2 : K ≤ 64) (t1 : 1 ≤ T) (t2 : T ≤ 8) (m1 : 2 ≤ M) (m2 : M ≤ 64) (hl : RdS w w.heap.size ⟨some ⟨b, off, none⟩, n, c⟩ l) :
    Calls Try.prog 21 #[.agg #[.int .i64 k, .int .i64 K, .int .i64 T, .int .i64 M], .slice (some ⟨b, off, none⟩) n c] w (Replayed w (newM k K T M) l) := by
  have B0 : Hid (Below w.heap.size w ((w.alloc (.cells #[.int .i64 k, .int .i64 K, .int .i64 T, .int .i64 M] 36)).alloc (.cells #[.int .u64 0, .int .u64 0, .slice none 0 0, .slice none 0 0, .int .u64 0, .int .u64 0, .slice none 0 0, .slice none 0 0, .slice none 0 0] 25))) := Lib.hid (((Below.refl _ _).alloc (Nat.le_refl _) _).alloc (by simp) _)
  have Y0 : Hid (Blk ((w.alloc (.cells #[.int .i64 k, .int .i64 K, .int .i64 T, .int .i64 M] 36)).alloc (.cells #[.int .u64 0, .int .u64 0, .slice none 0 0, .slice none 0 0, .int .u64 0, .int .u64 0, .slice none 0 0, .slice none 0 0, .slice none 0 0] 25)) (w.heap.size + 1) 25 #[.int .u64 0, .int .u64 0, .slice none 0 0, .slice none 0 0, .int .u64 0, .int .u64 0, .slice none 0 0, .slice none 0 0, .slice none 0 0]) := Lib.hid (blk_at (by simp))
  have HL := Lib.hid hl
  have hns : (n : Int) ≤ 9223372036854775807 := by have h1 : n ≤ maxLen := Nat.le_trans hl.2.1 hl.2.2.1; unfold maxLen at h1; omega
  have hln : l.length = n := hl.1.symm
  have HN := Lib.hid hln
  clear hl hln
  go_enter Try.func21, Try.ntmps21
  go_wp2_with (first | (go_at_call 20; refine (new_yes _ k K T M k1 k2 a1 a2 t1 t2 m1 m2).mono ?_; rintro e w1 ⟨r1, rfl, hs1, hm1, h51, hb1⟩; go_must (have Y1 := Lib.hid (Y0.out.below hb1 Y0.out.lt); have B1 := Lib.hid (B0.out.trans (hb1.mono B0.out.size)); have H1 : Hid (Hold (w1.alloc (.cells #[.int .u64 r1.e, .int .u64 r1.f, .slice r1.L.A r1.L.n r1.L.c, .slice r1.P.A r1.P.n r1.P.c, .int .u64 r1.h, .int .u64 r1.t, .slice r1.K.A r1.K.n r1.K.c, .slice r1.X.A r1.X.n r1.X.c, .slice r1.S.A r1.S.n r1.S.c] 25)) (w.heap.size + 1 + 1) w1.heap.size r1 (newM k K T M)) := Lib.hid (hold_box (five_weaken h51 (by simp)) hs1 hm1 (Nat.le_trans (by simp) hb1.size)); have hy1 := Y1.out.lt; have hz1 : w.heap.size + 1 + 1 ≤ w1.heap.size := Nat.le_trans (by simp) hb1.size); clear hs1 hm1 h51 hb1) | (go_at_call 43; refine (finder_c _ _).mono ?_; rintro e w' ⟨rfl, rfl⟩))
  have H2 : Hid (Hold ((w1.alloc (.cells #[.int .u64 r1.e, .int .u64 r1.f, .slice r1.L.A r1.L.n r1.L.c, .slice r1.P.A r1.P.n r1.P.c, .int .u64 r1.h, .int .u64 r1.t, .slice r1.K.A r1.K.n r1.K.c, .slice r1.X.A r1.X.n r1.X.c, .slice r1.S.A r1.S.n r1.S.c] 25)).alloc (.cells #[.pointer (some ⟨w1.heap.size, 0, none⟩)] 90)) (w.heap.size + 1 + 1) w1.heap.size r1 (newM k K T M)) := Lib.hid (H1.out.alloc _)
  have C2 : Hid (Blk ((w1.alloc (.cells #[.int .u64 r1.e, .int .u64 r1.f, .slice r1.L.A r1.L.n r1.L.c, .slice r1.P.A r1.P.n r1.P.c, .int .u64 r1.h, .int .u64 r1.t, .slice r1.K.A r1.K.n r1.K.c, .slice r1.X.A r1.X.n r1.X.c, .slice r1.S.A r1.S.n r1.S.c] 25)).alloc (.cells #[.pointer (some ⟨w1.heap.size, 0, none⟩)] 90)) (w1.heap.size + 1) 90 #[.pointer (some ⟨w1.heap.size, 0, none⟩)]) := Lib.hid (blk_at (by simp))
  have Y2 : Hid (Blk ((w1.alloc (.cells #[.int .u64 r1.e, .int .u64 r1.f, .slice r1.L.A r1.L.n r1.L.c, .slice r1.P.A r1.P.n r1.P.c, .int .u64 r1.h, .int .u64 r1.t, .slice r1.K.A r1.K.n r1.K.c, .slice r1.X.A r1.X.n r1.X.c, .slice r1.S.A r1.S.n r1.S.c] 25)).alloc (.cells #[.pointer (some ⟨w1.heap.size, 0, none⟩)] 90)) (w.heap.size + 1) 25 #[.int .u64 0, .int .u64 0, .slice none 0 0, .slice none 0 0, .int .u64 0, .int .u64 0, .slice none 0 0, .slice none 0 0, .slice none 0 0]) := Lib.hid ((Y1.out.alloc _).alloc _)
  have B2 : Hid (Below w.heap.size w ((w1.alloc (.cells #[.int .u64 r1.e, .int .u64 r1.f, .slice r1.L.A r1.L.n r1.L.c, .slice r1.P.A r1.P.n r1.P.c, .int .u64 r1.h, .int .u64 r1.t, .slice r1.K.A r1.K.n r1.K.c, .slice r1.X.A r1.X.n r1.X.c, .slice r1.S.A r1.S.n r1.S.c] 25)).alloc (.cells #[.pointer (some ⟨w1.heap.size, 0, none⟩)] 90))) := Lib.hid ((B1.out.alloc B1.out.size _).alloc (Nat.le_trans B1.out.size (by simp)) _)
  generalize ((w1.alloc (.cells #[.int .u64 r1.e, .int .u64 r1.f, .slice r1.L.A r1.L.n r1.L.c, .slice r1.P.A r1.P.n r1.P.c, .int .u64 r1.h, .int .u64 r1.t, .slice r1.K.A r1.K.n r1.K.c, .slice r1.X.A r1.X.n r1.X.c, .slice r1.S.A r1.S.n r1.S.c] 25)).alloc (.cells #[.pointer (some ⟨w1.heap.size, 0, none⟩)] 90)) = V at H2 C2 Y2 B2 ⊢
  obtain ⟨g, hg⟩ : ∃ g, w1.heap.size = g := ⟨_, rfl⟩
  rw [hg] at H2 C2
  simp only [hg]
  have hg2 : w.heap.size + 1 + 1 ≤ g := by omega
  clear hg hz1 hy1 H1 Y1 B1 B0 Y0
  go_loopw [25] (fun i wr => ∃ (j : Nat) (q : R) (mq : Memc.M), i = .int .i64 j ∧ j ≤ n ∧ replay (newM k K T M) (l.take j) = some mq ∧ Hold wr (w.heap.size + 1 + 1) g q mq ∧ Blk wr (g + 1) 90 #[.pointer (some ⟨g, 0, none⟩)] ∧ Blk wr (w.heap.size + 1) 25 #[.int .u64 0, .int .u64 0, .slice none 0 0, .slice none 0 0, .int .u64 0, .int .u64 0, .slice none 0 0, .slice none 0 0, .slice none 0 0] ∧ Below w.heap.size w wr) (fun i _ => n - (intOf i).toNat)
  case atStart => exact ⟨0, r1, _, rfl, Nat.zero_le _, rfl, H2.out, C2.out, Y2.out, B2.out⟩
  case round =>
  obtain ⟨j, q, mq, rfl, hj, hrep, hh, hcb, hyb, hbw⟩ := hrel
  have RP := Lib.hid hrep
  have HH := Lib.hid hh
  have HCB := Lib.hid hcb
  have HYB := Lib.hid hyb
  have HBW := Lib.hid hbw
  clear hrep hh hcb hyb hbw H2 C2 Y2 B2
  by_cases hlt : j < n
  · obtain ⟨x, hx⟩ : ∃ x, l[j]? = some x := ⟨_, List.getElem?_eq_getElem (by have := HN.out; omega)⟩
    have HX := Lib.hid hx
    have XO : Hid x.ok := Lib.hid (HL.out.2.2.2.1 x (List.mem_of_getElem? hx))
    obtain ⟨s0, s1, s2, s3, s4, s5, s6, s7⟩ := (HL.out.below HBW.out).step hx
    have hcp : wr.cell? ⟨g + 1, 0, none⟩ = some (.pointer (some ⟨g, 0, none⟩)) := HCB.out.cell 0
    have hzc := HCB.out.lt
    have hbs := HBW.out.size
    have i0 : (0 : Int) ≤ (j : Int) := by omega
    have i1 : (j : Int) < (n : Int) := by omega
    obtain ⟨y, hy⟩ : ∃ y, y = (acc mq x.c).2.1 := ⟨_, rfl⟩
    obtain ⟨z, hz⟩ : ∃ z, z = (acc mq x.c).2.2 := ⟨_, rfl⟩
    have E1 := Lib.hid hy.symm
    have E2 := Lib.hid hz.symm
    clear hx hy hz
    by_cases h1 : y = x.was
    · subst h1
      have q1 : (x.was != x.was) = false := by simp
      by_cases h2 : z = x.dn
      · subst h2
        have q2 : (x.dn != x.dn) = false := by simp
        go_wp2_with (go_at_call 42; go_must (refine (access_c (w.heap.size + 1 + 1) g q mq ⟨g + 1, 0, none⟩ x.c _ (by go_simp) (by simp; omega) (HH.out.alloc _) (by simp; omega) XO.out.1).mono ?_); rintro e w3 ⟨⟨q3, hq3⟩, he, hb3, ho3⟩; rw [E1.out, E2.out] at he; subst he; go_must (have HQ3 := Lib.hid hq3; have X3 : Hid (Blk w3 wr.heap.size 65 #[.int .i64 x.th, .int .i64 x.c.d, .int .i64 x.c.ar, .int .i64 x.c.at_, .int .u64 x.c.old, .int .u64 x.c.new, .int .u64 x.was, .bool x.dn]) := Lib.hid (ho3 _ _ _ (Blk.new _ _ _) (by decide) (by decide)); have C3 := Lib.hid (ho3 _ _ _ (HCB.out.alloc _) (by decide) (by decide)); have Y3 := Lib.hid ((HYB.out.alloc (.cells #[.int .i64 x.th, .int .i64 x.c.d, .int .i64 x.c.ar, .int .i64 x.c.at_, .int .u64 x.c.old, .int .u64 x.c.new, .int .u64 x.was, .bool x.dn] 65)).below hb3 (by omega)); have B3 := Lib.hid ((HBW.out.alloc HBW.out.size (.cells #[.int .i64 x.th, .int .i64 x.c.d, .int .i64 x.c.ar, .int .i64 x.c.at_, .int .u64 x.c.old, .int .u64 x.c.new, .int .u64 x.was, .bool x.dn] 65)).trans (hb3.mono (by omega)))); have hcx := X3.out.cell; have hcy := Y3.out.cell; have hfy := Y3.out.frozen; clear hq3 hb3 ho3)
        all_goals
          go_roundw
          case rel =>
            refine ⟨j + 1, q3, _, by go_num, by omega, ?_, HQ3.out, C3.out, Y3.out, B3.out⟩
            rw [replay_take RP.out HX.out, if_pos ⟨E1.out, E2.out⟩]
          case measure => simp [intOf]; omega
      · have q2 : (!(z == x.dn)) = true := by simp [h2]
        have HN2 := Lib.hid h2
        clear h2
        go_wp2_with (go_at_call 42; go_must (refine (access_c (w.heap.size + 1 + 1) g q mq ⟨g + 1, 0, none⟩ x.c _ (by go_simp) (by simp; omega) (HH.out.alloc _) (by simp; omega) XO.out.1).mono ?_); rintro e w3 ⟨⟨q3, hq3⟩, he, hb3, ho3⟩; rw [E1.out, E2.out] at he; subst he; go_must (have HQ3 := Lib.hid hq3; have X3 : Hid (Blk w3 wr.heap.size 65 #[.int .i64 x.th, .int .i64 x.c.d, .int .i64 x.c.ar, .int .i64 x.c.at_, .int .u64 x.c.old, .int .u64 x.c.new, .int .u64 x.was, .bool x.dn]) := Lib.hid (ho3 _ _ _ (Blk.new _ _ _) (by decide) (by decide)); have C3 := Lib.hid (ho3 _ _ _ (HCB.out.alloc _) (by decide) (by decide)); have Y3 := Lib.hid ((HYB.out.alloc (.cells #[.int .i64 x.th, .int .i64 x.c.d, .int .i64 x.c.ar, .int .i64 x.c.at_, .int .u64 x.c.old, .int .u64 x.c.new, .int .u64 x.was, .bool x.dn] 65)).below hb3 (by omega)); have B3 := Lib.hid ((HBW.out.alloc HBW.out.size (.cells #[.int .i64 x.th, .int .i64 x.c.d, .int .i64 x.c.ar, .int .i64 x.c.at_, .int .u64 x.c.old, .int .u64 x.c.new, .int .u64 x.was, .bool x.dn] 65)).trans (hb3.mono (by omega)))); have hcx := X3.out.cell; have hcy := Y3.out.cell; have hfy := Y3.out.frozen; clear hq3 hb3 ho3)
        refine bodyPost_ret (v := .tuple #[.agg #[.int .u64 0, .int .u64 0, .slice none 0 0, .slice none 0 0, .int .u64 0, .int .u64 0, .slice none 0 0, .slice none 0 0, .slice none 0 0], .int .i64 1]) (by simp [results, Try.results21, go_sem, hcy]) rfl ?_
        refine ⟨.inr ⟨replay_none (k := j + 1) ?_, rfl⟩, below_nine B3.out (by omega) _ _ _ _ _ _ _ _ _⟩
        rw [replay_take RP.out HX.out, if_neg (fun hf => HN2.out (E2.out.symm.trans hf.2))]
    · have q1 : (y != x.was) = true := by simp [h1]
      have HN1 := Lib.hid h1
      clear h1
      go_wp2_with (go_at_call 42; go_must (refine (access_c (w.heap.size + 1 + 1) g q mq ⟨g + 1, 0, none⟩ x.c _ (by go_simp) (by simp; omega) (HH.out.alloc _) (by simp; omega) XO.out.1).mono ?_); rintro e w3 ⟨⟨q3, hq3⟩, he, hb3, ho3⟩; rw [E1.out, E2.out] at he; subst he; go_must (have HQ3 := Lib.hid hq3; have X3 : Hid (Blk w3 wr.heap.size 65 #[.int .i64 x.th, .int .i64 x.c.d, .int .i64 x.c.ar, .int .i64 x.c.at_, .int .u64 x.c.old, .int .u64 x.c.new, .int .u64 x.was, .bool x.dn]) := Lib.hid (ho3 _ _ _ (Blk.new _ _ _) (by decide) (by decide)); have C3 := Lib.hid (ho3 _ _ _ (HCB.out.alloc _) (by decide) (by decide)); have Y3 := Lib.hid ((HYB.out.alloc (.cells #[.int .i64 x.th, .int .i64 x.c.d, .int .i64 x.c.ar, .int .i64 x.c.at_, .int .u64 x.c.old, .int .u64 x.c.new, .int .u64 x.was, .bool x.dn] 65)).below hb3 (by omega)); have B3 := Lib.hid ((HBW.out.alloc HBW.out.size (.cells #[.int .i64 x.th, .int .i64 x.c.d, .int .i64 x.c.ar, .int .i64 x.c.at_, .int .u64 x.c.old, .int .u64 x.c.new, .int .u64 x.was, .bool x.dn] 65)).trans (hb3.mono (by omega)))); have hcx := X3.out.cell; have hcy := Y3.out.cell; have hfy := Y3.out.frozen; clear hq3 hb3 ho3)
      refine bodyPost_ret (v := .tuple #[.agg #[.int .u64 0, .int .u64 0, .slice none 0 0, .slice none 0 0, .int .u64 0, .int .u64 0, .slice none 0 0, .slice none 0 0, .slice none 0 0], .int .i64 1]) (by simp [results, Try.results21, go_sem, hcy]) rfl ?_
      refine ⟨.inr ⟨replay_none (k := j + 1) ?_, rfl⟩, below_nine B3.out (by omega) _ _ _ _ _ _ _ _ _⟩
      rw [replay_take RP.out HX.out, if_neg (fun hf => HN1.out (E1.out.symm.trans hf.1))]
  · skip
    obtain rfl : j = n := by omega
    have hcq : ∀ i, wr.cell? ⟨g, i, none⟩ = (#[.int .u64 q.e, .int .u64 q.f, .slice q.L.A q.L.n q.L.c, .slice q.P.A q.P.n q.P.c, .int .u64 q.h, .int .u64 q.t, .slice q.K.A q.K.n q.K.c, .slice q.X.A q.X.n q.X.c, .slice q.S.A q.S.n q.S.c] : Array Value)[i]? := HH.out.1.cell
    have hcy := HYB.out.cell
    have hfy := HYB.out.frozen
    go_wp2
    refine bodyPost_ret (v := .tuple #[.agg #[.int .u64 q.e, .int .u64 q.f, .slice q.L.A q.L.n q.L.c, .slice q.P.A q.P.n q.P.c, .int .u64 q.h, .int .u64 q.t, .slice q.K.A q.K.n q.K.c, .slice q.X.A q.X.n q.X.c, .slice q.S.A q.S.n q.S.c], .int .i64 0]) (by simp [results, Try.results21, go_sem, hcy]) rfl ?_
    have hrep := RP.out
    rw [List.take_of_length_le (by have := HN.out; omega)] at hrep
    have hn := rm_nine (b := w.heap.size + 1) HH.out.rm (fun a hl ad _ had => by have := ((HH.out.2.2.2.2.2.2.2.1 a hl).lt had).1; omega) q
    exact ⟨.inl ⟨mq, q, hrep, rfl, by simpa only [size_set] using hn⟩, below_nine HBW.out (by omega) _ _ _ _ _ _ _ _ _⟩

theorem replay_c (w : World) (k : Int) (K T M : Nat) (s : Sl) (l : List St) (k1 : 1 ≤ k) (k2 : k ≤ 3) (a1 : 1 ≤ K) (a2 : K ≤ 64) (t1 : 1 ≤ T) (t2 : T ≤ 8) (m1 : 2 ≤ M) (m2 : M ≤ 64) (hl : RdS w w.heap.size s l) :
    Calls Try.prog 21 #[.agg #[.int .i64 k, .int .i64 K, .int .i64 T, .int .i64 M], .slice s.A s.n s.c] w (Replayed w (newM k K T M) l) := by
  obtain ⟨A, n, c⟩ := s
  by_cases hn : n = 0
  · subst hn
    exact replay_zero w k K T M A c l k1 k2 a1 a2 t1 t2 m1 m2 (List.eq_nil_of_length_eq_zero hl.1.symm)
  · obtain ⟨b, off, hA, _, _⟩ := hl.2.2.2.2 (by show 0 < n; omega)
    have hA : A = some ⟨b, off, none⟩ := hA
    subst hA
    exact replay_pos w k K T M b off n c l k1 k2 a1 a2 t1 t2 m1 m2 hl
end Go.Proofs.Ytjgbgjkjnlaloaa.Replc
