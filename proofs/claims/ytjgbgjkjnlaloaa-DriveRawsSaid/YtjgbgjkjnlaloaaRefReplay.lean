/- Replaying steps, by the document's answer: its contract. -/
import Derived.Test.YtjgbgjkjnlaloaaSteps
import Derived.Test.YtjgbgjkjnlaloaaRefNew
import Derived.Test.YtjgbgjkjnlaloaaRefG
import Derived.Test.YtjgbgjkjnlaloaaRefD
import Derived.Deep.RegionLaw
namespace Go.Proofs.Ytjgbgjkjnlaloaa.Replr
open Go.RowKit Go.Proofs.Ytjgbgjkjnlaloaa.Memc Go.Proofs.Ytjgbgjkjnlaloaa.Newc Go.Proofs.Ytjgbgjkjnlaloaa.Refc
set_option linter.unusedVariables false
attribute [local go_sem ↓] Go.wp_at_zero Go.wp_at_succ

theorem five_off {w : World} {base : Nat} {r : R} {m : Memc.M} (h : Five w base r m) {b : Nat} (hb : b < base) : Off r b := fun a hl ad _ had => by
  have := ((h.1 a hl).lt had).1; omega

/-- what Replay comes to -/
def Replayed (w : World) (m0 : Memc.M) (l : List St) (e : Ending) (w' : World) : Prop :=
  ((∃ (m : Memc.M) (r : R), replay m0 l = some m ∧ e = .returned (.tuple #[.agg #[.int .u64 r.e, .int .u64 r.f, .slice r.L.A r.L.n r.L.c, .slice r.P.A r.P.n r.P.c, .int .u64 r.h, .int .u64 r.t, .slice r.K.A r.K.n r.K.c, .slice r.X.A r.X.n r.X.c, .slice r.S.A r.S.n r.S.c], .bool true]) ∧ Rm w' w'.heap.size r m ∧ ∀ b, b < w.heap.size → Off r b) ∨
    (replay m0 l = none ∧ e = .returned (.tuple #[.agg #[.int .u64 0, .int .u64 0, .slice none 0 0, .slice none 0 0, .int .u64 0, .int .u64 0, .slice none 0 0, .slice none 0 0, .slice none 0 0], .bool false]))) ∧ Below w.heap.size w w'
theorem few_of_len {m q : Memc.M} (h : Few m) (hl : ∀ a, (q.area a).length = (m.area a).length) : Few q := fun a h1 h2 => by rw [hl]; exact h a h1 h2
theorem replay_len {m q : Memc.M} {l : List St} (h : replay m l = some q) : ∀ a, (q.area a).length = (m.area a).length := by
  induction l generalizing m with
  | nil => intro a; simp only [replay, Option.some.injEq] at h; rw [h]
  | cons s l ih =>
    intro a
    simp only [replay] at h
    split at h
    · rw [ih h a, len_acc]
    · cases h
theorem newM_few (k : Int) (K T M : Nat) (a2 : K ≤ 64) (t2 : T ≤ 8) (m2 : M ≤ 64) : Few (newM k K T M) := by
  intro a h1 h2
  have hm : M * K ≤ 4096 := Nat.le_trans (Nat.mul_le_mul m2 a2) (by omega)
  rcases nine (show ¬ (a < 1 ∨ 9 < a) by omega) with rfl | rfl | rfl | rfl | rfl | rfl | rfl | rfl | rfl
  · show 1 ≤ 5000; omega
  · show 1 ≤ 5000; omega
  · show (List.replicate 3 (0 : Int)).length ≤ 5000; simp
  · show (List.replicate T (0 : Int)).length ≤ 5000; simp; omega
  · show 1 ≤ 5000; omega
  · show 1 ≤ 5000; omega
  · show (Newc.linked _ M M).length ≤ 5000; rw [Newc.linked_len]; omega
  · show (List.replicate M (0 : Int)).length ≤ 5000; simp; omega
  · show (List.replicate (M * K) (0 : Int)).length ≤ 5000; simp; omega

set_option maxRecDepth 100000 in
set_option maxHeartbeats 4000000 in
theorem refreplay_zero (w : World) (k : Int) (K T M : Nat) (A : Option Addr) (c : Nat) (l : List St) (k1 : 1 ≤ k) (k2 : k ≤ 3) (a1 : 1 ≤ K) (a2 : K ≤ 64) (t1 : 1 ≤ T) (t2 : T ≤ 8) (m1 : 2 ≤ M) (m2 : M ≤ 64) (hl : l = []) :
    Calls Try.prog 24 #[.agg #[.int .i64 k, .int .i64 K, .int .i64 T, .int .i64 M], .slice (A) 0 c] w (Replayed w (newM k K T M) l) := by
  have B0 : Hid (Below w.heap.size w ((w.alloc (.cells #[.int .i64 k, .int .i64 K, .int .i64 T, .int .i64 M] 36)).alloc (.cells #[.int .u64 0, .int .u64 0, .slice none 0 0, .slice none 0 0, .int .u64 0, .int .u64 0, .slice none 0 0, .slice none 0 0, .slice none 0 0] 25))) := Lib.hid (((Below.refl _ _).alloc (Nat.le_refl _) _).alloc (by simp) _)
  have Y0 : Hid (Blk ((w.alloc (.cells #[.int .i64 k, .int .i64 K, .int .i64 T, .int .i64 M] 36)).alloc (.cells #[.int .u64 0, .int .u64 0, .slice none 0 0, .slice none 0 0, .int .u64 0, .int .u64 0, .slice none 0 0, .slice none 0 0, .slice none 0 0] 25)) (w.heap.size + 1) 25 #[.int .u64 0, .int .u64 0, .slice none 0 0, .slice none 0 0, .int .u64 0, .int .u64 0, .slice none 0 0, .slice none 0 0, .slice none 0 0]) := Lib.hid (blk_at (by simp))
  have X0 : Hid (Blk ((w.alloc (.cells #[.int .i64 k, .int .i64 K, .int .i64 T, .int .i64 M] 36)).alloc (.cells #[.int .u64 0, .int .u64 0, .slice none 0 0, .slice none 0 0, .int .u64 0, .int .u64 0, .slice none 0 0, .slice none 0 0, .slice none 0 0] 25)) w.heap.size 36 #[.int .i64 k, .int .i64 K, .int .i64 T, .int .i64 M]) := Lib.hid ((Blk.new _ _ _).alloc _)
  have HL := Lib.hid hl
  have FEW := Lib.hid (newM_few k K T M a2 t2 m2)
  skip
  have hln : l.length = 0 := by rw [hl]; rfl
  have HN := Lib.hid hln
  clear hl hln
  go_enter Try.func24, Try.ntmps24
  go_wp2_with (first | (go_at_call 23; refine (refmay_yes _ _ _ _ _ (by omega) (by omega) (by omega) (by omega) (by omega) (by omega) (by omega) (by omega)).mono ?_; rintro e w1 ⟨rfl, hb1⟩; have X1 := Lib.hid (X0.out.below hb1 X0.out.lt); have Y1 := Lib.hid (Y0.out.below hb1 Y0.out.lt); have B1 := Lib.hid (B0.out.trans (hb1.mono B0.out.size)); have hx1 := X1.out.cell; clear hb1) | (go_at_call 25; refine (refnew_yes _ k K T M k1 k2 a1 a2 t1 t2 m1 m2).mono ?_; rintro e w2 ⟨r2, rfl, hs2, hm2, h52, hb2⟩; go_must (have Y2 := Lib.hid (Y1.out.below hb2 Y1.out.lt); have B2 := Lib.hid (B1.out.trans (hb2.mono B1.out.size)); have R2 := Lib.hid (h52.rm hs2 hm2); have O2 : Hid (∀ b, b ≤ w.heap.size + 1 → Off r2 b) := Lib.hid (fun b hb => five_off h52 (b := b) (Nat.lt_of_le_of_lt hb Y1.out.lt)); have hy2 := Y2.out.lt); clear hs2 hm2 h52 hb2 hx1))
  have V2 : Hid (Blk (w2.alloc (.cells #[.int .u64 r2.e, .int .u64 r2.f, .slice r2.L.A r2.L.n r2.L.c, .slice r2.P.A r2.P.n r2.P.c, .int .u64 r2.h, .int .u64 r2.t, .slice r2.K.A r2.K.n r2.K.c, .slice r2.X.A r2.X.n r2.X.c, .slice r2.S.A r2.S.n r2.S.c] 25)) w2.heap.size 25 #[.int .u64 r2.e, .int .u64 r2.f, .slice r2.L.A r2.L.n r2.L.c, .slice r2.P.A r2.P.n r2.P.c, .int .u64 r2.h, .int .u64 r2.t, .slice r2.K.A r2.K.n r2.K.c, .slice r2.X.A r2.X.n r2.X.c, .slice r2.S.A r2.S.n r2.S.c]) := Lib.hid (Blk.new _ _ _)
  have VY : Hid (Blk (w2.alloc (.cells #[.int .u64 r2.e, .int .u64 r2.f, .slice r2.L.A r2.L.n r2.L.c, .slice r2.P.A r2.P.n r2.P.c, .int .u64 r2.h, .int .u64 r2.t, .slice r2.K.A r2.K.n r2.K.c, .slice r2.X.A r2.X.n r2.X.c, .slice r2.S.A r2.S.n r2.S.c] 25)) (w.heap.size + 1) 25 #[.int .u64 0, .int .u64 0, .slice none 0 0, .slice none 0 0, .int .u64 0, .int .u64 0, .slice none 0 0, .slice none 0 0, .slice none 0 0]) := Lib.hid (Y2.out.alloc _)
  have VR : Hid (Rm (w2.alloc (.cells #[.int .u64 r2.e, .int .u64 r2.f, .slice r2.L.A r2.L.n r2.L.c, .slice r2.P.A r2.P.n r2.P.c, .int .u64 r2.h, .int .u64 r2.t, .slice r2.K.A r2.K.n r2.K.c, .slice r2.X.A r2.X.n r2.X.c, .slice r2.S.A r2.S.n r2.S.c] 25)) (w2.alloc (.cells #[.int .u64 r2.e, .int .u64 r2.f, .slice r2.L.A r2.L.n r2.L.c, .slice r2.P.A r2.P.n r2.P.c, .int .u64 r2.h, .int .u64 r2.t, .slice r2.K.A r2.K.n r2.K.c, .slice r2.X.A r2.X.n r2.X.c, .slice r2.S.A r2.S.n r2.S.c] 25)).heap.size r2 (newM k K T M)) := Lib.hid ((R2.out.alloc (Nat.le_refl _) _).more (by simp))
  have VB : Hid (Below w.heap.size w (w2.alloc (.cells #[.int .u64 r2.e, .int .u64 r2.f, .slice r2.L.A r2.L.n r2.L.c, .slice r2.P.A r2.P.n r2.P.c, .int .u64 r2.h, .int .u64 r2.t, .slice r2.K.A r2.K.n r2.K.c, .slice r2.X.A r2.X.n r2.X.c, .slice r2.S.A r2.S.n r2.S.c] 25))) := Lib.hid (B2.out.alloc B2.out.size _)
  have OG : Hid (Off r2 w2.heap.size) := Lib.hid (off_rm R2.out (Nat.le_refl _))
  generalize w2.alloc (.cells #[.int .u64 r2.e, .int .u64 r2.f, .slice r2.L.A r2.L.n r2.L.c, .slice r2.P.A r2.P.n r2.P.c, .int .u64 r2.h, .int .u64 r2.t, .slice r2.K.A r2.K.n r2.K.c, .slice r2.X.A r2.X.n r2.X.c, .slice r2.S.A r2.S.n r2.S.c] 25) = V at V2 VY VR VB ⊢
  obtain ⟨g, hg⟩ : ∃ g, w2.heap.size = g := ⟨_, rfl⟩
  rw [hg] at V2 OG
  simp only [hg]
  have hgh : w.heap.size + 1 < g := by omega
  clear hg hy2 Y2 B2 R2 B0 Y0 X0 X1 Y1 B1
  go_loopw [7] (fun i wr => ∃ (j : Nat) (q : R) (mq : Memc.M), i = .int .i64 j ∧ j ≤ 0 ∧ replay (newM k K T M) (l.take j) = some mq ∧ Blk wr g 25 #[.int .u64 q.e, .int .u64 q.f, .slice q.L.A q.L.n q.L.c, .slice q.P.A q.P.n q.P.c, .int .u64 q.h, .int .u64 q.t, .slice q.K.A q.K.n q.K.c, .slice q.X.A q.X.n q.X.c, .slice q.S.A q.S.n q.S.c] ∧ Blk wr (w.heap.size + 1) 25 #[.int .u64 0, .int .u64 0, .slice none 0 0, .slice none 0 0, .int .u64 0, .int .u64 0, .slice none 0 0, .slice none 0 0, .slice none 0 0] ∧ Rm wr wr.heap.size q mq ∧ Off q g ∧ (∀ b, b ≤ w.heap.size + 1 → Off q b) ∧ Below w.heap.size w wr) (fun i _ => 0 - (intOf i).toNat)
  case atStart => exact ⟨0, r2, _, rfl, Nat.zero_le _, rfl, V2.out, VY.out, VR.out, OG.out, O2.out, VB.out⟩
  case round =>
  obtain ⟨j, q, mq, rfl, hj, hrep, hv, hyb, hr, ho1, ho2, hbw⟩ := hrel
  have RP := Lib.hid hrep
  have HV := Lib.hid hv
  have HYB := Lib.hid hyb
  have HR := Lib.hid hr
  have HO1 := Lib.hid ho1
  have HO2 := Lib.hid ho2
  have HBW := Lib.hid hbw
  clear hrep hv hyb hr ho1 ho2 hbw V2 VY VR VB OG O2
  obtain rfl : j = 0 := by omega
  have hcq := HV.out.cell
  have hcy := HYB.out.cell
  have hfy := HYB.out.frozen
  go_wp2
  refine bodyPost_ret (v := .tuple #[.agg #[.int .u64 q.e, .int .u64 q.f, .slice q.L.A q.L.n q.L.c, .slice q.P.A q.P.n q.P.c, .int .u64 q.h, .int .u64 q.t, .slice q.K.A q.K.n q.K.c, .slice q.X.A q.X.n q.X.c, .slice q.S.A q.S.n q.S.c], .bool true]) (by simp [results, Try.results24, go_sem, hcy]) rfl ?_
  have hrep := RP.out
  rw [List.take_of_length_le (by have := HN.out; omega)] at hrep
  have hn := rm_nine (b := w.heap.size + 1) HR.out (HO2.out _ (Nat.le_refl _)) q
  exact ⟨.inl ⟨mq, q, hrep, rfl, by simpa only [size_set] using hn, fun b hb => HO2.out b (by omega)⟩, below_nine HBW.out (by omega) _ _ _ _ _ _ _ _ _⟩

set_option maxRecDepth 100000 in
set_option maxHeartbeats 4000000 in
theorem refreplay_pos (w : World) (k : Int) (K T M : Nat) (b off n c : Nat) (l : List St) (k1 : 1 ≤ k) (k2 : k ≤ 3) (a1 : 1 ≤ K) (a2 : K ≤ 64) (t1 : 1 ≤ T) (t2 : T ≤ 8) (m1 : 2 ≤ M) (m2 : M ≤ 64) (hl : RdS w w.heap.size ⟨some ⟨b, off, none⟩, n, c⟩ l) :
    Calls Try.prog 24 #[.agg #[.int .i64 k, .int .i64 K, .int .i64 T, .int .i64 M], .slice (some ⟨b, off, none⟩) n c] w (Replayed w (newM k K T M) l) := by
  have B0 : Hid (Below w.heap.size w ((w.alloc (.cells #[.int .i64 k, .int .i64 K, .int .i64 T, .int .i64 M] 36)).alloc (.cells #[.int .u64 0, .int .u64 0, .slice none 0 0, .slice none 0 0, .int .u64 0, .int .u64 0, .slice none 0 0, .slice none 0 0, .slice none 0 0] 25))) := Lib.hid (((Below.refl _ _).alloc (Nat.le_refl _) _).alloc (by simp) _)
  have Y0 : Hid (Blk ((w.alloc (.cells #[.int .i64 k, .int .i64 K, .int .i64 T, .int .i64 M] 36)).alloc (.cells #[.int .u64 0, .int .u64 0, .slice none 0 0, .slice none 0 0, .int .u64 0, .int .u64 0, .slice none 0 0, .slice none 0 0, .slice none 0 0] 25)) (w.heap.size + 1) 25 #[.int .u64 0, .int .u64 0, .slice none 0 0, .slice none 0 0, .int .u64 0, .int .u64 0, .slice none 0 0, .slice none 0 0, .slice none 0 0]) := Lib.hid (blk_at (by simp))
  have X0 : Hid (Blk ((w.alloc (.cells #[.int .i64 k, .int .i64 K, .int .i64 T, .int .i64 M] 36)).alloc (.cells #[.int .u64 0, .int .u64 0, .slice none 0 0, .slice none 0 0, .int .u64 0, .int .u64 0, .slice none 0 0, .slice none 0 0, .slice none 0 0] 25)) w.heap.size 36 #[.int .i64 k, .int .i64 K, .int .i64 T, .int .i64 M]) := Lib.hid ((Blk.new _ _ _).alloc _)
  have HL := Lib.hid hl
  have FEW := Lib.hid (newM_few k K T M a2 t2 m2)
  have hns : (n : Int) ≤ 9223372036854775807 := by have h1 : n ≤ maxLen := Nat.le_trans hl.2.1 hl.2.2.1; unfold maxLen at h1; omega
  have hln : l.length = n := hl.1.symm
  have HN := Lib.hid hln
  clear hl hln
  go_enter Try.func24, Try.ntmps24
  go_wp2_with (first | (go_at_call 23; refine (refmay_yes _ _ _ _ _ (by omega) (by omega) (by omega) (by omega) (by omega) (by omega) (by omega) (by omega)).mono ?_; rintro e w1 ⟨rfl, hb1⟩; have X1 := Lib.hid (X0.out.below hb1 X0.out.lt); have Y1 := Lib.hid (Y0.out.below hb1 Y0.out.lt); have B1 := Lib.hid (B0.out.trans (hb1.mono B0.out.size)); have hx1 := X1.out.cell; clear hb1) | (go_at_call 25; refine (refnew_yes _ k K T M k1 k2 a1 a2 t1 t2 m1 m2).mono ?_; rintro e w2 ⟨r2, rfl, hs2, hm2, h52, hb2⟩; go_must (have Y2 := Lib.hid (Y1.out.below hb2 Y1.out.lt); have B2 := Lib.hid (B1.out.trans (hb2.mono B1.out.size)); have R2 := Lib.hid (h52.rm hs2 hm2); have O2 : Hid (∀ b, b ≤ w.heap.size + 1 → Off r2 b) := Lib.hid (fun b hb => five_off h52 (b := b) (Nat.lt_of_le_of_lt hb Y1.out.lt)); have hy2 := Y2.out.lt); clear hs2 hm2 h52 hb2 hx1))
  have V2 : Hid (Blk (w2.alloc (.cells #[.int .u64 r2.e, .int .u64 r2.f, .slice r2.L.A r2.L.n r2.L.c, .slice r2.P.A r2.P.n r2.P.c, .int .u64 r2.h, .int .u64 r2.t, .slice r2.K.A r2.K.n r2.K.c, .slice r2.X.A r2.X.n r2.X.c, .slice r2.S.A r2.S.n r2.S.c] 25)) w2.heap.size 25 #[.int .u64 r2.e, .int .u64 r2.f, .slice r2.L.A r2.L.n r2.L.c, .slice r2.P.A r2.P.n r2.P.c, .int .u64 r2.h, .int .u64 r2.t, .slice r2.K.A r2.K.n r2.K.c, .slice r2.X.A r2.X.n r2.X.c, .slice r2.S.A r2.S.n r2.S.c]) := Lib.hid (Blk.new _ _ _)
  have VY : Hid (Blk (w2.alloc (.cells #[.int .u64 r2.e, .int .u64 r2.f, .slice r2.L.A r2.L.n r2.L.c, .slice r2.P.A r2.P.n r2.P.c, .int .u64 r2.h, .int .u64 r2.t, .slice r2.K.A r2.K.n r2.K.c, .slice r2.X.A r2.X.n r2.X.c, .slice r2.S.A r2.S.n r2.S.c] 25)) (w.heap.size + 1) 25 #[.int .u64 0, .int .u64 0, .slice none 0 0, .slice none 0 0, .int .u64 0, .int .u64 0, .slice none 0 0, .slice none 0 0, .slice none 0 0]) := Lib.hid (Y2.out.alloc _)
  have VR : Hid (Rm (w2.alloc (.cells #[.int .u64 r2.e, .int .u64 r2.f, .slice r2.L.A r2.L.n r2.L.c, .slice r2.P.A r2.P.n r2.P.c, .int .u64 r2.h, .int .u64 r2.t, .slice r2.K.A r2.K.n r2.K.c, .slice r2.X.A r2.X.n r2.X.c, .slice r2.S.A r2.S.n r2.S.c] 25)) (w2.alloc (.cells #[.int .u64 r2.e, .int .u64 r2.f, .slice r2.L.A r2.L.n r2.L.c, .slice r2.P.A r2.P.n r2.P.c, .int .u64 r2.h, .int .u64 r2.t, .slice r2.K.A r2.K.n r2.K.c, .slice r2.X.A r2.X.n r2.X.c, .slice r2.S.A r2.S.n r2.S.c] 25)).heap.size r2 (newM k K T M)) := Lib.hid ((R2.out.alloc (Nat.le_refl _) _).more (by simp))
  have VB : Hid (Below w.heap.size w (w2.alloc (.cells #[.int .u64 r2.e, .int .u64 r2.f, .slice r2.L.A r2.L.n r2.L.c, .slice r2.P.A r2.P.n r2.P.c, .int .u64 r2.h, .int .u64 r2.t, .slice r2.K.A r2.K.n r2.K.c, .slice r2.X.A r2.X.n r2.X.c, .slice r2.S.A r2.S.n r2.S.c] 25))) := Lib.hid (B2.out.alloc B2.out.size _)
  have OG : Hid (Off r2 w2.heap.size) := Lib.hid (off_rm R2.out (Nat.le_refl _))
  generalize w2.alloc (.cells #[.int .u64 r2.e, .int .u64 r2.f, .slice r2.L.A r2.L.n r2.L.c, .slice r2.P.A r2.P.n r2.P.c, .int .u64 r2.h, .int .u64 r2.t, .slice r2.K.A r2.K.n r2.K.c, .slice r2.X.A r2.X.n r2.X.c, .slice r2.S.A r2.S.n r2.S.c] 25) = V at V2 VY VR VB ⊢
  obtain ⟨g, hg⟩ : ∃ g, w2.heap.size = g := ⟨_, rfl⟩
  rw [hg] at V2 OG
  simp only [hg]
  have hgh : w.heap.size + 1 < g := by omega
  clear hg hy2 Y2 B2 R2 B0 Y0 X0 X1 Y1 B1
  go_loopw [7] (fun i wr => ∃ (j : Nat) (q : R) (mq : Memc.M), i = .int .i64 j ∧ j ≤ n ∧ replay (newM k K T M) (l.take j) = some mq ∧ Blk wr g 25 #[.int .u64 q.e, .int .u64 q.f, .slice q.L.A q.L.n q.L.c, .slice q.P.A q.P.n q.P.c, .int .u64 q.h, .int .u64 q.t, .slice q.K.A q.K.n q.K.c, .slice q.X.A q.X.n q.X.c, .slice q.S.A q.S.n q.S.c] ∧ Blk wr (w.heap.size + 1) 25 #[.int .u64 0, .int .u64 0, .slice none 0 0, .slice none 0 0, .int .u64 0, .int .u64 0, .slice none 0 0, .slice none 0 0, .slice none 0 0] ∧ Rm wr wr.heap.size q mq ∧ Off q g ∧ (∀ b, b ≤ w.heap.size + 1 → Off q b) ∧ Below w.heap.size w wr) (fun i _ => n - (intOf i).toNat)
  case atStart => exact ⟨0, r2, _, rfl, Nat.zero_le _, rfl, V2.out, VY.out, VR.out, OG.out, O2.out, VB.out⟩
  case round =>
  obtain ⟨j, q, mq, rfl, hj, hrep, hv, hyb, hr, ho1, ho2, hbw⟩ := hrel
  have RP := Lib.hid hrep
  have HV := Lib.hid hv
  have HYB := Lib.hid hyb
  have HR := Lib.hid hr
  have HO1 := Lib.hid ho1
  have HO2 := Lib.hid ho2
  have HBW := Lib.hid hbw
  clear hrep hv hyb hr ho1 ho2 hbw V2 VY VR VB OG O2
  by_cases hlt : j < n
  · obtain ⟨x, hx⟩ : ∃ x, l[j]? = some x := ⟨_, List.getElem?_eq_getElem (by have := HN.out; omega)⟩
    have HX := Lib.hid hx
    have XO : Hid x.ok := Lib.hid (HL.out.2.2.2.1 x (List.mem_of_getElem? hx))
    have XC : Hid x.c.ok := Lib.hid XO.out.1
    have HS := Lib.hid (HL.out.below HBW.out)
    obtain ⟨s0, s1, s2, s3, s4, s5, s6, s7⟩ := HS.out.step hx
    have hbl : b < wr.heap.size := block_lt s0
    have FQ : Hid (Few mq) := Lib.hid (few_of_len FEW.out (replay_len RP.out))
    have hcv := HV.out.cell
    have hzg := HV.out.lt
    have hzy := HYB.out.lt
    have hbs := HBW.out.size
    have i0 : (0 : Int) ≤ (j : Int) := by omega
    have i1 : (j : Int) < (n : Int) := by omega
    obtain ⟨y, hy⟩ : ∃ y, y = (acc mq x.c).2.1 := ⟨_, rfl⟩
    obtain ⟨z, hz⟩ : ∃ z, z = (acc mq x.c).2.2 := ⟨_, rfl⟩
    have E1 := Lib.hid hy.symm
    have E2 := Lib.hid hz.symm
    clear hx hy hz
    by_cases h1 : y = x.was
    · subst h1
      have q1 : (x.was != x.was) = false := by simp
      by_cases h2 : z = x.dn
      · subst h2
        have q2 : (x.dn != x.dn) = false := by simp
        go_wp2_with fail
        go_region_law (first | (go_simp; go_at_call 18; (with_reducible refine (refdo_c _ _ q mq x.c HR.out.drew (Nat.le_refl _) FQ.out XC.out).mono ?_); rintro e w3 ⟨q3, he, hr3, hb3, ho3⟩; go_must (rw [E1.out, E2.out] at he; subst he); have tok1 : True := trivial; go_must (have D3 : Hid (Below wr.heap.size wr w3) := Lib.hid ((Below.refl _ _).drew.trans hb3)); have Z3 := D3; have HB3 := Lib.hid ho3; have R3 := Lib.hid hr3; clear hr3 hb3 ho3) | (go_simp; go_at_call 18; (with_reducible refine (refdo_c _ _ q mq x.c (HR.out.alloc (Nat.le_refl _) _).drew (by simp) FQ.out XC.out).mono ?_); rintro e w3 ⟨q3, he, hr3, hb3, ho3⟩; go_must (rw [E1.out, E2.out] at he; subst he); have tok2 : True := trivial; go_must (have D3 : Hid (Below wr.heap.size wr w3) := Lib.hid (((Below.refl _ _).alloc (Nat.le_refl _) (.cells #[.int .u64 0, .int .u64 0, .slice none 0 0, .slice none 0 0, .int .u64 0, .int .u64 0, .slice none 0 0, .slice none 0 0, .slice none 0 0] 25)).drew.trans (hb3.mono (by simp))); have Z3 : Hid (Blk w3 wr.heap.size 25 #[.int .u64 0, .int .u64 0, .slice none 0 0, .slice none 0 0, .int .u64 0, .int .u64 0, .slice none 0 0, .slice none 0 0, .slice none 0 0]) := Lib.hid (((Blk.new wr 25 #[.int .u64 0, .int .u64 0, .slice none 0 0, .slice none 0 0, .int .u64 0, .int .u64 0, .slice none 0 0, .slice none 0 0, .slice none 0 0]).drew).below hb3 (by simp))); have hz3 := Z3.out.cell; have hf3 := Z3.out.frozen; have HB3 := Lib.hid ho3; have R3 := Lib.hid hr3; clear hr3 hb3 ho3))
        all_goals first
          | (clear tok1; have tok1 : True := trivial
             clear tok1 Z3
             have N4 : Hid (Blk (w3.alloc (.cells #[.int .u64 q3.e, .int .u64 q3.f, .slice q3.L.A q3.L.n q3.L.c, .slice q3.P.A q3.P.n q3.P.c, .int .u64 q3.h, .int .u64 q3.t, .slice q3.K.A q3.K.n q3.K.c, .slice q3.X.A q3.X.n q3.X.c, .slice q3.S.A q3.S.n q3.S.c] 25)) w3.heap.size 25 #[.int .u64 q3.e, .int .u64 q3.f, .slice q3.L.A q3.L.n q3.L.c, .slice q3.P.A q3.P.n q3.P.c, .int .u64 q3.h, .int .u64 q3.t, .slice q3.K.A q3.K.n q3.K.c, .slice q3.X.A q3.X.n q3.X.c, .slice q3.S.A q3.S.n q3.S.c]) := Lib.hid (Blk.new _ _ _)
             have BB : Hid (Below wr.heap.size wr (w3.alloc (.cells #[.int .u64 q3.e, .int .u64 q3.f, .slice q3.L.A q3.L.n q3.L.c, .slice q3.P.A q3.P.n q3.P.c, .int .u64 q3.h, .int .u64 q3.t, .slice q3.K.A q3.K.n q3.K.c, .slice q3.X.A q3.X.n q3.X.c, .slice q3.S.A q3.S.n q3.S.c] 25))) := Lib.hid (D3.out.alloc D3.out.size _)
             have R4 : Hid (Rm (w3.alloc (.cells #[.int .u64 q3.e, .int .u64 q3.f, .slice q3.L.A q3.L.n q3.L.c, .slice q3.P.A q3.P.n q3.P.c, .int .u64 q3.h, .int .u64 q3.t, .slice q3.K.A q3.K.n q3.K.c, .slice q3.X.A q3.X.n q3.X.c, .slice q3.S.A q3.S.n q3.S.c] 25)) (w3.alloc (.cells #[.int .u64 q3.e, .int .u64 q3.f, .slice q3.L.A q3.L.n q3.L.c, .slice q3.P.A q3.P.n q3.P.c, .int .u64 q3.h, .int .u64 q3.t, .slice q3.K.A q3.K.n q3.K.c, .slice q3.X.A q3.X.n q3.X.c, .slice q3.S.A q3.S.n q3.S.c] 25)).heap.size q3 (acc mq x.c).1) := Lib.hid ((R3.out.alloc (Nat.le_refl _) _).more (by simp))
             have hp4 := D3.out.size
             generalize w3.alloc (.cells #[.int .u64 q3.e, .int .u64 q3.f, .slice q3.L.A q3.L.n q3.L.c, .slice q3.P.A q3.P.n q3.P.c, .int .u64 q3.h, .int .u64 q3.t, .slice q3.K.A q3.K.n q3.K.c, .slice q3.X.A q3.X.n q3.X.c, .slice q3.S.A q3.S.n q3.S.c] 25) = W4 at N4 BB R4 ⊢
             have D4 : Hid (Below wr.heap.size wr W4) := BB
             have G4 := Lib.hid (HV.out.below D4.out hzg)
             have Y4 := Lib.hid (HYB.out.below D4.out hzy)
             have B4 := Lib.hid (HBW.out.trans (D4.out.mono hbs))
             obtain ⟨_, _, _, _, _, _, s6', s7'⟩ := (HS.out.below (D4.out.mono hbs)).step HX.out
             have hn4 := N4.out.cell
             have hg4 := G4.out.cell
             have hfg4 := G4.out.frozen
             have hy4 := Y4.out.cell
             have hfy4 := Y4.out.frozen
             have f1 := Lib.hid (HB3.out g hzg HO1.out)
             have f2 : Hid (∀ b, b ≤ w.heap.size + 1 → Off q3 b) := Lib.hid (fun b hb => HB3.out b (Nat.lt_of_le_of_lt hb hzy) (HO2.out b hb))
             clear s0 s1 s2 s3 s4 s5 s6 s7 hcv
             go_wp2
             go_roundw
             case rel =>
               refine ⟨j + 1, q3, (acc mq x.c).1, by go_num, by omega, ?_, blk_nine G4.out, blk_nine_far Y4.out (by omega), ?_, f1.out, f2.out, below_nine B4.out (by omega) _ _ _ _ _ _ _ _ _⟩
               · rw [replay_take RP.out HX.out, if_pos ⟨E1.out, E2.out⟩]
               · have := rm_nine R4.out f1.out q3
                 simpa only [size_set] using this
             case measure => simp [intOf]; omega
            )
          | (clear tok2; have tok2 : True := trivial
             clear tok2 hz3 hf3
             have N4 : Hid (Blk (((((((((w3.setCell ⟨wr.heap.size, 0, none⟩ (.int .u64 q3.e)).setCell ⟨wr.heap.size, 1, none⟩ (.int .u64 q3.f)).setCell ⟨wr.heap.size, 2, none⟩ (.slice q3.L.A q3.L.n q3.L.c)).setCell ⟨wr.heap.size, 3, none⟩ (.slice q3.P.A q3.P.n q3.P.c)).setCell ⟨wr.heap.size, 4, none⟩ (.int .u64 q3.h)).setCell ⟨wr.heap.size, 5, none⟩ (.int .u64 q3.t)).setCell ⟨wr.heap.size, 6, none⟩ (.slice q3.K.A q3.K.n q3.K.c)).setCell ⟨wr.heap.size, 7, none⟩ (.slice q3.X.A q3.X.n q3.X.c)).setCell ⟨wr.heap.size, 8, none⟩ (.slice q3.S.A q3.S.n q3.S.c)) wr.heap.size 25 #[.int .u64 q3.e, .int .u64 q3.f, .slice q3.L.A q3.L.n q3.L.c, .slice q3.P.A q3.P.n q3.P.c, .int .u64 q3.h, .int .u64 q3.t, .slice q3.K.A q3.K.n q3.K.c, .slice q3.X.A q3.X.n q3.X.c, .slice q3.S.A q3.S.n q3.S.c]) := Lib.hid (blk_nine Z3.out)
             have BB : Hid (Below wr.heap.size wr (((((((((w3.setCell ⟨wr.heap.size, 0, none⟩ (.int .u64 q3.e)).setCell ⟨wr.heap.size, 1, none⟩ (.int .u64 q3.f)).setCell ⟨wr.heap.size, 2, none⟩ (.slice q3.L.A q3.L.n q3.L.c)).setCell ⟨wr.heap.size, 3, none⟩ (.slice q3.P.A q3.P.n q3.P.c)).setCell ⟨wr.heap.size, 4, none⟩ (.int .u64 q3.h)).setCell ⟨wr.heap.size, 5, none⟩ (.int .u64 q3.t)).setCell ⟨wr.heap.size, 6, none⟩ (.slice q3.K.A q3.K.n q3.K.c)).setCell ⟨wr.heap.size, 7, none⟩ (.slice q3.X.A q3.X.n q3.X.c)).setCell ⟨wr.heap.size, 8, none⟩ (.slice q3.S.A q3.S.n q3.S.c))) := Lib.hid (below_nine D3.out (Nat.le_refl _) _ _ _ _ _ _ _ _ _)
             have R4 : Hid (Rm (((((((((w3.setCell ⟨wr.heap.size, 0, none⟩ (.int .u64 q3.e)).setCell ⟨wr.heap.size, 1, none⟩ (.int .u64 q3.f)).setCell ⟨wr.heap.size, 2, none⟩ (.slice q3.L.A q3.L.n q3.L.c)).setCell ⟨wr.heap.size, 3, none⟩ (.slice q3.P.A q3.P.n q3.P.c)).setCell ⟨wr.heap.size, 4, none⟩ (.int .u64 q3.h)).setCell ⟨wr.heap.size, 5, none⟩ (.int .u64 q3.t)).setCell ⟨wr.heap.size, 6, none⟩ (.slice q3.K.A q3.K.n q3.K.c)).setCell ⟨wr.heap.size, 7, none⟩ (.slice q3.X.A q3.X.n q3.X.c)).setCell ⟨wr.heap.size, 8, none⟩ (.slice q3.S.A q3.S.n q3.S.c)) (((((((((w3.setCell ⟨wr.heap.size, 0, none⟩ (.int .u64 q3.e)).setCell ⟨wr.heap.size, 1, none⟩ (.int .u64 q3.f)).setCell ⟨wr.heap.size, 2, none⟩ (.slice q3.L.A q3.L.n q3.L.c)).setCell ⟨wr.heap.size, 3, none⟩ (.slice q3.P.A q3.P.n q3.P.c)).setCell ⟨wr.heap.size, 4, none⟩ (.int .u64 q3.h)).setCell ⟨wr.heap.size, 5, none⟩ (.int .u64 q3.t)).setCell ⟨wr.heap.size, 6, none⟩ (.slice q3.K.A q3.K.n q3.K.c)).setCell ⟨wr.heap.size, 7, none⟩ (.slice q3.X.A q3.X.n q3.X.c)).setCell ⟨wr.heap.size, 8, none⟩ (.slice q3.S.A q3.S.n q3.S.c)).heap.size q3 (acc mq x.c).1) := Lib.hid (by
               have := rm_nine R3.out (HB3.out wr.heap.size (by simp) (off_rm HR.out (Nat.le_refl _))) q3
               simpa only [size_set] using this)
             generalize (((((((((w3.setCell ⟨wr.heap.size, 0, none⟩ (.int .u64 q3.e)).setCell ⟨wr.heap.size, 1, none⟩ (.int .u64 q3.f)).setCell ⟨wr.heap.size, 2, none⟩ (.slice q3.L.A q3.L.n q3.L.c)).setCell ⟨wr.heap.size, 3, none⟩ (.slice q3.P.A q3.P.n q3.P.c)).setCell ⟨wr.heap.size, 4, none⟩ (.int .u64 q3.h)).setCell ⟨wr.heap.size, 5, none⟩ (.int .u64 q3.t)).setCell ⟨wr.heap.size, 6, none⟩ (.slice q3.K.A q3.K.n q3.K.c)).setCell ⟨wr.heap.size, 7, none⟩ (.slice q3.X.A q3.X.n q3.X.c)).setCell ⟨wr.heap.size, 8, none⟩ (.slice q3.S.A q3.S.n q3.S.c)) = W4 at N4 BB R4 ⊢
             have D4 : Hid (Below wr.heap.size wr W4) := BB
             have G4 := Lib.hid (HV.out.below D4.out hzg)
             have Y4 := Lib.hid (HYB.out.below D4.out hzy)
             have B4 := Lib.hid (HBW.out.trans (D4.out.mono hbs))
             obtain ⟨_, _, _, _, _, _, s6', s7'⟩ := (HS.out.below (D4.out.mono hbs)).step HX.out
             have hn4 := N4.out.cell
             have hg4 := G4.out.cell
             have hfg4 := G4.out.frozen
             have hy4 := Y4.out.cell
             have hfy4 := Y4.out.frozen
             have f1 := Lib.hid (HB3.out g (by simp; omega) HO1.out)
             have f2 : Hid (∀ b, b ≤ w.heap.size + 1 → Off q3 b) := Lib.hid (fun b hb => HB3.out b (Nat.lt_of_le_of_lt hb (by simp; omega)) (HO2.out b hb))
             clear s0 s1 s2 s3 s4 s5 s6 s7 hcv
             go_wp2
             go_roundw
             case rel =>
               refine ⟨j + 1, q3, (acc mq x.c).1, by go_num, by omega, ?_, blk_nine G4.out, blk_nine_far Y4.out (by omega), ?_, f1.out, f2.out, below_nine B4.out (by omega) _ _ _ _ _ _ _ _ _⟩
               · rw [replay_take RP.out HX.out, if_pos ⟨E1.out, E2.out⟩]
               · have := rm_nine R4.out f1.out q3
                 simpa only [size_set] using this
             case measure => simp [intOf]; omega
            )
      · have q2 : (!(z == x.dn)) = true := by simp [h2]
        have HN2 := Lib.hid h2
        clear h2
        go_wp2_with fail
        go_region_law (first | (go_simp; go_at_call 18; (with_reducible refine (refdo_c _ _ q mq x.c HR.out.drew (Nat.le_refl _) FQ.out XC.out).mono ?_); rintro e w3 ⟨q3, he, hr3, hb3, ho3⟩; go_must (rw [E1.out, E2.out] at he; subst he); have tok1 : True := trivial; go_must (have D3 : Hid (Below wr.heap.size wr w3) := Lib.hid ((Below.refl _ _).drew.trans hb3)); have Z3 := D3; have HB3 := Lib.hid ho3; have R3 := Lib.hid hr3; clear hr3 hb3 ho3) | (go_simp; go_at_call 18; (with_reducible refine (refdo_c _ _ q mq x.c (HR.out.alloc (Nat.le_refl _) _).drew (by simp) FQ.out XC.out).mono ?_); rintro e w3 ⟨q3, he, hr3, hb3, ho3⟩; go_must (rw [E1.out, E2.out] at he; subst he); have tok2 : True := trivial; go_must (have D3 : Hid (Below wr.heap.size wr w3) := Lib.hid (((Below.refl _ _).alloc (Nat.le_refl _) (.cells #[.int .u64 0, .int .u64 0, .slice none 0 0, .slice none 0 0, .int .u64 0, .int .u64 0, .slice none 0 0, .slice none 0 0, .slice none 0 0] 25)).drew.trans (hb3.mono (by simp))); have Z3 : Hid (Blk w3 wr.heap.size 25 #[.int .u64 0, .int .u64 0, .slice none 0 0, .slice none 0 0, .int .u64 0, .int .u64 0, .slice none 0 0, .slice none 0 0, .slice none 0 0]) := Lib.hid (((Blk.new wr 25 #[.int .u64 0, .int .u64 0, .slice none 0 0, .slice none 0 0, .int .u64 0, .int .u64 0, .slice none 0 0, .slice none 0 0, .slice none 0 0]).drew).below hb3 (by simp))); have hz3 := Z3.out.cell; have hf3 := Z3.out.frozen; have HB3 := Lib.hid ho3; have R3 := Lib.hid hr3; clear hr3 hb3 ho3))
        all_goals first
          | (clear tok1; have tok1 : True := trivial
             clear tok1 Z3
             have N4 : Hid (Blk (w3.alloc (.cells #[.int .u64 q3.e, .int .u64 q3.f, .slice q3.L.A q3.L.n q3.L.c, .slice q3.P.A q3.P.n q3.P.c, .int .u64 q3.h, .int .u64 q3.t, .slice q3.K.A q3.K.n q3.K.c, .slice q3.X.A q3.X.n q3.X.c, .slice q3.S.A q3.S.n q3.S.c] 25)) w3.heap.size 25 #[.int .u64 q3.e, .int .u64 q3.f, .slice q3.L.A q3.L.n q3.L.c, .slice q3.P.A q3.P.n q3.P.c, .int .u64 q3.h, .int .u64 q3.t, .slice q3.K.A q3.K.n q3.K.c, .slice q3.X.A q3.X.n q3.X.c, .slice q3.S.A q3.S.n q3.S.c]) := Lib.hid (Blk.new _ _ _)
             have BB : Hid (Below wr.heap.size wr (w3.alloc (.cells #[.int .u64 q3.e, .int .u64 q3.f, .slice q3.L.A q3.L.n q3.L.c, .slice q3.P.A q3.P.n q3.P.c, .int .u64 q3.h, .int .u64 q3.t, .slice q3.K.A q3.K.n q3.K.c, .slice q3.X.A q3.X.n q3.X.c, .slice q3.S.A q3.S.n q3.S.c] 25))) := Lib.hid (D3.out.alloc D3.out.size _)
             have R4 : Hid (Rm (w3.alloc (.cells #[.int .u64 q3.e, .int .u64 q3.f, .slice q3.L.A q3.L.n q3.L.c, .slice q3.P.A q3.P.n q3.P.c, .int .u64 q3.h, .int .u64 q3.t, .slice q3.K.A q3.K.n q3.K.c, .slice q3.X.A q3.X.n q3.X.c, .slice q3.S.A q3.S.n q3.S.c] 25)) (w3.alloc (.cells #[.int .u64 q3.e, .int .u64 q3.f, .slice q3.L.A q3.L.n q3.L.c, .slice q3.P.A q3.P.n q3.P.c, .int .u64 q3.h, .int .u64 q3.t, .slice q3.K.A q3.K.n q3.K.c, .slice q3.X.A q3.X.n q3.X.c, .slice q3.S.A q3.S.n q3.S.c] 25)).heap.size q3 (acc mq x.c).1) := Lib.hid ((R3.out.alloc (Nat.le_refl _) _).more (by simp))
             have hp4 := D3.out.size
             generalize w3.alloc (.cells #[.int .u64 q3.e, .int .u64 q3.f, .slice q3.L.A q3.L.n q3.L.c, .slice q3.P.A q3.P.n q3.P.c, .int .u64 q3.h, .int .u64 q3.t, .slice q3.K.A q3.K.n q3.K.c, .slice q3.X.A q3.X.n q3.X.c, .slice q3.S.A q3.S.n q3.S.c] 25) = W4 at N4 BB R4 ⊢
             have D4 : Hid (Below wr.heap.size wr W4) := BB
             have G4 := Lib.hid (HV.out.below D4.out hzg)
             have Y4 := Lib.hid (HYB.out.below D4.out hzy)
             have B4 := Lib.hid (HBW.out.trans (D4.out.mono hbs))
             obtain ⟨_, _, _, _, _, _, s6', s7'⟩ := (HS.out.below (D4.out.mono hbs)).step HX.out
             have hn4 := N4.out.cell
             have hg4 := G4.out.cell
             have hfg4 := G4.out.frozen
             have hy4 := Y4.out.cell
             have hfy4 := Y4.out.frozen
             have f1 := Lib.hid (HB3.out g hzg HO1.out)
             have f2 : Hid (∀ b, b ≤ w.heap.size + 1 → Off q3 b) := Lib.hid (fun b hb => HB3.out b (Nat.lt_of_le_of_lt hb hzy) (HO2.out b hb))
             clear s0 s1 s2 s3 s4 s5 s6 s7 hcv
             go_wp2
             refine bodyPost_ret (v := .tuple #[.agg #[.int .u64 0, .int .u64 0, .slice none 0 0, .slice none 0 0, .int .u64 0, .int .u64 0, .slice none 0 0, .slice none 0 0, .slice none 0 0], .bool false]) (by simp [results, Try.results24, go_sem, hy4]) rfl ?_
             refine ⟨.inr ⟨replay_none (k := j + 1) ?_, rfl⟩, below_nine B4.out (by omega) _ _ _ _ _ _ _ _ _⟩
             rw [replay_take RP.out HX.out, if_neg (fun hf => HN2.out (E2.out.symm.trans hf.2))]
            )
          | (clear tok2; have tok2 : True := trivial
             clear tok2 hz3 hf3
             have N4 : Hid (Blk (((((((((w3.setCell ⟨wr.heap.size, 0, none⟩ (.int .u64 q3.e)).setCell ⟨wr.heap.size, 1, none⟩ (.int .u64 q3.f)).setCell ⟨wr.heap.size, 2, none⟩ (.slice q3.L.A q3.L.n q3.L.c)).setCell ⟨wr.heap.size, 3, none⟩ (.slice q3.P.A q3.P.n q3.P.c)).setCell ⟨wr.heap.size, 4, none⟩ (.int .u64 q3.h)).setCell ⟨wr.heap.size, 5, none⟩ (.int .u64 q3.t)).setCell ⟨wr.heap.size, 6, none⟩ (.slice q3.K.A q3.K.n q3.K.c)).setCell ⟨wr.heap.size, 7, none⟩ (.slice q3.X.A q3.X.n q3.X.c)).setCell ⟨wr.heap.size, 8, none⟩ (.slice q3.S.A q3.S.n q3.S.c)) wr.heap.size 25 #[.int .u64 q3.e, .int .u64 q3.f, .slice q3.L.A q3.L.n q3.L.c, .slice q3.P.A q3.P.n q3.P.c, .int .u64 q3.h, .int .u64 q3.t, .slice q3.K.A q3.K.n q3.K.c, .slice q3.X.A q3.X.n q3.X.c, .slice q3.S.A q3.S.n q3.S.c]) := Lib.hid (blk_nine Z3.out)
             have BB : Hid (Below wr.heap.size wr (((((((((w3.setCell ⟨wr.heap.size, 0, none⟩ (.int .u64 q3.e)).setCell ⟨wr.heap.size, 1, none⟩ (.int .u64 q3.f)).setCell ⟨wr.heap.size, 2, none⟩ (.slice q3.L.A q3.L.n q3.L.c)).setCell ⟨wr.heap.size, 3, none⟩ (.slice q3.P.A q3.P.n q3.P.c)).setCell ⟨wr.heap.size, 4, none⟩ (.int .u64 q3.h)).setCell ⟨wr.heap.size, 5, none⟩ (.int .u64 q3.t)).setCell ⟨wr.heap.size, 6, none⟩ (.slice q3.K.A q3.K.n q3.K.c)).setCell ⟨wr.heap.size, 7, none⟩ (.slice q3.X.A q3.X.n q3.X.c)).setCell ⟨wr.heap.size, 8, none⟩ (.slice q3.S.A q3.S.n q3.S.c))) := Lib.hid (below_nine D3.out (Nat.le_refl _) _ _ _ _ _ _ _ _ _)
             have R4 : Hid (Rm (((((((((w3.setCell ⟨wr.heap.size, 0, none⟩ (.int .u64 q3.e)).setCell ⟨wr.heap.size, 1, none⟩ (.int .u64 q3.f)).setCell ⟨wr.heap.size, 2, none⟩ (.slice q3.L.A q3.L.n q3.L.c)).setCell ⟨wr.heap.size, 3, none⟩ (.slice q3.P.A q3.P.n q3.P.c)).setCell ⟨wr.heap.size, 4, none⟩ (.int .u64 q3.h)).setCell ⟨wr.heap.size, 5, none⟩ (.int .u64 q3.t)).setCell ⟨wr.heap.size, 6, none⟩ (.slice q3.K.A q3.K.n q3.K.c)).setCell ⟨wr.heap.size, 7, none⟩ (.slice q3.X.A q3.X.n q3.X.c)).setCell ⟨wr.heap.size, 8, none⟩ (.slice q3.S.A q3.S.n q3.S.c)) (((((((((w3.setCell ⟨wr.heap.size, 0, none⟩ (.int .u64 q3.e)).setCell ⟨wr.heap.size, 1, none⟩ (.int .u64 q3.f)).setCell ⟨wr.heap.size, 2, none⟩ (.slice q3.L.A q3.L.n q3.L.c)).setCell ⟨wr.heap.size, 3, none⟩ (.slice q3.P.A q3.P.n q3.P.c)).setCell ⟨wr.heap.size, 4, none⟩ (.int .u64 q3.h)).setCell ⟨wr.heap.size, 5, none⟩ (.int .u64 q3.t)).setCell ⟨wr.heap.size, 6, none⟩ (.slice q3.K.A q3.K.n q3.K.c)).setCell ⟨wr.heap.size, 7, none⟩ (.slice q3.X.A q3.X.n q3.X.c)).setCell ⟨wr.heap.size, 8, none⟩ (.slice q3.S.A q3.S.n q3.S.c)).heap.size q3 (acc mq x.c).1) := Lib.hid (by
               have := rm_nine R3.out (HB3.out wr.heap.size (by simp) (off_rm HR.out (Nat.le_refl _))) q3
               simpa only [size_set] using this)
             generalize (((((((((w3.setCell ⟨wr.heap.size, 0, none⟩ (.int .u64 q3.e)).setCell ⟨wr.heap.size, 1, none⟩ (.int .u64 q3.f)).setCell ⟨wr.heap.size, 2, none⟩ (.slice q3.L.A q3.L.n q3.L.c)).setCell ⟨wr.heap.size, 3, none⟩ (.slice q3.P.A q3.P.n q3.P.c)).setCell ⟨wr.heap.size, 4, none⟩ (.int .u64 q3.h)).setCell ⟨wr.heap.size, 5, none⟩ (.int .u64 q3.t)).setCell ⟨wr.heap.size, 6, none⟩ (.slice q3.K.A q3.K.n q3.K.c)).setCell ⟨wr.heap.size, 7, none⟩ (.slice q3.X.A q3.X.n q3.X.c)).setCell ⟨wr.heap.size, 8, none⟩ (.slice q3.S.A q3.S.n q3.S.c)) = W4 at N4 BB R4 ⊢
             have D4 : Hid (Below wr.heap.size wr W4) := BB
             have G4 := Lib.hid (HV.out.below D4.out hzg)
             have Y4 := Lib.hid (HYB.out.below D4.out hzy)
             have B4 := Lib.hid (HBW.out.trans (D4.out.mono hbs))
             obtain ⟨_, _, _, _, _, _, s6', s7'⟩ := (HS.out.below (D4.out.mono hbs)).step HX.out
             have hn4 := N4.out.cell
             have hg4 := G4.out.cell
             have hfg4 := G4.out.frozen
             have hy4 := Y4.out.cell
             have hfy4 := Y4.out.frozen
             have f1 := Lib.hid (HB3.out g (by simp; omega) HO1.out)
             have f2 : Hid (∀ b, b ≤ w.heap.size + 1 → Off q3 b) := Lib.hid (fun b hb => HB3.out b (Nat.lt_of_le_of_lt hb (by simp; omega)) (HO2.out b hb))
             clear s0 s1 s2 s3 s4 s5 s6 s7 hcv
             go_wp2
             refine bodyPost_ret (v := .tuple #[.agg #[.int .u64 0, .int .u64 0, .slice none 0 0, .slice none 0 0, .int .u64 0, .int .u64 0, .slice none 0 0, .slice none 0 0, .slice none 0 0], .bool false]) (by simp [results, Try.results24, go_sem, hy4]) rfl ?_
             refine ⟨.inr ⟨replay_none (k := j + 1) ?_, rfl⟩, below_nine B4.out (by omega) _ _ _ _ _ _ _ _ _⟩
             rw [replay_take RP.out HX.out, if_neg (fun hf => HN2.out (E2.out.symm.trans hf.2))]
            )
    · have q1 : (y != x.was) = true := by simp [h1]
      have HN1 := Lib.hid h1
      clear h1
      go_wp2_with fail
      go_region_law (first | (go_simp; go_at_call 18; (with_reducible refine (refdo_c _ _ q mq x.c HR.out.drew (Nat.le_refl _) FQ.out XC.out).mono ?_); rintro e w3 ⟨q3, he, hr3, hb3, ho3⟩; go_must (rw [E1.out, E2.out] at he; subst he); have tok1 : True := trivial; go_must (have D3 : Hid (Below wr.heap.size wr w3) := Lib.hid ((Below.refl _ _).drew.trans hb3)); have Z3 := D3; have HB3 := Lib.hid ho3; have R3 := Lib.hid hr3; clear hr3 hb3 ho3) | (go_simp; go_at_call 18; (with_reducible refine (refdo_c _ _ q mq x.c (HR.out.alloc (Nat.le_refl _) _).drew (by simp) FQ.out XC.out).mono ?_); rintro e w3 ⟨q3, he, hr3, hb3, ho3⟩; go_must (rw [E1.out, E2.out] at he; subst he); have tok2 : True := trivial; go_must (have D3 : Hid (Below wr.heap.size wr w3) := Lib.hid (((Below.refl _ _).alloc (Nat.le_refl _) (.cells #[.int .u64 0, .int .u64 0, .slice none 0 0, .slice none 0 0, .int .u64 0, .int .u64 0, .slice none 0 0, .slice none 0 0, .slice none 0 0] 25)).drew.trans (hb3.mono (by simp))); have Z3 : Hid (Blk w3 wr.heap.size 25 #[.int .u64 0, .int .u64 0, .slice none 0 0, .slice none 0 0, .int .u64 0, .int .u64 0, .slice none 0 0, .slice none 0 0, .slice none 0 0]) := Lib.hid (((Blk.new wr 25 #[.int .u64 0, .int .u64 0, .slice none 0 0, .slice none 0 0, .int .u64 0, .int .u64 0, .slice none 0 0, .slice none 0 0, .slice none 0 0]).drew).below hb3 (by simp))); have hz3 := Z3.out.cell; have hf3 := Z3.out.frozen; have HB3 := Lib.hid ho3; have R3 := Lib.hid hr3; clear hr3 hb3 ho3))
      all_goals first
        | (clear tok1; have tok1 : True := trivial
           clear tok1 Z3
           have N4 : Hid (Blk (w3.alloc (.cells #[.int .u64 q3.e, .int .u64 q3.f, .slice q3.L.A q3.L.n q3.L.c, .slice q3.P.A q3.P.n q3.P.c, .int .u64 q3.h, .int .u64 q3.t, .slice q3.K.A q3.K.n q3.K.c, .slice q3.X.A q3.X.n q3.X.c, .slice q3.S.A q3.S.n q3.S.c] 25)) w3.heap.size 25 #[.int .u64 q3.e, .int .u64 q3.f, .slice q3.L.A q3.L.n q3.L.c, .slice q3.P.A q3.P.n q3.P.c, .int .u64 q3.h, .int .u64 q3.t, .slice q3.K.A q3.K.n q3.K.c, .slice q3.X.A q3.X.n q3.X.c, .slice q3.S.A q3.S.n q3.S.c]) := Lib.hid (Blk.new _ _ _)
           have BB : Hid (Below wr.heap.size wr (w3.alloc (.cells #[.int .u64 q3.e, .int .u64 q3.f, .slice q3.L.A q3.L.n q3.L.c, .slice q3.P.A q3.P.n q3.P.c, .int .u64 q3.h, .int .u64 q3.t, .slice q3.K.A q3.K.n q3.K.c, .slice q3.X.A q3.X.n q3.X.c, .slice q3.S.A q3.S.n q3.S.c] 25))) := Lib.hid (D3.out.alloc D3.out.size _)
           have R4 : Hid (Rm (w3.alloc (.cells #[.int .u64 q3.e, .int .u64 q3.f, .slice q3.L.A q3.L.n q3.L.c, .slice q3.P.A q3.P.n q3.P.c, .int .u64 q3.h, .int .u64 q3.t, .slice q3.K.A q3.K.n q3.K.c, .slice q3.X.A q3.X.n q3.X.c, .slice q3.S.A q3.S.n q3.S.c] 25)) (w3.alloc (.cells #[.int .u64 q3.e, .int .u64 q3.f, .slice q3.L.A q3.L.n q3.L.c, .slice q3.P.A q3.P.n q3.P.c, .int .u64 q3.h, .int .u64 q3.t, .slice q3.K.A q3.K.n q3.K.c, .slice q3.X.A q3.X.n q3.X.c, .slice q3.S.A q3.S.n q3.S.c] 25)).heap.size q3 (acc mq x.c).1) := Lib.hid ((R3.out.alloc (Nat.le_refl _) _).more (by simp))
           have hp4 := D3.out.size
           generalize w3.alloc (.cells #[.int .u64 q3.e, .int .u64 q3.f, .slice q3.L.A q3.L.n q3.L.c, .slice q3.P.A q3.P.n q3.P.c, .int .u64 q3.h, .int .u64 q3.t, .slice q3.K.A q3.K.n q3.K.c, .slice q3.X.A q3.X.n q3.X.c, .slice q3.S.A q3.S.n q3.S.c] 25) = W4 at N4 BB R4 ⊢
           have D4 : Hid (Below wr.heap.size wr W4) := BB
           have G4 := Lib.hid (HV.out.below D4.out hzg)
           have Y4 := Lib.hid (HYB.out.below D4.out hzy)
           have B4 := Lib.hid (HBW.out.trans (D4.out.mono hbs))
           obtain ⟨_, _, _, _, _, _, s6', s7'⟩ := (HS.out.below (D4.out.mono hbs)).step HX.out
           have hn4 := N4.out.cell
           have hg4 := G4.out.cell
           have hfg4 := G4.out.frozen
           have hy4 := Y4.out.cell
           have hfy4 := Y4.out.frozen
           have f1 := Lib.hid (HB3.out g hzg HO1.out)
           have f2 : Hid (∀ b, b ≤ w.heap.size + 1 → Off q3 b) := Lib.hid (fun b hb => HB3.out b (Nat.lt_of_le_of_lt hb hzy) (HO2.out b hb))
           clear s0 s1 s2 s3 s4 s5 s6 s7 hcv
           go_wp2
           refine bodyPost_ret (v := .tuple #[.agg #[.int .u64 0, .int .u64 0, .slice none 0 0, .slice none 0 0, .int .u64 0, .int .u64 0, .slice none 0 0, .slice none 0 0, .slice none 0 0], .bool false]) (by simp [results, Try.results24, go_sem, hy4]) rfl ?_
           refine ⟨.inr ⟨replay_none (k := j + 1) ?_, rfl⟩, below_nine B4.out (by omega) _ _ _ _ _ _ _ _ _⟩
           rw [replay_take RP.out HX.out, if_neg (fun hf => HN1.out (E1.out.symm.trans hf.1))]
          )
        | (clear tok2; have tok2 : True := trivial
           clear tok2 hz3 hf3
           have N4 : Hid (Blk (((((((((w3.setCell ⟨wr.heap.size, 0, none⟩ (.int .u64 q3.e)).setCell ⟨wr.heap.size, 1, none⟩ (.int .u64 q3.f)).setCell ⟨wr.heap.size, 2, none⟩ (.slice q3.L.A q3.L.n q3.L.c)).setCell ⟨wr.heap.size, 3, none⟩ (.slice q3.P.A q3.P.n q3.P.c)).setCell ⟨wr.heap.size, 4, none⟩ (.int .u64 q3.h)).setCell ⟨wr.heap.size, 5, none⟩ (.int .u64 q3.t)).setCell ⟨wr.heap.size, 6, none⟩ (.slice q3.K.A q3.K.n q3.K.c)).setCell ⟨wr.heap.size, 7, none⟩ (.slice q3.X.A q3.X.n q3.X.c)).setCell ⟨wr.heap.size, 8, none⟩ (.slice q3.S.A q3.S.n q3.S.c)) wr.heap.size 25 #[.int .u64 q3.e, .int .u64 q3.f, .slice q3.L.A q3.L.n q3.L.c, .slice q3.P.A q3.P.n q3.P.c, .int .u64 q3.h, .int .u64 q3.t, .slice q3.K.A q3.K.n q3.K.c, .slice q3.X.A q3.X.n q3.X.c, .slice q3.S.A q3.S.n q3.S.c]) := Lib.hid (blk_nine Z3.out)
           have BB : Hid (Below wr.heap.size wr (((((((((w3.setCell ⟨wr.heap.size, 0, none⟩ (.int .u64 q3.e)).setCell ⟨wr.heap.size, 1, none⟩ (.int .u64 q3.f)).setCell ⟨wr.heap.size, 2, none⟩ (.slice q3.L.A q3.L.n q3.L.c)).setCell ⟨wr.heap.size, 3, none⟩ (.slice q3.P.A q3.P.n q3.P.c)).setCell ⟨wr.heap.size, 4, none⟩ (.int .u64 q3.h)).setCell ⟨wr.heap.size, 5, none⟩ (.int .u64 q3.t)).setCell ⟨wr.heap.size, 6, none⟩ (.slice q3.K.A q3.K.n q3.K.c)).setCell ⟨wr.heap.size, 7, none⟩ (.slice q3.X.A q3.X.n q3.X.c)).setCell ⟨wr.heap.size, 8, none⟩ (.slice q3.S.A q3.S.n q3.S.c))) := Lib.hid (below_nine D3.out (Nat.le_refl _) _ _ _ _ _ _ _ _ _)
           have R4 : Hid (Rm (((((((((w3.setCell ⟨wr.heap.size, 0, none⟩ (.int .u64 q3.e)).setCell ⟨wr.heap.size, 1, none⟩ (.int .u64 q3.f)).setCell ⟨wr.heap.size, 2, none⟩ (.slice q3.L.A q3.L.n q3.L.c)).setCell ⟨wr.heap.size, 3, none⟩ (.slice q3.P.A q3.P.n q3.P.c)).setCell ⟨wr.heap.size, 4, none⟩ (.int .u64 q3.h)).setCell ⟨wr.heap.size, 5, none⟩ (.int .u64 q3.t)).setCell ⟨wr.heap.size, 6, none⟩ (.slice q3.K.A q3.K.n q3.K.c)).setCell ⟨wr.heap.size, 7, none⟩ (.slice q3.X.A q3.X.n q3.X.c)).setCell ⟨wr.heap.size, 8, none⟩ (.slice q3.S.A q3.S.n q3.S.c)) (((((((((w3.setCell ⟨wr.heap.size, 0, none⟩ (.int .u64 q3.e)).setCell ⟨wr.heap.size, 1, none⟩ (.int .u64 q3.f)).setCell ⟨wr.heap.size, 2, none⟩ (.slice q3.L.A q3.L.n q3.L.c)).setCell ⟨wr.heap.size, 3, none⟩ (.slice q3.P.A q3.P.n q3.P.c)).setCell ⟨wr.heap.size, 4, none⟩ (.int .u64 q3.h)).setCell ⟨wr.heap.size, 5, none⟩ (.int .u64 q3.t)).setCell ⟨wr.heap.size, 6, none⟩ (.slice q3.K.A q3.K.n q3.K.c)).setCell ⟨wr.heap.size, 7, none⟩ (.slice q3.X.A q3.X.n q3.X.c)).setCell ⟨wr.heap.size, 8, none⟩ (.slice q3.S.A q3.S.n q3.S.c)).heap.size q3 (acc mq x.c).1) := Lib.hid (by
             have := rm_nine R3.out (HB3.out wr.heap.size (by simp) (off_rm HR.out (Nat.le_refl _))) q3
             simpa only [size_set] using this)
           generalize (((((((((w3.setCell ⟨wr.heap.size, 0, none⟩ (.int .u64 q3.e)).setCell ⟨wr.heap.size, 1, none⟩ (.int .u64 q3.f)).setCell ⟨wr.heap.size, 2, none⟩ (.slice q3.L.A q3.L.n q3.L.c)).setCell ⟨wr.heap.size, 3, none⟩ (.slice q3.P.A q3.P.n q3.P.c)).setCell ⟨wr.heap.size, 4, none⟩ (.int .u64 q3.h)).setCell ⟨wr.heap.size, 5, none⟩ (.int .u64 q3.t)).setCell ⟨wr.heap.size, 6, none⟩ (.slice q3.K.A q3.K.n q3.K.c)).setCell ⟨wr.heap.size, 7, none⟩ (.slice q3.X.A q3.X.n q3.X.c)).setCell ⟨wr.heap.size, 8, none⟩ (.slice q3.S.A q3.S.n q3.S.c)) = W4 at N4 BB R4 ⊢
           have D4 : Hid (Below wr.heap.size wr W4) := BB
           have G4 := Lib.hid (HV.out.below D4.out hzg)
           have Y4 := Lib.hid (HYB.out.below D4.out hzy)
           have B4 := Lib.hid (HBW.out.trans (D4.out.mono hbs))
           obtain ⟨_, _, _, _, _, _, s6', s7'⟩ := (HS.out.below (D4.out.mono hbs)).step HX.out
           have hn4 := N4.out.cell
           have hg4 := G4.out.cell
           have hfg4 := G4.out.frozen
           have hy4 := Y4.out.cell
           have hfy4 := Y4.out.frozen
           have f1 := Lib.hid (HB3.out g (by simp; omega) HO1.out)
           have f2 : Hid (∀ b, b ≤ w.heap.size + 1 → Off q3 b) := Lib.hid (fun b hb => HB3.out b (Nat.lt_of_le_of_lt hb (by simp; omega)) (HO2.out b hb))
           clear s0 s1 s2 s3 s4 s5 s6 s7 hcv
           go_wp2
           refine bodyPost_ret (v := .tuple #[.agg #[.int .u64 0, .int .u64 0, .slice none 0 0, .slice none 0 0, .int .u64 0, .int .u64 0, .slice none 0 0, .slice none 0 0, .slice none 0 0], .bool false]) (by simp [results, Try.results24, go_sem, hy4]) rfl ?_
           refine ⟨.inr ⟨replay_none (k := j + 1) ?_, rfl⟩, below_nine B4.out (by omega) _ _ _ _ _ _ _ _ _⟩
           rw [replay_take RP.out HX.out, if_neg (fun hf => HN1.out (E1.out.symm.trans hf.1))]
          )
  · skip
    obtain rfl : j = n := by omega
    have hcq := HV.out.cell
    have hcy := HYB.out.cell
    have hfy := HYB.out.frozen
    go_wp2
    refine bodyPost_ret (v := .tuple #[.agg #[.int .u64 q.e, .int .u64 q.f, .slice q.L.A q.L.n q.L.c, .slice q.P.A q.P.n q.P.c, .int .u64 q.h, .int .u64 q.t, .slice q.K.A q.K.n q.K.c, .slice q.X.A q.X.n q.X.c, .slice q.S.A q.S.n q.S.c], .bool true]) (by simp [results, Try.results24, go_sem, hcy]) rfl ?_
    have hrep := RP.out
    rw [List.take_of_length_le (by have := HN.out; omega)] at hrep
    have hn := rm_nine (b := w.heap.size + 1) HR.out (HO2.out _ (Nat.le_refl _)) q
    exact ⟨.inl ⟨mq, q, hrep, rfl, by simpa only [size_set] using hn, fun b hb => HO2.out b (by omega)⟩, below_nine HBW.out (by omega) _ _ _ _ _ _ _ _ _⟩
end Go.Proofs.Ytjgbgjkjnlaloaa.Replr
