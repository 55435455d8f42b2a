/- The document's answer for the store: a copy of words, by its contract. -/
import Derived.Test.YtbnadfdajjggdaaRefX
import Derived.Deep.RegionLaw
namespace Go.Proofs.Ytbnadfdajjggdaa.Refc
open Go.RowKit Go.Proofs.Ytbnadfdajjggdaa.Memc
set_option linter.unusedVariables false
attribute [local go_sem ↓] Go.wp_at_zero Go.wp_at_succ

set_option maxHeartbeats 4000000 in
theorem copy_c (w : World) (B : Nat) (r : R) (m : M) (h : Rm w B r m) (hB : B ≤ w.heap.size) (hf : Few m) :
    Calls Try.prog 8 #[.agg #[.int .u64 r.e, .int .u64 r.f, .slice r.L.A r.L.n r.L.c, .slice r.P.A r.P.n r.P.c, .int .u64 r.h, .int .u64 r.t, .slice r.K.A r.K.n r.K.c, .slice r.X.A r.X.n r.X.c, .slice r.S.A r.S.n r.S.c]] w (Gives w m) := by
  have HR : Hid (Rm w w.heap.size r m) := h.more hB
  have HO : Hid (∀ b, w.heap.size ≤ b → Off r b) := Lib.hid (fun b hb => off_rm HR.out hb)
  have HF := Lib.hid hf
  clear h hB hf
  go_enter Try.func8, Try.ntmps8
  go_wp2_with fail
  go_loopw [3] (fun i wr => ∃ (k : Nat) (q : R), i = .int .i64 k ∧ 1 ≤ k ∧ k ≤ 10 ∧ Blk wr w.heap.size 25 #[.int .u64 q.e, .int .u64 q.f, .slice q.L.A q.L.n q.L.c, .slice q.P.A q.P.n q.P.c, .int .u64 q.h, .int .u64 q.t, .slice q.K.A q.K.n q.K.c, .slice q.X.A q.X.n q.X.c, .slice q.S.A q.S.n q.S.c] ∧ Blk wr (w.heap.size + 1) 25 #[.int .u64 0, .int .u64 0, .slice none 0 0, .slice none 0 0, .int .u64 0, .int .u64 0, .slice none 0 0, .slice none 0 0, .slice none 0 0] ∧ Rm wr wr.heap.size q m ∧ Off q w.heap.size ∧ Off q (w.heap.size + 1) ∧ Below w.heap.size w wr) (fun i _ => 10 - (intOf i).toNat)
  case atStart => exact ⟨1, r, rfl, by omega, by omega, (Blk.new _ _ _).alloc _, blk_at (by simp), ((HR.out.alloc (Nat.le_refl _) _).alloc (by simp) _).more (by simp; omega), HO.out _ (Nat.le_refl _), HO.out _ (by omega), ((Below.refl _ _).alloc (Nat.le_refl _) _).alloc (by simp) _⟩
  case round =>
    obtain ⟨k, q, rfl, hk1, hk2, xb, yb, hr, ho1, ho2, hbw⟩ := hrel
    have O1 := Lib.hid ho1
    have O2 := Lib.hid ho2
    have R0 := Lib.hid hr
    have X0 := Lib.hid xb
    have Y0 := Lib.hid yb
    have W0 := Lib.hid hbw
    clear hr hbw ho1 ho2
    by_cases hlt : k < 10
    · have hle : (k : Int) ≤ 9 := by omega
      have kl : -9223372036854775808 ≤ (k : Int) := by omega
      have kh : (k : Int) ≤ 9223372036854775807 := by omega
      have hx := xb.cell
      have hfx := xb.frozen
      have hlx := xb.lt
      have hly := yb.lt
      clear xb yb
      go_wp2_with fail
      have k1' : 1 ≤ (k : Int) := by omega
      have k9' : (k : Int) ≤ 9 := hle
      have HL : Hid (([] : List Int).length + (m.area k).length ≤ 2000000) := Lib.hid (by have := HF.out k (by omega) (by omega); simp; omega)
      go_region_law (first | (go_simp; go_at_call 18; (with_reducible refine (area_c _ _ q m k R0.out.drew (Nat.le_refl _) kl kh).mono ?_); rintro e w1 ⟨s, rfl, hrd, hb1⟩; have HN := Lib.hid hrd; have B1 : Hid (Below wr.heap.size wr w1) := Lib.hid ((Below.refl _ _).drew.trans hb1); have hx1 := (X0.out.below B1.out X0.out.lt).cell; have hfx1 := (X0.out.below B1.out X0.out.lt).frozen; have Z1 := Lib.hid B1.out.size; have hz1 : w.heap.size < w1.heap.size := Nat.lt_of_lt_of_le hlx Z1.out; clear hrd hb1) | (go_simp; go_at_call 18; (with_reducible refine (area_c _ _ q m k (R0.out.alloc (Nat.le_refl _) _).drew (by simp) kl kh).mono ?_); rintro e w1 ⟨s, rfl, hrd, hb1⟩; have HN := Lib.hid hrd; have B1 : Hid (Below wr.heap.size wr w1) := Lib.hid (((Below.refl wr.heap.size wr).alloc (Nat.le_refl _) (.cells #[] 22)).drew.trans (hb1.mono (by simp))); have hx1 := (X0.out.below B1.out X0.out.lt).cell; have hfx1 := (X0.out.below B1.out X0.out.lt).frozen; have Z1 := Lib.hid B1.out.size; have hz1 : w.heap.size < w1.heap.size := Nat.lt_of_lt_of_le hlx Z1.out; have OE := Lib.hid (Own.below (w' := w1) (w := (wr.alloc (.cells #[] 22)).drew) (made_empty (Nat.le_refl wr.heap.size)) hb1 (Nat.le_refl _)); clear hrd hb1) | (refine step_app (by rfl) (.tmp 10) (.tmp 13) (by rfl) wr.heap.size _ ⟨some ⟨wr.heap.size, 0, none⟩, 0, 0⟩ s [] (m.area k) (by rfl) (by rfl) OE.out HN.out HL.out Z1.out ?_; intro s2 w2 ho2 hb2; simp only [List.nil_append] at ho2; have HO2 := Lib.hid ho2; have B2 : Hid (Below wr.heap.size wr w2) := Lib.hid (B1.out.trans hb2); have hx2 := (X0.out.below B2.out X0.out.lt).cell; have hfx2 := (X0.out.below B2.out X0.out.lt).frozen; have Z2 := Lib.hid B2.out.size; clear ho2 hb2 hx1 hfx1) | (refine step_app (by rfl) (.tmp 10) (.tmp 13) (by rfl) wr.heap.size _ ⟨some ⟨w1.heap.size, 0, none⟩, 0, 0⟩ s [] (m.area k) (by rfl) (by rfl) (made_empty Z1.out) (HN.out.alloc (Nat.le_refl _) _) HL.out (Nat.le_trans Z1.out (by simp)) ?_; intro s2 w2 ho2 hb2; simp only [List.nil_append] at ho2; have HO2 := Lib.hid ho2; have B2 : Hid (Below wr.heap.size wr w2) := Lib.hid ((B1.out.alloc Z1.out _).trans hb2); have hx2 := (X0.out.below B2.out X0.out.lt).cell; have hfx2 := (X0.out.below B2.out X0.out.lt).frozen; have Z2 := Lib.hid B2.out.size; clear ho2 hb2 hx1 hfx1) | (go_simp; go_at_call 19; (with_reducible refine (with_c _ w2.heap.size q m s2 k (m.area k) ((R0.out.below B2.out).more Z2.out) HO2.out.rd (Nat.le_refl _) rfl k1' k9').mono ?_); rintro e w3 ⟨q3, rfl, hr3, hb3, hq3⟩; have R3 := Lib.hid hr3; have Q3 := Lib.hid hq3; have B3 : Hid (Below wr.heap.size wr w3) := Lib.hid (B2.out.trans (hb3.mono Z2.out)); have hx3 := (X0.out.below B3.out X0.out.lt).cell; have hfx3 := (X0.out.below B3.out X0.out.lt).frozen; clear hr3 hb3 hq3 hx2 hfx2))
      all_goals
        go_wp2
        go_roundw
        case rel =>
          have hs2 : ∀ b, b < wr.heap.size → ∀ ad, s2.A = some ad → ad.block ≠ b := fun b hb ad had => by have := (HO2.out.lt had).1; omega
          have f1 := off_puts Q3.out O1.out (hs2 _ hlx)
          have f2 := off_puts Q3.out O2.out (hs2 _ hly)
          have h3 := R3.out
          rw [put_area] at h3
          refine ⟨k + 1, q3, by go_num, by omega, by omega, blk_nine (X0.out.below B3.out hlx), blk_nine_far (Y0.out.below B3.out hly) (by omega), ?_, f1, f2, below_nine (W0.out.trans (B3.out.mono W0.out.size)) (Nat.le_refl _) _ _ _ _ _ _ _ _ _⟩
          have := rm_nine h3 f1 q3
          simpa only [size_set] using this
        case measure => simp [intOf]; omega
    · have HX := Lib.hid xb
      have HY := Lib.hid yb
      have hx := xb.cell
      have hy := yb.cell
      have hfy := yb.frozen
      clear xb yb
      obtain rfl : k = 10 := by omega
      go_wp2
      refine bodyPost_ret (v := .agg #[.int .u64 q.e, .int .u64 q.f, .slice q.L.A q.L.n q.L.c, .slice q.P.A q.P.n q.P.c, .int .u64 q.h, .int .u64 q.t, .slice q.K.A q.K.n q.K.c, .slice q.X.A q.X.n q.X.c, .slice q.S.A q.S.n q.S.c]) (by simp [results, Try.results8, go_sem, hy]) rfl ?_
      refine ⟨q, rfl, ?_, below_nine W0.out (by omega) _ _ _ _ _ _ _ _ _⟩
      have := rm_nine R0.out O2.out q
      simpa only [size_set] using this
end Go.Proofs.Ytbnadfdajjggdaa.Refc
