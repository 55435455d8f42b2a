/- The document's answer for the store: whether words are few, and whether they are the same, by their contracts. -/
import Derived.Test.YtjgbgjkjnlaloaaRefC
import Derived.Deep.RegionHeld3
import Derived.Deep.DrawnRows
namespace Go.Proofs.Ytjgbgjkjnlaloaa.Refc
open Go.RowKit Go.Proofs.Ytjgbgjkjnlaloaa.Memc
set_option linter.unusedVariables false
set_option maxRecDepth 100000
attribute [local go_sem ↓] Go.wp_at_zero Go.wp_at_succ

/-- words that are few -/
def Few (m : M) : Prop := ∀ a : Int, 1 ≤ a → a ≤ 9 → (m.area a).length ≤ 5000

theorem few_area {m : M} (h : Few m) (a : Int) : (m.area a).length ≤ 1000000 := by
  by_cases ho : a < 1 ∨ 9 < a
  · rw [area_no _ _ ho]; exact Nat.zero_le _
  · have := h a (by omega) (by omega); omega

/-- how far the areas were looked at -/
def Upto (m : M) (k : Nat) : Prop := ∀ a : Int, 1 ≤ a → a < (k : Int) → (m.area a).length ≤ 5000

set_option maxHeartbeats 1000000 in
theorem short_yes (w : World) (B : Nat) (r : R) (m : M) (h : Rm w B r m) (hB : B ≤ w.heap.size) (hf : Few m) :
    Calls Try.prog 15 #[.agg #[.int .u64 r.e, .int .u64 r.f, .slice r.L.A r.L.n r.L.c, .slice r.P.A r.P.n r.P.c, .int .u64 r.h, .int .u64 r.t, .slice r.K.A r.K.n r.K.c, .slice r.X.A r.X.n r.X.c, .slice r.S.A r.S.n r.S.c]] w (Tells w true) := by
  have HR : Hid (Rm w w.heap.size r m) := h.more hB
  have HF := Lib.hid hf
  clear h hB hf
  go_enter Try.func15, Try.ntmps15
  go_wp2_with fail
  go_loopw [3] (fun i wr => ∃ k : Nat, i = .int .i64 k ∧ 1 ≤ k ∧ k ≤ 10 ∧ Blk wr w.heap.size 25 #[.int .u64 r.e, .int .u64 r.f, .slice r.L.A r.L.n r.L.c, .slice r.P.A r.P.n r.P.c, .int .u64 r.h, .int .u64 r.t, .slice r.K.A r.K.n r.K.c, .slice r.X.A r.X.n r.X.c, .slice r.S.A r.S.n r.S.c] ∧ Below w.heap.size w wr) (fun i _ => 10 - (intOf i).toNat)
  case atStart => exact ⟨1, rfl, by omega, by omega, Blk.new _ _ _, (Below.refl _ _).alloc (Nat.le_refl _) _⟩
  case round =>
    obtain ⟨k, rfl, hk1, hk2, hbk, hbw⟩ := hrel
    have hx := hbk.cell
    have HBK := Lib.hid hbk
    have HBW := Lib.hid hbw
    clear hbk hbw
    by_cases hlt : k < 10
    · have hle : (k : Int) ≤ 9 := by omega
      go_wp2_with (go_at_call 26; refine (area_c _ w.heap.size r m k (HR.out.below HBW.out) HBW.out.size (by omega) (by omega)).mono ?_; rintro e w1 ⟨s, rfl, hrd, hb1⟩; have hn : (s.n : Int) ≤ 5000 := (by have := hrd.1; have := HF.out k (by omega) (by omega); omega); have HB1 := Lib.hid hb1; clear hrd hb1 hx)
      go_roundw
      case rel => exact ⟨k + 1, by go_num, by omega, by omega, HBK.out.below HB1.out HBK.out.lt, HBW.out.trans (HB1.out.mono HBW.out.size)⟩
      case measure => simp [intOf]; omega
    · obtain rfl : k = 10 := by omega
      go_wp2
      go_ret
      exact ⟨rfl, HBW.out⟩

set_option maxHeartbeats 1000000 in
theorem short_no (w : World) (B : Nat) (r : R) (m : M) (h : Rm w B r m) (hB : B ≤ w.heap.size) (hf : ¬ Few m) :
    Calls Try.prog 15 #[.agg #[.int .u64 r.e, .int .u64 r.f, .slice r.L.A r.L.n r.L.c, .slice r.P.A r.P.n r.P.c, .int .u64 r.h, .int .u64 r.t, .slice r.K.A r.K.n r.K.c, .slice r.X.A r.X.n r.X.c, .slice r.S.A r.S.n r.S.c]] w (Tells w false) := by
  have HR : Hid (Rm w w.heap.size r m) := h.more hB
  have HF := Lib.hid hf
  clear h hB hf
  go_enter Try.func15, Try.ntmps15
  go_wp2_with fail
  go_loopw [3] (fun i wr => ∃ k : Nat, i = .int .i64 k ∧ 1 ≤ k ∧ k ≤ 10 ∧ Upto m k ∧ Blk wr w.heap.size 25 #[.int .u64 r.e, .int .u64 r.f, .slice r.L.A r.L.n r.L.c, .slice r.P.A r.P.n r.P.c, .int .u64 r.h, .int .u64 r.t, .slice r.K.A r.K.n r.K.c, .slice r.X.A r.X.n r.X.c, .slice r.S.A r.S.n r.S.c] ∧ Below w.heap.size w wr) (fun i _ => 10 - (intOf i).toNat)
  case atStart => exact ⟨1, rfl, by omega, by omega, fun a h1 h2 => by omega, Blk.new _ _ _, (Below.refl _ _).alloc (Nat.le_refl _) _⟩
  case round =>
    obtain ⟨k, rfl, hk1, hk2, hup, hbk, hbw⟩ := hrel
    have hx := hbk.cell
    have HU := Lib.hid hup
    have HBK := Lib.hid hbk
    have HBW := Lib.hid hbw
    clear hbk hbw hup
    by_cases hlt : k < 10
    · have hle : (k : Int) ≤ 9 := by omega
      by_cases hl : (m.area k).length ≤ 5000
      · have HL := Lib.hid hl
        clear hl
        go_wp2_with (go_at_call 26; refine (area_c _ w.heap.size r m k (HR.out.below HBW.out) HBW.out.size (by omega) (by omega)).mono ?_; rintro e w1 ⟨s, rfl, hrd, hb1⟩; have hn : (s.n : Int) ≤ 5000 := (by have := hrd.1; have := HL.out; omega); have HB1 := Lib.hid hb1; clear hrd hb1 hx)
        go_roundw
        case rel =>
          refine ⟨k + 1, by go_num, by omega, by omega, fun a h1 h2 => ?_, HBK.out.below HB1.out HBK.out.lt, HBW.out.trans (HB1.out.mono HBW.out.size)⟩
          by_cases hak : a < (k : Int)
          · exact HU.out a h1 hak
          · obtain rfl : a = (k : Int) := by omega
            exact HL.out
        case measure => simp [intOf]; omega
      · have HL := Lib.hid hl
        clear hl
        go_wp2_with (go_at_call 26; refine (area_c _ w.heap.size r m k (HR.out.below HBW.out) HBW.out.size (by omega) (by omega)).mono ?_; rintro e w1 ⟨s, rfl, hrd, hb1⟩; have hn : 5000 < (s.n : Int) := (by have := hrd.1; have := HL.out; omega); have HB1 := Lib.hid hb1; clear hrd hb1 hx)
        go_ret
        exact ⟨rfl, HBW.out.trans (HB1.out.mono HBW.out.size)⟩
    · obtain rfl : k = 10 := by omega
      exact absurd (fun a h1 h2 => HU.out a h1 (by omega)) HF.out

set_option maxHeartbeats 2000000 in
/-- words that are the same are told to be -/
theorem same_yes (w : World) (B B' : Nat) (r q : R) (m : M) (h : Rm w B r m) (hB : B ≤ w.heap.size) (h' : Rm w B' q m) (hB' : B' ≤ w.heap.size) :
    Calls Try.prog 19 #[.agg #[.int .u64 r.e, .int .u64 r.f, .slice r.L.A r.L.n r.L.c, .slice r.P.A r.P.n r.P.c, .int .u64 r.h, .int .u64 r.t, .slice r.K.A r.K.n r.K.c, .slice r.X.A r.X.n r.X.c, .slice r.S.A r.S.n r.S.c], .agg #[.int .u64 q.e, .int .u64 q.f, .slice q.L.A q.L.n q.L.c, .slice q.P.A q.P.n q.P.c, .int .u64 q.h, .int .u64 q.t, .slice q.K.A q.K.n q.K.c, .slice q.X.A q.X.n q.X.c, .slice q.S.A q.S.n q.S.c]] w (Tells w true) := by
  have HR : Hid (Rm w w.heap.size r m) := h.more hB
  have HQ : Hid (Rm w w.heap.size q m) := h'.more hB'
  clear h hB h' hB'
  go_enter Try.func19, Try.ntmps19
  go_wp2_with fail
  go_loopw [5] (fun i wr => ∃ k : Nat, i = .int .i64 k ∧ 1 ≤ k ∧ k ≤ 10 ∧ Blk wr w.heap.size 25 #[.int .u64 r.e, .int .u64 r.f, .slice r.L.A r.L.n r.L.c, .slice r.P.A r.P.n r.P.c, .int .u64 r.h, .int .u64 r.t, .slice r.K.A r.K.n r.K.c, .slice r.X.A r.X.n r.X.c, .slice r.S.A r.S.n r.S.c] ∧ Blk wr (w.heap.size + 1) 25 #[.int .u64 q.e, .int .u64 q.f, .slice q.L.A q.L.n q.L.c, .slice q.P.A q.P.n q.P.c, .int .u64 q.h, .int .u64 q.t, .slice q.K.A q.K.n q.K.c, .slice q.X.A q.X.n q.X.c, .slice q.S.A q.S.n q.S.c] ∧ Below w.heap.size w wr) (fun i _ => 10 - (intOf i).toNat)
  case atStart => exact ⟨1, rfl, by omega, by omega, (Blk.new _ _ _).alloc _, blk_at (by simp), ((Below.refl _ _).alloc (Nat.le_refl _) _).alloc (by simp) _⟩
  case round =>
    obtain ⟨k, rfl, hk1, hk2, xb, yb, hbw⟩ := hrel
    by_cases hlt : k < 10
    · have hle : (k : Int) ≤ 9 := by omega
      have kl : -9223372036854775808 ≤ (k : Int) := by omega
      have kh : (k : Int) ≤ 9223372036854775807 := by omega
      have hx := xb.cell
      have hy := yb.cell
      have X0 := Lib.hid xb.drew
      have Y0 := Lib.hid yb.drew
      have W0 := Lib.hid hbw.drew
      clear xb yb hbw
      go_wp2_with fail
      go_region_held3 (fun w' => (∀ i, w'.cell? ⟨w.heap.size, i, none⟩ = (#[.int .u64 r.e, .int .u64 r.f, .slice r.L.A r.L.n r.L.c, .slice r.P.A r.P.n r.P.c, .int .u64 r.h, .int .u64 r.t, .slice r.K.A r.K.n r.K.c, .slice r.X.A r.X.n r.X.c, .slice r.S.A r.S.n r.S.c] : Array Value)[i]?) ∧ (∀ i, w'.cell? ⟨w.heap.size + 1, i, none⟩ = (#[.int .u64 q.e, .int .u64 q.f, .slice q.L.A q.L.n q.L.c, .slice q.P.A q.P.n q.P.c, .int .u64 q.h, .int .u64 q.t, .slice q.K.A q.K.n q.K.c, .slice q.X.A q.X.n q.X.c, .slice q.S.A q.S.n q.S.c] : Array Value)[i]?)) (exact ⟨X0.out.cell, Y0.out.cell⟩)
        (first | (go_at_call 26; (with_reducible refine (area_c _ w.heap.size r m k (HR.out.below W0.out) W0.out.size kl kh).mono ?_); rintro e w1 ⟨s, rfl, hrd, hb1⟩; (try (have PR2 := Lib.hid (PR.out.below hb1))); have PR := Lib.hid hrd; have W1 := Lib.hid (W0.out.trans (hb1.mono W0.out.size)); have Z := two_below hb1 X0.out Y0.out; clear X0 Y0 W0; have X0 := Lib.hid Z.1; have Y0 := Lib.hid Z.2; have W0 := Lib.hid W1.out; clear Z W1 hrd hb1) | (go_at_call 26; (with_reducible refine (area_c _ w.heap.size q m k (HQ.out.below W0.out) W0.out.size kl kh).mono ?_); rintro e w1 ⟨s, rfl, hrd, hb1⟩; (try (have PR2 := Lib.hid (PR.out.below hb1))); have PR := Lib.hid hrd; have W1 := Lib.hid (W0.out.trans (hb1.mono W0.out.size)); have Z := two_below hb1 X0.out Y0.out; clear X0 Y0 W0; have X0 := Lib.hid Z.1; have Y0 := Lib.hid Z.2; have W0 := Lib.hid W1.out; clear Z W1 hrd hb1) | (go_at_call 44; (first | (with_reducible refine (same_c _ _ _ _ _ _ _ PR.out PR2.out).mono ?_) | (with_reducible refine (same_c _ _ _ _ _ _ _ PR2.out PR.out).mono ?_)); rintro e w1 ⟨rfl, hb1⟩; have W1 := Lib.hid (W0.out.trans (hb1.mono W0.out.size)); have Z := two_below hb1 X0.out Y0.out; clear X0 Y0 W0; have X0 := Lib.hid Z.1; have Y0 := Lib.hid Z.2; have W0 := Lib.hid W1.out; clear Z W1 hb1))
      all_goals
        go_wp2
        go_roundw
        case rel => exact ⟨k + 1, by go_num, by omega, by omega, X0.out, Y0.out, W0.out⟩
        case measure => simp [intOf]; omega
    · have hbw' := Lib.hid hbw
      clear xb yb hbw
      obtain rfl : k = 10 := by omega
      go_wp2
      go_ret
      exact ⟨rfl, hbw'.out⟩
end Go.Proofs.Ytjgbgjkjnlaloaa.Refc
