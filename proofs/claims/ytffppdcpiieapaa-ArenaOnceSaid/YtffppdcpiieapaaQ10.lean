/- Give, and what empties a list of limbo, over a call that is on. · Retire, over a call that is on. · Collect, over a call that is on. -/
import Derived.Test.YtffppdcpiieapaaQ9
namespace Go.Proofs.Ytffppdcpiieapaa.Arenac
open Go.RowKit Go.Proofs.Ytffppdcpiieapaa.Memc Go.Proofs.Ytffppdcpiieapaa.Procc Go.Proofs.Ytffppdcpiieapaa.Machc Go.Proofs.Ytffppdcpiieapaa.Drivec Go.Proofs.Ytffppdcpiieapaa.Wordc
set_option linter.unusedVariables false
set_option maxRecDepth 100000

set_option maxHeartbeats 4000000 in
theorem Cx.give (c : Cx) (hok : c.Ok) {k : Nat} {f : FS} {w : World} (h : c.At k f w) {rf : Int} (hr : W64 rf) (hv : f.give = rf) (hp : f.pc = 95) :
    Calls Try.prog 69 #[c.doer, .int .u64 rf] w (c.To (k + 1) fun f' e => e = .returned (.tuple #[]) ∧ ∃ a : Int, f' = gave { f with w := a, pc := 97 }) := by
  obtain rfl := hv
  obtain ⟨r0, r1⟩ := id hr
  have HR := Lib.hid hr
  have HA2 : Hid (c.At k { f with w := f.w, pc := 95 } w) := Lib.hid (Cx.at_to h (Cx.fs_pc hp).symm)
  clear h hp hr
  go_enter Try.func69, Try.ntmps69
  go_wp2_with fail
  refine wp_scope_jumps 0 (fun a' w' => ∃ (k2 : Nat) (a2 : Int) (u2 u3 u4 u5 u6 u7 u8 u9 u10 u11 u12 u13 u14 u15 u16 u17 u18 u19 u20 : Value), k ≤ k2 ∧ c.At k2 { f with w := a2, pc := 95 } w' ∧ a' = { tmps := #[c.doer, .int .u64 f.give, u2, u3, u4, u5, u6, u7, u8, u9, u10, u11, u12, u13, u14, u15, u16, u17, u18, u19, u20], defers := [] }) (fun _ w' => c.fs.length - kOf c.gn w') rfl ?_ ?_
  · go_wp2_with fail
    go_step3
    obtain ⟨k2, hk2⟩ : ∃ k2 : Nat, k2 = k := ⟨_, rfl⟩
    rw [← hk2] at HA2
    obtain ⟨a2, ha2⟩ : ∃ a2 : Int, a2 = f.w := ⟨_, rfl⟩
    rw [← ha2] at HA2
    clear ha2
    have A2 : Hid (docAsk c.kk c.K c.M ({ f with w := a2, pc := 95 } : FS) = ⟨1, 2, 0, 0, 0⟩) := Lib.hid (ask95 rfl)
    go_wp2_with (first
      | (go_at_call 76; (with_reducible refine (c.read hok HA2.out (by simp) 2 0 A2.out).mono ?_); rintro e v3 (hq | ⟨k3, g3, hk3, ha3, was3, dn3, hw3, rfl, rfl⟩); (obtain rfl := hq.is; first | exact ⟨rfl, .inl hq⟩ | (go_simp; exact ⟨rfl, .inl hq⟩) | (simp only [Exit.jump]; exact ⟨rfl, .inl hq⟩)); (obtain ⟨x0, x1⟩ := id hw3); (have HW3 := Lib.hid hw3; clear hw3); have HA3 : Hid (c.At k3 { f with w := was3, pc := 96 } v3) := Lib.hid (Cx.at_to ha3 (tell95 _ _ rfl)); clear ha3; (have A3 : Hid (docAsk c.kk c.K c.M ({ f with w := was3, pc := 96 } : FS) = ⟨2, 7, f.give % 4294967296 - 1, 0, f.give / 4294967296 * 4294967296 + was3 % 4294967296⟩) := Lib.hid (ask96 rfl)))
      | (go_at_call 66; (first | (refine (low_c _ _ x0 x1).mono ?_)); rintro e w' ⟨rfl, rfl⟩)
      | (go_at_call 67; (first | (refine (handle_c _ _ r0 r1).mono ?_)); rintro e w' ⟨rfl, rfl⟩)
      | (go_at_call 79; (first | (refine (high_c _ _ r0 r1).mono ?_)); rintro e w' ⟨rfl, rfl⟩)
      | (go_at_call 70; refine (pack_c _ _ _ (by omega) (by omega) (by omega) (by omega)).mono ?_; rintro e w' ⟨rfl, rfl⟩)
      | (go_at_call 77; (with_reducible refine (c.write hok HA3.out (by simp) 7 (f.give % 4294967296 - 1) (f.give / 4294967296 * 4294967296 + was3 % 4294967296) A3.out).mono ?_); rintro e v4 (hq | ⟨k4, g4, hk4, ha4, rfl, was4, dn4, hw4, rfl⟩); (obtain rfl := hq.is; first | exact ⟨rfl, .inl hq⟩ | (go_simp; exact ⟨rfl, .inl hq⟩) | (simp only [Exit.jump]; exact ⟨rfl, .inl hq⟩)); have HA4 : Hid (c.At k4 { f with w := was3, pc := 97 } v4) := Lib.hid (Cx.at_to ha4 (tell96 _ _ rfl)); clear ha4)
      | (go_at_call 112; (with_reducible refine (c.lead hok HA4.out (by simp) HW3.out HR.out (ask97 rfl)).mono ?_); rintro e v5 (hq | ⟨k5, g5, hk5, ha5, was5, dn5, hw5, rfl, rfl⟩); (obtain rfl := hq.is; first | exact ⟨rfl, .inl hq⟩ | (go_simp; exact ⟨rfl, .inl hq⟩) | (simp only [Exit.jump]; exact ⟨rfl, .inl hq⟩)); (cases dn5 <;> have HA5 := Lib.hid ha5 <;> clear ha5)))
    · go_step3
      have HA6 : Hid (c.At k5 { f with w := was3, pc := 95 } v5) := Lib.hid (Cx.at_to HA5.out (tell97f (f := { f with w := was3, pc := 97 }) was5 rfl rfl))
      exact ⟨rfl, ⟨k5, was3, _, _, _, _, _, _, _, _, _, _, _, _, _, _, _, _, _, _, _, by omega, HA6.out, rfl⟩⟩
    · simp only [Exit.jump]
      (first | go_end0 | refine bodyPost_ret (results_none rfl _ _ _) rfl ?_)
      exact .inr ⟨k5, _, by omega, Cx.at_to HA5.out (tell97t (f := { f with w := was3, pc := 97 }) was5 rfl rfl), rfl, was3, rfl⟩
  · rintro a' w' ⟨k2, a2, u2, u3, u4, u5, u6, u7, u8, u9, u10, u11, u12, u13, u14, u15, u16, u17, u18, u19, u20, hk2, h2, rfl⟩
    have HA2 := Lib.hid h2
    clear h2
    have A2 : Hid (docAsk c.kk c.K c.M ({ f with w := a2, pc := 95 } : FS) = ⟨1, 2, 0, 0, 0⟩) := Lib.hid (ask95 rfl)
    go_wp2_with (first
      | (go_at_call 76; (with_reducible refine (c.read hok HA2.out (by simp) 2 0 A2.out).mono ?_); rintro e v3 (hq | ⟨k3, g3, hk3, ha3, was3, dn3, hw3, rfl, rfl⟩); (obtain rfl := hq.is; first | exact ⟨rfl, .inl hq⟩ | (go_simp; exact ⟨rfl, .inl hq⟩) | (simp only [Exit.jump]; exact ⟨rfl, .inl hq⟩)); (obtain ⟨x0, x1⟩ := id hw3); (have HW3 := Lib.hid hw3; clear hw3); have HA3 : Hid (c.At k3 { f with w := was3, pc := 96 } v3) := Lib.hid (Cx.at_to ha3 (tell95 _ _ rfl)); clear ha3; (have A3 : Hid (docAsk c.kk c.K c.M ({ f with w := was3, pc := 96 } : FS) = ⟨2, 7, f.give % 4294967296 - 1, 0, f.give / 4294967296 * 4294967296 + was3 % 4294967296⟩) := Lib.hid (ask96 rfl)))
      | (go_at_call 66; (first | (refine (low_c _ _ x0 x1).mono ?_)); rintro e w' ⟨rfl, rfl⟩)
      | (go_at_call 67; (first | (refine (handle_c _ _ r0 r1).mono ?_)); rintro e w' ⟨rfl, rfl⟩)
      | (go_at_call 79; (first | (refine (high_c _ _ r0 r1).mono ?_)); rintro e w' ⟨rfl, rfl⟩)
      | (go_at_call 70; refine (pack_c _ _ _ (by omega) (by omega) (by omega) (by omega)).mono ?_; rintro e w' ⟨rfl, rfl⟩)
      | (go_at_call 77; (with_reducible refine (c.write hok HA3.out (by simp) 7 (f.give % 4294967296 - 1) (f.give / 4294967296 * 4294967296 + was3 % 4294967296) A3.out).mono ?_); rintro e v4 (hq | ⟨k4, g4, hk4, ha4, rfl, was4, dn4, hw4, rfl⟩); (obtain rfl := hq.is; first | exact ⟨rfl, .inl hq⟩ | (go_simp; exact ⟨rfl, .inl hq⟩) | (simp only [Exit.jump]; exact ⟨rfl, .inl hq⟩)); have HA4 : Hid (c.At k4 { f with w := was3, pc := 97 } v4) := Lib.hid (Cx.at_to ha4 (tell96 _ _ rfl)); clear ha4)
      | (go_at_call 112; (with_reducible refine (c.lead hok HA4.out (by simp) HW3.out HR.out (ask97 rfl)).mono ?_); rintro e v5 (hq | ⟨k5, g5, hk5, ha5, was5, dn5, hw5, rfl, rfl⟩); (obtain rfl := hq.is; first | exact ⟨rfl, .inl hq⟩ | (go_simp; exact ⟨rfl, .inl hq⟩) | (simp only [Exit.jump]; exact ⟨rfl, .inl hq⟩)); (cases dn5 <;> have HA5 := Lib.hid ha5 <;> clear ha5)))
    · go_step3
      have HA6 : Hid (c.At k5 { f with w := was3, pc := 95 } v5) := Lib.hid (Cx.at_to HA5.out (tell97f (f := { f with w := was3, pc := 97 }) was5 rfl rfl))
      exact ⟨rfl, ⟨k5, was3, _, _, _, _, _, _, _, _, _, _, _, _, _, _, _, _, _, _, _, by omega, HA6.out, rfl⟩, Cx.less HA2.out HA6.out (by omega)⟩
    · simp only [Exit.jump]
      (first | go_end0 | refine bodyPost_ret (results_none rfl _ _ _) rfl ?_)
      exact .inr ⟨k5, _, by omega, Cx.at_to HA5.out (tell97t (f := { f with w := was3, pc := 97 }) was5 rfl rfl), rfl, was3, rfl⟩
set_option maxHeartbeats 4000000 in
theorem Cx.free (c : Cx) (hok : c.Ok) {k : Nat} {f : FS} {w : World} (h : c.At k f w) {low : Int} (hl : 0 ≤ low ∧ low ≤ 4294967295) (hc : f.chain = low) (hp : f.pc = if low = 0 then f.behind else 86) :
    Calls Try.prog 114 #[c.doer, .int .u32 low] w (c.To k fun f' e => e = .returned (.tuple #[]) ∧ ∃ a b d : Int, f' = { f with w := a, chain := 0, give := b, back := d, pc := f.behind }) := by
  have H0 : Hid (c.At k { f with w := f.w, chain := low, give := f.give, back := f.back, pc := if low = 0 then f.behind else 86 } w) := Lib.hid (Cx.at_to h (by subst hc; rw [← hp]))
  have HL := Lib.hid hl
  clear h hp hc hl
  go_enter Try.func114, Try.ntmps114
  go_wp2_with fail
  go_loopw [1] (fun v wr => ∃ (lw : Int) (k2 : Nat) (a b d : Int), v = .int .u32 lw ∧ 0 ≤ lw ∧ lw ≤ 4294967295 ∧ k ≤ k2 ∧ c.At k2 { f with w := a, chain := lw, give := b, back := d, pc := if lw = 0 then f.behind else 86 } wr) (fun _ wr => c.fs.length - kOf c.gn wr)
  case atStart => exact ⟨low, k, _, _, _, rfl, HL.out.1, HL.out.2, Nat.le_refl _, H0.out⟩
  case round =>
    obtain ⟨lw, k2, a, b, d, rfl, l0, l1, hk2, h2⟩ := hrel
    by_cases hz0 : lw = 0
    · rw [hz0, if_pos rfl] at h2
      have HA2 := Lib.hid h2
      clear h2
      subst hz0
      go_wp2
      (first | go_end0 | refine bodyPost_ret (results_none rfl _ _ _) rfl ?_)
      exact .inr ⟨k2, _, hk2, HA2.out, rfl, a, b, d, rfl⟩
    · rw [if_neg hz0] at h2
      have HA2 := Lib.hid h2
      have hz : (lw != 0) = true := by simpa using hz0
      have hm : lw % 4294967296 = lw := by omega
      have hm2 : lw % 18446744073709551616 = lw := by omega
      have L1 : lw ≤ 18446744073709551615 := by omega
      have A2 : Hid (docAsk c.kk c.K c.M ({ f with w := a, chain := lw, give := b, back := d, pc := 86 } : FS) = ⟨1, 7, lw - 1, 0, 0⟩) := Lib.hid (ask86 rfl)
      clear h2 hz0
      go_wp2_with (first
  | (go_at_call 76; (with_reducible refine (c.read hok HA2.out (by simp) 7 (lw - 1) A2.out).mono ?_); rintro e v3 (hq | ⟨k3, g3, hk3, ha3, was3, dn3, hw3, rfl, rfl⟩); (obtain rfl := hq.is; first | exact ⟨rfl, .inl hq⟩ | (go_simp; exact ⟨rfl, .inl hq⟩) | (simp only [Exit.jump]; exact ⟨rfl, .inl hq⟩)); (obtain ⟨x0, x1⟩ := id hw3); clear hw3; have HA3 : Hid (c.At k3 { f with w := a, chain := lo was3, give := was3 / 4294967296 * 4294967296 + lw, back := 87, pc := 95 } v3) := Lib.hid (Cx.at_to ha3 (tell86 _ _ rfl)); clear ha3; (have W3 : Hid (W64 (was3 / 4294967296 * 4294967296 + lw)) := Lib.hid ⟨by omega, by omega⟩))
  | (go_at_call 67; refine (handle_c _ _ (by omega) (by omega)).mono ?_; rw [hm]; rintro e w' ⟨rfl, rfl⟩)
  | (go_at_call 66; (first | (refine (low_c _ _ x0 x1).mono ?_)); rintro e w' ⟨rfl, rfl⟩)
  | (go_at_call 79; (first | (refine (high_c _ _ x0 x1).mono ?_)); rintro e w' ⟨rfl, rfl⟩)
  | (go_at_call 70; refine (pack_c _ _ _ (by omega) (by omega) (by omega) (by omega)).mono ?_; rintro e w' ⟨rfl, rfl⟩)
  | (go_at_call 69; (with_reducible refine (c.give hok HA3.out W3.out (by rfl) (by rfl)).mono ?_); rintro e v4 (hq | ⟨k4, g4, hk4, ha4, rfl, a4, rfl⟩); (obtain rfl := hq.is; first | exact ⟨rfl, .inl hq⟩ | (go_simp; exact ⟨rfl, .inl hq⟩) | (simp only [Exit.jump]; exact ⟨rfl, .inl hq⟩)); (have HA4 := Lib.hid ha4; clear ha4)))
      have HA5 : Hid (c.At k4 { f with w := a4, chain := lo was3, give := was3 / 4294967296 * 4294967296 + lw, back := 87, pc := if lo was3 = 0 then f.behind else 86 } v4) := Lib.hid (Cx.at_to HA4.out (by unfold gave; rw [if_pos rfl]; rfl))
      go_roundw
      case rel => exact ⟨was3 % 4294967296, k4, _, _, _, rfl, by omega, by omega, by omega, HA5.out⟩
      case measure => exact Cx.less HA2.out HA5.out (by omega)
set_option maxHeartbeats 4000000 in
theorem Cx.empty (c : Cx) (hok : c.Ok) {k : Nat} {f : FS} {w : World} (h : c.At k f w) {at_ x : Int} (tg : Int) (hx : W64 x) (hp : ¬ f.pc = 0) (ha : docAsk c.kk c.K c.M f = ⟨3, 3, at_, x, pk (hi x) 0⟩) (ht : ∀ was dn, c.tel f was dn = if dn then f.chained (lo x) tg else { f with pc := tg }) :
    Calls Try.prog 80 #[c.doer, .int .i64 at_, .int .u64 x] w (c.To (k + 1) fun f' e => e = .returned (.tuple #[]) ∧ ∃ a b d g i : Int, f' = { f with w := a, chain := b, give := d, back := g, behind := i, pc := tg }) := by
  obtain ⟨x0, x1⟩ := id hx
  have A0 : Hid (docAsk c.kk c.K c.M f = ⟨3, 3, at_, x, x / 4294967296 * 4294967296 + 0⟩) := Lib.hid ha
  have A1 : Hid (docAsk c.kk c.K c.M f = ⟨3, 3, at_, x, x / 4294967296 * 4294967296⟩) := Lib.hid (ha.trans (by unfold pk hi; simp))
  have T0 := Lib.hid ht
  have P0 := Lib.hid hp
  have HA0 := Lib.hid h
  clear h ha ht hp hx
  go_enter Try.func80, Try.ntmps80
  go_wp2_with (first
  | (go_at_call 66; (first | (refine (low_c _ _ x0 x1).mono ?_)); rintro e w' ⟨rfl, rfl⟩)
  | (go_at_call 79; (first | (refine (high_c _ _ x0 x1).mono ?_)); rintro e w' ⟨rfl, rfl⟩)
  | (go_at_call 70; refine (pack_c _ _ _ (by omega) (by omega) (by omega) (by omega)).mono ?_; rintro e w' ⟨rfl, rfl⟩)
  | (go_at_call 81; (with_reducible refine (c.swap hok HA0.out P0.out 3 at_ x (x / 4294967296 * 4294967296 + 0) A0.out).mono ?_); rintro e v1 (hq | ⟨k1, g1, hk1, ha1, was1, dn1, hw1, rfl, rfl⟩); (obtain rfl := hq.is; first | exact ⟨rfl, .inl hq⟩ | (go_simp; exact ⟨rfl, .inl hq⟩) | (simp only [Exit.jump]; exact ⟨rfl, .inl hq⟩)); (cases dn1 <;> (first | (have HA1 : Hid (c.At k1 { f with pc := tg } v1) := Lib.hid (Cx.at_to ha1 ((T0.out was1 false).trans (if_neg (by decide))))) | (have HA1 : Hid (c.At k1 { f with chain := x % 4294967296, behind := tg, pc := if x % 4294967296 = 0 then tg else 86 } v1) := Lib.hid (Cx.at_to ha1 ((T0.out was1 true).trans (if_pos rfl))))) <;> clear ha1))
  | (go_at_call 81; (with_reducible refine (c.swap hok HA0.out P0.out 3 at_ x (x / 4294967296 * 4294967296) A1.out).mono ?_); rintro e v1 (hq | ⟨k1, g1, hk1, ha1, was1, dn1, hw1, rfl, rfl⟩); (obtain rfl := hq.is; first | exact ⟨rfl, .inl hq⟩ | (go_simp; exact ⟨rfl, .inl hq⟩) | (simp only [Exit.jump]; exact ⟨rfl, .inl hq⟩)); (cases dn1 <;> (first | (have HA1 : Hid (c.At k1 { f with pc := tg } v1) := Lib.hid (Cx.at_to ha1 ((T0.out was1 false).trans (if_neg (by decide))))) | (have HA1 : Hid (c.At k1 { f with chain := x % 4294967296, behind := tg, pc := if x % 4294967296 = 0 then tg else 86 } v1) := Lib.hid (Cx.at_to ha1 ((T0.out was1 true).trans (if_pos rfl))))) <;> clear ha1))
  | (go_at_call 114; (with_reducible refine (c.free hok HA1.out (low := x % 4294967296) ⟨by omega, by omega⟩ (by rfl) (by rfl)).mono ?_); rintro e v2 (hq | ⟨k2, g2, hk2, ha2, rfl, a2, b2, d2, rfl⟩); (obtain rfl := hq.is; first | exact ⟨rfl, .inl hq⟩ | (go_simp; exact ⟨rfl, .inl hq⟩) | (simp only [Exit.jump]; exact ⟨rfl, .inl hq⟩)); (have HA2 := Lib.hid ha2; clear ha2)))
  · (first | go_end0 | refine bodyPost_ret (results_none rfl _ _ _) rfl ?_)
    exact .inr ⟨k1, _, hk1, HA1.out, rfl, f.w, f.chain, f.give, f.back, f.behind, rfl⟩
  · (first | go_end0 | refine bodyPost_ret (results_none rfl _ _ _) rfl ?_)
    exact .inr ⟨k2, _, by omega, HA2.out, rfl, a2, 0, b2, d2, tg, rfl⟩
end Go.Proofs.Ytffppdcpiieapaa.Arenac

namespace Go.Proofs.Ytffppdcpiieapaa.Arenac
open Go.RowKit Go.Proofs.Ytffppdcpiieapaa.Memc Go.Proofs.Ytffppdcpiieapaa.Procc Go.Proofs.Ytffppdcpiieapaa.Machc Go.Proofs.Ytffppdcpiieapaa.Drivec Go.Proofs.Ytffppdcpiieapaa.Wordc
set_option linter.unusedVariables false
set_option maxRecDepth 100000

theorem w81_no1 {was g : Int} (h : was % 4294967296 = 0) : ¬ (¬ lo was = 0 ∧ ¬ hi was = lo g) := fun x => x.1 h
theorem w81_no2 {was g : Int} (h : was / 4294967296 = g % 4294967296) : ¬ (¬ lo was = 0 ∧ ¬ hi was = lo g) := fun x => x.2 h
theorem w81_yes {was g : Int} (h : ¬ was % 4294967296 = 0) (h2 : ¬ was / 4294967296 = g % 4294967296) : ¬ lo was = 0 ∧ ¬ hi was = lo g := ⟨h, h2⟩
theorem w64_0 (x : Int) : 0 ≤ w64 x := by unfold w64; omega
theorem w64_1 (x : Int) : w64 x ≤ 18446744073709551615 := by unfold w64; omega
theorem limbo_c (w : World) (g : Int) (g0 : 0 ≤ g) (g1 : g ≤ 18446744073709551615) : Calls Try.prog 78 #[.int .u64 g] w fun e w' => e = .returned (.int .i64 (g % 3)) ∧ w = w' := by
  go_enter Try.func78, Try.ntmps78
  go_wp2
  go_ret
  exact ⟨rfl, rfl⟩
set_option maxHeartbeats 4000000 in
theorem Cx.retire (c : Cx) (hok : c.Ok) {k : Nat} {f : FS} {w : World} (h : c.At k f w) {rf : Int} (hs : W64 rf) (hv : f.s = rf) (hp : f.pc = 80) :
    Calls Try.prog 48 #[c.doer, .int .u64 rf] w (c.To (k + 1) fun f' e => e = .returned (.tuple #[]) ∧ ∃ g a b d h i : Int, W64 g ∧ f' = { f with g := g, w := a, chain := b, give := d, back := h, behind := i, pc := if f.kd = 8 then 0 else if c.kk = 1 then 20 else 50 }) := by
  obtain rfl := hv
  obtain ⟨s0, s1⟩ := id hs
  have HA0 := Lib.hid h
  have A0 := Lib.hid (ask80 (k := c.kk) (K := c.K) (M := c.M) hp)
  have T0 := Lib.hid (fun was dn => tell80 (k := c.kk) (K := c.K) (T := c.T) (M := c.M) was dn hp)
  have P0 := Lib.hid (show ¬ f.pc = 0 by rw [hp]; decide)
  clear h hp hs
  go_enter Try.func48, Try.ntmps48
  go_wp2_with fail
  refine wp_scope_jumps 0 (fun a' w' => ∃ (k2 : Nat) (gg a2 b2 d2 h2 i2 : Int) (u2 u3 u6 u7 u8 u9 u10 u11 u12 u13 u14 u15 u16 u17 u18 u19 u20 u21 u22 u23 u24 u25 u26 u27 u28 u29 u30 u31 u32 u33 u34 u35 u36 u37 u38 u39 u40 u41 u42 u43 u44 u45 u46 u47 u48 u49 u50 u51 u52 u53 : Value), W64 gg ∧ k + 1 ≤ k2 ∧ c.At k2 { f with g := gg, w := a2, chain := b2, give := d2, back := h2, behind := i2, pc := 81 } w' ∧ a' = { tmps := #[c.doer, .int .u64 f.s, u2, u3, .int .u64 gg, .int .i64 (gg % 3), u6, u7, u8, u9, u10, u11, u12, u13, u14, u15, u16, u17, u18, u19, u20, u21, u22, u23, u24, u25, u26, u27, u28, u29, u30, u31, u32, u33, u34, u35, u36, u37, u38, u39, u40, u41, u42, u43, u44, u45, u46, u47, u48, u49, u50, u51, u52, u53], defers := [] }) (fun _ w' => c.fs.length - kOf c.gn w') rfl ?_ ?_
  · go_wp2_with (first
  | (go_at_call 76; (with_reducible refine (c.read hok HA0.out P0.out 1 0 A0.out).mono ?_); rintro e v1 (hq | ⟨k1, g1, hk1, ha1, was1, dn1, hw1, rfl, rfl⟩); (obtain rfl := hq.is; first | exact ⟨rfl, .inl hq⟩ | (go_simp; exact ⟨rfl, .inl hq⟩) | (simp only [Exit.jump]; exact ⟨rfl, .inl hq⟩)); (obtain ⟨g0, g1⟩ := id hw1); (have GG := Lib.hid hw1; clear hw1); have HA1 : Hid (c.At k1 { f with g := was1, pc := 81 } v1) := Lib.hid (Cx.at_to ha1 (T0.out _ _)); clear ha1)
  | (go_at_call 78; (first | (refine (limbo_c _ _ g0 g1).mono ?_) | (refine (limbo_c _ _ (w64_0 _) (w64_1 _)).mono ?_)); rintro e w' ⟨rfl, rfl⟩))
    go_step3
    obtain ⟨gg, hgg⟩ : ∃ gg : Int, gg = was1 := ⟨_, rfl⟩
    rw [← hgg] at GG HA1 g0 g1 ⊢
    clear hgg
    obtain ⟨k2, hk2⟩ : ∃ k2 : Nat, k2 = k1 := ⟨_, rfl⟩
    rw [← hk2] at HA1 hk1
    obtain ⟨a2, b2, d2, h2, i2, hf2⟩ : ∃ a2 b2 d2 h2 i2 : Int, ({ f with g := gg, pc := 81 } : FS) = { f with g := gg, w := a2, chain := b2, give := d2, back := h2, behind := i2, pc := 81 } := ⟨f.w, f.chain, f.give, f.back, f.behind, rfl⟩
    rw [hf2] at HA1
    have HA2 := HA1
    clear HA1 hf2 hk2
    have A2 : Hid (docAsk c.kk c.K c.M ({ f with g := gg, w := a2, chain := b2, give := d2, back := h2, behind := i2, pc := 81 } : FS) = ⟨1, 3, gg % 3, 0, 0⟩) := Lib.hid (ask81 rfl)
    go_wp2_with (first
      | (go_at_call 76; (with_reducible refine (c.read hok HA2.out (by simp) 3 (gg % 3) A2.out).mono ?_); rintro e v3 (hq | ⟨k3, g3, hk3, ha3, was3, dn3, hw3, rfl, rfl⟩); (obtain rfl := hq.is; first | exact ⟨rfl, .inl hq⟩ | (go_simp; exact ⟨rfl, .inl hq⟩) | (simp only [Exit.jump]; exact ⟨rfl, .inl hq⟩)); (obtain ⟨x0, x1⟩ := id hw3); (have HW3 := Lib.hid hw3; clear hw3); (rcases Decidable.em (was3 % 4294967296 = 0) with hl | hl <;> (first | ((have hz1 : (was3 % 4294967296 != 0) = false := by (rw [hl]; simp)); (have HC := Lib.hid (w81_no1 (g := gg) hl))) | ((have hz1 : (was3 % 4294967296 != 0) = true := by simpa using hl); (rcases Decidable.em (was3 / 4294967296 = gg % 4294967296) with hh | hh <;> (first | ((have hz2 : (was3 / 4294967296 != gg % 4294967296) = false := by (rw [hh]; simp)); (have HC := Lib.hid (w81_no2 hh)); clear hh) | ((have hz2 : (was3 / 4294967296 != gg % 4294967296) = true := by simpa using hh); (have HC := Lib.hid (w81_yes hl hh)); clear hh))))) <;> have HA3 := Lib.hid ha3 <;> clear hl ha3))
      | (go_at_call 80; go_must (have HAE : Hid (c.At k3 { f with g := gg, w := was3, chain := b2, give := d2, back := h2, behind := i2, pc := 82 } v3) := Lib.hid (Cx.at_to HA3.out ((tell81 was3 dn3 rfl).trans (by rw [if_pos HC.out]))); have HTE : Hid (∀ was dn, c.tel ({ f with g := gg, w := was3, chain := b2, give := d2, back := h2, behind := i2, pc := 82 } : FS) was dn = if dn then ({ f with g := gg, w := was3, chain := b2, give := d2, back := h2, behind := i2, pc := 82 } : FS).chained (lo was3) 81 else { f with g := gg, w := was3, chain := b2, give := d2, back := h2, behind := i2, pc := 81 }) := Lib.hid (fun was dn => tell82 was dn rfl)); (with_reducible refine (c.empty hok HAE.out (at_ := gg % 3) (x := was3) 81 HW3.out (by simp) (ask82 rfl) HTE.out).mono ?_); rintro e v4 (hq | ⟨k4, g4, hk4, ha4, rfl, a4, b4, d4, h4, i4, rfl⟩); (obtain rfl := hq.is; first | exact ⟨rfl, .inl hq⟩ | (go_simp; exact ⟨rfl, .inl hq⟩) | (simp only [Exit.jump]; exact ⟨rfl, .inl hq⟩)); (have HA4 := Lib.hid ha4; clear ha4))
      | (go_at_call 77; go_must (have HAW : Hid (c.At k3 { f with g := gg, w := was3, chain := b2, give := d2, back := h2, behind := i2, pc := 83 } v3) := Lib.hid (Cx.at_to HA3.out ((tell81 was3 dn3 rfl).trans (by rw [if_neg HC.out])))); (with_reducible refine (c.write hok HAW.out (by simp) 7 (f.s % 4294967296 - 1) ((f.s / 4294967296 + 1) % 4294967296 * 4294967296 + was3 % 4294967296) (ask83 rfl)).mono ?_); rintro e v4 (hq | ⟨k4, g4, hk4, ha4, rfl, was4, dn4, hw4, rfl⟩); (obtain rfl := hq.is; first | exact ⟨rfl, .inl hq⟩ | (go_simp; exact ⟨rfl, .inl hq⟩) | (simp only [Exit.jump]; exact ⟨rfl, .inl hq⟩)); have HA4 : Hid (c.At k4 { f with g := gg, w := was3, chain := b2, give := d2, back := h2, behind := i2, pc := 84 } v4) := Lib.hid (Cx.at_to ha4 (tell83 _ _ rfl)); clear ha4)
      | (go_at_call 81; (with_reducible refine (c.swap hok HA4.out (by simp) 3 (gg % 3) was3 (gg % 4294967296 * 4294967296 + f.s % 4294967296) (ask84 rfl)).mono ?_); rintro e v5 (hq | ⟨k5, g5, hk5, ha5, was5, dn5, hw5, rfl, rfl⟩); (obtain rfl := hq.is; first | exact ⟨rfl, .inl hq⟩ | (go_simp; exact ⟨rfl, .inl hq⟩) | (simp only [Exit.jump]; exact ⟨rfl, .inl hq⟩)); (cases dn5 <;> have HA5 := Lib.hid ha5 <;> clear ha5))
      | (go_at_call 66; (first | (refine (low_c _ _ x0 x1).mono ?_) | (refine (low_c _ _ s0 s1).mono ?_)); rintro e w' ⟨rfl, rfl⟩)
      | (go_at_call 79; (first | (refine (high_c _ _ x0 x1).mono ?_) | (refine (high_c _ _ s0 s1).mono ?_)); rintro e w' ⟨rfl, rfl⟩)
      | (go_at_call 67; (first | (refine (handle_c _ _ s0 s1).mono ?_)); rintro e w' ⟨rfl, rfl⟩)
      | (go_at_call 70; refine (pack_c _ _ _ (by omega) (by omega) (by omega) (by omega)).mono ?_; rintro e w' ⟨rfl, rfl⟩))
    · go_step3
      have HA6 : Hid (c.At k5 { f with g := gg, w := was3, chain := b2, give := d2, back := h2, behind := i2, pc := 81 } v5) := Lib.hid (Cx.at_to HA5.out ((tell84 was5 false rfl).trans (if_neg (by decide))))
      exact ⟨rfl, ⟨k5, gg, was3, b2, d2, h2, i2, _, _, _, _, _, _, _, _, _, _, _, _, _, _, _, _, _, _, _, _, _, _, _, _, _, _, _, _, _, _, _, _, _, _, _, _, _, _, _, _, _, _, _, _, _, _, _, _, _, _, GG.out, by omega, HA6.out, rfl⟩⟩
    · simp only [Exit.jump]
      (first | go_end0 | refine bodyPost_ret (results_none rfl _ _ _) rfl ?_)
      exact .inr ⟨k5, _, by omega, Cx.at_to HA5.out ((tell84 was5 true rfl).trans (if_pos rfl)), rfl, gg, was3, b2, d2, h2, i2, GG.out, rfl⟩
    · go_step3
      have HA6 : Hid (c.At k5 { f with g := gg, w := was3, chain := b2, give := d2, back := h2, behind := i2, pc := 81 } v5) := Lib.hid (Cx.at_to HA5.out ((tell84 was5 false rfl).trans (if_neg (by decide))))
      exact ⟨rfl, ⟨k5, gg, was3, b2, d2, h2, i2, _, _, _, _, _, _, _, _, _, _, _, _, _, _, _, _, _, _, _, _, _, _, _, _, _, _, _, _, _, _, _, _, _, _, _, _, _, _, _, _, _, _, _, _, _, _, _, _, _, _, GG.out, by omega, HA6.out, rfl⟩⟩
    · simp only [Exit.jump]
      (first | go_end0 | refine bodyPost_ret (results_none rfl _ _ _) rfl ?_)
      exact .inr ⟨k5, _, by omega, Cx.at_to HA5.out ((tell84 was5 true rfl).trans (if_pos rfl)), rfl, gg, was3, b2, d2, h2, i2, GG.out, rfl⟩
    · go_step3
      exact ⟨rfl, ⟨k4, gg, a4, b4, d4, h4, i4, _, _, _, _, _, _, _, _, _, _, _, _, _, _, _, _, _, _, _, _, _, _, _, _, _, _, _, _, _, _, _, _, _, _, _, _, _, _, _, _, _, _, _, _, _, _, _, _, _, _, GG.out, by omega, HA4.out, rfl⟩⟩
  · rintro a' w' ⟨k2, gg, a2, b2, d2, h2, i2, u2, u3, u6, u7, u8, u9, u10, u11, u12, u13, u14, u15, u16, u17, u18, u19, u20, u21, u22, u23, u24, u25, u26, u27, u28, u29, u30, u31, u32, u33, u34, u35, u36, u37, u38, u39, u40, u41, u42, u43, u44, u45, u46, u47, u48, u49, u50, u51, u52, u53, hgg, hk1, hb2, rfl⟩
    have HA2 := Lib.hid hb2
    have GG := Lib.hid hgg
    obtain ⟨g0, g1⟩ := hgg
    clear hb2
    have A2 : Hid (docAsk c.kk c.K c.M ({ f with g := gg, w := a2, chain := b2, give := d2, back := h2, behind := i2, pc := 81 } : FS) = ⟨1, 3, gg % 3, 0, 0⟩) := Lib.hid (ask81 rfl)
    go_wp2_with (first
      | (go_at_call 76; (with_reducible refine (c.read hok HA2.out (by simp) 3 (gg % 3) A2.out).mono ?_); rintro e v3 (hq | ⟨k3, g3, hk3, ha3, was3, dn3, hw3, rfl, rfl⟩); (obtain rfl := hq.is; first | exact ⟨rfl, .inl hq⟩ | (go_simp; exact ⟨rfl, .inl hq⟩) | (simp only [Exit.jump]; exact ⟨rfl, .inl hq⟩)); (obtain ⟨x0, x1⟩ := id hw3); (have HW3 := Lib.hid hw3; clear hw3); (rcases Decidable.em (was3 % 4294967296 = 0) with hl | hl <;> (first | ((have hz1 : (was3 % 4294967296 != 0) = false := by (rw [hl]; simp)); (have HC := Lib.hid (w81_no1 (g := gg) hl))) | ((have hz1 : (was3 % 4294967296 != 0) = true := by simpa using hl); (rcases Decidable.em (was3 / 4294967296 = gg % 4294967296) with hh | hh <;> (first | ((have hz2 : (was3 / 4294967296 != gg % 4294967296) = false := by (rw [hh]; simp)); (have HC := Lib.hid (w81_no2 hh)); clear hh) | ((have hz2 : (was3 / 4294967296 != gg % 4294967296) = true := by simpa using hh); (have HC := Lib.hid (w81_yes hl hh)); clear hh))))) <;> have HA3 := Lib.hid ha3 <;> clear hl ha3))
      | (go_at_call 80; go_must (have HAE : Hid (c.At k3 { f with g := gg, w := was3, chain := b2, give := d2, back := h2, behind := i2, pc := 82 } v3) := Lib.hid (Cx.at_to HA3.out ((tell81 was3 dn3 rfl).trans (by rw [if_pos HC.out]))); have HTE : Hid (∀ was dn, c.tel ({ f with g := gg, w := was3, chain := b2, give := d2, back := h2, behind := i2, pc := 82 } : FS) was dn = if dn then ({ f with g := gg, w := was3, chain := b2, give := d2, back := h2, behind := i2, pc := 82 } : FS).chained (lo was3) 81 else { f with g := gg, w := was3, chain := b2, give := d2, back := h2, behind := i2, pc := 81 }) := Lib.hid (fun was dn => tell82 was dn rfl)); (with_reducible refine (c.empty hok HAE.out (at_ := gg % 3) (x := was3) 81 HW3.out (by simp) (ask82 rfl) HTE.out).mono ?_); rintro e v4 (hq | ⟨k4, g4, hk4, ha4, rfl, a4, b4, d4, h4, i4, rfl⟩); (obtain rfl := hq.is; first | exact ⟨rfl, .inl hq⟩ | (go_simp; exact ⟨rfl, .inl hq⟩) | (simp only [Exit.jump]; exact ⟨rfl, .inl hq⟩)); (have HA4 := Lib.hid ha4; clear ha4))
      | (go_at_call 77; go_must (have HAW : Hid (c.At k3 { f with g := gg, w := was3, chain := b2, give := d2, back := h2, behind := i2, pc := 83 } v3) := Lib.hid (Cx.at_to HA3.out ((tell81 was3 dn3 rfl).trans (by rw [if_neg HC.out])))); (with_reducible refine (c.write hok HAW.out (by simp) 7 (f.s % 4294967296 - 1) ((f.s / 4294967296 + 1) % 4294967296 * 4294967296 + was3 % 4294967296) (ask83 rfl)).mono ?_); rintro e v4 (hq | ⟨k4, g4, hk4, ha4, rfl, was4, dn4, hw4, rfl⟩); (obtain rfl := hq.is; first | exact ⟨rfl, .inl hq⟩ | (go_simp; exact ⟨rfl, .inl hq⟩) | (simp only [Exit.jump]; exact ⟨rfl, .inl hq⟩)); have HA4 : Hid (c.At k4 { f with g := gg, w := was3, chain := b2, give := d2, back := h2, behind := i2, pc := 84 } v4) := Lib.hid (Cx.at_to ha4 (tell83 _ _ rfl)); clear ha4)
      | (go_at_call 81; (with_reducible refine (c.swap hok HA4.out (by simp) 3 (gg % 3) was3 (gg % 4294967296 * 4294967296 + f.s % 4294967296) (ask84 rfl)).mono ?_); rintro e v5 (hq | ⟨k5, g5, hk5, ha5, was5, dn5, hw5, rfl, rfl⟩); (obtain rfl := hq.is; first | exact ⟨rfl, .inl hq⟩ | (go_simp; exact ⟨rfl, .inl hq⟩) | (simp only [Exit.jump]; exact ⟨rfl, .inl hq⟩)); (cases dn5 <;> have HA5 := Lib.hid ha5 <;> clear ha5))
      | (go_at_call 66; (first | (refine (low_c _ _ x0 x1).mono ?_) | (refine (low_c _ _ s0 s1).mono ?_)); rintro e w' ⟨rfl, rfl⟩)
      | (go_at_call 79; (first | (refine (high_c _ _ x0 x1).mono ?_) | (refine (high_c _ _ s0 s1).mono ?_)); rintro e w' ⟨rfl, rfl⟩)
      | (go_at_call 67; (first | (refine (handle_c _ _ s0 s1).mono ?_)); rintro e w' ⟨rfl, rfl⟩)
      | (go_at_call 70; refine (pack_c _ _ _ (by omega) (by omega) (by omega) (by omega)).mono ?_; rintro e w' ⟨rfl, rfl⟩))
    · go_step3
      have HA6 : Hid (c.At k5 { f with g := gg, w := was3, chain := b2, give := d2, back := h2, behind := i2, pc := 81 } v5) := Lib.hid (Cx.at_to HA5.out ((tell84 was5 false rfl).trans (if_neg (by decide))))
      exact ⟨rfl, ⟨k5, gg, was3, b2, d2, h2, i2, _, _, _, _, _, _, _, _, _, _, _, _, _, _, _, _, _, _, _, _, _, _, _, _, _, _, _, _, _, _, _, _, _, _, _, _, _, _, _, _, _, _, _, _, _, _, _, _, _, _, GG.out, by omega, HA6.out, rfl⟩, Cx.less HA2.out HA6.out (by omega)⟩
    · simp only [Exit.jump]
      (first | go_end0 | refine bodyPost_ret (results_none rfl _ _ _) rfl ?_)
      exact .inr ⟨k5, _, by omega, Cx.at_to HA5.out ((tell84 was5 true rfl).trans (if_pos rfl)), rfl, gg, was3, b2, d2, h2, i2, GG.out, rfl⟩
    · go_step3
      have HA6 : Hid (c.At k5 { f with g := gg, w := was3, chain := b2, give := d2, back := h2, behind := i2, pc := 81 } v5) := Lib.hid (Cx.at_to HA5.out ((tell84 was5 false rfl).trans (if_neg (by decide))))
      exact ⟨rfl, ⟨k5, gg, was3, b2, d2, h2, i2, _, _, _, _, _, _, _, _, _, _, _, _, _, _, _, _, _, _, _, _, _, _, _, _, _, _, _, _, _, _, _, _, _, _, _, _, _, _, _, _, _, _, _, _, _, _, _, _, _, _, GG.out, by omega, HA6.out, rfl⟩, Cx.less HA2.out HA6.out (by omega)⟩
    · simp only [Exit.jump]
      (first | go_end0 | refine bodyPost_ret (results_none rfl _ _ _) rfl ?_)
      exact .inr ⟨k5, _, by omega, Cx.at_to HA5.out ((tell84 was5 true rfl).trans (if_pos rfl)), rfl, gg, was3, b2, d2, h2, i2, GG.out, rfl⟩
    · go_step3
      exact ⟨rfl, ⟨k4, gg, a4, b4, d4, h4, i4, _, _, _, _, _, _, _, _, _, _, _, _, _, _, _, _, _, _, _, _, _, _, _, _, _, _, _, _, _, _, _, _, _, _, _, _, _, _, _, _, _, _, _, _, _, _, _, _, _, _, GG.out, by omega, HA4.out, rfl⟩, Cx.less HA2.out HA4.out (by omega)⟩
end Go.Proofs.Ytffppdcpiieapaa.Arenac

namespace Go.Proofs.Ytffppdcpiieapaa.Arenac
open Go.RowKit Go.Proofs.Ytffppdcpiieapaa.Memc Go.Proofs.Ytffppdcpiieapaa.Procc Go.Proofs.Ytffppdcpiieapaa.Machc Go.Proofs.Ytffppdcpiieapaa.Drivec Go.Proofs.Ytffppdcpiieapaa.Wordc
set_option linter.unusedVariables false
set_option maxRecDepth 100000

theorem w34_no {was g : Int} (h : ¬ was % 4294967296 = 0) (h2 : was / 4294967296 + 2 ≤ g) : ¬ (lo was = 0 ∨ hi was + 2 > g) := fun x => x.elim h (fun x => absurd h2 (by unfold hi at x; omega))
theorem w34_z {was g : Int} (h : was % 4294967296 = 0) : lo was = 0 ∨ hi was + 2 > g := .inl h
theorem w34_yes {was g : Int} (h2 : ¬ was / 4294967296 + 2 ≤ g) : lo was = 0 ∨ hi was + 2 > g := .inr (by unfold hi; omega)
set_option maxHeartbeats 4000000 in
theorem Cx.reached (c : Cx) (hok : c.Ok) {k : Nat} {f : FS} {w : World} (h : c.At k f w) {g : Int} (hg : W64 g) (hv : f.g = g) (hp : f.pc = 31) (h0 : f.pos = 0) (t1 : 1 ≤ c.T) (t2 : c.T ≤ 8) :
    Calls Try.prog 82 #[c.doer, .int .u64 g, .int .i64 c.T] w (c.To k fun f' e => ∃ (b : Bool) (p : Int), e = .returned (.bool b) ∧ f' = { f with pos := p, pc := if b then 32 else 33 }) := by
  obtain rfl := hv
  obtain ⟨g0, g1⟩ := id hg
  have gw : IntKind.u64.wrap (f.g + 1) = w64 (f.g + 1) := by rw [IntKind.wrap_u64]; rfl
  have HA0 : Hid (c.At k { f with pos := ((0 : Nat) : Int), pc := if 0 = c.T then 32 else 31 } w) := Lib.hid (Cx.at_to h (by rw [if_neg (by omega)]; cases f; simp only at hp h0; subst hp h0; rfl))
  clear h hp h0 hg
  go_enter Try.func82, Try.ntmps82
  go_wp2_with fail
  go_loopw [10] (fun i wr => ∃ (j k2 : Nat), i = .int .i64 j ∧ j ≤ c.T ∧ k ≤ k2 ∧ c.At k2 { f with pos := (j : Int), pc := if j = c.T then 32 else 31 } wr) (fun _ wr => c.fs.length - kOf c.gn wr)
  case atStart => exact ⟨0, k, rfl, Nat.zero_le _, Nat.le_refl _, HA0.out⟩
  case round =>
    obtain ⟨j, k2, rfl, hj, hk2, h2⟩ := hrel
    by_cases hz0 : j = c.T
    · rw [if_pos hz0] at h2
      have HA2 := Lib.hid h2
      clear h2
      subst hz0
      go_wp2
      go_ret
      exact .inr ⟨k2, _, hk2, HA2.out, true, _, rfl, rfl⟩
    · rw [if_neg hz0] at h2
      have HA2 := Lib.hid h2
      have hlt : (j : Int) < (c.T : Int) := by omega
      have j0 : (0 : Int) ≤ j := by omega
      have j1 : (j : Int) ≤ 8 := by omega
      have A2 : Hid (docAsk c.kk c.K c.M ({ f with pos := (j : Int), pc := 31 } : FS) = ⟨1, 4, j, 0, 0⟩) := Lib.hid (ask31 rfl)
      clear h2
      go_wp2_with (first
  | (go_at_call 76; (with_reducible refine (c.read hok HA2.out (by simp) 4 j A2.out).mono ?_); rintro e v3 (hq | ⟨k3, g3, hk3, ha3, was3, dn3, hw3, rfl, rfl⟩); (obtain rfl := hq.is; first | exact ⟨rfl, .inl hq⟩ | (go_simp; exact ⟨rfl, .inl hq⟩) | (simp only [Exit.jump]; exact ⟨rfl, .inl hq⟩)); (rcases Decidable.em (was3 = 0) with hl | hl <;> rcases Decidable.em (was3 = w64 (f.g + 1)) with hh | hh <;> (first | (have hz1 : (was3 != 0) = false := by (rw [hl]; simp)) | (have hz1 : (was3 != 0) = true := by simpa using hl)) <;> (first | (have hz2 : (was3 != w64 (f.g + 1)) = false := by (rw [hh]; simp)) | (have hz2 : (was3 != w64 (f.g + 1)) = true := by simpa using hh)) <;> have HL := Lib.hid hl <;> have HH := Lib.hid hh <;> have HA3 := Lib.hid ha3 <;> clear hl hh ha3)))
      · go_roundw
        case rel =>
          refine ⟨j + 1, k3, by go_num, by omega, by omega, Cx.at_to HA3.out ((tell31 was3 dn3 rfl).trans (if_neg (fun h => h.1 HL.out)) |>.trans ?_)⟩
          have e1 : ((j : Int) + 1 = (c.T : Int)) = (j + 1 = c.T) := by apply propext; omega
          simp only [e1]; rfl
        case measure =>
          have := Cx.le HA2.out
          rw [Cx.kof HA2.out, Cx.kof HA3.out]
          have := Cx.le HA3.out
          omega
      · go_roundw
        case rel =>
          refine ⟨j + 1, k3, by go_num, by omega, by omega, Cx.at_to HA3.out ((tell31 was3 dn3 rfl).trans (if_neg (fun h => h.1 HL.out)) |>.trans ?_)⟩
          have e1 : ((j : Int) + 1 = (c.T : Int)) = (j + 1 = c.T) := by apply propext; omega
          simp only [e1]; rfl
        case measure =>
          have := Cx.le HA2.out
          rw [Cx.kof HA2.out, Cx.kof HA3.out]
          have := Cx.le HA3.out
          omega
      · go_roundw
        case rel =>
          refine ⟨j + 1, k3, by go_num, by omega, by omega, Cx.at_to HA3.out ((tell31 was3 dn3 rfl).trans (if_neg (fun h => h.2 HH.out)) |>.trans ?_)⟩
          have e1 : ((j : Int) + 1 = (c.T : Int)) = (j + 1 = c.T) := by apply propext; omega
          simp only [e1]; rfl
        case measure =>
          have := Cx.le HA2.out
          rw [Cx.kof HA2.out, Cx.kof HA3.out]
          have := Cx.le HA3.out
          omega
      · go_ret
        exact .inr ⟨k3, _, by omega, Cx.at_to HA3.out ((tell31 was3 dn3 rfl).trans (if_pos ⟨HL.out, HH.out⟩)), false, _, rfl, rfl⟩
set_option maxHeartbeats 4000000 in
theorem Cx.collect (c : Cx) (hok : c.Ok) {k : Nat} {f : FS} {w : World} (h : c.At k f w) (hp : f.pc = 30) (t1 : 1 ≤ c.T) (t2 : c.T ≤ 8) :
    Calls Try.prog 49 #[c.doer, .int .i64 c.T] w (c.To (k + 1) fun f' e => e = .returned (.tuple #[]) ∧ ∃ g p a b d h i : Int, f' = { f with g := g, pos := p, w := a, chain := b, give := d, back := h, behind := i, pc := 0 }) := by
  have HA0 := Lib.hid h
  have A0 := Lib.hid (ask30 (k := c.kk) (K := c.K) (M := c.M) hp)
  have T0 := Lib.hid (fun was dn => tell30 (k := c.kk) (K := c.K) (T := c.T) (M := c.M) was dn hp)
  have P0 := Lib.hid (show ¬ f.pc = 0 by rw [hp]; decide)
  clear h hp
  go_enter Try.func49, Try.ntmps49
  go_wp2_with (first
  | (go_at_call 76; (with_reducible refine (c.read hok HA0.out P0.out 1 0 A0.out).mono ?_); rintro e v1 (hq | ⟨k1, g1, hk1, ha1, was1, dn1, hw1, rfl, rfl⟩); (obtain rfl := hq.is; first | exact ⟨rfl, .inl hq⟩ | (go_simp; exact ⟨rfl, .inl hq⟩) | (simp only [Exit.jump]; exact ⟨rfl, .inl hq⟩)); (have GG := Lib.hid hw1); clear hw1; (have gw1 : IntKind.u64.wrap (was1 + 1) = w64 (was1 + 1) := by rw [IntKind.wrap_u64]; rfl); have HA1 : Hid (c.At k1 { f with g := was1, pos := 0, pc := 31 } v1) := Lib.hid (Cx.at_to ha1 (T0.out _ _)); clear ha1)
  | (go_at_call 82; (with_reducible refine (c.reached hok HA1.out GG.out (by rfl) (by rfl) (by rfl) t1 t2).mono ?_); rintro e v2 (hq | ⟨k2, g2, hk2, ha2, b2, p2, rfl, rfl⟩); (obtain rfl := hq.is; first | exact ⟨rfl, .inl hq⟩ | (go_simp; exact ⟨rfl, .inl hq⟩) | (simp only [Exit.jump]; exact ⟨rfl, .inl hq⟩)); (cases b2 <;> have HA2 := Lib.hid ha2 <;> clear ha2))
  | (go_at_call 81; go_must (have HAS : Hid (c.At k2 { f with g := was1, pos := p2, pc := 32 } v2) := Lib.hid HA2.out); (with_reducible refine (c.swap hok HAS.out (by simp) 1 0 was1 (w64 (was1 + 1)) (ask32 rfl)).mono ?_); rintro e v3 (hq | ⟨k3, g3, hk3, ha3, was3, dn3, hw3, rfl, rfl⟩); (obtain rfl := hq.is; first | exact ⟨rfl, .inl hq⟩ | (go_simp; exact ⟨rfl, .inl hq⟩) | (simp only [Exit.jump]; exact ⟨rfl, .inl hq⟩)); have HA3 : Hid (c.At k3 { f with g := was1, pos := p2, pc := 33 } v3) := Lib.hid (Cx.at_to ha3 (tell32 _ _ rfl)); clear ha3)
  | (go_at_call 76; (have HAR : Hid (c.At k3 { f with g := was1, pos := p2, pc := 33 } v3) := Lib.hid HA3.out); (with_reducible refine (c.read hok HAR.out (by simp) 1 0 (ask33 rfl)).mono ?_); rintro e v4 (hq | ⟨k4, g4, hk4, ha4, was4, dn4, hw4, rfl, rfl⟩); (obtain rfl := hq.is; first | exact ⟨rfl, .inl hq⟩ | (go_simp; exact ⟨rfl, .inl hq⟩) | (simp only [Exit.jump]; exact ⟨rfl, .inl hq⟩)); (obtain ⟨y0, y1⟩ := id hw4); (have gw4 : IntKind.u64.wrap (was4 + 1) = w64 (was4 + 1) := by rw [IntKind.wrap_u64]; rfl); clear hw4 HAR; have HA4 : Hid (c.At k4 { f with g := was4, pos := p2, pc := 34 } v4) := Lib.hid (Cx.at_to ha4 (tell33 _ _ rfl)); clear ha4)
  | (go_at_call 76; (have HAR : Hid (c.At k2 { f with g := was1, pos := p2, pc := 33 } v2) := Lib.hid HA2.out); (with_reducible refine (c.read hok HAR.out (by simp) 1 0 (ask33 rfl)).mono ?_); rintro e v4 (hq | ⟨k4, g4, hk4, ha4, was4, dn4, hw4, rfl, rfl⟩); (obtain rfl := hq.is; first | exact ⟨rfl, .inl hq⟩ | (go_simp; exact ⟨rfl, .inl hq⟩) | (simp only [Exit.jump]; exact ⟨rfl, .inl hq⟩)); (obtain ⟨y0, y1⟩ := id hw4); (have gw4 : IntKind.u64.wrap (was4 + 1) = w64 (was4 + 1) := by rw [IntKind.wrap_u64]; rfl); clear hw4 HAR; have HA4 : Hid (c.At k4 { f with g := was4, pos := p2, pc := 34 } v4) := Lib.hid (Cx.at_to ha4 (tell33 _ _ rfl)); clear ha4)
  | (go_at_call 78; (first | (refine (limbo_c _ _ g0 g1).mono ?_) | (refine (limbo_c _ _ (w64_0 _) (w64_1 _)).mono ?_)); rintro e w' ⟨rfl, rfl⟩)
  | (go_at_call 76; (with_reducible refine (c.read hok HA4.out (by simp) 3 (w64 (was4 + 1) % 3) (ask34 rfl)).mono ?_); rintro e v5 (hq | ⟨k5, g5, hk5, ha5, was5, dn5, hw5, rfl, rfl⟩); (obtain rfl := hq.is; first | exact ⟨rfl, .inl hq⟩ | (go_simp; exact ⟨rfl, .inl hq⟩) | (simp only [Exit.jump]; exact ⟨rfl, .inl hq⟩)); (obtain ⟨x0, x1⟩ := id hw5); (have HW5 := Lib.hid hw5; clear hw5); (have cw5 : IntKind.u64.wrap (was5 / 4294967296) = was5 / 4294967296 := by rw [IntKind.wrap_u64]; omega); (have pw5 : IntKind.u64.wrap (was5 / 4294967296 + 2) = was5 / 4294967296 + 2 := by rw [IntKind.wrap_u64]; omega); (rcases Decidable.em (was5 % 4294967296 = 0) with hl | hl <;> (first | ((have hz1 : (was5 % 4294967296 != 0) = false := by (rw [hl]; simp)); (have HC := Lib.hid (w34_z (g := was4) hl))) | ((have hz1 : (was5 % 4294967296 != 0) = true := by simpa using hl); (rcases Decidable.em (was5 / 4294967296 + 2 ≤ was4) with hh | hh <;> (first | ((have hz2 : decide (was5 / 4294967296 + 2 ≤ was4) = true := decide_eq_true hh); (have HC := Lib.hid (w34_no hl hh))) | ((have hz2 : decide (was5 / 4294967296 + 2 ≤ was4) = false := decide_eq_false hh); (have HC := Lib.hid (w34_yes hh)))) <;> clear hh))) <;> have HA5 := Lib.hid ha5 <;> clear hl ha5))
  | (go_at_call 80; go_must (have HAE : Hid (c.At k5 { f with g := was4, pos := p2, w := was5, pc := 35 } v5) := Lib.hid (Cx.at_to HA5.out ((tell34 was5 dn5 rfl).trans (by rw [if_neg HC.out]))); have HTE : Hid (∀ was dn, c.tel ({ f with g := was4, pos := p2, w := was5, pc := 35 } : FS) was dn = if dn then ({ f with g := was4, pos := p2, w := was5, pc := 35 } : FS).chained (lo was5) 0 else { f with g := was4, pos := p2, w := was5, pc := 0 }) := Lib.hid (fun was dn => tell35 was dn rfl)); (with_reducible refine (c.empty hok HAE.out (at_ := w64 (was4 + 1) % 3) (x := was5) 0 HW5.out (by simp) (ask35 rfl) HTE.out).mono ?_); rintro e v6 (hq | ⟨k6, g6, hk6, ha6, rfl, a6, b6, d6, h6, i6, rfl⟩); (obtain rfl := hq.is; first | exact ⟨rfl, .inl hq⟩ | (go_simp; exact ⟨rfl, .inl hq⟩) | (simp only [Exit.jump]; exact ⟨rfl, .inl hq⟩)); (have HA6 := Lib.hid ha6; clear ha6))
  | (go_at_call 66; (first | (refine (low_c _ _ x0 x1).mono ?_)); rintro e w' ⟨rfl, rfl⟩)
  | (go_at_call 79; (first | (refine (high_c _ _ x0 x1).mono ?_)); rintro e w' ⟨rfl, rfl⟩))
  all_goals (first | go_end0 | refine bodyPost_ret (results_none rfl _ _ _) rfl ?_)
  all_goals first
    | exact .inr ⟨k6, _, by omega, HA6.out, rfl, was4, p2, a6, b6, d6, h6, i6, rfl⟩
    | exact .inr ⟨k5, _, by omega, Cx.at_to HA5.out ((tell34 was5 dn5 rfl).trans (by rw [if_pos HC.out])), rfl, was4, p2, was5, f.chain, f.give, f.back, f.behind, rfl⟩
end Go.Proofs.Ytffppdcpiieapaa.Arenac
