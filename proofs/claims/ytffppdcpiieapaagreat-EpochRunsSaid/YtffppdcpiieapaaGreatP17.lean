/- A part of the proof. -/
import Derived.WalkMore
import Derived.ScopeJumps
import Derived.Test.YtffppdcpiieapaaGreatP14
import Derived.Test.YtffppdcpiieapaaGreatP16
namespace Go.Proofs.YtffppdcpiieapaaGreat.Arenac
open Go.RowKit Memc Procc Machc Drivec Wordc
set_option linter.unusedVariables false
set_option maxRecDepth 100000

set_option maxHeartbeats 4000000 in
theorem Cx.give (c : Cx) (hok : c.Ok) {k : Nat} {f : FS} {w : World} (h : c.At k f w) {rf : Int} (hr : W64 rf) (hv : f.give = rf) (hp : f.pc = 95) :
   Calls Tryz.prog 66 #[c.doer, .int .u64 rf] w (c.To (k + 1) fun f' e => e = .returned (.tuple #[]) /\ ∃ a : Int, f' = gave { f with w := a, pc := 97 }) := by
 obtain rfl := hv
 obtain ⟨r0, r1⟩ := id hr
 have HR := lh hr
 have HA2 : Hid (c.At k { f with w := f.w, pc := 95 } w) := lh (Cx.at_to h (Cx.fs_pc hp).symm)
 clear h hp hr
 go_enter Tryz.func66, Tryz.ntmps66
 go_wp2_with fail
 refine wp_scope_jumps 0 (fun a' w' => ∃ (k2 : Nat) (a2 : Int) (u2 u3 u4 u5 u6 u7 u8 u9 u10 u11 u12 u13 u14 u15 u16 u17 u18 u19 u20 : Value), k <= k2 /\ c.At k2 { f with w := a2, pc := 95 } w' /\ a' = { tmps := #[c.doer, .int .u64 f.give, u2, u3, u4, u5, u6, u7, u8, u9, u10, u11, u12, u13, u14, u15, u16, u17, u18, u19, u20], defers := [] }) (fun _ w' => c.fs.length - kOf c.gn w') rfl ?_ ?_
 · go_wp2_with fail
   go_step3
   obtain ⟨k2, hk2⟩ : ∃ k2 : Nat, k2 = k := ⟨_, rfl⟩
   rw [<- hk2] at HA2
   obtain ⟨a2, ha2⟩ : ∃ a2 : Int, a2 = f.w := ⟨_, rfl⟩
   rw [<- ha2] at HA2
   clear ha2
   have A2 : Hid (docAsk c.kk c.K c.M ({ f with w := a2, pc := 95 } : FS) = ⟨1, 2, 0, 0, 0⟩) := lh (ask95 rfl)
   go_wp2_with (first
     | (go_at_call 33; (with_reducible refine (c.read hok HA2.out (by simp) 2 0 A2.out).mono ?_); rintro e v3 (hq | ⟨k3, g3, hk3, ha3, was3, dn3, hw3, rfl, rfl⟩); (obtain rfl := hq.is; first | exact ⟨rfl, .inl hq⟩ | (go_simp; exact ⟨rfl, .inl hq⟩) | (simp only [Exit.jump]; exact ⟨rfl, .inl hq⟩)); (obtain ⟨x0, x1⟩ := id hw3); (have HW3 := lh hw3; clear hw3); have HA3 : Hid (c.At k3 { f with w := was3, pc := 96 } v3) := lh (Cx.at_to ha3 (tell95 _ _ rfl)); clear ha3; (have A3 : Hid (docAsk c.kk c.K c.M ({ f with w := was3, pc := 96 } : FS) = ⟨2, 7, f.give % 4294967296 - 1, 0, f.give / 4294967296 * 4294967296 + was3 % 4294967296⟩) := lh (ask96 rfl)))
     | (go_at_call 36; (first | (refine (low_c _ _ x0 x1).mono ?_)); rintro e w' ⟨rfl, rfl⟩)
     | (go_at_call 39; (first | (refine (handle_c _ _ r0 r1).mono ?_)); rintro e w' ⟨rfl, rfl⟩)
     | (go_at_call 37; (first | (refine (high_c _ _ r0 r1).mono ?_)); rintro e w' ⟨rfl, rfl⟩)
     | (go_at_call 40; refine (pack_c _ _ _ (by omega) (by omega) (by omega) (by omega)).mono ?_; rintro e w' ⟨rfl, rfl⟩)
     | (go_at_call 34; (with_reducible refine (c.write hok HA3.out (by simp) 7 (f.give % 4294967296 - 1) (f.give / 4294967296 * 4294967296 + was3 % 4294967296) A3.out).mono ?_); rintro e v4 (hq | ⟨k4, g4, hk4, ha4, rfl, was4, dn4, hw4, rfl⟩); (obtain rfl := hq.is; first | exact ⟨rfl, .inl hq⟩ | (go_simp; exact ⟨rfl, .inl hq⟩) | (simp only [Exit.jump]; exact ⟨rfl, .inl hq⟩)); have HA4 : Hid (c.At k4 { f with w := was3, pc := 97 } v4) := lh (Cx.at_to ha4 (tell96 _ _ rfl)); clear ha4)
     | (go_at_call 92; (with_reducible refine (c.lead hok HA4.out (by simp) HW3.out HR.out (ask97 rfl)).mono ?_); rintro e v5 (hq | ⟨k5, g5, hk5, ha5, was5, dn5, hw5, rfl, rfl⟩); (obtain rfl := hq.is; first | exact ⟨rfl, .inl hq⟩ | (go_simp; exact ⟨rfl, .inl hq⟩) | (simp only [Exit.jump]; exact ⟨rfl, .inl hq⟩)); (cases dn5 <;> have HA5 := lh ha5 <;> clear ha5)))
   · go_step3
     have HA6 : Hid (c.At k5 { f with w := was3, pc := 95 } v5) := lh (Cx.at_to HA5.out (tell97f (f := { f with w := was3, pc := 97 }) was5 rfl rfl))
     exact ⟨rfl, ⟨k5, was3, _, _, _, _, _, _, _, _, _, _, _, _, _, _, _, _, _, _, _, by omega, HA6.out, rfl⟩⟩
   · simp only [Exit.jump]
     (first | go_end0 | refine bodyPost_ret (results_none rfl _ _ _) rfl ?_)
     exact .inr ⟨k5, _, by omega, Cx.at_to HA5.out (tell97t (f := { f with w := was3, pc := 97 }) was5 rfl rfl), rfl, was3, rfl⟩
 · rintro a' w' ⟨k2, a2, u2, u3, u4, u5, u6, u7, u8, u9, u10, u11, u12, u13, u14, u15, u16, u17, u18, u19, u20, hk2, h2, rfl⟩
   have HA2 := lh h2
   clear h2
   have A2 : Hid (docAsk c.kk c.K c.M ({ f with w := a2, pc := 95 } : FS) = ⟨1, 2, 0, 0, 0⟩) := lh (ask95 rfl)
   go_wp2_with (first
     | (go_at_call 33; (with_reducible refine (c.read hok HA2.out (by simp) 2 0 A2.out).mono ?_); rintro e v3 (hq | ⟨k3, g3, hk3, ha3, was3, dn3, hw3, rfl, rfl⟩); (obtain rfl := hq.is; first | exact ⟨rfl, .inl hq⟩ | (go_simp; exact ⟨rfl, .inl hq⟩) | (simp only [Exit.jump]; exact ⟨rfl, .inl hq⟩)); (obtain ⟨x0, x1⟩ := id hw3); (have HW3 := lh hw3; clear hw3); have HA3 : Hid (c.At k3 { f with w := was3, pc := 96 } v3) := lh (Cx.at_to ha3 (tell95 _ _ rfl)); clear ha3; (have A3 : Hid (docAsk c.kk c.K c.M ({ f with w := was3, pc := 96 } : FS) = ⟨2, 7, f.give % 4294967296 - 1, 0, f.give / 4294967296 * 4294967296 + was3 % 4294967296⟩) := lh (ask96 rfl)))
     | (go_at_call 36; (first | (refine (low_c _ _ x0 x1).mono ?_)); rintro e w' ⟨rfl, rfl⟩)
     | (go_at_call 39; (first | (refine (handle_c _ _ r0 r1).mono ?_)); rintro e w' ⟨rfl, rfl⟩)
     | (go_at_call 37; (first | (refine (high_c _ _ r0 r1).mono ?_)); rintro e w' ⟨rfl, rfl⟩)
     | (go_at_call 40; refine (pack_c _ _ _ (by omega) (by omega) (by omega) (by omega)).mono ?_; rintro e w' ⟨rfl, rfl⟩)
     | (go_at_call 34; (with_reducible refine (c.write hok HA3.out (by simp) 7 (f.give % 4294967296 - 1) (f.give / 4294967296 * 4294967296 + was3 % 4294967296) A3.out).mono ?_); rintro e v4 (hq | ⟨k4, g4, hk4, ha4, rfl, was4, dn4, hw4, rfl⟩); (obtain rfl := hq.is; first | exact ⟨rfl, .inl hq⟩ | (go_simp; exact ⟨rfl, .inl hq⟩) | (simp only [Exit.jump]; exact ⟨rfl, .inl hq⟩)); have HA4 : Hid (c.At k4 { f with w := was3, pc := 97 } v4) := lh (Cx.at_to ha4 (tell96 _ _ rfl)); clear ha4)
     | (go_at_call 92; (with_reducible refine (c.lead hok HA4.out (by simp) HW3.out HR.out (ask97 rfl)).mono ?_); rintro e v5 (hq | ⟨k5, g5, hk5, ha5, was5, dn5, hw5, rfl, rfl⟩); (obtain rfl := hq.is; first | exact ⟨rfl, .inl hq⟩ | (go_simp; exact ⟨rfl, .inl hq⟩) | (simp only [Exit.jump]; exact ⟨rfl, .inl hq⟩)); (cases dn5 <;> have HA5 := lh ha5 <;> clear ha5)))
   · go_step3
     have HA6 : Hid (c.At k5 { f with w := was3, pc := 95 } v5) := lh (Cx.at_to HA5.out (tell97f (f := { f with w := was3, pc := 97 }) was5 rfl rfl))
     exact ⟨rfl, ⟨k5, was3, _, _, _, _, _, _, _, _, _, _, _, _, _, _, _, _, _, _, _, by omega, HA6.out, rfl⟩, Cx.less HA2.out HA6.out (by omega)⟩
   · simp only [Exit.jump]
     (first | go_end0 | refine bodyPost_ret (results_none rfl _ _ _) rfl ?_)
     exact .inr ⟨k5, _, by omega, Cx.at_to HA5.out (tell97t (f := { f with w := was3, pc := 97 }) was5 rfl rfl), rfl, was3, rfl⟩
set_option maxHeartbeats 4000000 in
theorem Cx.free (c : Cx) (hok : c.Ok) {k : Nat} {f : FS} {w : World} (h : c.At k f w) {low : Int} (hl : 0 <= low /\ low <= 4294967295) (hc : f.chain = low) (hp : f.pc = if low = 0 then f.behind else 86) :
   Calls Tryz.prog 56 #[c.doer, .int .u32 low] w (c.To k fun f' e => e = .returned (.tuple #[]) /\ ∃ a b d : Int, f' = { f with w := a, chain := 0, give := b, back := d, pc := f.behind }) := by
 have H0 : Hid (c.At k { f with w := f.w, chain := low, give := f.give, back := f.back, pc := if low = 0 then f.behind else 86 } w) := lh (Cx.at_to h (by subst hc; rw [<- hp]))
 have HL := lh hl
 clear h hp hc hl
 go_enter Tryz.func56, Tryz.ntmps56
 go_wp2_with fail
 go_loopw [1] (fun v wr => ∃ (lw : Int) (k2 : Nat) (a b d : Int), v = .int .u32 lw /\ 0 <= lw /\ lw <= 4294967295 /\ k <= k2 /\ c.At k2 { f with w := a, chain := lw, give := b, back := d, pc := if lw = 0 then f.behind else 86 } wr) (fun _ wr => c.fs.length - kOf c.gn wr)
 case atStart => exact ⟨low, k, _, _, _, rfl, HL.out.1, HL.out.2, Nat.le_refl _, H0.out⟩
 case round =>
   obtain ⟨lw, k2, a, b, d, rfl, l0, l1, hk2, h2⟩ := hrel
   by_cases hz0 : lw = 0
   · rw [hz0, if_pos rfl] at h2
     have HA2 := lh h2
     clear h2
     subst hz0
     go_wp2
     (first | go_end0 | refine bodyPost_ret (results_none rfl _ _ _) rfl ?_)
     exact .inr ⟨k2, _, hk2, HA2.out, rfl, a, b, d, rfl⟩
   · rw [if_neg hz0] at h2
     have HA2 := lh h2
     have hz : (lw != 0) = true := by simpa using hz0
     have hm : lw % 4294967296 = lw := by omega
     have hm2 : lw % 18446744073709551616 = lw := by omega
     have L1 : lw <= 18446744073709551615 := by omega
     have A2 : Hid (docAsk c.kk c.K c.M ({ f with w := a, chain := lw, give := b, back := d, pc := 86 } : FS) = ⟨1, 7, lw - 1, 0, 0⟩) := lh (ask86 rfl)
     clear h2 hz0
     go_wp2_with (first
 | (go_at_call 33; (with_reducible refine (c.read hok HA2.out (by simp) 7 (lw - 1) A2.out).mono ?_); rintro e v3 (hq | ⟨k3, g3, hk3, ha3, was3, dn3, hw3, rfl, rfl⟩); (obtain rfl := hq.is; first | exact ⟨rfl, .inl hq⟩ | (go_simp; exact ⟨rfl, .inl hq⟩) | (simp only [Exit.jump]; exact ⟨rfl, .inl hq⟩)); (obtain ⟨x0, x1⟩ := id hw3); clear hw3; have HA3 : Hid (c.At k3 { f with w := a, chain := lo was3, give := was3 / 4294967296 * 4294967296 + lw, back := 87, pc := 95 } v3) := lh (Cx.at_to ha3 (tell86 _ _ rfl)); clear ha3; (have W3 : Hid (W64 (was3 / 4294967296 * 4294967296 + lw)) := lh ⟨by omega, by omega⟩))
 | (go_at_call 39; refine (handle_c _ _ (by omega) (by omega)).mono ?_; rw [hm]; rintro e w' ⟨rfl, rfl⟩)
 | (go_at_call 36; (first | (refine (low_c _ _ x0 x1).mono ?_)); rintro e w' ⟨rfl, rfl⟩)
 | (go_at_call 37; (first | (refine (high_c _ _ x0 x1).mono ?_)); rintro e w' ⟨rfl, rfl⟩)
 | (go_at_call 40; refine (pack_c _ _ _ (by omega) (by omega) (by omega) (by omega)).mono ?_; rintro e w' ⟨rfl, rfl⟩)
 | (go_at_call 66; (with_reducible refine (c.give hok HA3.out W3.out (by rfl) (by rfl)).mono ?_); rintro e v4 (hq | ⟨k4, g4, hk4, ha4, rfl, a4, rfl⟩); (obtain rfl := hq.is; first | exact ⟨rfl, .inl hq⟩ | (go_simp; exact ⟨rfl, .inl hq⟩) | (simp only [Exit.jump]; exact ⟨rfl, .inl hq⟩)); (have HA4 := lh ha4; clear ha4)))
     have HA5 : Hid (c.At k4 { f with w := a4, chain := lo was3, give := was3 / 4294967296 * 4294967296 + lw, back := 87, pc := if lo was3 = 0 then f.behind else 86 } v4) := lh (Cx.at_to HA4.out (by unfold gave; rw [if_pos rfl]; rfl))
     go_roundw
     case rel => exact ⟨was3 % 4294967296, k4, _, _, _, rfl, by omega, by omega, by omega, HA5.out⟩
     case measure => exact Cx.less HA2.out HA5.out (by omega)
set_option maxHeartbeats 4000000 in
theorem Cx.empty (c : Cx) (hok : c.Ok) {k : Nat} {f : FS} {w : World} (h : c.At k f w) {at_ x : Int} (tg : Int) (hx : W64 x) (hp : ¬ f.pc = 0) (ha : docAsk c.kk c.K c.M f = ⟨3, 3, at_, x, pk (hi x) 0⟩) (ht : ∀ was dn, c.tel f was dn = if dn then f.chained (lo x) tg else { f with pc := tg }) :
   Calls Tryz.prog 38 #[c.doer, .int .i64 at_, .int .u64 x] w (c.To (k + 1) fun f' e => e = .returned (.tuple #[]) /\ ∃ a b d g i : Int, f' = { f with w := a, chain := b, give := d, back := g, behind := i, pc := tg }) := by
 obtain ⟨x0, x1⟩ := id hx
 have A0 : Hid (docAsk c.kk c.K c.M f = ⟨3, 3, at_, x, x / 4294967296 * 4294967296 + 0⟩) := lh ha
 have A1 : Hid (docAsk c.kk c.K c.M f = ⟨3, 3, at_, x, x / 4294967296 * 4294967296⟩) := lh (ha.trans (by unfold pk hi; simp))
 have T0 := lh ht
 have P0 := lh hp
 have HA0 := lh h
 clear h ha ht hp hx
 go_enter Tryz.func38, Tryz.ntmps38
 go_wp2_with (first
 | (go_at_call 36; (first | (refine (low_c _ _ x0 x1).mono ?_)); rintro e w' ⟨rfl, rfl⟩)
 | (go_at_call 37; (first | (refine (high_c _ _ x0 x1).mono ?_)); rintro e w' ⟨rfl, rfl⟩)
 | (go_at_call 40; refine (pack_c _ _ _ (by omega) (by omega) (by omega) (by omega)).mono ?_; rintro e w' ⟨rfl, rfl⟩)
 | (go_at_call 41; (with_reducible refine (c.swap hok HA0.out P0.out 3 at_ x (x / 4294967296 * 4294967296 + 0) A0.out).mono ?_); rintro e v1 (hq | ⟨k1, g1, hk1, ha1, was1, dn1, hw1, rfl, rfl⟩); (obtain rfl := hq.is; first | exact ⟨rfl, .inl hq⟩ | (go_simp; exact ⟨rfl, .inl hq⟩) | (simp only [Exit.jump]; exact ⟨rfl, .inl hq⟩)); (cases dn1 <;> (first | (have HA1 : Hid (c.At k1 { f with pc := tg } v1) := lh (Cx.at_to ha1 ((T0.out was1 false).trans (if_neg (by decide))))) | (have HA1 : Hid (c.At k1 { f with chain := x % 4294967296, behind := tg, pc := if x % 4294967296 = 0 then tg else 86 } v1) := lh (Cx.at_to ha1 ((T0.out was1 true).trans (if_pos rfl))))) <;> clear ha1))
 | (go_at_call 41; (with_reducible refine (c.swap hok HA0.out P0.out 3 at_ x (x / 4294967296 * 4294967296) A1.out).mono ?_); rintro e v1 (hq | ⟨k1, g1, hk1, ha1, was1, dn1, hw1, rfl, rfl⟩); (obtain rfl := hq.is; first | exact ⟨rfl, .inl hq⟩ | (go_simp; exact ⟨rfl, .inl hq⟩) | (simp only [Exit.jump]; exact ⟨rfl, .inl hq⟩)); (cases dn1 <;> (first | (have HA1 : Hid (c.At k1 { f with pc := tg } v1) := lh (Cx.at_to ha1 ((T0.out was1 false).trans (if_neg (by decide))))) | (have HA1 : Hid (c.At k1 { f with chain := x % 4294967296, behind := tg, pc := if x % 4294967296 = 0 then tg else 86 } v1) := lh (Cx.at_to ha1 ((T0.out was1 true).trans (if_pos rfl))))) <;> clear ha1))
 | (go_at_call 56; (with_reducible refine (c.free hok HA1.out (low := x % 4294967296) ⟨by omega, by omega⟩ (by rfl) (by rfl)).mono ?_); rintro e v2 (hq | ⟨k2, g2, hk2, ha2, rfl, a2, b2, d2, rfl⟩); (obtain rfl := hq.is; first | exact ⟨rfl, .inl hq⟩ | (go_simp; exact ⟨rfl, .inl hq⟩) | (simp only [Exit.jump]; exact ⟨rfl, .inl hq⟩)); (have HA2 := lh ha2; clear ha2)))
 · (first | go_end0 | refine bodyPost_ret (results_none rfl _ _ _) rfl ?_)
   exact .inr ⟨k1, _, hk1, HA1.out, rfl, f.w, f.chain, f.give, f.back, f.behind, rfl⟩
 · (first | go_end0 | refine bodyPost_ret (results_none rfl _ _ _) rfl ?_)
   exact .inr ⟨k2, _, by omega, HA2.out, rfl, a2, 0, b2, d2, tg, rfl⟩
end Go.Proofs.YtffppdcpiieapaaGreat.Arenac

namespace Go.Proofs.YtffppdcpiieapaaGreat.Arenac
open Go.RowKit Memc Procc Machc Drivec Wordc
set_option linter.unusedVariables false
set_option maxRecDepth 100000

theorem w81_no1 {was g : Int} (h : was % 4294967296 = 0) : ¬ (¬ lo was = 0 /\ ¬ hi was = lo g) := fun x => x.1 h
theorem w81_no2 {was g : Int} (h : was / 4294967296 = g % 4294967296) : ¬ (¬ lo was = 0 /\ ¬ hi was = lo g) := fun x => x.2 h
theorem w81_yes {was g : Int} (h : ¬ was % 4294967296 = 0) (h2 : ¬ was / 4294967296 = g % 4294967296) : ¬ lo was = 0 /\ ¬ hi was = lo g := ⟨h, h2⟩
theorem w64_0 (x : Int) : 0 <= w64 x := by unfold w64; omega
theorem w64_1 (x : Int) : w64 x <= 18446744073709551615 := by unfold w64; omega
theorem limbo_c (w : World) (g : Int) (g0 : 0 <= g) (g1 : g <= 18446744073709551615) : Calls Tryz.prog 35 #[.int .u64 g] w fun e w' => e = .returned (.int .i64 (g % 3)) /\ w = w' := by
 go_enter Tryz.func35, Tryz.ntmps35
 go_wp2
 go_ret
 exact ⟨rfl, rfl⟩
set_option maxHeartbeats 4000000 in
theorem Cx.retire (c : Cx) (hok : c.Ok) {k : Nat} {f : FS} {w : World} (h : c.At k f w) {rf : Int} (hs : W64 rf) (hv : f.s = rf) (hp : f.pc = 80) :
   Calls Tryz.prog 19 #[c.doer, .int .u64 rf] w (c.To (k + 1) fun f' e => e = .returned (.tuple #[]) /\ ∃ g a b d h i : Int, W64 g /\ f' = { f with g := g, w := a, chain := b, give := d, back := h, behind := i, pc := if f.kd = 8 then 0 else if c.kk = 1 then 20 else 50 }) := by
 obtain rfl := hv
 obtain ⟨s0, s1⟩ := id hs
 have HA0 := lh h
 have A0 := lh (ask80 (k := c.kk) (K := c.K) (M := c.M) hp)
 have T0 := lh (fun was dn => tell80 (k := c.kk) (K := c.K) (T := c.T) (M := c.M) was dn hp)
 have P0 := lh (show ¬ f.pc = 0 by rw [hp]; decide)
 clear h hp hs
 go_enter Tryz.func19, Tryz.ntmps19
 go_wp2_with fail
 refine wp_scope_jumps 0 (fun a' w' => ∃ (k2 : Nat) (gg a2 b2 d2 h2 i2 : Int) (u2 u3 u6 u7 u8 u9 u10 u11 u12 u13 u14 u15 u16 u17 u18 u19 u20 u21 u22 u23 u24 u25 u26 u27 u28 u29 u30 u31 u32 u33 u34 u35 u36 u37 u38 u39 u40 u41 u42 u43 u44 u45 u46 u47 u48 u49 u50 u51 u52 u53 : Value), W64 gg /\ k + 1 <= k2 /\ c.At k2 { f with g := gg, w := a2, chain := b2, give := d2, back := h2, behind := i2, pc := 81 } w' /\ a' = { tmps := #[c.doer, .int .u64 f.s, u2, u3, .int .u64 gg, .int .i64 (gg % 3), u6, u7, u8, u9, u10, u11, u12, u13, u14, u15, u16, u17, u18, u19, u20, u21, u22, u23, u24, u25, u26, u27, u28, u29, u30, u31, u32, u33, u34, u35, u36, u37, u38, u39, u40, u41, u42, u43, u44, u45, u46, u47, u48, u49, u50, u51, u52, u53], defers := [] }) (fun _ w' => c.fs.length - kOf c.gn w') rfl ?_ ?_
 · go_wp2_with (first
 | (go_at_call 33; (with_reducible refine (c.read hok HA0.out P0.out 1 0 A0.out).mono ?_); rintro e v1 (hq | ⟨k1, g1, hk1, ha1, was1, dn1, hw1, rfl, rfl⟩); (obtain rfl := hq.is; first | exact ⟨rfl, .inl hq⟩ | (go_simp; exact ⟨rfl, .inl hq⟩) | (simp only [Exit.jump]; exact ⟨rfl, .inl hq⟩)); (obtain ⟨g0, g1⟩ := id hw1); (have GG := lh hw1; clear hw1); have HA1 : Hid (c.At k1 { f with g := was1, pc := 81 } v1) := lh (Cx.at_to ha1 (T0.out _ _)); clear ha1)
 | (go_at_call 35; (first | (refine (limbo_c _ _ g0 g1).mono ?_) | (refine (limbo_c _ _ (w64_0 _) (w64_1 _)).mono ?_)); rintro e w' ⟨rfl, rfl⟩))
   go_step3
   obtain ⟨gg, hgg⟩ : ∃ gg : Int, gg = was1 := ⟨_, rfl⟩
   rw [<- hgg] at GG HA1 g0 g1 ⊢
   clear hgg
   obtain ⟨k2, hk2⟩ : ∃ k2 : Nat, k2 = k1 := ⟨_, rfl⟩
   rw [<- hk2] at HA1 hk1
   obtain ⟨a2, b2, d2, h2, i2, hf2⟩ : ∃ a2 b2 d2 h2 i2 : Int, ({ f with g := gg, pc := 81 } : FS) = { f with g := gg, w := a2, chain := b2, give := d2, back := h2, behind := i2, pc := 81 } := ⟨f.w, f.chain, f.give, f.back, f.behind, rfl⟩
   rw [hf2] at HA1
   have HA2 := HA1
   clear HA1 hf2 hk2
   have A2 : Hid (docAsk c.kk c.K c.M ({ f with g := gg, w := a2, chain := b2, give := d2, back := h2, behind := i2, pc := 81 } : FS) = ⟨1, 3, gg % 3, 0, 0⟩) := lh (ask81 rfl)
   go_wp2_with (first
     | (go_at_call 33; (with_reducible refine (c.read hok HA2.out (by simp) 3 (gg % 3) A2.out).mono ?_); rintro e v3 (hq | ⟨k3, g3, hk3, ha3, was3, dn3, hw3, rfl, rfl⟩); (obtain rfl := hq.is; first | exact ⟨rfl, .inl hq⟩ | (go_simp; exact ⟨rfl, .inl hq⟩) | (simp only [Exit.jump]; exact ⟨rfl, .inl hq⟩)); (obtain ⟨x0, x1⟩ := id hw3); (have HW3 := lh hw3; clear hw3); (rcases Decidable.em (was3 % 4294967296 = 0) with hl | hl <;> (first | ((have hz1 : (was3 % 4294967296 != 0) = false := by (rw [hl]; simp)); (have HC := lh (w81_no1 (g := gg) hl))) | ((have hz1 : (was3 % 4294967296 != 0) = true := by simpa using hl); (rcases Decidable.em (was3 / 4294967296 = gg % 4294967296) with hh | hh <;> (first | ((have hz2 : (was3 / 4294967296 != gg % 4294967296) = false := by (rw [hh]; simp)); (have HC := lh (w81_no2 hh)); clear hh) | ((have hz2 : (was3 / 4294967296 != gg % 4294967296) = true := by simpa using hh); (have HC := lh (w81_yes hl hh)); clear hh))))) <;> have HA3 := lh ha3 <;> clear hl ha3))
     | (go_at_call 38; go_must (have HAE : Hid (c.At k3 { f with g := gg, w := was3, chain := b2, give := d2, back := h2, behind := i2, pc := 82 } v3) := lh (Cx.at_to HA3.out ((tell81 was3 dn3 rfl).trans (by rw [if_pos HC.out]))); have HTE : Hid (∀ was dn, c.tel ({ f with g := gg, w := was3, chain := b2, give := d2, back := h2, behind := i2, pc := 82 } : FS) was dn = if dn then ({ f with g := gg, w := was3, chain := b2, give := d2, back := h2, behind := i2, pc := 82 } : FS).chained (lo was3) 81 else { f with g := gg, w := was3, chain := b2, give := d2, back := h2, behind := i2, pc := 81 }) := lh (fun was dn => tell82 was dn rfl)); (with_reducible refine (c.empty hok HAE.out (at_ := gg % 3) (x := was3) 81 HW3.out (by simp) (ask82 rfl) HTE.out).mono ?_); rintro e v4 (hq | ⟨k4, g4, hk4, ha4, rfl, a4, b4, d4, h4, i4, rfl⟩); (obtain rfl := hq.is; first | exact ⟨rfl, .inl hq⟩ | (go_simp; exact ⟨rfl, .inl hq⟩) | (simp only [Exit.jump]; exact ⟨rfl, .inl hq⟩)); (have HA4 := lh ha4; clear ha4))
     | (go_at_call 34; go_must (have HAW : Hid (c.At k3 { f with g := gg, w := was3, chain := b2, give := d2, back := h2, behind := i2, pc := 83 } v3) := lh (Cx.at_to HA3.out ((tell81 was3 dn3 rfl).trans (by rw [if_neg HC.out])))); (with_reducible refine (c.write hok HAW.out (by simp) 7 (f.s % 4294967296 - 1) ((f.s / 4294967296 + 1) % 4294967296 * 4294967296 + was3 % 4294967296) (ask83 rfl)).mono ?_); rintro e v4 (hq | ⟨k4, g4, hk4, ha4, rfl, was4, dn4, hw4, rfl⟩); (obtain rfl := hq.is; first | exact ⟨rfl, .inl hq⟩ | (go_simp; exact ⟨rfl, .inl hq⟩) | (simp only [Exit.jump]; exact ⟨rfl, .inl hq⟩)); have HA4 : Hid (c.At k4 { f with g := gg, w := was3, chain := b2, give := d2, back := h2, behind := i2, pc := 84 } v4) := lh (Cx.at_to ha4 (tell83 _ _ rfl)); clear ha4)
     | (go_at_call 41; (with_reducible refine (c.swap hok HA4.out (by simp) 3 (gg % 3) was3 (gg % 4294967296 * 4294967296 + f.s % 4294967296) (ask84 rfl)).mono ?_); rintro e v5 (hq | ⟨k5, g5, hk5, ha5, was5, dn5, hw5, rfl, rfl⟩); (obtain rfl := hq.is; first | exact ⟨rfl, .inl hq⟩ | (go_simp; exact ⟨rfl, .inl hq⟩) | (simp only [Exit.jump]; exact ⟨rfl, .inl hq⟩)); (cases dn5 <;> have HA5 := lh ha5 <;> clear ha5))
     | (go_at_call 36; (first | (refine (low_c _ _ x0 x1).mono ?_) | (refine (low_c _ _ s0 s1).mono ?_)); rintro e w' ⟨rfl, rfl⟩)
     | (go_at_call 37; (first | (refine (high_c _ _ x0 x1).mono ?_) | (refine (high_c _ _ s0 s1).mono ?_)); rintro e w' ⟨rfl, rfl⟩)
     | (go_at_call 39; (first | (refine (handle_c _ _ s0 s1).mono ?_)); rintro e w' ⟨rfl, rfl⟩)
     | (go_at_call 40; refine (pack_c _ _ _ (by omega) (by omega) (by omega) (by omega)).mono ?_; rintro e w' ⟨rfl, rfl⟩))
   · go_step3
     have HA6 : Hid (c.At k5 { f with g := gg, w := was3, chain := b2, give := d2, back := h2, behind := i2, pc := 81 } v5) := lh (Cx.at_to HA5.out ((tell84 was5 false rfl).trans (if_neg (by decide))))
     exact ⟨rfl, ⟨k5, gg, was3, b2, d2, h2, i2, _, _, _, _, _, _, _, _, _, _, _, _, _, _, _, _, _, _, _, _, _, _, _, _, _, _, _, _, _, _, _, _, _, _, _, _, _, _, _, _, _, _, _, _, _, _, _, _, _, _, GG.out, by omega, HA6.out, rfl⟩⟩
   · simp only [Exit.jump]
     (first | go_end0 | refine bodyPost_ret (results_none rfl _ _ _) rfl ?_)
     exact .inr ⟨k5, _, by omega, Cx.at_to HA5.out ((tell84 was5 true rfl).trans (if_pos rfl)), rfl, gg, was3, b2, d2, h2, i2, GG.out, rfl⟩
   · go_step3
     have HA6 : Hid (c.At k5 { f with g := gg, w := was3, chain := b2, give := d2, back := h2, behind := i2, pc := 81 } v5) := lh (Cx.at_to HA5.out ((tell84 was5 false rfl).trans (if_neg (by decide))))
     exact ⟨rfl, ⟨k5, gg, was3, b2, d2, h2, i2, _, _, _, _, _, _, _, _, _, _, _, _, _, _, _, _, _, _, _, _, _, _, _, _, _, _, _, _, _, _, _, _, _, _, _, _, _, _, _, _, _, _, _, _, _, _, _, _, _, _, GG.out, by omega, HA6.out, rfl⟩⟩
   · simp only [Exit.jump]
     (first | go_end0 | refine bodyPost_ret (results_none rfl _ _ _) rfl ?_)
     exact .inr ⟨k5, _, by omega, Cx.at_to HA5.out ((tell84 was5 true rfl).trans (if_pos rfl)), rfl, gg, was3, b2, d2, h2, i2, GG.out, rfl⟩
   · go_step3
     exact ⟨rfl, ⟨k4, gg, a4, b4, d4, h4, i4, _, _, _, _, _, _, _, _, _, _, _, _, _, _, _, _, _, _, _, _, _, _, _, _, _, _, _, _, _, _, _, _, _, _, _, _, _, _, _, _, _, _, _, _, _, _, _, _, _, _, GG.out, by omega, HA4.out, rfl⟩⟩
 · rintro a' w' ⟨k2, gg, a2, b2, d2, h2, i2, u2, u3, u6, u7, u8, u9, u10, u11, u12, u13, u14, u15, u16, u17, u18, u19, u20, u21, u22, u23, u24, u25, u26, u27, u28, u29, u30, u31, u32, u33, u34, u35, u36, u37, u38, u39, u40, u41, u42, u43, u44, u45, u46, u47, u48, u49, u50, u51, u52, u53, hgg, hk1, hb2, rfl⟩
   have HA2 := lh hb2
   have GG := lh hgg
   obtain ⟨g0, g1⟩ := hgg
   clear hb2
   have A2 : Hid (docAsk c.kk c.K c.M ({ f with g := gg, w := a2, chain := b2, give := d2, back := h2, behind := i2, pc := 81 } : FS) = ⟨1, 3, gg % 3, 0, 0⟩) := lh (ask81 rfl)
   go_wp2_with (first
     | (go_at_call 33; (with_reducible refine (c.read hok HA2.out (by simp) 3 (gg % 3) A2.out).mono ?_); rintro e v3 (hq | ⟨k3, g3, hk3, ha3, was3, dn3, hw3, rfl, rfl⟩); (obtain rfl := hq.is; first | exact ⟨rfl, .inl hq⟩ | (go_simp; exact ⟨rfl, .inl hq⟩) | (simp only [Exit.jump]; exact ⟨rfl, .inl hq⟩)); (obtain ⟨x0, x1⟩ := id hw3); (have HW3 := lh hw3; clear hw3); (rcases Decidable.em (was3 % 4294967296 = 0) with hl | hl <;> (first | ((have hz1 : (was3 % 4294967296 != 0) = false := by (rw [hl]; simp)); (have HC := lh (w81_no1 (g := gg) hl))) | ((have hz1 : (was3 % 4294967296 != 0) = true := by simpa using hl); (rcases Decidable.em (was3 / 4294967296 = gg % 4294967296) with hh | hh <;> (first | ((have hz2 : (was3 / 4294967296 != gg % 4294967296) = false := by (rw [hh]; simp)); (have HC := lh (w81_no2 hh)); clear hh) | ((have hz2 : (was3 / 4294967296 != gg % 4294967296) = true := by simpa using hh); (have HC := lh (w81_yes hl hh)); clear hh))))) <;> have HA3 := lh ha3 <;> clear hl ha3))
     | (go_at_call 38; go_must (have HAE : Hid (c.At k3 { f with g := gg, w := was3, chain := b2, give := d2, back := h2, behind := i2, pc := 82 } v3) := lh (Cx.at_to HA3.out ((tell81 was3 dn3 rfl).trans (by rw [if_pos HC.out]))); have HTE : Hid (∀ was dn, c.tel ({ f with g := gg, w := was3, chain := b2, give := d2, back := h2, behind := i2, pc := 82 } : FS) was dn = if dn then ({ f with g := gg, w := was3, chain := b2, give := d2, back := h2, behind := i2, pc := 82 } : FS).chained (lo was3) 81 else { f with g := gg, w := was3, chain := b2, give := d2, back := h2, behind := i2, pc := 81 }) := lh (fun was dn => tell82 was dn rfl)); (with_reducible refine (c.empty hok HAE.out (at_ := gg % 3) (x := was3) 81 HW3.out (by simp) (ask82 rfl) HTE.out).mono ?_); rintro e v4 (hq | ⟨k4, g4, hk4, ha4, rfl, a4, b4, d4, h4, i4, rfl⟩); (obtain rfl := hq.is; first | exact ⟨rfl, .inl hq⟩ | (go_simp; exact ⟨rfl, .inl hq⟩) | (simp only [Exit.jump]; exact ⟨rfl, .inl hq⟩)); (have HA4 := lh ha4; clear ha4))
     | (go_at_call 34; go_must (have HAW : Hid (c.At k3 { f with g := gg, w := was3, chain := b2, give := d2, back := h2, behind := i2, pc := 83 } v3) := lh (Cx.at_to HA3.out ((tell81 was3 dn3 rfl).trans (by rw [if_neg HC.out])))); (with_reducible refine (c.write hok HAW.out (by simp) 7 (f.s % 4294967296 - 1) ((f.s / 4294967296 + 1) % 4294967296 * 4294967296 + was3 % 4294967296) (ask83 rfl)).mono ?_); rintro e v4 (hq | ⟨k4, g4, hk4, ha4, rfl, was4, dn4, hw4, rfl⟩); (obtain rfl := hq.is; first | exact ⟨rfl, .inl hq⟩ | (go_simp; exact ⟨rfl, .inl hq⟩) | (simp only [Exit.jump]; exact ⟨rfl, .inl hq⟩)); have HA4 : Hid (c.At k4 { f with g := gg, w := was3, chain := b2, give := d2, back := h2, behind := i2, pc := 84 } v4) := lh (Cx.at_to ha4 (tell83 _ _ rfl)); clear ha4)
     | (go_at_call 41; (with_reducible refine (c.swap hok HA4.out (by simp) 3 (gg % 3) was3 (gg % 4294967296 * 4294967296 + f.s % 4294967296) (ask84 rfl)).mono ?_); rintro e v5 (hq | ⟨k5, g5, hk5, ha5, was5, dn5, hw5, rfl, rfl⟩); (obtain rfl := hq.is; first | exact ⟨rfl, .inl hq⟩ | (go_simp; exact ⟨rfl, .inl hq⟩) | (simp only [Exit.jump]; exact ⟨rfl, .inl hq⟩)); (cases dn5 <;> have HA5 := lh ha5 <;> clear ha5))
     | (go_at_call 36; (first | (refine (low_c _ _ x0 x1).mono ?_) | (refine (low_c _ _ s0 s1).mono ?_)); rintro e w' ⟨rfl, rfl⟩)
     | (go_at_call 37; (first | (refine (high_c _ _ x0 x1).mono ?_) | (refine (high_c _ _ s0 s1).mono ?_)); rintro e w' ⟨rfl, rfl⟩)
     | (go_at_call 39; (first | (refine (handle_c _ _ s0 s1).mono ?_)); rintro e w' ⟨rfl, rfl⟩)
     | (go_at_call 40; refine (pack_c _ _ _ (by omega) (by omega) (by omega) (by omega)).mono ?_; rintro e w' ⟨rfl, rfl⟩))
   · go_step3
     have HA6 : Hid (c.At k5 { f with g := gg, w := was3, chain := b2, give := d2, back := h2, behind := i2, pc := 81 } v5) := lh (Cx.at_to HA5.out ((tell84 was5 false rfl).trans (if_neg (by decide))))
     exact ⟨rfl, ⟨k5, gg, was3, b2, d2, h2, i2, _, _, _, _, _, _, _, _, _, _, _, _, _, _, _, _, _, _, _, _, _, _, _, _, _, _, _, _, _, _, _, _, _, _, _, _, _, _, _, _, _, _, _, _, _, _, _, _, _, _, GG.out, by omega, HA6.out, rfl⟩, Cx.less HA2.out HA6.out (by omega)⟩
   · simp only [Exit.jump]
     (first | go_end0 | refine bodyPost_ret (results_none rfl _ _ _) rfl ?_)
     exact .inr ⟨k5, _, by omega, Cx.at_to HA5.out ((tell84 was5 true rfl).trans (if_pos rfl)), rfl, gg, was3, b2, d2, h2, i2, GG.out, rfl⟩
   · go_step3
     have HA6 : Hid (c.At k5 { f with g := gg, w := was3, chain := b2, give := d2, back := h2, behind := i2, pc := 81 } v5) := lh (Cx.at_to HA5.out ((tell84 was5 false rfl).trans (if_neg (by decide))))
     exact ⟨rfl, ⟨k5, gg, was3, b2, d2, h2, i2, _, _, _, _, _, _, _, _, _, _, _, _, _, _, _, _, _, _, _, _, _, _, _, _, _, _, _, _, _, _, _, _, _, _, _, _, _, _, _, _, _, _, _, _, _, _, _, _, _, _, GG.out, by omega, HA6.out, rfl⟩, Cx.less HA2.out HA6.out (by omega)⟩
   · simp only [Exit.jump]
     (first | go_end0 | refine bodyPost_ret (results_none rfl _ _ _) rfl ?_)
     exact .inr ⟨k5, _, by omega, Cx.at_to HA5.out ((tell84 was5 true rfl).trans (if_pos rfl)), rfl, gg, was3, b2, d2, h2, i2, GG.out, rfl⟩
   · go_step3
     exact ⟨rfl, ⟨k4, gg, a4, b4, d4, h4, i4, _, _, _, _, _, _, _, _, _, _, _, _, _, _, _, _, _, _, _, _, _, _, _, _, _, _, _, _, _, _, _, _, _, _, _, _, _, _, _, _, _, _, _, _, _, _, _, _, _, _, GG.out, by omega, HA4.out, rfl⟩, Cx.less HA2.out HA4.out (by omega)⟩
end Go.Proofs.YtffppdcpiieapaaGreat.Arenac

namespace Go.Proofs.YtffppdcpiieapaaGreat.Arenac
open Go.RowKit Memc Procc Machc Drivec Wordc
set_option linter.unusedVariables false
set_option maxRecDepth 100000

theorem w34_no {was g : Int} (h : ¬ was % 4294967296 = 0) (h2 : was / 4294967296 + 2 <= g) : ¬ (lo was = 0 \/ hi was + 2 > g) := fun x => x.elim h (fun x => absurd h2 (by unfold hi at x; omega))
theorem w34_z {was g : Int} (h : was % 4294967296 = 0) : lo was = 0 \/ hi was + 2 > g := .inl h
theorem w34_yes {was g : Int} (h2 : ¬ was / 4294967296 + 2 <= g) : lo was = 0 \/ hi was + 2 > g := .inr (by unfold hi; omega)
set_option maxHeartbeats 4000000 in
theorem Cx.reached (c : Cx) (hok : c.Ok) {k : Nat} {f : FS} {w : World} (h : c.At k f w) {g : Int} (hg : W64 g) (hv : f.g = g) (hp : f.pc = 31) (h0 : f.pos = 0) (t1 : 1 <= c.T) (t2 : c.T <= 8) :
   Calls Tryz.prog 43 #[c.doer, .int .u64 g, .int .i64 c.T] w (c.To k fun f' e => ∃ (b : Bool) (p : Int), e = .returned (.bool b) /\ f' = { f with pos := p, pc := if b then 32 else 33 }) := by
 obtain rfl := hv
 obtain ⟨g0, g1⟩ := id hg
 have gw : IntKind.u64.wrap (f.g + 1) = w64 (f.g + 1) := by rw [IntKind.wrap_u64]; rfl
 have HA0 : Hid (c.At k { f with pos := ((0 : Nat) : Int), pc := if 0 = c.T then 32 else 31 } w) := lh (Cx.at_to h (by rw [if_neg (by omega)]; cases f; simp only at hp h0; subst hp h0; rfl))
 clear h hp h0 hg
 go_enter Tryz.func43, Tryz.ntmps43
 go_wp2_with fail
 go_loopw [10] (fun i wr => ∃ (j k2 : Nat), i = .int .i64 j /\ j <= c.T /\ k <= k2 /\ c.At k2 { f with pos := (j : Int), pc := if j = c.T then 32 else 31 } wr) (fun _ wr => c.fs.length - kOf c.gn wr)
 case atStart => exact ⟨0, k, rfl, Nat.zero_le _, Nat.le_refl _, HA0.out⟩
 case round =>
   obtain ⟨j, k2, rfl, hj, hk2, h2⟩ := hrel
   by_cases hz0 : j = c.T
   · rw [if_pos hz0] at h2
     have HA2 := lh h2
     clear h2
     subst hz0
     go_wp2
     go_ret
     exact .inr ⟨k2, _, hk2, HA2.out, true, _, rfl, rfl⟩
   · rw [if_neg hz0] at h2
     have HA2 := lh h2
     have hlt : (j : Int) < (c.T : Int) := by omega
     have j0 : (0 : Int) <= j := by omega
     have j1 : (j : Int) <= 8 := by omega
     have A2 : Hid (docAsk c.kk c.K c.M ({ f with pos := (j : Int), pc := 31 } : FS) = ⟨1, 4, j, 0, 0⟩) := lh (ask31 rfl)
     clear h2
     go_wp2_with (first
 | (go_at_call 33; (with_reducible refine (c.read hok HA2.out (by simp) 4 j A2.out).mono ?_); rintro e v3 (hq | ⟨k3, g3, hk3, ha3, was3, dn3, hw3, rfl, rfl⟩); (obtain rfl := hq.is; first | exact ⟨rfl, .inl hq⟩ | (go_simp; exact ⟨rfl, .inl hq⟩) | (simp only [Exit.jump]; exact ⟨rfl, .inl hq⟩)); (rcases Decidable.em (was3 = 0) with hl | hl <;> rcases Decidable.em (was3 = w64 (f.g + 1)) with hh | hh <;> (first | (have hz1 : (was3 != 0) = false := by (rw [hl]; simp)) | (have hz1 : (was3 != 0) = true := by simpa using hl)) <;> (first | (have hz2 : (was3 != w64 (f.g + 1)) = false := by (rw [hh]; simp)) | (have hz2 : (was3 != w64 (f.g + 1)) = true := by simpa using hh)) <;> have HL := lh hl <;> have HH := lh hh <;> have HA3 := lh ha3 <;> clear hl hh ha3)))
     · go_roundw
       case rel =>
         refine ⟨j + 1, k3, by go_num, by omega, by omega, Cx.at_to HA3.out ((tell31 was3 dn3 rfl).trans (if_neg (fun h => h.1 HL.out)) |>.trans ?_)⟩
         have e1 : ((j : Int) + 1 = (c.T : Int)) = (j + 1 = c.T) := by apply propext; omega
         simp only [e1]; rfl
       case measure =>
         have := Cx.le HA2.out
         rw [Cx.kof HA2.out, Cx.kof HA3.out]
         have := Cx.le HA3.out
         omega
     · go_roundw
       case rel =>
         refine ⟨j + 1, k3, by go_num, by omega, by omega, Cx.at_to HA3.out ((tell31 was3 dn3 rfl).trans (if_neg (fun h => h.1 HL.out)) |>.trans ?_)⟩
         have e1 : ((j : Int) + 1 = (c.T : Int)) = (j + 1 = c.T) := by apply propext; omega
         simp only [e1]; rfl
       case measure =>
         have := Cx.le HA2.out
         rw [Cx.kof HA2.out, Cx.kof HA3.out]
         have := Cx.le HA3.out
         omega
     · go_roundw
       case rel =>
         refine ⟨j + 1, k3, by go_num, by omega, by omega, Cx.at_to HA3.out ((tell31 was3 dn3 rfl).trans (if_neg (fun h => h.2 HH.out)) |>.trans ?_)⟩
         have e1 : ((j : Int) + 1 = (c.T : Int)) = (j + 1 = c.T) := by apply propext; omega
         simp only [e1]; rfl
       case measure =>
         have := Cx.le HA2.out
         rw [Cx.kof HA2.out, Cx.kof HA3.out]
         have := Cx.le HA3.out
         omega
     · go_ret
       exact .inr ⟨k3, _, by omega, Cx.at_to HA3.out ((tell31 was3 dn3 rfl).trans (if_pos ⟨HL.out, HH.out⟩)), false, _, rfl, rfl⟩
set_option maxHeartbeats 4000000 in
theorem Cx.collect (c : Cx) (hok : c.Ok) {k : Nat} {f : FS} {w : World} (h : c.At k f w) (hp : f.pc = 30) (t1 : 1 <= c.T) (t2 : c.T <= 8) :
   Calls Tryz.prog 21 #[c.doer, .int .i64 c.T] w (c.To (k + 1) fun f' e => e = .returned (.tuple #[]) /\ ∃ g p a b d h i : Int, f' = { f with g := g, pos := p, w := a, chain := b, give := d, back := h, behind := i, pc := 0 }) := by
 have HA0 := lh h
 have A0 := lh (ask30 (k := c.kk) (K := c.K) (M := c.M) hp)
 have T0 := lh (fun was dn => tell30 (k := c.kk) (K := c.K) (T := c.T) (M := c.M) was dn hp)
 have P0 := lh (show ¬ f.pc = 0 by rw [hp]; decide)
 clear h hp
 go_enter Tryz.func21, Tryz.ntmps21
 go_wp2_with (first
 | (go_at_call 33; (with_reducible refine (c.read hok HA0.out P0.out 1 0 A0.out).mono ?_); rintro e v1 (hq | ⟨k1, g1, hk1, ha1, was1, dn1, hw1, rfl, rfl⟩); (obtain rfl := hq.is; first | exact ⟨rfl, .inl hq⟩ | (go_simp; exact ⟨rfl, .inl hq⟩) | (simp only [Exit.jump]; exact ⟨rfl, .inl hq⟩)); (have GG := lh hw1); clear hw1; (have gw1 : IntKind.u64.wrap (was1 + 1) = w64 (was1 + 1) := by rw [IntKind.wrap_u64]; rfl); have HA1 : Hid (c.At k1 { f with g := was1, pos := 0, pc := 31 } v1) := lh (Cx.at_to ha1 (T0.out _ _)); clear ha1)
 | (go_at_call 43; (with_reducible refine (c.reached hok HA1.out GG.out (by rfl) (by rfl) (by rfl) t1 t2).mono ?_); rintro e v2 (hq | ⟨k2, g2, hk2, ha2, b2, p2, rfl, rfl⟩); (obtain rfl := hq.is; first | exact ⟨rfl, .inl hq⟩ | (go_simp; exact ⟨rfl, .inl hq⟩) | (simp only [Exit.jump]; exact ⟨rfl, .inl hq⟩)); (cases b2 <;> have HA2 := lh ha2 <;> clear ha2))
 | (go_at_call 41; go_must (have HAS : Hid (c.At k2 { f with g := was1, pos := p2, pc := 32 } v2) := lh HA2.out); (with_reducible refine (c.swap hok HAS.out (by simp) 1 0 was1 (w64 (was1 + 1)) (ask32 rfl)).mono ?_); rintro e v3 (hq | ⟨k3, g3, hk3, ha3, was3, dn3, hw3, rfl, rfl⟩); (obtain rfl := hq.is; first | exact ⟨rfl, .inl hq⟩ | (go_simp; exact ⟨rfl, .inl hq⟩) | (simp only [Exit.jump]; exact ⟨rfl, .inl hq⟩)); have HA3 : Hid (c.At k3 { f with g := was1, pos := p2, pc := 33 } v3) := lh (Cx.at_to ha3 (tell32 _ _ rfl)); clear ha3)
 | (go_at_call 33; (have HAR : Hid (c.At k3 { f with g := was1, pos := p2, pc := 33 } v3) := lh HA3.out); (with_reducible refine (c.read hok HAR.out (by simp) 1 0 (ask33 rfl)).mono ?_); rintro e v4 (hq | ⟨k4, g4, hk4, ha4, was4, dn4, hw4, rfl, rfl⟩); (obtain rfl := hq.is; first | exact ⟨rfl, .inl hq⟩ | (go_simp; exact ⟨rfl, .inl hq⟩) | (simp only [Exit.jump]; exact ⟨rfl, .inl hq⟩)); (obtain ⟨y0, y1⟩ := id hw4); (have gw4 : IntKind.u64.wrap (was4 + 1) = w64 (was4 + 1) := by rw [IntKind.wrap_u64]; rfl); clear hw4 HAR; have HA4 : Hid (c.At k4 { f with g := was4, pos := p2, pc := 34 } v4) := lh (Cx.at_to ha4 (tell33 _ _ rfl)); clear ha4)
 | (go_at_call 33; (have HAR : Hid (c.At k2 { f with g := was1, pos := p2, pc := 33 } v2) := lh HA2.out); (with_reducible refine (c.read hok HAR.out (by simp) 1 0 (ask33 rfl)).mono ?_); rintro e v4 (hq | ⟨k4, g4, hk4, ha4, was4, dn4, hw4, rfl, rfl⟩); (obtain rfl := hq.is; first | exact ⟨rfl, .inl hq⟩ | (go_simp; exact ⟨rfl, .inl hq⟩) | (simp only [Exit.jump]; exact ⟨rfl, .inl hq⟩)); (obtain ⟨y0, y1⟩ := id hw4); (have gw4 : IntKind.u64.wrap (was4 + 1) = w64 (was4 + 1) := by rw [IntKind.wrap_u64]; rfl); clear hw4 HAR; have HA4 : Hid (c.At k4 { f with g := was4, pos := p2, pc := 34 } v4) := lh (Cx.at_to ha4 (tell33 _ _ rfl)); clear ha4)
 | (go_at_call 35; (first | (refine (limbo_c _ _ g0 g1).mono ?_) | (refine (limbo_c _ _ (w64_0 _) (w64_1 _)).mono ?_)); rintro e w' ⟨rfl, rfl⟩)
 | (go_at_call 33; (with_reducible refine (c.read hok HA4.out (by simp) 3 (w64 (was4 + 1) % 3) (ask34 rfl)).mono ?_); rintro e v5 (hq | ⟨k5, g5, hk5, ha5, was5, dn5, hw5, rfl, rfl⟩); (obtain rfl := hq.is; first | exact ⟨rfl, .inl hq⟩ | (go_simp; exact ⟨rfl, .inl hq⟩) | (simp only [Exit.jump]; exact ⟨rfl, .inl hq⟩)); (obtain ⟨x0, x1⟩ := id hw5); (have HW5 := lh hw5; clear hw5); (have cw5 : IntKind.u64.wrap (was5 / 4294967296) = was5 / 4294967296 := by rw [IntKind.wrap_u64]; omega); (have pw5 : IntKind.u64.wrap (was5 / 4294967296 + 2) = was5 / 4294967296 + 2 := by rw [IntKind.wrap_u64]; omega); (rcases Decidable.em (was5 % 4294967296 = 0) with hl | hl <;> (first | ((have hz1 : (was5 % 4294967296 != 0) = false := by (rw [hl]; simp)); (have HC := lh (w34_z (g := was4) hl))) | ((have hz1 : (was5 % 4294967296 != 0) = true := by simpa using hl); (rcases Decidable.em (was5 / 4294967296 + 2 <= was4) with hh | hh <;> (first | ((have hz2 : decide (was5 / 4294967296 + 2 <= was4) = true := decide_eq_true hh); (have HC := lh (w34_no hl hh))) | ((have hz2 : decide (was5 / 4294967296 + 2 <= was4) = false := decide_eq_false hh); (have HC := lh (w34_yes hh)))) <;> clear hh))) <;> have HA5 := lh ha5 <;> clear hl ha5))
 | (go_at_call 38; go_must (have HAE : Hid (c.At k5 { f with g := was4, pos := p2, w := was5, pc := 35 } v5) := lh (Cx.at_to HA5.out ((tell34 was5 dn5 rfl).trans (by rw [if_neg HC.out]))); have HTE : Hid (∀ was dn, c.tel ({ f with g := was4, pos := p2, w := was5, pc := 35 } : FS) was dn = if dn then ({ f with g := was4, pos := p2, w := was5, pc := 35 } : FS).chained (lo was5) 0 else { f with g := was4, pos := p2, w := was5, pc := 0 }) := lh (fun was dn => tell35 was dn rfl)); (with_reducible refine (c.empty hok HAE.out (at_ := w64 (was4 + 1) % 3) (x := was5) 0 HW5.out (by simp) (ask35 rfl) HTE.out).mono ?_); rintro e v6 (hq | ⟨k6, g6, hk6, ha6, rfl, a6, b6, d6, h6, i6, rfl⟩); (obtain rfl := hq.is; first | exact ⟨rfl, .inl hq⟩ | (go_simp; exact ⟨rfl, .inl hq⟩) | (simp only [Exit.jump]; exact ⟨rfl, .inl hq⟩)); (have HA6 := lh ha6; clear ha6))
 | (go_at_call 36; (first | (refine (low_c _ _ x0 x1).mono ?_)); rintro e w' ⟨rfl, rfl⟩)
 | (go_at_call 37; (first | (refine (high_c _ _ x0 x1).mono ?_)); rintro e w' ⟨rfl, rfl⟩))
 all_goals (first | go_end0 | refine bodyPost_ret (results_none rfl _ _ _) rfl ?_)
 all_goals first
   | exact .inr ⟨k6, _, by omega, HA6.out, rfl, was4, p2, a6, b6, d6, h6, i6, rfl⟩
   | exact .inr ⟨k5, _, by omega, Cx.at_to HA5.out ((tell34 was5 dn5 rfl).trans (by rw [if_pos HC.out])), rfl, was4, p2, was5, f.chain, f.give, f.back, f.behind, rfl⟩
end Go.Proofs.YtffppdcpiieapaaGreat.Arenac

namespace Go.Proofs.YtffppdcpiieapaaGreat.Arenac
open Go.RowKit Memc Procc Machc Drivec Wordc
set_option linter.unusedVariables false
set_option maxRecDepth 100000

end Go.Proofs.YtffppdcpiieapaaGreat.Arenac

namespace Go.Proofs.YtffppdcpiieapaaGreat.Arenac
open Go.RowKit Memc Procc Machc Drivec Wordc
set_option linter.unusedVariables false
set_option maxRecDepth 100000

end Go.Proofs.YtffppdcpiieapaaGreat.Arenac

namespace Go.Proofs.YtffppdcpiieapaaGreat.Arenac
open Go.RowKit Memc Procc Machc Drivec Wordc
set_option linter.unusedVariables false
set_option maxRecDepth 100000

def TakeD (W : World) (gn gm gx : Nat) (nx : Nx) (e : Ending) (w' : World) : Prop :=
 (∃ a, nx = .ask a /\ AskD W gn gm gx a e w') \/ ∃ ref : Int, W64 ref /\ e = .returned (.int .u64 ref) /\ Only (fun g => g = gn) W w' /\ nx = .fin (if lo ref = 0 then 4 else 0) (if lo ref = 0 then 0 else lo ref - 1)
def GiveD (W : World) (gn gm gx : Nat) (nx : Nx) (e : Ending) (w' : World) : Prop :=
 (∃ a, nx = .ask a /\ AskD W gn gm gx a e w') \/ (e = .returned (.tuple #[]) /\ Only (fun g => g = gn) W w' /\ nx = .fin 0 0)
theorem proc_g (w : World) (F : Nat) (cs : Array Value) :
   Calls Tryz.prog 15 #[.func (.func F) #[] cs] w fun e w' => e = .returned (.iface 82 (.pointer (some ⟨w.heap.size, 0, none⟩))) /\ w' = w.alloc (.cells #[.func (.func F) #[] cs, .slice none 0 0, .bool false, .bool false, .int .i64 0, .int .u32 0] 85) := by
 go_enter Tryz.func15, Tryz.ntmps15
 go_wp2
 go_ret
 exact ⟨rfl, rfl⟩

end Go.Proofs.YtffppdcpiieapaaGreat.Arenac

namespace Go.Proofs.YtffppdcpiieapaaGreat.Drivec
open Go.RowKit Memc Procc Storec Refc Machc
set_option linter.unusedVariables false
set_option maxRecDepth 100000

theorem SafeL.spared {Pd : Nat -> Prop} {w w' : World} {l : List Cap1} (hs : SafeL l) (hk : Kept w l) (ho : Only Pd w w') (h3 : Spared Pd w) : Kept w' l := fun x hx => (hk x hx).only ho (h3 _ _ _ (hk x hx) ⟨(hs x hx).2.2.1, (hs x hx).2.2.2.1, (hs x hx).2.2.2.2.1, (hs x hx).2.2.2.2.2.1, (hs x hx).1, (hs x hx).2.1⟩)
theorem On.prow {w : World} {base : Nat} {Z : Mac} {P : Nat} {q : Sl} {f : FS} {n : Nat} (h : On w base Z P q f n) : (∃ cs, Blk w P 85 cs) /\ (∃ m xs, Row w base 176 2 q m xs) /\ base <= P := by
 obtain ⟨F, cs, l, f0, fs, e1, e2, e3, e4, e5, e6, e7, e8, e9, e10⟩ := h
 exact ⟨⟨_, e5⟩, ⟨_, _, e6⟩, e10⟩
theorem spared_step {w : World} {gC gT P base nS nK nF : Nat} {c1 c2 c3 : Array Value} {sS sK q : Sl} {x1 x2 x3 : List Value} (hC : Blk w gC 76 c1) (hT : Blk w gT 78 c2) (hP : Blk w P 85 c3) (hS : Row w base 68 8 sS nS x1) (hK : Row w base 50 7 sK nK x2) (hq : Row w base 176 2 q nF x3) :
   Spared (fun g => (g = gT \/ g = gC \/ g = P) \/ bl sS g \/ bl sK g \/ bl q g) w := fun g t cs hg ⟨n1, n2, n3, n4, n5, n6⟩ => by
 rintro ((h | h | h) | h | h | h)
 · exact Blk.ne hg hT n2 h
 · exact Blk.ne hg hC n1 h
 · exact Blk.ne hg hP n5 h
 · exact hS.ne hg (Ne.symm n3) g h rfl
 · exact hK.ne hg (Ne.symm n4) g h rfl
 · exact hq.ne hg (Ne.symm n6) g h rfl
theorem spared_start {w : World} {gC gT base nK : Nat} {c1 c2 : Array Value} {sK : Sl} {x2 : List Value} (hC : Blk w gC 76 c1) (hT : Blk w gT 78 c2) (hK : Row w base 50 7 sK nK x2) :
   Spared (fun g => g = gT \/ g = gC \/ bl sK g) w := fun g t cs hg ⟨n1, n2, n3, n4, n5, n6⟩ => by
 rintro (h | h | h)
 · exact Blk.ne hg hT n2 h
 · exact Blk.ne hg hC n1 h
 · exact hK.ne hg (Ne.symm n4) g h rfl
theorem on_step {w w' : World} {gC gT P P' base nS nK nF n n' : Nat} {c1 c2 c3 : Array Value} {sS sK q q' : Sl} {x1 x2 x3 : List Value} {Z : Mac} {f : FS} (h : On w base Z P' q' f n) (hC : Blk w gC 76 c1) (hT : Blk w gT 78 c2) (hP : Blk w P 85 c3) (hS : Row w base 68 8 sS nS x1) (hK : Row w base 50 7 sK nK x2) (hq : Row w base 176 2 q nF x3)
   (hs : P' ≠ P /\ ∀ g, bl q' g -> ¬ bl q g) (ho : Only (fun g => (g = gT \/ g = gC \/ g = P) \/ bl sS g \/ bl sK g \/ bl q g) w w') (hn : n <= n') : On w' base Z P' q' f n' := by
 obtain ⟨⟨cp, hp⟩, ⟨m, xs, hr⟩, _⟩ := h.prow
 refine h.only ho ?_ ?_ (spared_step hC hT hP hS hK hq) hn
 · rintro ((e | e | e) | e | e | e)
   · exact Blk.ne hp hT (by decide) e
   · exact Blk.ne hp hC (by decide) e
   · exact hs.1 e
   · exact hS.ne hp (by decide) _ e rfl
   · exact hK.ne hp (by decide) _ e rfl
   · exact hq.ne hp (by decide) _ e rfl
 · rintro g hg ((e | e | e) | e | e | e)
   · exact hr.ne hT (by decide) g hg e
   · exact hr.ne hC (by decide) g hg e
   · exact hr.ne hP (by decide) g hg e
   · exact hr.ne_row hS (by decide) g hg g e rfl
   · exact hr.ne_row hK (by decide) g hg g e rfl
   · exact hs.2 g hg e
theorem on_start {w w' : World} {gC gT P' base nK n n' : Nat} {c1 c2 : Array Value} {sK q' : Sl} {x2 : List Value} {Z : Mac} {f : FS} (h : On w base Z P' q' f n) (hC : Blk w gC 76 c1) (hT : Blk w gT 78 c2) (hK : Row w base 50 7 sK nK x2)
   (ho : Only (fun g => g = gT \/ g = gC \/ bl sK g) w w') (hn : n <= n') : On w' base Z P' q' f n' := by
 obtain ⟨⟨cp, hp⟩, ⟨m, xs, hr⟩, _⟩ := h.prow
 refine h.only ho ?_ ?_ (spared_start hC hT hK) hn
 · rintro (e | e | e)
   · exact Blk.ne hp hT (by decide) e
   · exact Blk.ne hp hC (by decide) e
   · exact hK.ne hp (by decide) _ e rfl
 · rintro g hg (e | e | e)
   · exact hr.ne hT (by decide) g hg e
   · exact hr.ne hC (by decide) g hg e
   · exact hr.ne_row hK (by decide) g hg g e rfl
theorem frg_step {w w' : World} {B gC gT P base nS nK nF : Nat} {c1 c2 c3 : Array Value} {sS sK q : Sl} {x1 x2 x3 : List Value} (hC : Blk w gC 76 c1) (hT : Blk w gT 78 c2) (hP : Blk w P 85 c3) (hS : Row w base 68 8 sS nS x1) (hK : Row w base 50 7 sK nK x2) (hq : Row w base 176 2 q nF x3)
   (hB : B <= base /\ base <= gC /\ base <= gT /\ base <= P) (ho : Only (fun g => (g = gT \/ g = gC \/ g = P) \/ bl sS g \/ bl sK g \/ bl q g) w w') : FrG B w w' := ho.mono (by
 rintro g ((h | h | h) | h | h | h)
 · subst h; exact frg_mem hT (by omega) (.inr (.inl rfl))
 · subst h; exact frg_mem hC (by omega) (.inl rfl)
 · subst h; exact frg_mem hP (by omega) (.inr (.inr (.inr (.inr (.inl rfl)))))
 · obtain ⟨ds, hd⟩ := hS.blk h
   exact frg_mem hd (Nat.le_trans hB.1 (hS.lt h).1) (.inr (.inr (.inl rfl)))
 · obtain ⟨ds, hd⟩ := hK.blk h
   exact frg_mem hd (Nat.le_trans hB.1 (hK.lt h).1) (.inr (.inr (.inr (.inl rfl))))
 · obtain ⟨ds, hd⟩ := hq.blk h
   exact frg_mem hd (Nat.le_trans hB.1 (hq.lt h).1) (.inr (.inr (.inr (.inr (.inr rfl))))))
theorem frg_start {w w' : World} {B gC gT base nK : Nat} {c1 c2 : Array Value} {sK : Sl} {x2 : List Value} (hC : Blk w gC 76 c1) (hT : Blk w gT 78 c2) (hK : Row w base 50 7 sK nK x2)
   (hB : B <= base /\ base <= gC /\ base <= gT) (ho : Only (fun g => g = gT \/ g = gC \/ bl sK g) w w') : FrG B w w' := ho.mono (by
 rintro g (h | h | h)
 · subst h; exact frg_mem hT (by omega) (.inr (.inl rfl))
 · subst h; exact frg_mem hC (by omega) (.inl rfl)
 · obtain ⟨ds, hd⟩ := hK.blk h
   exact frg_mem hd (Nat.le_trans hB.1 (hK.lt h).1) (.inr (.inr (.inr (.inl rfl)))))
def TurnedG (w : World) (B base gC gT T Bf : Nat) (bs : Array Value) (lb : List Cap1) (Z : Mac) (ls : List (List (Int × Int))) (s : RS) (e : Ending) (w' : World) : Prop :=
 e = .returned (.tuple #[]) /\ InvG w' B base gC gT T Bf bs lb Z ls s /\ FrG B w w'
theorem onB_set {s : RS} {l : List Int} {i j : Nat} {v : Int} (hj : i ≠ j) (h : ∃ k : Nat, (l.set i v)[j]? = some (k : Int)) : ∃ k : Nat, l[j]? = some (k : Int) := by
 obtain ⟨k, hk⟩ := h
 rw [List.getElem?_set_ne hj] at hk
 exact ⟨k, hk⟩

set_option maxHeartbeats 1000000 in
theorem stepg_inv (w : World) (B base gC gT T Bf : Nat) (bs : Array Value) (lb : List Cap1) (Z : Mac) (ls : List (List (Int × Int))) (s : RS) (h : InvG w B base gC gT T Bf bs lb Z ls s) (i k : Nat) (f : FS) (hi : i < T) (hk : s.call[i]? = some (k : Int)) (hf : s.on[i]? = some f) (hok : (Z.ask f).ok) (hn : s.steps.length < 90000 /\ s.calls.length < 90000) :
   Calls Tryz.prog 54 #[.pointer (some ⟨gC, 0, none⟩), .pointer (some ⟨gT, i * 9, none⟩), .int .i64 i] w (TurnedG w B base gC gT T Bf bs lb Z ls (goR Z.ask Z.tell s i)) := by
 obtain ⟨⟨r, sS, sK, ct, Ps, qs, hC, hT, hE, hS, hK, ht, hsep⟩, hkeep, hlen, hfew, hlow, hcap⟩ := h
 obtain ⟨n, so, l, e1, e2, e3, e4, e5⟩ := ht i hi
 rcases e5 with ⟨hx, _⟩ | ⟨k', f', g1, g2, g3, g4, hb, hon⟩
 · rw [hk] at hx
   have := Option.some.inj hx
   omega
 · obtain rfl : k' = k := by rw [hk] at g1; have := Option.some.inj g1; omega
   obtain rfl : f' = f := by rw [hf] at g3; exact (Option.some.inj g3).symm
   have hOn := hon
   obtain ⟨F, cs, lc, f0, fs, c1, c2, c3, c4, c5, c6, c7, c8, c9, c10⟩ := hon
   have hx : s.calls[k']? = some s.calls[k'] := List.getElem?_eq_getElem g2
   have q4 := flatK_get s.calls k' _ 4 _ hx rfl
   have q5 := flatK_get s.calls k' _ 5 _ hx rfl
   have q6 := flatK_get s.calls k' _ 6 _ hx rfl
   have hp0 : Z.plan f0 fs = .ask (Z.ask f') := by
     show Z.nx (Z.after f0 fs) = _
     rw [<- c8]; exact Mac.nx_ask g4
   have hnx : Z.plan f0 (fs ++ [((acc s.m (Z.ask f')).2.1, (acc s.m (Z.ask f')).2.2)]) = Z.nx (Z.tell f' (acc s.m (Z.ask f')).2.1 (acc s.m (Z.ask f')).2.2) := by
     show Z.nx (Z.after f0 _) = _
     rw [Mac.after_snoc, <- c8]
   have hfl : fs.length < 100000 := by omega
   have hB : B <= base /\ base <= gC /\ base <= gT /\ base <= Ps i := ⟨hlow.1, hlow.2.2.1, hlow.2.2.2, c10⟩
   by_cases hpc : (Z.tell f' (acc s.m (Z.ask f')).2.1 (acc s.m (Z.ask f')).2.2).pc = 0
   · refine (stepg_fin w Bf bs gC gT (i * 9) i (Ps i) F base s.steps.length s.calls.length k' cs lc (Z.plan f0) (qs i) fs _ _ ct (Z.ask f') r s.m ⟨some ⟨gT, 0, none⟩, T, T⟩ sS sK (flatT s.steps) (flatK s.calls) _ _ _
       hC hT hb.2.1 hb.2.2.1 hb.2.2.2.1 hb.2.2.2.2.1 hb.2.2.2.2.2.1 hb.2.2.2.2.2.2.1 hb.2.2.2.2.2.2.2.1 hb.2.2.2.2.2.2.2.2 hE hfew hok hS hK (by omega) (by omega) g2 q4 q5 q6 c1 c2 c5 c6 c4 c3 hfl c7 hp0 (hnx.trans (Mac.nx_fin hpc)) hlow.2.1).mono ?_
     rintro e w' ⟨r3, s1, rfl, C, Tt, K, S, E, O⟩
     have hF := frg_step hC hT c5 hS hK c6 hB O
     have hBl := hF.below (Nat.le_trans hlow.1 hlow.2.1)
     have hs1 := S.n_.1
     refine ⟨rfl, ?_, hF⟩
     rw [goR_yes g3 g1 hx hpc]
     refine ⟨⟨r3, s1, sK, ended ct (i * 9), Ps, qs, C, Tt, E, ?_, ?_, fun j hj => ?_, fun a b ha hb' hab ona onb => ?_⟩, ⟨hkeep.1, SafeL.spared hkeep.2.2 hkeep.2.1 O (spared_step hC hT c5 hS hK c6), hkeep.2.2⟩, ⟨?_, ?_, hlen.2.2⟩, fun ar => ?_, ⟨hlow.1, Nat.le_trans hlow.2.1 O.size, hlow.2.2⟩, hcap⟩
     · show Row w' base _ 8 s1 (s.steps ++ [_]).length (flatT (s.steps ++ [_]))
       rw [List.length_append, flatT_snoc]
       exact S
     · show Row w' base _ 7 sK (s.calls.set k' _).length (flatK (s.calls.set k' _))
       rw [List.length_set, <- flatK_end s.calls k' _ (s.steps.length) _ hx]
       have e1 : ((s1.n : Int) - 1) = (s.steps.length : Int) := by omega
       rw [e1] at K
       exact K
     · by_cases hji : j = i
       · subst hji
         exact ⟨n, so, l, e1, e2, e3, e4.below hBl, .inl ⟨List.getElem?_set_self (by omega), hb.ended⟩⟩
       · obtain ⟨n2, so2, l2, d1, d2, d3, d4, d5⟩ := ht j hj
         refine ⟨n2, so2, l2, d1, d2, d3, d4.below hBl, ?_⟩
         rcases d5 with ⟨p1, p2⟩ | ⟨k2, f2, p1, p2, p3, p4, p5, p6⟩
         · exact .inl ⟨(List.getElem?_set_ne (Ne.symm hji)).trans p1, p2.other (fun m h1 h2 => ended_ne (by omega))⟩
         · refine .inr ⟨k2, f2, (List.getElem?_set_ne (Ne.symm hji)).trans p1, by show k2 < (s.calls.set k' _).length; rw [List.length_set]; exact p2, (List.getElem?_set_ne (Ne.symm hji)).trans p3, p4, p5.other (fun m h1 h2 => ended_ne (by omega)), ?_⟩
           refine on_step p6 hC hT c5 hS hK c6 (hsep j i hj hi hji ⟨_, p1⟩ ⟨_, hk⟩) O ?_
           show _ <= (s.steps ++ [_]).length
           rw [List.length_append]; omega
     · have hna : ∀ a, (∃ kk : Nat, (s.call.set i (-1))[a]? = some (kk : Int)) -> a ≠ i := fun a ho e => by
         obtain ⟨kk, hkk⟩ := ho
         subst e
         rw [List.getElem?_set_self (by omega)] at hkk
         have := Option.some.inj hkk
         omega
       exact hsep a b ha hb' hab (onB_set (s := s) (Ne.symm (hna a ona)) ona) (onB_set (s := s) (Ne.symm (hna b onb)) onb)
     · show (s.on.set i _).length = T
       rw [List.length_set]; exact hlen.1
     · show (s.call.set i _).length = T
       rw [List.length_set]; exact hlen.2.1
     · rw [len_acc]; exact hfew ar
   · refine (stepg_ask w Bf bs gC gT (i * 9) i (Ps i) F base s.steps.length s.calls.length k' cs lc (Z.plan f0) (qs i) fs _ ct (Z.ask f') r s.m ⟨some ⟨gT, 0, none⟩, T, T⟩ sS sK (flatT s.steps) (flatK s.calls) _ _ _
       hC hT hb.2.1 hb.2.2.1 hb.2.2.2.1 hb.2.2.2.2.1 hb.2.2.2.2.2.1 hb.2.2.2.2.2.2.1 hb.2.2.2.2.2.2.2.1 hb.2.2.2.2.2.2.2.2 hE hfew hok hS hK (by omega) (by omega) g2 q4 q5 q6 c1 c2 c5 c6 c4 c3 hfl c7 hp0 (hnx.trans (Mac.nx_ask hpc)) hlow.2.1).mono ?_
     rintro e w' ⟨r3, s1, q1, rfl, C, Tt, K, S, E, P9, F9, L9, W9, O⟩
     have hF := frg_step hC hT c5 hS hK c6 hB O
     have hBl := hF.below (Nat.le_trans hlow.1 hlow.2.1)
     have hs1 := S.n_.1
     refine ⟨rfl, ?_, hF⟩
     rw [goR_no g3 hpc]
     refine ⟨⟨r3, s1, sK, askedc ct (i * 9) _, Ps, fun j => if j = i then q1 else qs j, C, Tt, E, ?_, K, fun j hj => ?_, fun a b ha hb' hab ona onb => ?_⟩, ⟨hkeep.1, SafeL.spared hkeep.2.2 hkeep.2.1 O (spared_step hC hT c5 hS hK c6), hkeep.2.2⟩, ⟨?_, hlen.2.1, hlen.2.2⟩, fun ar => ?_, ⟨hlow.1, Nat.le_trans hlow.2.1 O.size, hlow.2.2⟩, hcap⟩
     · show Row w' base _ 8 s1 (s.steps ++ [_]).length (flatT (s.steps ++ [_]))
       rw [List.length_append, flatT_snoc]
       exact S
     · by_cases hji : j = i
       · subst hji
         refine ⟨n, so, l, e1, e2, e3, e4.below hBl, .inr ⟨k', _, hk, g2, List.getElem?_set_self (by omega), hpc, hb.asked _, ?_⟩⟩
         simp only [if_true]
         refine ⟨F, cs, lc, f0, _, c1, c2, c3, L9, P9, F9, c7.snoc hp0 _ (acc_was s.m hE.2.1 _), ?_, ?_, c10⟩
         · rw [Mac.after_snoc, <- c8]
         · show _ <= (s.steps ++ [_]).length
           rw [List.length_append, List.length_append]
           simp only [List.length_cons, List.length_nil]
           omega
       · obtain ⟨n2, so2, l2, d1, d2, d3, d4, d5⟩ := ht j hj
         refine ⟨n2, so2, l2, d1, d2, d3, d4.below hBl, ?_⟩
         rcases d5 with ⟨p1, p2⟩ | ⟨k2, f2, p1, p2, p3, p4, p5, p6⟩
         · exact .inl ⟨p1, p2.other (fun m h1 h2 => askedc_ne (by omega))⟩
         · refine .inr ⟨k2, f2, p1, p2, (List.getElem?_set_ne (Ne.symm hji)).trans p3, p4, p5.other (fun m h1 h2 => askedc_ne (by omega)), ?_⟩
           simp only [hji, if_false]
           refine on_step p6 hC hT c5 hS hK c6 (hsep j i hj hi hji ⟨_, p1⟩ ⟨_, hk⟩) O ?_
           show _ <= (s.steps ++ [_]).length
           rw [List.length_append]; omega
     · have hold : ∀ j g, j < T -> onB s j -> j ≠ i -> bl (qs j) g -> g < w.heap.size := fun j g hj ⟨kk, hkk⟩ hji hg => by
         obtain ⟨n2, so2, l2, d1, d2, d3, d4, d5⟩ := ht j hj
         rcases d5 with ⟨p1, p2⟩ | ⟨k2, f2, p1, p2, p3, p4, p5, p6⟩
         · rw [hkk] at p1
           have := Option.some.inj p1
           omega
         · obtain ⟨_, ⟨m, xs, hr⟩, _⟩ := p6.prow
           exact (hr.lt hg).2
       have hs := hsep a b ha hb' hab ona onb
       refine ⟨hs.1, fun g hg hg2 => ?_⟩
       by_cases hai : a = i
       · have hbi : b ≠ i := fun e => hab (hai.trans e.symm)
         simp only [hai, if_true] at hg
         simp only [hbi, if_false] at hg2
         rcases W9 g hg with h1 | h1
         · exact (hsep b i hb' hi hbi onb ⟨_, hk⟩).2 g hg2 h1
         · have := hold b g hb' onb hbi hg2
           omega
       · simp only [hai, if_false] at hg
         by_cases hbi : b = i
         · simp only [hbi, if_true] at hg2
           rcases W9 g hg2 with h1 | h1
           · exact (hsep a i ha hi hai ona ⟨_, hk⟩).2 g hg h1
           · have := hold a g ha ona hai hg
             omega
         · simp only [hbi, if_false] at hg2
           exact hs.2 g hg hg2
     · show (s.on.set i _).length = T
       rw [List.length_set]; exact hlen.1
     · rw [len_acc]; exact hfew ar
end Go.Proofs.YtffppdcpiieapaaGreat.Drivec
