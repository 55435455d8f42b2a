/- Take, by contract: in any call, from any access on. · Give, by contract: in any call, from any access on. · The machines of Take and Give, as the program begins them: by contract. -/
import Derived.WalkMore
import Derived.ScopeJumps
import Derived.Test.YtffppdcpiieapaaQ9
namespace Go.Proofs.Ytffppdcpiieapaa.Arenac
open Go.RowKit Go.Proofs.Ytffppdcpiieapaa.Memc Go.Proofs.Ytffppdcpiieapaa.Procc Go.Proofs.Ytffppdcpiieapaa.Machc Go.Proofs.Ytffppdcpiieapaa.Drivec Go.Proofs.Ytffppdcpiieapaa.Wordc
set_option linter.unusedVariables false
set_option maxRecDepth 100000

set_option maxHeartbeats 4000000 in
theorem take_c (kk : Int) (K T M : Nat) (W : World) (base gn gp gm gx P : Nat) (run : Value) (s : Sl) (fs : List (Int × Bool)) (ask ov : Bool) (cd ou : Int) (k0 : Nat)  (f0 g : FS) (h : Env W base gn gp gm gx P k0 run s fs ask ov cd ou) (hw : ∀ x ∈ fs, W64 x.1) (hg : (docZ kk K T M).after f0 (fs.take k0) = g) (hp : g.pc = 90) :
    Calls Try.prog 65 #[.func (.func 149) #[] #[.pointer (some ⟨gn, 0, none⟩), .pointer (some ⟨gp, 0, none⟩), .pointer (some ⟨gm, 0, none⟩), .pointer (some ⟨gx, 0, none⟩)]] W (PieceD W base gn gp gm gx P run s fs ask ov cd ou (docZ kk K T M) f0 (fun f' e => (∃ a b : Int, e = .returned (.int .u64 0) ∧ f' = ({ g with w := a, l := b } : FS).ends kk 4) ∨ ∃ a b : Int, W64 a ∧ W64 b ∧ ¬ lo a = 0 ∧ e = .returned (.int .u64 (pk (hi b) (lo a))) ∧ f' = took ({ g with w := a, l := b, pc := 92 } : FS) (pk (hi b) (lo a)))) := by
  have HW := Lib.hid hw
  have HE := Lib.hid h
  have HF := Lib.hid hg
  have HP := Lib.hid hp
  clear hw h hg hp
  go_enter Try.func65, Try.ntmps65
  go_wp2_with fail
  refine wp_scope_jumps 0 (fun a' w' => ∃ (k : Nat) (f : FS), Env w' base gn gp gm gx P k run s fs ask ov cd ou ∧ Only (fun g => g = gn) W w' ∧ (docZ kk K T M).after f0 (fs.take k) = f ∧ (f.pc = 90 ∧ ∃ a b : Int, f = { g with w := a, l := b }) ∧ ∃ (u1 u3 u4 u5 u6 u7 u8 u9 u10 u11 u12 u13 u14 u15 u16 u17 u18 u19 u20 u21 u22 u23 u24 : Value), a' = { tmps := #[.func (.func 149) #[] #[.pointer (some ⟨gn, 0, none⟩), .pointer (some ⟨gp, 0, none⟩), .pointer (some ⟨gm, 0, none⟩), .pointer (some ⟨gx, 0, none⟩)], u1, .int .u64 0, u3, u4, u5, u6, u7, u8, u9, u10, u11, u12, u13, u14, u15, u16, u17, u18, u19, u20, u21, u22, u23, u24], defers := [] }) (fun _ w' => fs.length - kOf gn w') rfl ?_ ?_
  · go_wp2_with fail
    go_step3
    obtain ⟨k, hk0⟩ : ∃ k : Nat, k = k0 := ⟨_, rfl⟩
    have HE1 : Hid (Env W base gn gp gm gx P k run s fs ask ov cd ou) := Lib.hid (by rw [hk0]; exact HE.out)
    have HO0 : Hid (Only (fun g => g = gn) W W) := Lib.hid (Only.refl _ _)
    obtain ⟨f, hff⟩ : ∃ f, f = g := ⟨_, rfl⟩
    have HF1 : Hid ((docZ kk K T M).after f0 (fs.take k) = f) := Lib.hid (by rw [hk0, hff]; exact HF.out)
    have HP1 : Hid (f.pc = 90 ∧ ∃ a b : Int, f = { g with w := a, l := b }) := Lib.hid (by rw [hff]; exact ⟨HP.out, g.w, g.l, rfl⟩)
    clear hk0 hff
    by_cases hk : k = fs.length
    · go_wp2_with (go_at_call 76; (with_reducible refine (read_ask _ base gn gp gm gx P k run s fs ask ov cd ou HE1.out hk 2 0).mono ?_); rintro e w1 ⟨rfl, h1⟩; have H1 := Lib.hid h1; clear h1)
      exact ⟨rfl, .inl ⟨_, (plan_at hk HF1.out).trans (nx_at (by rw [HP1.out.1]; decide) (ask90 HP1.out.1)), asked_d ⟨rfl, H1.out⟩ HO0.out⟩⟩
    · have hlt : k < fs.length := by have := HE1.out.hk; omega
      obtain ⟨x, hx⟩ : ∃ x, fs[k]? = some x := ⟨_, List.getElem?_eq_getElem hlt⟩
      have HX0 := Lib.hid hx
      have HX : Hid (W64 x.1) := Lib.hid (HW.out x (List.mem_of_getElem? hx))
      obtain ⟨x0, x1⟩ := HX.out
      clear hx
      by_cases hlo : x.1 % 4294967296 = 0
      · have hz : (x.1 % 4294967296 == 0) = true := by rw [hlo]; rfl
        have HLO := Lib.hid hlo
        clear hlo
        go_wp2_with (first | (go_at_call 76; (with_reducible refine (read_tell _ base gn gp gm gx P k run s fs ask ov cd ou x HE1.out HX0.out 2 0).mono ?_); rintro e w1 ⟨rfl, he1, ho1⟩; go_must (have E1 := Lib.hid he1; have O1 := Lib.hid (HO0.out.trans ho1)); have HO1 := O1; clear he1 ho1) | (go_at_call 66; refine (low_c _ _ x0 x1).mono ?_; rintro e w' ⟨rfl, rfl⟩))
        simp only [Exit.jump]
        go_ret
        obtain ⟨hp1, a, b, hfe⟩ := HP1.out
        exact .inr ⟨k + 1, _, E1.out, HO1.out, tell_at HX0.out HF1.out (tell90a x.2 hp1 HLO.out), .inl ⟨a, b, rfl, by rw [hfe]⟩⟩
      · have hz : (x.1 % 4294967296 == 0) = false := beq_false_of_ne hlo
        have HLO := Lib.hid hlo
        clear hlo
        have HA2 : Hid ((docZ kk K T M).after f0 (fs.take (k + 1)) = { f with w := x.1, pc := 91 }) := Lib.hid (tell_at HX0.out HF1.out (tell90b x.2 HP1.out.1 HLO.out))
        by_cases hk2 : k + 1 = fs.length
        · go_wp2_with (first | (go_at_call 76; (with_reducible refine (read_tell _ base gn gp gm gx P k run s fs ask ov cd ou x HE1.out HX0.out 2 0).mono ?_); rintro e w1 ⟨rfl, he1, ho1⟩; go_must (have E1 := Lib.hid he1; have O1 := Lib.hid (HO0.out.trans ho1)); have HO1 := O1; clear he1 ho1) | (go_at_call 66; refine (low_c _ _ x0 x1).mono ?_; rintro e w' ⟨rfl, rfl⟩) | (go_at_call 67; refine (handle_c _ _ x0 x1).mono ?_; rintro e w' ⟨rfl, rfl⟩) | (go_at_call 76; (with_reducible refine (read_ask _ base gn gp gm gx P (k + 1) run s fs ask ov cd ou E1.out hk2 7 (x.1 % 4294967296 - 1)).mono ?_); rintro e w2 ⟨rfl, h1⟩; have H1 := Lib.hid h1; clear h1))
          exact ⟨rfl, .inl ⟨_, (plan_at hk2 HA2.out).trans (nx_at (show ¬ (91 : Int) = 0 by decide) (ask91 rfl)), asked_d ⟨rfl, H1.out⟩ HO1.out⟩⟩
        · have hlt2 : k + 1 < fs.length := by omega
          obtain ⟨y, hy⟩ : ∃ y, fs[k + 1]? = some y := ⟨_, List.getElem?_eq_getElem hlt2⟩
          have HY0 := Lib.hid hy
          have HY : Hid (W64 y.1) := Lib.hid (HW.out y (List.mem_of_getElem? hy))
          obtain ⟨y0, y1⟩ := HY.out
          clear hy
          have HA3 : Hid ((docZ kk K T M).after f0 (fs.take (k + 1 + 1)) = { f with w := x.1, l := y.1, pc := 92 }) := Lib.hid (tell_at HY0.out HA2.out (tell91 y.1 y.2 rfl))
          by_cases hk3 : k + 1 + 1 = fs.length
          · go_wp2_with (first | (go_at_call 76; (with_reducible refine (read_tell _ base gn gp gm gx P k run s fs ask ov cd ou x HE1.out HX0.out 2 0).mono ?_); rintro e w1 ⟨rfl, he1, ho1⟩; go_must (have E1 := Lib.hid he1; have O1 := Lib.hid (HO0.out.trans ho1)); have HO1 := O1; clear he1 ho1) | (go_at_call 66; refine (low_c _ _ x0 x1).mono ?_; rintro e w' ⟨rfl, rfl⟩) | (go_at_call 67; refine (handle_c _ _ x0 x1).mono ?_; rintro e w' ⟨rfl, rfl⟩) | (go_at_call 76; (with_reducible refine (read_tell _ base gn gp gm gx P (k + 1) run s fs ask ov cd ou y E1.out HY0.out 7 (x.1 % 4294967296 - 1)).mono ?_); rintro e w2 ⟨rfl, he2, ho2⟩; go_must (have E2 := Lib.hid he2; have O2 := Lib.hid (HO1.out.trans ho2)); have HO2 := O2; clear he2 ho2) | (go_at_call 112; (with_reducible refine (lead_ask _ base gn gp gm gx P (k + 1 + 1) run s fs ask ov cd ou x.1 y.1 E2.out hk3 HX.out HY.out).mono ?_); rintro e w3 ⟨rfl, h1⟩; have H1 := Lib.hid h1; clear h1))
            exact ⟨rfl, .inl ⟨_, (plan_at hk3 HA3.out).trans (nx_at (show ¬ (92 : Int) = 0 by decide) (ask92 rfl)), asked_d ⟨rfl, H1.out⟩ HO2.out⟩⟩
          · have hlt3 : k + 1 + 1 < fs.length := by omega
            obtain ⟨z, hz0⟩ : ∃ z, fs[k + 1 + 1]? = some z := ⟨_, List.getElem?_eq_getElem hlt3⟩
            have HZ0 := Lib.hid hz0
            clear hz0
            by_cases hd : z.2 = true
            · have HA4 : Hid ((docZ kk K T M).after f0 (fs.take (k + 1 + 1 + 1)) = took { f with w := x.1, l := y.1, pc := 92 } (pk (hi y.1) (lo x.1))) := Lib.hid (tell_at HZ0.out HA3.out (tell92t (f := { f with w := x.1, l := y.1, pc := 92 }) z.1 rfl hd))
              have hd2 : (!z.2) = false := by rw [hd]; rfl
              go_wp2_with (first | (go_at_call 76; (with_reducible refine (read_tell _ base gn gp gm gx P k run s fs ask ov cd ou x HE1.out HX0.out 2 0).mono ?_); rintro e w1 ⟨rfl, he1, ho1⟩; go_must (have E1 := Lib.hid he1; have O1 := Lib.hid (HO0.out.trans ho1)); have HO1 := O1; clear he1 ho1) | (go_at_call 66; refine (low_c _ _ x0 x1).mono ?_; rintro e w' ⟨rfl, rfl⟩) | (go_at_call 67; refine (handle_c _ _ x0 x1).mono ?_; rintro e w' ⟨rfl, rfl⟩) | (go_at_call 76; (with_reducible refine (read_tell _ base gn gp gm gx P (k + 1) run s fs ask ov cd ou y E1.out HY0.out 7 (x.1 % 4294967296 - 1)).mono ?_); rintro e w2 ⟨rfl, he2, ho2⟩; go_must (have E2 := Lib.hid he2; have O2 := Lib.hid (HO1.out.trans ho2)); have HO2 := O2; clear he2 ho2) | (go_at_call 112; (with_reducible refine (lead_tell _ base gn gp gm gx P (k + 1 + 1) run s fs ask ov cd ou x.1 y.1 E2.out z HZ0.out HX.out HY.out).mono ?_); rintro e w3 ⟨rfl, he3, ho3⟩; go_must (have E3 := Lib.hid he3; have O3 := Lib.hid (HO2.out.trans ho3)); have HO3 := O3; clear he3 ho3) | (go_at_call 79; refine (high_c _ _ y0 y1).mono ?_; rintro e w' ⟨rfl, rfl⟩) | (go_at_call 39; refine (ref_c _ _ _ (by omega) (by omega) (by omega) (by omega)).mono ?_; rintro e w' ⟨rfl, rfl⟩))
              simp only [Exit.jump]
              go_ret
              obtain ⟨hp1, a, b, hfe⟩ := HP1.out
              refine .inr ⟨_, _, E3.out, HO3.out, HA4.out, .inr ⟨x.1, y.1, HX.out, HY.out, HLO.out, ?_, by rw [hfe]⟩⟩
              have hr : y.1 / 4294967296 * 4294967296 + x.1 % 4294967296 = pk (hi y.1) (lo x.1) := rfl
              first | rfl | (rw [← hr]; done) | (rw [← hr]; rfl)
            · have hd1 : z.2 = false := by simpa using hd
              have HA4 : Hid ((docZ kk K T M).after f0 (fs.take (k + 1 + 1 + 1)) = { f with w := x.1, l := y.1, pc := 90 }) := Lib.hid (tell_at HZ0.out HA3.out (tell92f (f := { f with w := x.1, l := y.1, pc := 92 }) z.1 rfl hd1))
              have HSA : Hid (({ f with w := x.1, l := y.1, pc := 90 } : FS) = { g with w := x.1, l := y.1 }) := Lib.hid (by
                obtain ⟨hp1, a, b, hfe⟩ := HP1.out
                rw [hfe] at hp1 ⊢
                simp only at hp1
                rw [← hp1])
              have hd2 : (!z.2) = true := by rw [hd1]; rfl
              go_wp2_with (first | (go_at_call 76; (with_reducible refine (read_tell _ base gn gp gm gx P k run s fs ask ov cd ou x HE1.out HX0.out 2 0).mono ?_); rintro e w1 ⟨rfl, he1, ho1⟩; go_must (have E1 := Lib.hid he1; have O1 := Lib.hid (HO0.out.trans ho1)); have HO1 := O1; clear he1 ho1) | (go_at_call 66; refine (low_c _ _ x0 x1).mono ?_; rintro e w' ⟨rfl, rfl⟩) | (go_at_call 67; refine (handle_c _ _ x0 x1).mono ?_; rintro e w' ⟨rfl, rfl⟩) | (go_at_call 76; (with_reducible refine (read_tell _ base gn gp gm gx P (k + 1) run s fs ask ov cd ou y E1.out HY0.out 7 (x.1 % 4294967296 - 1)).mono ?_); rintro e w2 ⟨rfl, he2, ho2⟩; go_must (have E2 := Lib.hid he2; have O2 := Lib.hid (HO1.out.trans ho2)); have HO2 := O2; clear he2 ho2) | (go_at_call 112; (with_reducible refine (lead_tell _ base gn gp gm gx P (k + 1 + 1) run s fs ask ov cd ou x.1 y.1 E2.out z HZ0.out HX.out HY.out).mono ?_); rintro e w3 ⟨rfl, he3, ho3⟩; go_must (have E3 := Lib.hid he3; have O3 := Lib.hid (HO2.out.trans ho3)); have HO3 := O3; clear he3 ho3))
              go_step3
              exact ⟨rfl, ⟨k + 1 + 1 + 1, _, E3.out, HO3.out, HA4.out, ⟨rfl, _, _, HSA.out⟩, _, _, _, _, _, _, _, _, _, _, _, _, _, _, _, _, _, _, _, _, _, _, _, rfl⟩⟩
  · rintro a' w' ⟨k, f, h1, h2, h3, h4, u1, u3, u4, u5, u6, u7, u8, u9, u10, u11, u12, u13, u14, u15, u16, u17, u18, u19, u20, u21, u22, u23, u24, rfl⟩
    have HE1 := Lib.hid h1
    have HO0 := Lib.hid h2
    have HF1 := Lib.hid h3
    have HP1 := Lib.hid h4
    clear h1 h2 h3 h4
    have HKM := Lib.hid (kof_env HE1.out)
    by_cases hk : k = fs.length
    · go_wp2_with (go_at_call 76; (with_reducible refine (read_ask _ base gn gp gm gx P k run s fs ask ov cd ou HE1.out hk 2 0).mono ?_); rintro e w1 ⟨rfl, h1⟩; have H1 := Lib.hid h1; clear h1)
      exact ⟨rfl, .inl ⟨_, (plan_at hk HF1.out).trans (nx_at (by rw [HP1.out.1]; decide) (ask90 HP1.out.1)), asked_d ⟨rfl, H1.out⟩ HO0.out⟩⟩
    · have hlt : k < fs.length := by have := HE1.out.hk; omega
      obtain ⟨x, hx⟩ : ∃ x, fs[k]? = some x := ⟨_, List.getElem?_eq_getElem hlt⟩
      have HX0 := Lib.hid hx
      have HX : Hid (W64 x.1) := Lib.hid (HW.out x (List.mem_of_getElem? hx))
      obtain ⟨x0, x1⟩ := HX.out
      clear hx
      by_cases hlo : x.1 % 4294967296 = 0
      · have hz : (x.1 % 4294967296 == 0) = true := by rw [hlo]; rfl
        have HLO := Lib.hid hlo
        clear hlo
        go_wp2_with (first | (go_at_call 76; (with_reducible refine (read_tell _ base gn gp gm gx P k run s fs ask ov cd ou x HE1.out HX0.out 2 0).mono ?_); rintro e w1 ⟨rfl, he1, ho1⟩; go_must (have E1 := Lib.hid he1; have O1 := Lib.hid (HO0.out.trans ho1)); have HO1 := O1; clear he1 ho1) | (go_at_call 66; refine (low_c _ _ x0 x1).mono ?_; rintro e w' ⟨rfl, rfl⟩))
        simp only [Exit.jump]
        go_ret
        obtain ⟨hp1, a, b, hfe⟩ := HP1.out
        exact .inr ⟨k + 1, _, E1.out, HO1.out, tell_at HX0.out HF1.out (tell90a x.2 hp1 HLO.out), .inl ⟨a, b, rfl, by rw [hfe]⟩⟩
      · have hz : (x.1 % 4294967296 == 0) = false := beq_false_of_ne hlo
        have HLO := Lib.hid hlo
        clear hlo
        have HA2 : Hid ((docZ kk K T M).after f0 (fs.take (k + 1)) = { f with w := x.1, pc := 91 }) := Lib.hid (tell_at HX0.out HF1.out (tell90b x.2 HP1.out.1 HLO.out))
        by_cases hk2 : k + 1 = fs.length
        · go_wp2_with (first | (go_at_call 76; (with_reducible refine (read_tell _ base gn gp gm gx P k run s fs ask ov cd ou x HE1.out HX0.out 2 0).mono ?_); rintro e w1 ⟨rfl, he1, ho1⟩; go_must (have E1 := Lib.hid he1; have O1 := Lib.hid (HO0.out.trans ho1)); have HO1 := O1; clear he1 ho1) | (go_at_call 66; refine (low_c _ _ x0 x1).mono ?_; rintro e w' ⟨rfl, rfl⟩) | (go_at_call 67; refine (handle_c _ _ x0 x1).mono ?_; rintro e w' ⟨rfl, rfl⟩) | (go_at_call 76; (with_reducible refine (read_ask _ base gn gp gm gx P (k + 1) run s fs ask ov cd ou E1.out hk2 7 (x.1 % 4294967296 - 1)).mono ?_); rintro e w2 ⟨rfl, h1⟩; have H1 := Lib.hid h1; clear h1))
          exact ⟨rfl, .inl ⟨_, (plan_at hk2 HA2.out).trans (nx_at (show ¬ (91 : Int) = 0 by decide) (ask91 rfl)), asked_d ⟨rfl, H1.out⟩ HO1.out⟩⟩
        · have hlt2 : k + 1 < fs.length := by omega
          obtain ⟨y, hy⟩ : ∃ y, fs[k + 1]? = some y := ⟨_, List.getElem?_eq_getElem hlt2⟩
          have HY0 := Lib.hid hy
          have HY : Hid (W64 y.1) := Lib.hid (HW.out y (List.mem_of_getElem? hy))
          obtain ⟨y0, y1⟩ := HY.out
          clear hy
          have HA3 : Hid ((docZ kk K T M).after f0 (fs.take (k + 1 + 1)) = { f with w := x.1, l := y.1, pc := 92 }) := Lib.hid (tell_at HY0.out HA2.out (tell91 y.1 y.2 rfl))
          by_cases hk3 : k + 1 + 1 = fs.length
          · go_wp2_with (first | (go_at_call 76; (with_reducible refine (read_tell _ base gn gp gm gx P k run s fs ask ov cd ou x HE1.out HX0.out 2 0).mono ?_); rintro e w1 ⟨rfl, he1, ho1⟩; go_must (have E1 := Lib.hid he1; have O1 := Lib.hid (HO0.out.trans ho1)); have HO1 := O1; clear he1 ho1) | (go_at_call 66; refine (low_c _ _ x0 x1).mono ?_; rintro e w' ⟨rfl, rfl⟩) | (go_at_call 67; refine (handle_c _ _ x0 x1).mono ?_; rintro e w' ⟨rfl, rfl⟩) | (go_at_call 76; (with_reducible refine (read_tell _ base gn gp gm gx P (k + 1) run s fs ask ov cd ou y E1.out HY0.out 7 (x.1 % 4294967296 - 1)).mono ?_); rintro e w2 ⟨rfl, he2, ho2⟩; go_must (have E2 := Lib.hid he2; have O2 := Lib.hid (HO1.out.trans ho2)); have HO2 := O2; clear he2 ho2) | (go_at_call 112; (with_reducible refine (lead_ask _ base gn gp gm gx P (k + 1 + 1) run s fs ask ov cd ou x.1 y.1 E2.out hk3 HX.out HY.out).mono ?_); rintro e w3 ⟨rfl, h1⟩; have H1 := Lib.hid h1; clear h1))
            exact ⟨rfl, .inl ⟨_, (plan_at hk3 HA3.out).trans (nx_at (show ¬ (92 : Int) = 0 by decide) (ask92 rfl)), asked_d ⟨rfl, H1.out⟩ HO2.out⟩⟩
          · have hlt3 : k + 1 + 1 < fs.length := by omega
            obtain ⟨z, hz0⟩ : ∃ z, fs[k + 1 + 1]? = some z := ⟨_, List.getElem?_eq_getElem hlt3⟩
            have HZ0 := Lib.hid hz0
            clear hz0
            by_cases hd : z.2 = true
            · have HA4 : Hid ((docZ kk K T M).after f0 (fs.take (k + 1 + 1 + 1)) = took { f with w := x.1, l := y.1, pc := 92 } (pk (hi y.1) (lo x.1))) := Lib.hid (tell_at HZ0.out HA3.out (tell92t (f := { f with w := x.1, l := y.1, pc := 92 }) z.1 rfl hd))
              have hd2 : (!z.2) = false := by rw [hd]; rfl
              go_wp2_with (first | (go_at_call 76; (with_reducible refine (read_tell _ base gn gp gm gx P k run s fs ask ov cd ou x HE1.out HX0.out 2 0).mono ?_); rintro e w1 ⟨rfl, he1, ho1⟩; go_must (have E1 := Lib.hid he1; have O1 := Lib.hid (HO0.out.trans ho1)); have HO1 := O1; clear he1 ho1) | (go_at_call 66; refine (low_c _ _ x0 x1).mono ?_; rintro e w' ⟨rfl, rfl⟩) | (go_at_call 67; refine (handle_c _ _ x0 x1).mono ?_; rintro e w' ⟨rfl, rfl⟩) | (go_at_call 76; (with_reducible refine (read_tell _ base gn gp gm gx P (k + 1) run s fs ask ov cd ou y E1.out HY0.out 7 (x.1 % 4294967296 - 1)).mono ?_); rintro e w2 ⟨rfl, he2, ho2⟩; go_must (have E2 := Lib.hid he2; have O2 := Lib.hid (HO1.out.trans ho2)); have HO2 := O2; clear he2 ho2) | (go_at_call 112; (with_reducible refine (lead_tell _ base gn gp gm gx P (k + 1 + 1) run s fs ask ov cd ou x.1 y.1 E2.out z HZ0.out HX.out HY.out).mono ?_); rintro e w3 ⟨rfl, he3, ho3⟩; go_must (have E3 := Lib.hid he3; have O3 := Lib.hid (HO2.out.trans ho3)); have HO3 := O3; clear he3 ho3) | (go_at_call 79; refine (high_c _ _ y0 y1).mono ?_; rintro e w' ⟨rfl, rfl⟩) | (go_at_call 39; refine (ref_c _ _ _ (by omega) (by omega) (by omega) (by omega)).mono ?_; rintro e w' ⟨rfl, rfl⟩))
              simp only [Exit.jump]
              go_ret
              obtain ⟨hp1, a, b, hfe⟩ := HP1.out
              refine .inr ⟨_, _, E3.out, HO3.out, HA4.out, .inr ⟨x.1, y.1, HX.out, HY.out, HLO.out, ?_, by rw [hfe]⟩⟩
              have hr : y.1 / 4294967296 * 4294967296 + x.1 % 4294967296 = pk (hi y.1) (lo x.1) := rfl
              first | rfl | (rw [← hr]; done) | (rw [← hr]; rfl)
            · have hd1 : z.2 = false := by simpa using hd
              have HA4 : Hid ((docZ kk K T M).after f0 (fs.take (k + 1 + 1 + 1)) = { f with w := x.1, l := y.1, pc := 90 }) := Lib.hid (tell_at HZ0.out HA3.out (tell92f (f := { f with w := x.1, l := y.1, pc := 92 }) z.1 rfl hd1))
              have HSA : Hid (({ f with w := x.1, l := y.1, pc := 90 } : FS) = { g with w := x.1, l := y.1 }) := Lib.hid (by
                obtain ⟨hp1, a, b, hfe⟩ := HP1.out
                rw [hfe] at hp1 ⊢
                simp only at hp1
                rw [← hp1])
              have hd2 : (!z.2) = true := by rw [hd1]; rfl
              go_wp2_with (first | (go_at_call 76; (with_reducible refine (read_tell _ base gn gp gm gx P k run s fs ask ov cd ou x HE1.out HX0.out 2 0).mono ?_); rintro e w1 ⟨rfl, he1, ho1⟩; go_must (have E1 := Lib.hid he1; have O1 := Lib.hid (HO0.out.trans ho1)); have HO1 := O1; clear he1 ho1) | (go_at_call 66; refine (low_c _ _ x0 x1).mono ?_; rintro e w' ⟨rfl, rfl⟩) | (go_at_call 67; refine (handle_c _ _ x0 x1).mono ?_; rintro e w' ⟨rfl, rfl⟩) | (go_at_call 76; (with_reducible refine (read_tell _ base gn gp gm gx P (k + 1) run s fs ask ov cd ou y E1.out HY0.out 7 (x.1 % 4294967296 - 1)).mono ?_); rintro e w2 ⟨rfl, he2, ho2⟩; go_must (have E2 := Lib.hid he2; have O2 := Lib.hid (HO1.out.trans ho2)); have HO2 := O2; clear he2 ho2) | (go_at_call 112; (with_reducible refine (lead_tell _ base gn gp gm gx P (k + 1 + 1) run s fs ask ov cd ou x.1 y.1 E2.out z HZ0.out HX.out HY.out).mono ?_); rintro e w3 ⟨rfl, he3, ho3⟩; go_must (have E3 := Lib.hid he3; have O3 := Lib.hid (HO2.out.trans ho3)); have HO3 := O3; clear he3 ho3))
              go_step3
              refine ⟨rfl, ⟨k + 1 + 1 + 1, _, E3.out, HO3.out, HA4.out, ⟨rfl, _, _, HSA.out⟩, _, _, _, _, _, _, _, _, _, _, _, _, _, _, _, _, _, _, _, _, _, _, _, rfl⟩, ?_⟩
              have hk3 := kof_env E3.out
              have hk1 := HKM.out
              show fs.length - kOf gn _ < fs.length - kOf gn _
              omega
end Go.Proofs.Ytffppdcpiieapaa.Arenac

namespace Go.Proofs.Ytffppdcpiieapaa.Arenac
open Go.RowKit Go.Proofs.Ytffppdcpiieapaa.Memc Go.Proofs.Ytffppdcpiieapaa.Procc Go.Proofs.Ytffppdcpiieapaa.Machc Go.Proofs.Ytffppdcpiieapaa.Drivec Go.Proofs.Ytffppdcpiieapaa.Wordc
set_option linter.unusedVariables false
set_option maxRecDepth 100000

set_option maxHeartbeats 4000000 in
theorem give_c (kk : Int) (K T M : Nat) (W : World) (base gn gp gm gx P : Nat) (run : Value) (s : Sl) (fs : List (Int × Bool)) (ask ov : Bool) (cd ou : Int) (k0 : Nat) (rf : Int) (f0 g : FS) (h : Env W base gn gp gm gx P k0 run s fs ask ov cd ou) (hw : ∀ x ∈ fs, W64 x.1) (hg : (docZ kk K T M).after f0 (fs.take k0) = g) (hrf : W64 rf) (hp : g.pc = 95 ∧ g.give = rf) :
    Calls Try.prog 69 #[.func (.func 149) #[] #[.pointer (some ⟨gn, 0, none⟩), .pointer (some ⟨gp, 0, none⟩), .pointer (some ⟨gm, 0, none⟩), .pointer (some ⟨gx, 0, none⟩)], .int .u64 rf] W (PieceD W base gn gp gm gx P run s fs ask ov cd ou (docZ kk K T M) f0 (fun f' e => e = .returned (.tuple #[]) ∧ ∃ a : Int, f' = gave { g with w := a, pc := 97 })) := by
  have HW := Lib.hid hw
  have HE := Lib.hid h
  have HF := Lib.hid hg
  have HP := Lib.hid hp
  have HR := Lib.hid hrf
  obtain ⟨r0, r1⟩ := hrf
  clear hw h hg hp
  go_enter Try.func69, Try.ntmps69
  go_wp2_with fail
  refine wp_scope_jumps 0 (fun a' w' => ∃ (k : Nat) (f : FS), Env w' base gn gp gm gx P k run s fs ask ov cd ou ∧ Only (fun g => g = gn) W w' ∧ (docZ kk K T M).after f0 (fs.take k) = f ∧ (f.pc = 95 ∧ f.give = rf ∧ ∃ a : Int, f = { g with w := a }) ∧ ∃ (u2 u3 u4 u5 u6 u7 u8 u9 u10 u11 u12 u13 u14 u15 u16 u17 u18 u19 u20 : Value), a' = { tmps := #[.func (.func 149) #[] #[.pointer (some ⟨gn, 0, none⟩), .pointer (some ⟨gp, 0, none⟩), .pointer (some ⟨gm, 0, none⟩), .pointer (some ⟨gx, 0, none⟩)], .int .u64 rf, u2, u3, u4, u5, u6, u7, u8, u9, u10, u11, u12, u13, u14, u15, u16, u17, u18, u19, u20], defers := [] }) (fun _ w' => fs.length - kOf gn w') rfl ?_ ?_
  · go_wp2_with fail
    go_step3
    obtain ⟨k, hk0⟩ : ∃ k : Nat, k = k0 := ⟨_, rfl⟩
    have HE1 : Hid (Env W base gn gp gm gx P k run s fs ask ov cd ou) := Lib.hid (by rw [hk0]; exact HE.out)
    have HO0 : Hid (Only (fun g => g = gn) W W) := Lib.hid (Only.refl _ _)
    obtain ⟨f, hff⟩ : ∃ f, f = g := ⟨_, rfl⟩
    have HF1 : Hid ((docZ kk K T M).after f0 (fs.take k) = f) := Lib.hid (by rw [hk0, hff]; exact HF.out)
    have HP1 : Hid (f.pc = 95 ∧ f.give = rf ∧ ∃ a : Int, f = { g with w := a }) := Lib.hid (by rw [hff]; exact ⟨HP.out.1, HP.out.2, g.w, rfl⟩)
    clear hk0 hff
    by_cases hk : k = fs.length
    · go_wp2_with (go_at_call 76; (with_reducible refine (read_ask _ base gn gp gm gx P k run s fs ask ov cd ou HE1.out hk 2 0).mono ?_); rintro e w1 ⟨rfl, h1⟩; have H1 := Lib.hid h1; clear h1)
      exact ⟨rfl, .inl ⟨_, (plan_at hk HF1.out).trans (nx_at (by rw [HP1.out.1]; decide) (ask95 HP1.out.1)), asked_d ⟨rfl, H1.out⟩ HO0.out⟩⟩
    · have hlt : k < fs.length := by have := HE1.out.hk; omega
      obtain ⟨x, hx⟩ : ∃ x, fs[k]? = some x := ⟨_, List.getElem?_eq_getElem hlt⟩
      have HX0 := Lib.hid hx
      have HX : Hid (W64 x.1) := Lib.hid (HW.out x (List.mem_of_getElem? hx))
      obtain ⟨x0, x1⟩ := HX.out
      clear hx
      have HA2 : Hid ((docZ kk K T M).after f0 (fs.take (k + 1)) = { f with w := x.1, pc := 96 }) := Lib.hid (tell_at HX0.out HF1.out (tell95 x.1 x.2 HP1.out.1))
      by_cases hk2 : k + 1 = fs.length
      · go_wp2_with (first | (go_at_call 76; (with_reducible refine (read_tell _ base gn gp gm gx P k run s fs ask ov cd ou x HE1.out HX0.out 2 0).mono ?_); rintro e w1 ⟨rfl, he1, ho1⟩; go_must (have E1 := Lib.hid he1; have O1 := Lib.hid (HO0.out.trans ho1)); have HO1 := O1; clear he1 ho1) | (go_at_call 66; refine (low_c _ _ x0 x1).mono ?_; rintro e w' ⟨rfl, rfl⟩) | (go_at_call 67; refine (handle_c _ _ r0 r1).mono ?_; rintro e w' ⟨rfl, rfl⟩) | (go_at_call 79; refine (high_c _ _ r0 r1).mono ?_; rintro e w' ⟨rfl, rfl⟩) | (go_at_call 70; refine (pack_c _ _ _ (by omega) (by omega) (by omega) (by omega)).mono ?_; rintro e w' ⟨rfl, rfl⟩) | (go_at_call 77; (with_reducible refine (write_ask _ base gn gp gm gx P (k + 1) run s fs ask ov cd ou E1.out hk2 7 (rf % 4294967296 - 1) (rf / 4294967296 * 4294967296 + x.1 % 4294967296)).mono ?_); rintro e w2 ⟨rfl, h1⟩; have H1 := Lib.hid h1; clear h1))
        refine ⟨rfl, .inl ⟨⟨2, 7, rf % 4294967296 - 1, 0, rf / 4294967296 * 4294967296 + x.1 % 4294967296⟩, (plan_at hk2 HA2.out).trans (nx_at (show ¬ (96 : Int) = 0 by decide) ((ask96 rfl).trans ?_)), asked_d ⟨rfl, H1.out⟩ HO1.out⟩⟩
        show (⟨2, 7, hnd f.give, 0, pk (hi f.give) (lo x.1)⟩ : Acc) = _
        rw [HP1.out.2.1]
        rfl
      · have hlt2 : k + 1 < fs.length := by omega
        obtain ⟨y, hy⟩ : ∃ y, fs[k + 1]? = some y := ⟨_, List.getElem?_eq_getElem hlt2⟩
        have HY0 := Lib.hid hy
        clear hy
        have HA3 : Hid ((docZ kk K T M).after f0 (fs.take (k + 1 + 1)) = { f with w := x.1, pc := 97 }) := Lib.hid (tell_at HY0.out HA2.out (tell96 y.1 y.2 rfl))
        by_cases hk3 : k + 1 + 1 = fs.length
        · go_wp2_with (first | (go_at_call 76; (with_reducible refine (read_tell _ base gn gp gm gx P k run s fs ask ov cd ou x HE1.out HX0.out 2 0).mono ?_); rintro e w1 ⟨rfl, he1, ho1⟩; go_must (have E1 := Lib.hid he1; have O1 := Lib.hid (HO0.out.trans ho1)); have HO1 := O1; clear he1 ho1) | (go_at_call 66; refine (low_c _ _ x0 x1).mono ?_; rintro e w' ⟨rfl, rfl⟩) | (go_at_call 67; refine (handle_c _ _ r0 r1).mono ?_; rintro e w' ⟨rfl, rfl⟩) | (go_at_call 79; refine (high_c _ _ r0 r1).mono ?_; rintro e w' ⟨rfl, rfl⟩) | (go_at_call 70; refine (pack_c _ _ _ (by omega) (by omega) (by omega) (by omega)).mono ?_; rintro e w' ⟨rfl, rfl⟩) | (go_at_call 77; (with_reducible refine (write_tell _ base gn gp gm gx P (k + 1) run s fs ask ov cd ou y E1.out HY0.out 7 (rf % 4294967296 - 1) (rf / 4294967296 * 4294967296 + x.1 % 4294967296)).mono ?_); rintro e w2 ⟨rfl, he2, ho2⟩; go_must (have E2 := Lib.hid he2; have O2 := Lib.hid (HO1.out.trans ho2)); have HO2 := O2; clear he2 ho2) | (go_at_call 112; (with_reducible refine (lead_ask _ base gn gp gm gx P (k + 1 + 1) run s fs ask ov cd ou x.1 rf E2.out hk3 HX.out HR.out).mono ?_); rintro e w3 ⟨rfl, h1⟩; have H1 := Lib.hid h1; clear h1))
          refine ⟨rfl, .inl ⟨⟨3, 2, 0, x.1, pk (up (hi x.1)) (lo rf)⟩, (plan_at hk3 HA3.out).trans (nx_at (show ¬ (97 : Int) = 0 by decide) ((ask97 rfl).trans ?_)), asked_d ⟨rfl, H1.out⟩ HO2.out⟩⟩
          show (⟨3, 2, 0, x.1, pk (up (hi x.1)) (lo f.give)⟩ : Acc) = _
          rw [HP1.out.2.1]
        · have hlt3 : k + 1 + 1 < fs.length := by omega
          obtain ⟨z, hz0⟩ : ∃ z, fs[k + 1 + 1]? = some z := ⟨_, List.getElem?_eq_getElem hlt3⟩
          have HZ0 := Lib.hid hz0
          clear hz0
          by_cases hd : z.2 = true
          · have HA4 : Hid ((docZ kk K T M).after f0 (fs.take (k + 1 + 1 + 1)) = gave { f with w := x.1, pc := 97 }) := Lib.hid (tell_at HZ0.out HA3.out (tell97t (f := { f with w := x.1, pc := 97 }) z.1 rfl hd))
            have hd2 : (!z.2) = false := by rw [hd]; rfl
            go_wp2_with (first | (go_at_call 76; (with_reducible refine (read_tell _ base gn gp gm gx P k run s fs ask ov cd ou x HE1.out HX0.out 2 0).mono ?_); rintro e w1 ⟨rfl, he1, ho1⟩; go_must (have E1 := Lib.hid he1; have O1 := Lib.hid (HO0.out.trans ho1)); have HO1 := O1; clear he1 ho1) | (go_at_call 66; refine (low_c _ _ x0 x1).mono ?_; rintro e w' ⟨rfl, rfl⟩) | (go_at_call 67; refine (handle_c _ _ r0 r1).mono ?_; rintro e w' ⟨rfl, rfl⟩) | (go_at_call 79; refine (high_c _ _ r0 r1).mono ?_; rintro e w' ⟨rfl, rfl⟩) | (go_at_call 70; refine (pack_c _ _ _ (by omega) (by omega) (by omega) (by omega)).mono ?_; rintro e w' ⟨rfl, rfl⟩) | (go_at_call 77; (with_reducible refine (write_tell _ base gn gp gm gx P (k + 1) run s fs ask ov cd ou y E1.out HY0.out 7 (rf % 4294967296 - 1) (rf / 4294967296 * 4294967296 + x.1 % 4294967296)).mono ?_); rintro e w2 ⟨rfl, he2, ho2⟩; go_must (have E2 := Lib.hid he2; have O2 := Lib.hid (HO1.out.trans ho2)); have HO2 := O2; clear he2 ho2) | (go_at_call 112; (with_reducible refine (lead_tell _ base gn gp gm gx P (k + 1 + 1) run s fs ask ov cd ou x.1 rf E2.out z HZ0.out HX.out HR.out).mono ?_); rintro e w3 ⟨rfl, he3, ho3⟩; go_must (have E3 := Lib.hid he3; have O3 := Lib.hid (HO2.out.trans ho3)); have HO3 := O3; clear he3 ho3))
            simp only [Exit.jump]
            first | go_end0 | refine bodyPost_ret (results_none rfl _ _ _) rfl ?_
            obtain ⟨hp1, hp2, a, hfe⟩ := HP1.out
            exact .inr ⟨_, _, E3.out, HO3.out, HA4.out, rfl, x.1, by rw [hfe]⟩
          · have hd1 : z.2 = false := by simpa using hd
            have HA4 : Hid ((docZ kk K T M).after f0 (fs.take (k + 1 + 1 + 1)) = { f with w := x.1, pc := 95 }) := Lib.hid (tell_at HZ0.out HA3.out (tell97f (f := { f with w := x.1, pc := 97 }) z.1 rfl hd1))
            have HSA : Hid (({ f with w := x.1, pc := 95 } : FS) = { g with w := x.1 }) := Lib.hid (by
              obtain ⟨hp1, hp2, a, hfe⟩ := HP1.out
              rw [hfe] at hp1 ⊢
              simp only at hp1
              rw [← hp1])
            have hd2 : (!z.2) = true := by rw [hd1]; rfl
            go_wp2_with (first | (go_at_call 76; (with_reducible refine (read_tell _ base gn gp gm gx P k run s fs ask ov cd ou x HE1.out HX0.out 2 0).mono ?_); rintro e w1 ⟨rfl, he1, ho1⟩; go_must (have E1 := Lib.hid he1; have O1 := Lib.hid (HO0.out.trans ho1)); have HO1 := O1; clear he1 ho1) | (go_at_call 66; refine (low_c _ _ x0 x1).mono ?_; rintro e w' ⟨rfl, rfl⟩) | (go_at_call 67; refine (handle_c _ _ r0 r1).mono ?_; rintro e w' ⟨rfl, rfl⟩) | (go_at_call 79; refine (high_c _ _ r0 r1).mono ?_; rintro e w' ⟨rfl, rfl⟩) | (go_at_call 70; refine (pack_c _ _ _ (by omega) (by omega) (by omega) (by omega)).mono ?_; rintro e w' ⟨rfl, rfl⟩) | (go_at_call 77; (with_reducible refine (write_tell _ base gn gp gm gx P (k + 1) run s fs ask ov cd ou y E1.out HY0.out 7 (rf % 4294967296 - 1) (rf / 4294967296 * 4294967296 + x.1 % 4294967296)).mono ?_); rintro e w2 ⟨rfl, he2, ho2⟩; go_must (have E2 := Lib.hid he2; have O2 := Lib.hid (HO1.out.trans ho2)); have HO2 := O2; clear he2 ho2) | (go_at_call 112; (with_reducible refine (lead_tell _ base gn gp gm gx P (k + 1 + 1) run s fs ask ov cd ou x.1 rf E2.out z HZ0.out HX.out HR.out).mono ?_); rintro e w3 ⟨rfl, he3, ho3⟩; go_must (have E3 := Lib.hid he3; have O3 := Lib.hid (HO2.out.trans ho3)); have HO3 := O3; clear he3 ho3))
            go_step3
            exact ⟨rfl, ⟨k + 1 + 1 + 1, _, E3.out, HO3.out, HA4.out, ⟨rfl, HP1.out.2.1, _, HSA.out⟩, _, _, _, _, _, _, _, _, _, _, _, _, _, _, _, _, _, _, _, rfl⟩⟩
  · rintro a' w' ⟨k, f, h1, h2, h3, h4, u2, u3, u4, u5, u6, u7, u8, u9, u10, u11, u12, u13, u14, u15, u16, u17, u18, u19, u20, rfl⟩
    have HE1 := Lib.hid h1
    have HO0 := Lib.hid h2
    have HF1 := Lib.hid h3
    have HP1 := Lib.hid h4
    clear h1 h2 h3 h4
    have HKM := Lib.hid (kof_env HE1.out)
    by_cases hk : k = fs.length
    · go_wp2_with (go_at_call 76; (with_reducible refine (read_ask _ base gn gp gm gx P k run s fs ask ov cd ou HE1.out hk 2 0).mono ?_); rintro e w1 ⟨rfl, h1⟩; have H1 := Lib.hid h1; clear h1)
      exact ⟨rfl, .inl ⟨_, (plan_at hk HF1.out).trans (nx_at (by rw [HP1.out.1]; decide) (ask95 HP1.out.1)), asked_d ⟨rfl, H1.out⟩ HO0.out⟩⟩
    · have hlt : k < fs.length := by have := HE1.out.hk; omega
      obtain ⟨x, hx⟩ : ∃ x, fs[k]? = some x := ⟨_, List.getElem?_eq_getElem hlt⟩
      have HX0 := Lib.hid hx
      have HX : Hid (W64 x.1) := Lib.hid (HW.out x (List.mem_of_getElem? hx))
      obtain ⟨x0, x1⟩ := HX.out
      clear hx
      have HA2 : Hid ((docZ kk K T M).after f0 (fs.take (k + 1)) = { f with w := x.1, pc := 96 }) := Lib.hid (tell_at HX0.out HF1.out (tell95 x.1 x.2 HP1.out.1))
      by_cases hk2 : k + 1 = fs.length
      · go_wp2_with (first | (go_at_call 76; (with_reducible refine (read_tell _ base gn gp gm gx P k run s fs ask ov cd ou x HE1.out HX0.out 2 0).mono ?_); rintro e w1 ⟨rfl, he1, ho1⟩; go_must (have E1 := Lib.hid he1; have O1 := Lib.hid (HO0.out.trans ho1)); have HO1 := O1; clear he1 ho1) | (go_at_call 66; refine (low_c _ _ x0 x1).mono ?_; rintro e w' ⟨rfl, rfl⟩) | (go_at_call 67; refine (handle_c _ _ r0 r1).mono ?_; rintro e w' ⟨rfl, rfl⟩) | (go_at_call 79; refine (high_c _ _ r0 r1).mono ?_; rintro e w' ⟨rfl, rfl⟩) | (go_at_call 70; refine (pack_c _ _ _ (by omega) (by omega) (by omega) (by omega)).mono ?_; rintro e w' ⟨rfl, rfl⟩) | (go_at_call 77; (with_reducible refine (write_ask _ base gn gp gm gx P (k + 1) run s fs ask ov cd ou E1.out hk2 7 (rf % 4294967296 - 1) (rf / 4294967296 * 4294967296 + x.1 % 4294967296)).mono ?_); rintro e w2 ⟨rfl, h1⟩; have H1 := Lib.hid h1; clear h1))
        refine ⟨rfl, .inl ⟨⟨2, 7, rf % 4294967296 - 1, 0, rf / 4294967296 * 4294967296 + x.1 % 4294967296⟩, (plan_at hk2 HA2.out).trans (nx_at (show ¬ (96 : Int) = 0 by decide) ((ask96 rfl).trans ?_)), asked_d ⟨rfl, H1.out⟩ HO1.out⟩⟩
        show (⟨2, 7, hnd f.give, 0, pk (hi f.give) (lo x.1)⟩ : Acc) = _
        rw [HP1.out.2.1]
        rfl
      · have hlt2 : k + 1 < fs.length := by omega
        obtain ⟨y, hy⟩ : ∃ y, fs[k + 1]? = some y := ⟨_, List.getElem?_eq_getElem hlt2⟩
        have HY0 := Lib.hid hy
        clear hy
        have HA3 : Hid ((docZ kk K T M).after f0 (fs.take (k + 1 + 1)) = { f with w := x.1, pc := 97 }) := Lib.hid (tell_at HY0.out HA2.out (tell96 y.1 y.2 rfl))
        by_cases hk3 : k + 1 + 1 = fs.length
        · go_wp2_with (first | (go_at_call 76; (with_reducible refine (read_tell _ base gn gp gm gx P k run s fs ask ov cd ou x HE1.out HX0.out 2 0).mono ?_); rintro e w1 ⟨rfl, he1, ho1⟩; go_must (have E1 := Lib.hid he1; have O1 := Lib.hid (HO0.out.trans ho1)); have HO1 := O1; clear he1 ho1) | (go_at_call 66; refine (low_c _ _ x0 x1).mono ?_; rintro e w' ⟨rfl, rfl⟩) | (go_at_call 67; refine (handle_c _ _ r0 r1).mono ?_; rintro e w' ⟨rfl, rfl⟩) | (go_at_call 79; refine (high_c _ _ r0 r1).mono ?_; rintro e w' ⟨rfl, rfl⟩) | (go_at_call 70; refine (pack_c _ _ _ (by omega) (by omega) (by omega) (by omega)).mono ?_; rintro e w' ⟨rfl, rfl⟩) | (go_at_call 77; (with_reducible refine (write_tell _ base gn gp gm gx P (k + 1) run s fs ask ov cd ou y E1.out HY0.out 7 (rf % 4294967296 - 1) (rf / 4294967296 * 4294967296 + x.1 % 4294967296)).mono ?_); rintro e w2 ⟨rfl, he2, ho2⟩; go_must (have E2 := Lib.hid he2; have O2 := Lib.hid (HO1.out.trans ho2)); have HO2 := O2; clear he2 ho2) | (go_at_call 112; (with_reducible refine (lead_ask _ base gn gp gm gx P (k + 1 + 1) run s fs ask ov cd ou x.1 rf E2.out hk3 HX.out HR.out).mono ?_); rintro e w3 ⟨rfl, h1⟩; have H1 := Lib.hid h1; clear h1))
          refine ⟨rfl, .inl ⟨⟨3, 2, 0, x.1, pk (up (hi x.1)) (lo rf)⟩, (plan_at hk3 HA3.out).trans (nx_at (show ¬ (97 : Int) = 0 by decide) ((ask97 rfl).trans ?_)), asked_d ⟨rfl, H1.out⟩ HO2.out⟩⟩
          show (⟨3, 2, 0, x.1, pk (up (hi x.1)) (lo f.give)⟩ : Acc) = _
          rw [HP1.out.2.1]
        · have hlt3 : k + 1 + 1 < fs.length := by omega
          obtain ⟨z, hz0⟩ : ∃ z, fs[k + 1 + 1]? = some z := ⟨_, List.getElem?_eq_getElem hlt3⟩
          have HZ0 := Lib.hid hz0
          clear hz0
          by_cases hd : z.2 = true
          · have HA4 : Hid ((docZ kk K T M).after f0 (fs.take (k + 1 + 1 + 1)) = gave { f with w := x.1, pc := 97 }) := Lib.hid (tell_at HZ0.out HA3.out (tell97t (f := { f with w := x.1, pc := 97 }) z.1 rfl hd))
            have hd2 : (!z.2) = false := by rw [hd]; rfl
            go_wp2_with (first | (go_at_call 76; (with_reducible refine (read_tell _ base gn gp gm gx P k run s fs ask ov cd ou x HE1.out HX0.out 2 0).mono ?_); rintro e w1 ⟨rfl, he1, ho1⟩; go_must (have E1 := Lib.hid he1; have O1 := Lib.hid (HO0.out.trans ho1)); have HO1 := O1; clear he1 ho1) | (go_at_call 66; refine (low_c _ _ x0 x1).mono ?_; rintro e w' ⟨rfl, rfl⟩) | (go_at_call 67; refine (handle_c _ _ r0 r1).mono ?_; rintro e w' ⟨rfl, rfl⟩) | (go_at_call 79; refine (high_c _ _ r0 r1).mono ?_; rintro e w' ⟨rfl, rfl⟩) | (go_at_call 70; refine (pack_c _ _ _ (by omega) (by omega) (by omega) (by omega)).mono ?_; rintro e w' ⟨rfl, rfl⟩) | (go_at_call 77; (with_reducible refine (write_tell _ base gn gp gm gx P (k + 1) run s fs ask ov cd ou y E1.out HY0.out 7 (rf % 4294967296 - 1) (rf / 4294967296 * 4294967296 + x.1 % 4294967296)).mono ?_); rintro e w2 ⟨rfl, he2, ho2⟩; go_must (have E2 := Lib.hid he2; have O2 := Lib.hid (HO1.out.trans ho2)); have HO2 := O2; clear he2 ho2) | (go_at_call 112; (with_reducible refine (lead_tell _ base gn gp gm gx P (k + 1 + 1) run s fs ask ov cd ou x.1 rf E2.out z HZ0.out HX.out HR.out).mono ?_); rintro e w3 ⟨rfl, he3, ho3⟩; go_must (have E3 := Lib.hid he3; have O3 := Lib.hid (HO2.out.trans ho3)); have HO3 := O3; clear he3 ho3))
            simp only [Exit.jump]
            first | go_end0 | refine bodyPost_ret (results_none rfl _ _ _) rfl ?_
            obtain ⟨hp1, hp2, a, hfe⟩ := HP1.out
            exact .inr ⟨_, _, E3.out, HO3.out, HA4.out, rfl, x.1, by rw [hfe]⟩
          · have hd1 : z.2 = false := by simpa using hd
            have HA4 : Hid ((docZ kk K T M).after f0 (fs.take (k + 1 + 1 + 1)) = { f with w := x.1, pc := 95 }) := Lib.hid (tell_at HZ0.out HA3.out (tell97f (f := { f with w := x.1, pc := 97 }) z.1 rfl hd1))
            have HSA : Hid (({ f with w := x.1, pc := 95 } : FS) = { g with w := x.1 }) := Lib.hid (by
              obtain ⟨hp1, hp2, a, hfe⟩ := HP1.out
              rw [hfe] at hp1 ⊢
              simp only at hp1
              rw [← hp1])
            have hd2 : (!z.2) = true := by rw [hd1]; rfl
            go_wp2_with (first | (go_at_call 76; (with_reducible refine (read_tell _ base gn gp gm gx P k run s fs ask ov cd ou x HE1.out HX0.out 2 0).mono ?_); rintro e w1 ⟨rfl, he1, ho1⟩; go_must (have E1 := Lib.hid he1; have O1 := Lib.hid (HO0.out.trans ho1)); have HO1 := O1; clear he1 ho1) | (go_at_call 66; refine (low_c _ _ x0 x1).mono ?_; rintro e w' ⟨rfl, rfl⟩) | (go_at_call 67; refine (handle_c _ _ r0 r1).mono ?_; rintro e w' ⟨rfl, rfl⟩) | (go_at_call 79; refine (high_c _ _ r0 r1).mono ?_; rintro e w' ⟨rfl, rfl⟩) | (go_at_call 70; refine (pack_c _ _ _ (by omega) (by omega) (by omega) (by omega)).mono ?_; rintro e w' ⟨rfl, rfl⟩) | (go_at_call 77; (with_reducible refine (write_tell _ base gn gp gm gx P (k + 1) run s fs ask ov cd ou y E1.out HY0.out 7 (rf % 4294967296 - 1) (rf / 4294967296 * 4294967296 + x.1 % 4294967296)).mono ?_); rintro e w2 ⟨rfl, he2, ho2⟩; go_must (have E2 := Lib.hid he2; have O2 := Lib.hid (HO1.out.trans ho2)); have HO2 := O2; clear he2 ho2) | (go_at_call 112; (with_reducible refine (lead_tell _ base gn gp gm gx P (k + 1 + 1) run s fs ask ov cd ou x.1 rf E2.out z HZ0.out HX.out HR.out).mono ?_); rintro e w3 ⟨rfl, he3, ho3⟩; go_must (have E3 := Lib.hid he3; have O3 := Lib.hid (HO2.out.trans ho3)); have HO3 := O3; clear he3 ho3))
            go_step3
            refine ⟨rfl, ⟨k + 1 + 1 + 1, _, E3.out, HO3.out, HA4.out, ⟨rfl, HP1.out.2.1, _, HSA.out⟩, _, _, _, _, _, _, _, _, _, _, _, _, _, _, _, _, _, _, _, rfl⟩, ?_⟩
            have hk3 := kof_env E3.out
            have hk1 := HKM.out
            show fs.length - kOf gn _ < fs.length - kOf gn _
            omega
end Go.Proofs.Ytffppdcpiieapaa.Arenac

namespace Go.Proofs.Ytffppdcpiieapaa.Arenac
open Go.RowKit Go.Proofs.Ytffppdcpiieapaa.Memc Go.Proofs.Ytffppdcpiieapaa.Procc Go.Proofs.Ytffppdcpiieapaa.Machc Go.Proofs.Ytffppdcpiieapaa.Drivec Go.Proofs.Ytffppdcpiieapaa.Wordc
set_option linter.unusedVariables false
set_option maxRecDepth 100000

/-- what taking comes to, at the call's end -/
def TakeD (W : World) (gn gm gx : Nat) (nx : Nx) (e : Ending) (w' : World) : Prop :=
  (∃ a, nx = .ask a ∧ AskD W gn gm gx a e w') ∨ ∃ ref : Int, W64 ref ∧ e = .returned (.int .u64 ref) ∧ Only (fun g => g = gn) W w' ∧ nx = .fin (if lo ref = 0 then 4 else 0) (if lo ref = 0 then 0 else lo ref - 1)
/-- what giving comes to, at the call's end -/
def GiveD (W : World) (gn gm gx : Nat) (nx : Nx) (e : Ending) (w' : World) : Prop :=
  (∃ a, nx = .ask a ∧ AskD W gn gm gx a e w') ∨ (e = .returned (.tuple #[]) ∧ Only (fun g => g = gn) W w' ∧ nx = .fin 0 0)
theorem take_d (kk : Int) (K T M : Nat) (W : World) (base gn gp gm gx P : Nat) (run : Value) (s : Sl) (fs : List (Int × Bool)) (ask ov : Bool) (cd ou : Int) (f0 : FS) (h : Env W base gn gp gm gx P 0 run s fs ask ov cd ou) (hg : Going ((docZ kk K T M).plan f0) fs) (hw : ∀ x ∈ fs, W64 x.1) (hf : f0.pc = 90 ∧ f0.kd = 4 ∧ f0.code = 0 ∧ f0.out = 0) :
    Calls Try.prog 65 #[.func (.func 149) #[] #[.pointer (some ⟨gn, 0, none⟩), .pointer (some ⟨gp, 0, none⟩), .pointer (some ⟨gm, 0, none⟩), .pointer (some ⟨gx, 0, none⟩)]] W (TakeD W gn gm gx ((docZ kk K T M).plan f0 fs)) := by
  refine (take_c kk K T M W base gn gp gm gx P run s fs ask ov cd ou 0 f0 f0 h hw rfl hf.1).mono ?_
  rintro e w' (h1 | ⟨k', f', hE, hO, hA, h2⟩)
  · exact .inl h1
  · rcases h2 with ⟨a, b, rfl, rfl⟩ | ⟨a, b, ha, hb, hl, rfl, rfl⟩
    · have hp : (({ f0 with w := a, l := b } : FS).ends kk 4).pc = 0 := by
        show (if ¬ f0.hold = 0 ∧ ¬ f0.kd = 4 then (19 : Int) else if kk = 2 ∨ f0.kd = 4 then 0 else 4) = 0
        rw [if_neg (fun h => h.2 hf.2.1), if_pos (.inr hf.2.1)]
      have hk := over_at hg hE.hk (by rw [hA]; exact hp)
      refine .inr ⟨0, ⟨Int.le_refl _, by decide⟩, rfl, hO, (plan_at hk hA).trans ((nx_end hp).trans ?_)⟩
      show Nx.fin 4 f0.out = Nx.fin 4 0
      rw [hf.2.2.2]
    · have ht : took ({ f0 with w := a, l := b, pc := 92 } : FS) (pk (hi b) (lo a)) = { f0 with w := a, l := b, hold := pk (hi b) (lo a), out := dec (lo a), pc := 0 } := by
        unfold took
        exact if_pos hf.2.1
      rw [ht] at hA
      have hk := over_at hg hE.hk (by rw [hA])
      obtain ⟨a0, a1⟩ := ha
      obtain ⟨b0, b1⟩ := hb
      have hlo : lo (pk (hi b) (lo a)) = lo a := by unfold lo pk; omega
      refine .inr ⟨_, ⟨by unfold pk hi lo; omega, by unfold pk hi lo; omega⟩, rfl, hO, (plan_at hk hA).trans ((nx_end rfl).trans ?_)⟩
      rw [hlo, if_neg hl, if_neg hl]
      show Nx.fin f0.code (dec (lo a)) = _
      have hd : dec (lo a) = lo a - 1 := by unfold dec; unfold lo at hl ⊢; omega
      rw [hf.2.2.1, hd]
theorem give_d (kk : Int) (K T M : Nat) (W : World) (base gn gp gm gx P : Nat) (run : Value) (s : Sl) (fs : List (Int × Bool)) (ask ov : Bool) (cd ou rf : Int) (f0 : FS) (h : Env W base gn gp gm gx P 0 run s fs ask ov cd ou) (hg : Going ((docZ kk K T M).plan f0) fs) (hw : ∀ x ∈ fs, W64 x.1) (hrf : W64 rf) (hf : f0.pc = 95 ∧ f0.back = 0 ∧ f0.code = 0 ∧ f0.out = 0 ∧ f0.give = rf) :
    Calls Try.prog 69 #[.func (.func 149) #[] #[.pointer (some ⟨gn, 0, none⟩), .pointer (some ⟨gp, 0, none⟩), .pointer (some ⟨gm, 0, none⟩), .pointer (some ⟨gx, 0, none⟩)], .int .u64 rf] W (GiveD W gn gm gx ((docZ kk K T M).plan f0 fs)) := by
  refine (give_c kk K T M W base gn gp gm gx P run s fs ask ov cd ou 0 rf f0 f0 h hw rfl hrf ⟨hf.1, hf.2.2.2.2⟩).mono ?_
  rintro e w' (h1 | ⟨k', f', hE, hO, hA, rfl, a, rfl⟩)
  · exact .inl h1
  · have ht : gave ({ f0 with w := a, pc := 97 } : FS) = { f0 with w := a, pc := 0 } := by
      unfold gave
      rw [if_neg (show ¬ f0.back = 87 by rw [hf.2.1]; decide)]
      show ({ f0 with w := a, pc := f0.back } : FS) = _
      rw [hf.2.1]
    rw [ht] at hA
    have hk := over_at hg hE.hk (by rw [hA])
    refine .inr ⟨rfl, hO, (plan_at hk hA).trans ((nx_end rfl).trans ?_)⟩
    show Nx.fin f0.code f0.out = _
    rw [hf.2.2.1, hf.2.2.2.1]
theorem enters_tk : Enters 64 := fun _ _ => by kernel_rfl
theorem enters_gv : Enters 68 := fun _ _ => by kernel_rfl
theorem enters_rb : Enters 36 := fun _ _ => by kernel_rfl
theorem proc_g (w : World) (F : Nat) (cs : Array Value) :
    Calls Try.prog 44 #[.func (.func F) #[] cs] w fun e w' => e = .returned (.iface 123 (.pointer (some ⟨w.heap.size, 0, none⟩))) ∧ w' = w.alloc (.cells #[.func (.func F) #[] cs, .slice none 0 0, .bool false, .bool false, .int .i64 0, .int .u32 0] 126) := by
  go_enter Try.func44, Try.ntmps44
  go_wp2
  go_ret
  exact ⟨rfl, rfl⟩

set_option maxHeartbeats 1000000 in
theorem taking_meets (kk : Int) (K T M : Nat) (f0 : FS) (hf : f0.pc = 90 ∧ f0.kd = 4 ∧ f0.code = 0 ∧ f0.out = 0) : Meets 64 [] ((docZ kk K T M).plan f0) := by
  refine ⟨enters_tk, ?_⟩
  intro w base gn gp gm gx P s fs ask ov cd ou hn hp hm hx hq hr hl hg hk hlt
  have E : Env w base gn gp gm gx P 0 _ s fs ask ov cd ou := ⟨hn, hp, hm, hx, hq, hr, hl, Nat.zero_le _⟩
  have hT := take_d kk K T M w base gn gp gm gx P _ s fs ask ov cd ou f0 E hg (fun x hx => hg.2 x hx) hf
  refine ⟨fun a ha => ?_, fun cd' ou' hfi => ?_⟩
  · have hA : Calls Try.prog 65 #[.func (.func 149) #[] #[.pointer (some ⟨gn, 0, none⟩), .pointer (some ⟨gp, 0, none⟩), .pointer (some ⟨gm, 0, none⟩), .pointer (some ⟨gx, 0, none⟩)]] w (AskD w gn gm gx a) := hT.mono (fun e w' h => by
      rcases h with ⟨a', e1, e2⟩ | ⟨ref, _, _, _, e4⟩
      · rw [ha] at e1
        injection e1 with e1
        subst e1
        exact e2
      · rw [ha] at e4
        cases e4)
    have HA := Lib.hid hA
    clear hA hT E hn hp hm hx hq hr hl hg hk hlt ha
    show Calls Try.prog 64 #[.func (.func 149) #[] #[.pointer (some ⟨gn, 0, none⟩), .pointer (some ⟨gp, 0, none⟩), .pointer (some ⟨gm, 0, none⟩), .pointer (some ⟨gx, 0, none⟩)]] w _
    go_enter Try.func64, Try.ntmps64
    go_wp2_with (go_at_call 65; (with_reducible refine HA.out.mono ?_); rintro e w1 ⟨rfl, h1⟩; have H1 := Lib.hid h1; clear h1)
    exact ⟨rfl, rfl, H1.out⟩
  · have hA : Calls Try.prog 65 #[.func (.func 149) #[] #[.pointer (some ⟨gn, 0, none⟩), .pointer (some ⟨gp, 0, none⟩), .pointer (some ⟨gm, 0, none⟩), .pointer (some ⟨gx, 0, none⟩)]] w (fun e w' => ∃ ref : Int, W64 ref ∧ e = .returned (.int .u64 ref) ∧ Only (fun g => g = gn) w w' ∧ cd' = (if lo ref = 0 then 4 else 0) ∧ ou' = (if lo ref = 0 then 0 else lo ref - 1)) := hT.mono (fun e w' h => by
      rcases h with ⟨a', e1, e2⟩ | ⟨ref, e1, e2, e3, e4⟩
      · rw [hfi] at e1
        cases e1
      · rw [hfi] at e4
        injection e4 with e4 e5
        exact ⟨ref, e1, e2, e3, e4, e5⟩)
    have HA := Lib.hid hA
    clear hA hT E hn hp hm hx hq hr hl hg hk hlt hfi
    show Calls Try.prog 64 #[.func (.func 149) #[] #[.pointer (some ⟨gn, 0, none⟩), .pointer (some ⟨gp, 0, none⟩), .pointer (some ⟨gm, 0, none⟩), .pointer (some ⟨gx, 0, none⟩)]] w _
    by_cases hcd : cd' = 4
    · go_enter Try.func64, Try.ntmps64
      go_wp2_with (first
        | (go_at_call 65; (with_reducible refine HA.out.mono ?_); rintro e w1 ⟨ref, ⟨r0, r1⟩, rfl, ho, h4, h5⟩; go_must (have hlo : lo ref = 0 := (by (by_cases h : lo ref = 0); exact h; rw [if_neg h] at h4; omega); have hz : (ref % 4294967296 == 0) = true := (by rw [show ref % 4294967296 = 0 from hlo]; rfl); rw [if_pos hlo] at h5; have HO := Lib.hid (And.intro ho h5)); clear ho h4 h5 hlo)
        | (go_at_call 66; refine (low_c _ _ r0 r1).mono ?_; rintro e w' ⟨rfl, rfl⟩))
      first | go_ret2 | go_ret
      refine ⟨?_, HO.out.1⟩
      rw [hcd, HO.out.2]
      rfl
    · go_enter Try.func64, Try.ntmps64
      go_wp2_with (first
        | (go_at_call 65; (with_reducible refine HA.out.mono ?_); rintro e w1 ⟨ref, ⟨r0, r1⟩, rfl, ho, h4, h5⟩; go_must (have hlo : ¬ lo ref = 0 := (fun h => by rw [if_pos h] at h4; exact hcd h4); have hz : (ref % 4294967296 == 0) = false := beq_false_of_ne hlo; rw [if_neg hlo] at h5 h4; have HO := Lib.hid (And.intro ho (And.intro h4 (And.intro h5 hlo)))); clear ho h4 h5 hlo)
        | (go_at_call 66; refine (low_c _ _ r0 r1).mono ?_; rintro e w' ⟨rfl, rfl⟩)
        | (go_at_call 67; refine (handle_c _ _ r0 r1).mono ?_; rintro e w' ⟨rfl, rfl⟩))
      have hl : ¬ ref % 4294967296 = 0 := HO.out.2.2.2
      have hw : (ref % 4294967296 - 1) % 4294967296 = ref % 4294967296 - 1 := by omega
      first | go_ret2 | go_ret
      refine ⟨?_, HO.out.1⟩
      rw [HO.out.2.1, HO.out.2.2.1]
      refine Eq.trans (b := Ending.returned (.tuple #[.int .i64 0, .int .u32 ((ref % 4294967296 - 1) % 4294967296)])) rfl ?_
      rw [hw]
      rfl

set_option maxHeartbeats 1000000 in
theorem giving_meets (kk : Int) (K T M : Nat) (f0 : FS) (gr : Nat) (rf : Int) (hrf : W64 rf) (hf : f0.pc = 95 ∧ f0.back = 0 ∧ f0.code = 0 ∧ f0.out = 0 ∧ f0.give = rf) : Meets 68 [⟨gr, 30, #[.int .u64 rf]⟩] ((docZ kk K T M).plan f0) := by
  refine ⟨enters_gv, ?_⟩
  intro w base gn gp gm gx P s fs ask ov cd ou hn hp hm hx hq hr hl hg hk hlt
  have E : Env w base gn gp gm gx P 0 _ s fs ask ov cd ou := ⟨hn, hp, hm, hx, hq, hr, hl, Nat.zero_le _⟩
  have hT := give_d kk K T M w base gn gp gm gx P _ s fs ask ov cd ou rf f0 E hg (fun x hx => hg.2 x hx) hrf hf
  have hB : Blk w gr 30 #[.int .u64 rf] := hk ⟨gr, 30, #[.int .u64 rf]⟩ (List.mem_singleton.2 rfl)
  have hcr := hB.cell
  refine ⟨fun a ha => ?_, fun cd' ou' hfi => ?_⟩
  · have hA : Calls Try.prog 69 #[.func (.func 149) #[] #[.pointer (some ⟨gn, 0, none⟩), .pointer (some ⟨gp, 0, none⟩), .pointer (some ⟨gm, 0, none⟩), .pointer (some ⟨gx, 0, none⟩)], .int .u64 rf] w (AskD w gn gm gx a) := hT.mono (fun e w' h => by
      rcases h with ⟨a', e1, e2⟩ | ⟨_, _, e4⟩
      · rw [ha] at e1
        injection e1 with e1
        subst e1
        exact e2
      · rw [ha] at e4
        cases e4)
    have HA := Lib.hid hA
    clear hA hT E hn hp hm hx hq hr hl hg hk hlt ha hB
    show Calls Try.prog 68 #[.func (.func 149) #[] #[.pointer (some ⟨gn, 0, none⟩), .pointer (some ⟨gp, 0, none⟩), .pointer (some ⟨gm, 0, none⟩), .pointer (some ⟨gx, 0, none⟩)], .pointer (some ⟨gr, 0, none⟩)] w _
    go_enter Try.func68, Try.ntmps68
    go_wp2_with (go_at_call 69; (with_reducible refine HA.out.mono ?_); rintro e w1 ⟨rfl, h1⟩; have H1 := Lib.hid h1; clear h1)
    exact ⟨rfl, rfl, H1.out⟩
  · have hA : Calls Try.prog 69 #[.func (.func 149) #[] #[.pointer (some ⟨gn, 0, none⟩), .pointer (some ⟨gp, 0, none⟩), .pointer (some ⟨gm, 0, none⟩), .pointer (some ⟨gx, 0, none⟩)], .int .u64 rf] w (fun e w' => e = .returned (.tuple #[]) ∧ Only (fun g => g = gn) w w' ∧ cd' = 0 ∧ ou' = 0) := hT.mono (fun e w' h => by
      rcases h with ⟨a', e1, e2⟩ | ⟨e1, e2, e4⟩
      · rw [hfi] at e1
        cases e1
      · rw [hfi] at e4
        injection e4 with e4 e5
        exact ⟨e1, e2, e4, e5⟩)
    have HA := Lib.hid hA
    clear hA hT E hn hp hm hx hq hr hl hg hk hlt hfi hB
    show Calls Try.prog 68 #[.func (.func 149) #[] #[.pointer (some ⟨gn, 0, none⟩), .pointer (some ⟨gp, 0, none⟩), .pointer (some ⟨gm, 0, none⟩), .pointer (some ⟨gx, 0, none⟩)], .pointer (some ⟨gr, 0, none⟩)] w _
    go_enter Try.func68, Try.ntmps68
    go_wp2_with (go_at_call 69; (with_reducible refine HA.out.mono ?_); rintro e w1 ⟨rfl, ho, h4, h5⟩; have HO := Lib.hid (And.intro ho (And.intro h4 h5)); clear ho h4 h5)
    go_ret2
    refine ⟨?_, HO.out.1⟩
    rw [HO.out.2.1, HO.out.2.2]
    rfl
end Go.Proofs.Ytffppdcpiieapaa.Arenac
