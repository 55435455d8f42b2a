/- Give, by contract: in any call, from any access on. · The machines of Take and Give, as the program begins them: by contract. · A turn of any run, by contract. -/
import Derived.WalkMore
import Derived.ScopeJumps
import Derived.Test.YtffppdcpiieapaaP14
import Derived.Test.YtffppdcpiieapaaP16
namespace Go.Proofs.Ytffppdcpiieapaa.Arenac
open Go.RowKit Go.Proofs.Ytffppdcpiieapaa.Memc Go.Proofs.Ytffppdcpiieapaa.Procc Go.Proofs.Ytffppdcpiieapaa.Machc Go.Proofs.Ytffppdcpiieapaa.Drivec Go.Proofs.Ytffppdcpiieapaa.Wordc
set_option linter.unusedVariables false
set_option maxRecDepth 100000

set_option maxHeartbeats 4000000 in
theorem give_c (kk : Int) (K T M : Nat) (W : World) (base gn gp gm gx P : Nat) (run : Value) (s : Sl) (fs : List (Int × Bool)) (ask ov : Bool) (cd ou : Int) (k0 : Nat) (rf : Int) (f0 g : FS) (h : Env W base gn gp gm gx P k0 run s fs ask ov cd ou) (hw : ∀ x ∈ fs, W64 x.1) (hg : (docZ kk K T M).after f0 (fs.take k0) = g) (hrf : W64 rf) (hp : g.pc = 95 ∧ g.give = rf) :
    Calls Try.prog 69 #[.func (.func 149) #[] #[.pointer (some ⟨gn, 0, none⟩), .pointer (some ⟨gp, 0, none⟩), .pointer (some ⟨gm, 0, none⟩), .pointer (some ⟨gx, 0, none⟩)], .int .u64 rf] W (PieceD W base gn gp gm gx P run s fs ask ov cd ou (docZ kk K T M) f0 (fun f' e => e = .returned (.tuple #[]) ∧ ∃ a : Int, f' = gave { g with w := a, pc := 97 })) := by
  have HW := Lib.hid hw
  have HE := Lib.hid h
  have HF := Lib.hid hg
  have HP := Lib.hid hp
  have HR := Lib.hid hrf
  obtain ⟨r0, r1⟩ := hrf
  clear hw h hg hp
  go_enter Try.func69, Try.ntmps69
  go_wp2_with fail
  refine wp_scope_jumps 0 (fun a' w' => ∃ (k : Nat) (f : FS), Env w' base gn gp gm gx P k run s fs ask ov cd ou ∧ Only (fun g => g = gn) W w' ∧ (docZ kk K T M).after f0 (fs.take k) = f ∧ (f.pc = 95 ∧ f.give = rf ∧ ∃ a : Int, f = { g with w := a }) ∧ ∃ (u2 u3 u4 u5 u6 u7 u8 u9 u10 u11 u12 u13 u14 u15 u16 u17 u18 u19 u20 : Value), a' = { tmps := #[.func (.func 149) #[] #[.pointer (some ⟨gn, 0, none⟩), .pointer (some ⟨gp, 0, none⟩), .pointer (some ⟨gm, 0, none⟩), .pointer (some ⟨gx, 0, none⟩)], .int .u64 rf, u2, u3, u4, u5, u6, u7, u8, u9, u10, u11, u12, u13, u14, u15, u16, u17, u18, u19, u20], defers := [] }) (fun _ w' => fs.length - kOf gn w') rfl ?_ ?_
  · go_wp2_with fail
    go_step3
    obtain ⟨k, hk0⟩ : ∃ k : Nat, k = k0 := ⟨_, rfl⟩
    have HE1 : Hid (Env W base gn gp gm gx P k run s fs ask ov cd ou) := Lib.hid (by rw [hk0]; exact HE.out)
    have HO0 : Hid (Only (fun g => g = gn) W W) := Lib.hid (Only.refl _ _)
    obtain ⟨f, hff⟩ : ∃ f, f = g := ⟨_, rfl⟩
    have HF1 : Hid ((docZ kk K T M).after f0 (fs.take k) = f) := Lib.hid (by rw [hk0, hff]; exact HF.out)
    have HP1 : Hid (f.pc = 95 ∧ f.give = rf ∧ ∃ a : Int, f = { g with w := a }) := Lib.hid (by rw [hff]; exact ⟨HP.out.1, HP.out.2, g.w, rfl⟩)
    clear hk0 hff
    by_cases hk : k = fs.length
    · go_wp2_with (go_at_call 76; (with_reducible refine (read_ask _ base gn gp gm gx P k run s fs ask ov cd ou HE1.out hk 2 0).mono ?_); rintro e w1 ⟨rfl, h1⟩; have H1 := Lib.hid h1; clear h1)
      exact ⟨rfl, .inl ⟨_, (plan_at hk HF1.out).trans (nx_at (by rw [HP1.out.1]; decide) (ask95 HP1.out.1)), asked_d ⟨rfl, H1.out⟩ HO0.out⟩⟩
    · have hlt : k < fs.length := by have := HE1.out.hk; omega
      obtain ⟨x, hx⟩ : ∃ x, fs[k]? = some x := ⟨_, List.getElem?_eq_getElem hlt⟩
      have HX0 := Lib.hid hx
      have HX : Hid (W64 x.1) := Lib.hid (HW.out x (List.mem_of_getElem? hx))
      obtain ⟨x0, x1⟩ := HX.out
      clear hx
      have HA2 : Hid ((docZ kk K T M).after f0 (fs.take (k + 1)) = { f with w := x.1, pc := 96 }) := Lib.hid (tell_at HX0.out HF1.out (tell95 x.1 x.2 HP1.out.1))
      by_cases hk2 : k + 1 = fs.length
      · go_wp2_with (first | (go_at_call 76; (with_reducible refine (read_tell _ base gn gp gm gx P k run s fs ask ov cd ou x HE1.out HX0.out 2 0).mono ?_); rintro e w1 ⟨rfl, he1, ho1⟩; go_must (have E1 := Lib.hid he1; have O1 := Lib.hid (HO0.out.trans ho1)); have HO1 := O1; clear he1 ho1) | (go_at_call 66; refine (low_c _ _ x0 x1).mono ?_; rintro e w' ⟨rfl, rfl⟩) | (go_at_call 67; refine (handle_c _ _ r0 r1).mono ?_; rintro e w' ⟨rfl, rfl⟩) | (go_at_call 79; refine (high_c _ _ r0 r1).mono ?_; rintro e w' ⟨rfl, rfl⟩) | (go_at_call 70; refine (pack_c _ _ _ (by omega) (by omega) (by omega) (by omega)).mono ?_; rintro e w' ⟨rfl, rfl⟩) | (go_at_call 77; (with_reducible refine (write_ask _ base gn gp gm gx P (k + 1) run s fs ask ov cd ou E1.out hk2 7 (rf % 4294967296 - 1) (rf / 4294967296 * 4294967296 + x.1 % 4294967296)).mono ?_); rintro e w2 ⟨rfl, h1⟩; have H1 := Lib.hid h1; clear h1))
        refine ⟨rfl, .inl ⟨⟨2, 7, rf % 4294967296 - 1, 0, rf / 4294967296 * 4294967296 + x.1 % 4294967296⟩, (plan_at hk2 HA2.out).trans (nx_at (show ¬ (96 : Int) = 0 by decide) ((ask96 rfl).trans ?_)), asked_d ⟨rfl, H1.out⟩ HO1.out⟩⟩
        show (⟨2, 7, hnd f.give, 0, pk (hi f.give) (lo x.1)⟩ : Acc) = _
        rw [HP1.out.2.1]
        rfl
      · have hlt2 : k + 1 < fs.length := by omega
        obtain ⟨y, hy⟩ : ∃ y, fs[k + 1]? = some y := ⟨_, List.getElem?_eq_getElem hlt2⟩
        have HY0 := Lib.hid hy
        clear hy
        have HA3 : Hid ((docZ kk K T M).after f0 (fs.take (k + 1 + 1)) = { f with w := x.1, pc := 97 }) := Lib.hid (tell_at HY0.out HA2.out (tell96 y.1 y.2 rfl))
        by_cases hk3 : k + 1 + 1 = fs.length
        · go_wp2_with (first | (go_at_call 76; (with_reducible refine (read_tell _ base gn gp gm gx P k run s fs ask ov cd ou x HE1.out HX0.out 2 0).mono ?_); rintro e w1 ⟨rfl, he1, ho1⟩; go_must (have E1 := Lib.hid he1; have O1 := Lib.hid (HO0.out.trans ho1)); have HO1 := O1; clear he1 ho1) | (go_at_call 66; refine (low_c _ _ x0 x1).mono ?_; rintro e w' ⟨rfl, rfl⟩) | (go_at_call 67; refine (handle_c _ _ r0 r1).mono ?_; rintro e w' ⟨rfl, rfl⟩) | (go_at_call 79; refine (high_c _ _ r0 r1).mono ?_; rintro e w' ⟨rfl, rfl⟩) | (go_at_call 70; refine (pack_c _ _ _ (by omega) (by omega) (by omega) (by omega)).mono ?_; rintro e w' ⟨rfl, rfl⟩) | (go_at_call 77; (with_reducible refine (write_tell _ base gn gp gm gx P (k + 1) run s fs ask ov cd ou y E1.out HY0.out 7 (rf % 4294967296 - 1) (rf / 4294967296 * 4294967296 + x.1 % 4294967296)).mono ?_); rintro e w2 ⟨rfl, he2, ho2⟩; go_must (have E2 := Lib.hid he2; have O2 := Lib.hid (HO1.out.trans ho2)); have HO2 := O2; clear he2 ho2) | (go_at_call 112; (with_reducible refine (lead_ask _ base gn gp gm gx P (k + 1 + 1) run s fs ask ov cd ou x.1 rf E2.out hk3 HX.out HR.out).mono ?_); rintro e w3 ⟨rfl, h1⟩; have H1 := Lib.hid h1; clear h1))
          refine ⟨rfl, .inl ⟨⟨3, 2, 0, x.1, pk (up (hi x.1)) (lo rf)⟩, (plan_at hk3 HA3.out).trans (nx_at (show ¬ (97 : Int) = 0 by decide) ((ask97 rfl).trans ?_)), asked_d ⟨rfl, H1.out⟩ HO2.out⟩⟩
          show (⟨3, 2, 0, x.1, pk (up (hi x.1)) (lo f.give)⟩ : Acc) = _
          rw [HP1.out.2.1]
        · have hlt3 : k + 1 + 1 < fs.length := by omega
          obtain ⟨z, hz0⟩ : ∃ z, fs[k + 1 + 1]? = some z := ⟨_, List.getElem?_eq_getElem hlt3⟩
          have HZ0 := Lib.hid hz0
          clear hz0
          by_cases hd : z.2 = true
          · have HA4 : Hid ((docZ kk K T M).after f0 (fs.take (k + 1 + 1 + 1)) = gave { f with w := x.1, pc := 97 }) := Lib.hid (tell_at HZ0.out HA3.out (tell97t (f := { f with w := x.1, pc := 97 }) z.1 rfl hd))
            have hd2 : (!z.2) = false := by rw [hd]; rfl
            go_wp2_with (first | (go_at_call 76; (with_reducible refine (read_tell _ base gn gp gm gx P k run s fs ask ov cd ou x HE1.out HX0.out 2 0).mono ?_); rintro e w1 ⟨rfl, he1, ho1⟩; go_must (have E1 := Lib.hid he1; have O1 := Lib.hid (HO0.out.trans ho1)); have HO1 := O1; clear he1 ho1) | (go_at_call 66; refine (low_c _ _ x0 x1).mono ?_; rintro e w' ⟨rfl, rfl⟩) | (go_at_call 67; refine (handle_c _ _ r0 r1).mono ?_; rintro e w' ⟨rfl, rfl⟩) | (go_at_call 79; refine (high_c _ _ r0 r1).mono ?_; rintro e w' ⟨rfl, rfl⟩) | (go_at_call 70; refine (pack_c _ _ _ (by omega) (by omega) (by omega) (by omega)).mono ?_; rintro e w' ⟨rfl, rfl⟩) | (go_at_call 77; (with_reducible refine (write_tell _ base gn gp gm gx P (k + 1) run s fs ask ov cd ou y E1.out HY0.out 7 (rf % 4294967296 - 1) (rf / 4294967296 * 4294967296 + x.1 % 4294967296)).mono ?_); rintro e w2 ⟨rfl, he2, ho2⟩; go_must (have E2 := Lib.hid he2; have O2 := Lib.hid (HO1.out.trans ho2)); have HO2 := O2; clear he2 ho2) | (go_at_call 112; (with_reducible refine (lead_tell _ base gn gp gm gx P (k + 1 + 1) run s fs ask ov cd ou x.1 rf E2.out z HZ0.out HX.out HR.out).mono ?_); rintro e w3 ⟨rfl, he3, ho3⟩; go_must (have E3 := Lib.hid he3; have O3 := Lib.hid (HO2.out.trans ho3)); have HO3 := O3; clear he3 ho3))
            simp only [Exit.jump]
            first | go_end0 | refine bodyPost_ret (results_none rfl _ _ _) rfl ?_
            obtain ⟨hp1, hp2, a, hfe⟩ := HP1.out
            exact .inr ⟨_, _, E3.out, HO3.out, HA4.out, rfl, x.1, by rw [hfe]⟩
          · have hd1 : z.2 = false := by simpa using hd
            have HA4 : Hid ((docZ kk K T M).after f0 (fs.take (k + 1 + 1 + 1)) = { f with w := x.1, pc := 95 }) := Lib.hid (tell_at HZ0.out HA3.out (tell97f (f := { f with w := x.1, pc := 97 }) z.1 rfl hd1))
            have HSA : Hid (({ f with w := x.1, pc := 95 } : FS) = { g with w := x.1 }) := Lib.hid (by
              obtain ⟨hp1, hp2, a, hfe⟩ := HP1.out
              rw [hfe] at hp1 ⊢
              simp only at hp1
              rw [← hp1])
            have hd2 : (!z.2) = true := by rw [hd1]; rfl
            go_wp2_with (first | (go_at_call 76; (with_reducible refine (read_tell _ base gn gp gm gx P k run s fs ask ov cd ou x HE1.out HX0.out 2 0).mono ?_); rintro e w1 ⟨rfl, he1, ho1⟩; go_must (have E1 := Lib.hid he1; have O1 := Lib.hid (HO0.out.trans ho1)); have HO1 := O1; clear he1 ho1) | (go_at_call 66; refine (low_c _ _ x0 x1).mono ?_; rintro e w' ⟨rfl, rfl⟩) | (go_at_call 67; refine (handle_c _ _ r0 r1).mono ?_; rintro e w' ⟨rfl, rfl⟩) | (go_at_call 79; refine (high_c _ _ r0 r1).mono ?_; rintro e w' ⟨rfl, rfl⟩) | (go_at_call 70; refine (pack_c _ _ _ (by omega) (by omega) (by omega) (by omega)).mono ?_; rintro e w' ⟨rfl, rfl⟩) | (go_at_call 77; (with_reducible refine (write_tell _ base gn gp gm gx P (k + 1) run s fs ask ov cd ou y E1.out HY0.out 7 (rf % 4294967296 - 1) (rf / 4294967296 * 4294967296 + x.1 % 4294967296)).mono ?_); rintro e w2 ⟨rfl, he2, ho2⟩; go_must (have E2 := Lib.hid he2; have O2 := Lib.hid (HO1.out.trans ho2)); have HO2 := O2; clear he2 ho2) | (go_at_call 112; (with_reducible refine (lead_tell _ base gn gp gm gx P (k + 1 + 1) run s fs ask ov cd ou x.1 rf E2.out z HZ0.out HX.out HR.out).mono ?_); rintro e w3 ⟨rfl, he3, ho3⟩; go_must (have E3 := Lib.hid he3; have O3 := Lib.hid (HO2.out.trans ho3)); have HO3 := O3; clear he3 ho3))
            go_step3
            exact ⟨rfl, ⟨k + 1 + 1 + 1, _, E3.out, HO3.out, HA4.out, ⟨rfl, HP1.out.2.1, _, HSA.out⟩, _, _, _, _, _, _, _, _, _, _, _, _, _, _, _, _, _, _, _, rfl⟩⟩
  · rintro a' w' ⟨k, f, h1, h2, h3, h4, u2, u3, u4, u5, u6, u7, u8, u9, u10, u11, u12, u13, u14, u15, u16, u17, u18, u19, u20, rfl⟩
    have HE1 := Lib.hid h1
    have HO0 := Lib.hid h2
    have HF1 := Lib.hid h3
    have HP1 := Lib.hid h4
    clear h1 h2 h3 h4
    have HKM := Lib.hid (kof_env HE1.out)
    by_cases hk : k = fs.length
    · go_wp2_with (go_at_call 76; (with_reducible refine (read_ask _ base gn gp gm gx P k run s fs ask ov cd ou HE1.out hk 2 0).mono ?_); rintro e w1 ⟨rfl, h1⟩; have H1 := Lib.hid h1; clear h1)
      exact ⟨rfl, .inl ⟨_, (plan_at hk HF1.out).trans (nx_at (by rw [HP1.out.1]; decide) (ask95 HP1.out.1)), asked_d ⟨rfl, H1.out⟩ HO0.out⟩⟩
    · have hlt : k < fs.length := by have := HE1.out.hk; omega
      obtain ⟨x, hx⟩ : ∃ x, fs[k]? = some x := ⟨_, List.getElem?_eq_getElem hlt⟩
      have HX0 := Lib.hid hx
      have HX : Hid (W64 x.1) := Lib.hid (HW.out x (List.mem_of_getElem? hx))
      obtain ⟨x0, x1⟩ := HX.out
      clear hx
      have HA2 : Hid ((docZ kk K T M).after f0 (fs.take (k + 1)) = { f with w := x.1, pc := 96 }) := Lib.hid (tell_at HX0.out HF1.out (tell95 x.1 x.2 HP1.out.1))
      by_cases hk2 : k + 1 = fs.length
      · go_wp2_with (first | (go_at_call 76; (with_reducible refine (read_tell _ base gn gp gm gx P k run s fs ask ov cd ou x HE1.out HX0.out 2 0).mono ?_); rintro e w1 ⟨rfl, he1, ho1⟩; go_must (have E1 := Lib.hid he1; have O1 := Lib.hid (HO0.out.trans ho1)); have HO1 := O1; clear he1 ho1) | (go_at_call 66; refine (low_c _ _ x0 x1).mono ?_; rintro e w' ⟨rfl, rfl⟩) | (go_at_call 67; refine (handle_c _ _ r0 r1).mono ?_; rintro e w' ⟨rfl, rfl⟩) | (go_at_call 79; refine (high_c _ _ r0 r1).mono ?_; rintro e w' ⟨rfl, rfl⟩) | (go_at_call 70; refine (pack_c _ _ _ (by omega) (by omega) (by omega) (by omega)).mono ?_; rintro e w' ⟨rfl, rfl⟩) | (go_at_call 77; (with_reducible refine (write_ask _ base gn gp gm gx P (k + 1) run s fs ask ov cd ou E1.out hk2 7 (rf % 4294967296 - 1) (rf / 4294967296 * 4294967296 + x.1 % 4294967296)).mono ?_); rintro e w2 ⟨rfl, h1⟩; have H1 := Lib.hid h1; clear h1))
        refine ⟨rfl, .inl ⟨⟨2, 7, rf % 4294967296 - 1, 0, rf / 4294967296 * 4294967296 + x.1 % 4294967296⟩, (plan_at hk2 HA2.out).trans (nx_at (show ¬ (96 : Int) = 0 by decide) ((ask96 rfl).trans ?_)), asked_d ⟨rfl, H1.out⟩ HO1.out⟩⟩
        show (⟨2, 7, hnd f.give, 0, pk (hi f.give) (lo x.1)⟩ : Acc) = _
        rw [HP1.out.2.1]
        rfl
      · have hlt2 : k + 1 < fs.length := by omega
        obtain ⟨y, hy⟩ : ∃ y, fs[k + 1]? = some y := ⟨_, List.getElem?_eq_getElem hlt2⟩
        have HY0 := Lib.hid hy
        clear hy
        have HA3 : Hid ((docZ kk K T M).after f0 (fs.take (k + 1 + 1)) = { f with w := x.1, pc := 97 }) := Lib.hid (tell_at HY0.out HA2.out (tell96 y.1 y.2 rfl))
        by_cases hk3 : k + 1 + 1 = fs.length
        · go_wp2_with (first | (go_at_call 76; (with_reducible refine (read_tell _ base gn gp gm gx P k run s fs ask ov cd ou x HE1.out HX0.out 2 0).mono ?_); rintro e w1 ⟨rfl, he1, ho1⟩; go_must (have E1 := Lib.hid he1; have O1 := Lib.hid (HO0.out.trans ho1)); have HO1 := O1; clear he1 ho1) | (go_at_call 66; refine (low_c _ _ x0 x1).mono ?_; rintro e w' ⟨rfl, rfl⟩) | (go_at_call 67; refine (handle_c _ _ r0 r1).mono ?_; rintro e w' ⟨rfl, rfl⟩) | (go_at_call 79; refine (high_c _ _ r0 r1).mono ?_; rintro e w' ⟨rfl, rfl⟩) | (go_at_call 70; refine (pack_c _ _ _ (by omega) (by omega) (by omega) (by omega)).mono ?_; rintro e w' ⟨rfl, rfl⟩) | (go_at_call 77; (with_reducible refine (write_tell _ base gn gp gm gx P (k + 1) run s fs ask ov cd ou y E1.out HY0.out 7 (rf % 4294967296 - 1) (rf / 4294967296 * 4294967296 + x.1 % 4294967296)).mono ?_); rintro e w2 ⟨rfl, he2, ho2⟩; go_must (have E2 := Lib.hid he2; have O2 := Lib.hid (HO1.out.trans ho2)); have HO2 := O2; clear he2 ho2) | (go_at_call 112; (with_reducible refine (lead_ask _ base gn gp gm gx P (k + 1 + 1) run s fs ask ov cd ou x.1 rf E2.out hk3 HX.out HR.out).mono ?_); rintro e w3 ⟨rfl, h1⟩; have H1 := Lib.hid h1; clear h1))
          refine ⟨rfl, .inl ⟨⟨3, 2, 0, x.1, pk (up (hi x.1)) (lo rf)⟩, (plan_at hk3 HA3.out).trans (nx_at (show ¬ (97 : Int) = 0 by decide) ((ask97 rfl).trans ?_)), asked_d ⟨rfl, H1.out⟩ HO2.out⟩⟩
          show (⟨3, 2, 0, x.1, pk (up (hi x.1)) (lo f.give)⟩ : Acc) = _
          rw [HP1.out.2.1]
        · have hlt3 : k + 1 + 1 < fs.length := by omega
          obtain ⟨z, hz0⟩ : ∃ z, fs[k + 1 + 1]? = some z := ⟨_, List.getElem?_eq_getElem hlt3⟩
          have HZ0 := Lib.hid hz0
          clear hz0
          by_cases hd : z.2 = true
          · have HA4 : Hid ((docZ kk K T M).after f0 (fs.take (k + 1 + 1 + 1)) = gave { f with w := x.1, pc := 97 }) := Lib.hid (tell_at HZ0.out HA3.out (tell97t (f := { f with w := x.1, pc := 97 }) z.1 rfl hd))
            have hd2 : (!z.2) = false := by rw [hd]; rfl
            go_wp2_with (first | (go_at_call 76; (with_reducible refine (read_tell _ base gn gp gm gx P k run s fs ask ov cd ou x HE1.out HX0.out 2 0).mono ?_); rintro e w1 ⟨rfl, he1, ho1⟩; go_must (have E1 := Lib.hid he1; have O1 := Lib.hid (HO0.out.trans ho1)); have HO1 := O1; clear he1 ho1) | (go_at_call 66; refine (low_c _ _ x0 x1).mono ?_; rintro e w' ⟨rfl, rfl⟩) | (go_at_call 67; refine (handle_c _ _ r0 r1).mono ?_; rintro e w' ⟨rfl, rfl⟩) | (go_at_call 79; refine (high_c _ _ r0 r1).mono ?_; rintro e w' ⟨rfl, rfl⟩) | (go_at_call 70; refine (pack_c _ _ _ (by omega) (by omega) (by omega) (by omega)).mono ?_; rintro e w' ⟨rfl, rfl⟩) | (go_at_call 77; (with_reducible refine (write_tell _ base gn gp gm gx P (k + 1) run s fs ask ov cd ou y E1.out HY0.out 7 (rf % 4294967296 - 1) (rf / 4294967296 * 4294967296 + x.1 % 4294967296)).mono ?_); rintro e w2 ⟨rfl, he2, ho2⟩; go_must (have E2 := Lib.hid he2; have O2 := Lib.hid (HO1.out.trans ho2)); have HO2 := O2; clear he2 ho2) | (go_at_call 112; (with_reducible refine (lead_tell _ base gn gp gm gx P (k + 1 + 1) run s fs ask ov cd ou x.1 rf E2.out z HZ0.out HX.out HR.out).mono ?_); rintro e w3 ⟨rfl, he3, ho3⟩; go_must (have E3 := Lib.hid he3; have O3 := Lib.hid (HO2.out.trans ho3)); have HO3 := O3; clear he3 ho3))
            simp only [Exit.jump]
            first | go_end0 | refine bodyPost_ret (results_none rfl _ _ _) rfl ?_
            obtain ⟨hp1, hp2, a, hfe⟩ := HP1.out
            exact .inr ⟨_, _, E3.out, HO3.out, HA4.out, rfl, x.1, by rw [hfe]⟩
          · have hd1 : z.2 = false := by simpa using hd
            have HA4 : Hid ((docZ kk K T M).after f0 (fs.take (k + 1 + 1 + 1)) = { f with w := x.1, pc := 95 }) := Lib.hid (tell_at HZ0.out HA3.out (tell97f (f := { f with w := x.1, pc := 97 }) z.1 rfl hd1))
            have HSA : Hid (({ f with w := x.1, pc := 95 } : FS) = { g with w := x.1 }) := Lib.hid (by
              obtain ⟨hp1, hp2, a, hfe⟩ := HP1.out
              rw [hfe] at hp1 ⊢
              simp only at hp1
              rw [← hp1])
            have hd2 : (!z.2) = true := by rw [hd1]; rfl
            go_wp2_with (first | (go_at_call 76; (with_reducible refine (read_tell _ base gn gp gm gx P k run s fs ask ov cd ou x HE1.out HX0.out 2 0).mono ?_); rintro e w1 ⟨rfl, he1, ho1⟩; go_must (have E1 := Lib.hid he1; have O1 := Lib.hid (HO0.out.trans ho1)); have HO1 := O1; clear he1 ho1) | (go_at_call 66; refine (low_c _ _ x0 x1).mono ?_; rintro e w' ⟨rfl, rfl⟩) | (go_at_call 67; refine (handle_c _ _ r0 r1).mono ?_; rintro e w' ⟨rfl, rfl⟩) | (go_at_call 79; refine (high_c _ _ r0 r1).mono ?_; rintro e w' ⟨rfl, rfl⟩) | (go_at_call 70; refine (pack_c _ _ _ (by omega) (by omega) (by omega) (by omega)).mono ?_; rintro e w' ⟨rfl, rfl⟩) | (go_at_call 77; (with_reducible refine (write_tell _ base gn gp gm gx P (k + 1) run s fs ask ov cd ou y E1.out HY0.out 7 (rf % 4294967296 - 1) (rf / 4294967296 * 4294967296 + x.1 % 4294967296)).mono ?_); rintro e w2 ⟨rfl, he2, ho2⟩; go_must (have E2 := Lib.hid he2; have O2 := Lib.hid (HO1.out.trans ho2)); have HO2 := O2; clear he2 ho2) | (go_at_call 112; (with_reducible refine (lead_tell _ base gn gp gm gx P (k + 1 + 1) run s fs ask ov cd ou x.1 rf E2.out z HZ0.out HX.out HR.out).mono ?_); rintro e w3 ⟨rfl, he3, ho3⟩; go_must (have E3 := Lib.hid he3; have O3 := Lib.hid (HO2.out.trans ho3)); have HO3 := O3; clear he3 ho3))
            go_step3
            refine ⟨rfl, ⟨k + 1 + 1 + 1, _, E3.out, HO3.out, HA4.out, ⟨rfl, HP1.out.2.1, _, HSA.out⟩, _, _, _, _, _, _, _, _, _, _, _, _, _, _, _, _, _, _, _, rfl⟩, ?_⟩
            have hk3 := kof_env E3.out
            have hk1 := HKM.out
            show fs.length - kOf gn _ < fs.length - kOf gn _
            omega
end Go.Proofs.Ytffppdcpiieapaa.Arenac

namespace Go.Proofs.Ytffppdcpiieapaa.Arenac
open Go.RowKit Go.Proofs.Ytffppdcpiieapaa.Memc Go.Proofs.Ytffppdcpiieapaa.Procc Go.Proofs.Ytffppdcpiieapaa.Machc Go.Proofs.Ytffppdcpiieapaa.Drivec Go.Proofs.Ytffppdcpiieapaa.Wordc
set_option linter.unusedVariables false
set_option maxRecDepth 100000

/-- what taking comes to, at the call's end -/
def TakeD (W : World) (gn gm gx : Nat) (nx : Nx) (e : Ending) (w' : World) : Prop :=
  (∃ a, nx = .ask a ∧ AskD W gn gm gx a e w') ∨ ∃ ref : Int, W64 ref ∧ e = .returned (.int .u64 ref) ∧ Only (fun g => g = gn) W w' ∧ nx = .fin (if lo ref = 0 then 4 else 0) (if lo ref = 0 then 0 else lo ref - 1)
/-- what giving comes to, at the call's end -/
def GiveD (W : World) (gn gm gx : Nat) (nx : Nx) (e : Ending) (w' : World) : Prop :=
  (∃ a, nx = .ask a ∧ AskD W gn gm gx a e w') ∨ (e = .returned (.tuple #[]) ∧ Only (fun g => g = gn) W w' ∧ nx = .fin 0 0)
theorem take_d (kk : Int) (K T M : Nat) (W : World) (base gn gp gm gx P : Nat) (run : Value) (s : Sl) (fs : List (Int × Bool)) (ask ov : Bool) (cd ou : Int) (f0 : FS) (h : Env W base gn gp gm gx P 0 run s fs ask ov cd ou) (hg : Going ((docZ kk K T M).plan f0) fs) (hw : ∀ x ∈ fs, W64 x.1) (hf : f0.pc = 90 ∧ f0.kd = 4 ∧ f0.code = 0 ∧ f0.out = 0) :
    Calls Try.prog 65 #[.func (.func 149) #[] #[.pointer (some ⟨gn, 0, none⟩), .pointer (some ⟨gp, 0, none⟩), .pointer (some ⟨gm, 0, none⟩), .pointer (some ⟨gx, 0, none⟩)]] W (TakeD W gn gm gx ((docZ kk K T M).plan f0 fs)) := by
  refine (take_c kk K T M W base gn gp gm gx P run s fs ask ov cd ou 0 f0 f0 h hw rfl hf.1).mono ?_
  rintro e w' (h1 | ⟨k', f', hE, hO, hA, h2⟩)
  · exact .inl h1
  · rcases h2 with ⟨a, b, rfl, rfl⟩ | ⟨a, b, ha, hb, hl, rfl, rfl⟩
    · have hp : (({ f0 with w := a, l := b } : FS).ends kk 4).pc = 0 := by
        show (if ¬ f0.hold = 0 ∧ ¬ f0.kd = 4 then (19 : Int) else if kk = 2 ∨ f0.kd = 4 then 0 else 4) = 0
        rw [if_neg (fun h => h.2 hf.2.1), if_pos (.inr hf.2.1)]
      have hk := over_at hg hE.hk (by rw [hA]; exact hp)
      refine .inr ⟨0, ⟨Int.le_refl _, by decide⟩, rfl, hO, (plan_at hk hA).trans ((nx_end hp).trans ?_)⟩
      show Nx.fin 4 f0.out = Nx.fin 4 0
      rw [hf.2.2.2]
    · have ht : took ({ f0 with w := a, l := b, pc := 92 } : FS) (pk (hi b) (lo a)) = { f0 with w := a, l := b, hold := pk (hi b) (lo a), out := dec (lo a), pc := 0 } := by
        unfold took
        exact if_pos hf.2.1
      rw [ht] at hA
      have hk := over_at hg hE.hk (by rw [hA])
      obtain ⟨a0, a1⟩ := ha
      obtain ⟨b0, b1⟩ := hb
      have hlo : lo (pk (hi b) (lo a)) = lo a := by unfold lo pk; omega
      refine .inr ⟨_, ⟨by unfold pk hi lo; omega, by unfold pk hi lo; omega⟩, rfl, hO, (plan_at hk hA).trans ((nx_end rfl).trans ?_)⟩
      rw [hlo, if_neg hl, if_neg hl]
      show Nx.fin f0.code (dec (lo a)) = _
      have hd : dec (lo a) = lo a - 1 := by unfold dec; unfold lo at hl ⊢; omega
      rw [hf.2.2.1, hd]
theorem give_d (kk : Int) (K T M : Nat) (W : World) (base gn gp gm gx P : Nat) (run : Value) (s : Sl) (fs : List (Int × Bool)) (ask ov : Bool) (cd ou rf : Int) (f0 : FS) (h : Env W base gn gp gm gx P 0 run s fs ask ov cd ou) (hg : Going ((docZ kk K T M).plan f0) fs) (hw : ∀ x ∈ fs, W64 x.1) (hrf : W64 rf) (hf : f0.pc = 95 ∧ f0.back = 0 ∧ f0.code = 0 ∧ f0.out = 0 ∧ f0.give = rf) :
    Calls Try.prog 69 #[.func (.func 149) #[] #[.pointer (some ⟨gn, 0, none⟩), .pointer (some ⟨gp, 0, none⟩), .pointer (some ⟨gm, 0, none⟩), .pointer (some ⟨gx, 0, none⟩)], .int .u64 rf] W (GiveD W gn gm gx ((docZ kk K T M).plan f0 fs)) := by
  refine (give_c kk K T M W base gn gp gm gx P run s fs ask ov cd ou 0 rf f0 f0 h hw rfl hrf ⟨hf.1, hf.2.2.2.2⟩).mono ?_
  rintro e w' (h1 | ⟨k', f', hE, hO, hA, rfl, a, rfl⟩)
  · exact .inl h1
  · have ht : gave ({ f0 with w := a, pc := 97 } : FS) = { f0 with w := a, pc := 0 } := by
      unfold gave
      rw [if_neg (show ¬ f0.back = 87 by rw [hf.2.1]; decide)]
      show ({ f0 with w := a, pc := f0.back } : FS) = _
      rw [hf.2.1]
    rw [ht] at hA
    have hk := over_at hg hE.hk (by rw [hA])
    refine .inr ⟨rfl, hO, (plan_at hk hA).trans ((nx_end rfl).trans ?_)⟩
    show Nx.fin f0.code f0.out = _
    rw [hf.2.2.1, hf.2.2.2.1]
theorem enters_tk : Enters 64 := fun _ _ => by kernel_rfl
theorem enters_gv : Enters 68 := fun _ _ => by kernel_rfl
theorem enters_rb : Enters 36 := fun _ _ => by kernel_rfl
theorem proc_g (w : World) (F : Nat) (cs : Array Value) :
    Calls Try.prog 44 #[.func (.func F) #[] cs] w fun e w' => e = .returned (.iface 123 (.pointer (some ⟨w.heap.size, 0, none⟩))) ∧ w' = w.alloc (.cells #[.func (.func F) #[] cs, .slice none 0 0, .bool false, .bool false, .int .i64 0, .int .u32 0] 126) := by
  go_enter Try.func44, Try.ntmps44
  go_wp2
  go_ret
  exact ⟨rfl, rfl⟩

set_option maxHeartbeats 1000000 in
theorem taking_meets (kk : Int) (K T M : Nat) (f0 : FS) (hf : f0.pc = 90 ∧ f0.kd = 4 ∧ f0.code = 0 ∧ f0.out = 0) : Meets 64 [] ((docZ kk K T M).plan f0) := by
  refine ⟨enters_tk, ?_⟩
  intro w base gn gp gm gx P s fs ask ov cd ou hn hp hm hx hq hr hl hg hk hlt
  have E : Env w base gn gp gm gx P 0 _ s fs ask ov cd ou := ⟨hn, hp, hm, hx, hq, hr, hl, Nat.zero_le _⟩
  have hT := take_d kk K T M w base gn gp gm gx P _ s fs ask ov cd ou f0 E hg (fun x hx => hg.2 x hx) hf
  refine ⟨fun a ha => ?_, fun cd' ou' hfi => ?_⟩
  · have hA : Calls Try.prog 65 #[.func (.func 149) #[] #[.pointer (some ⟨gn, 0, none⟩), .pointer (some ⟨gp, 0, none⟩), .pointer (some ⟨gm, 0, none⟩), .pointer (some ⟨gx, 0, none⟩)]] w (AskD w gn gm gx a) := hT.mono (fun e w' h => by
      rcases h with ⟨a', e1, e2⟩ | ⟨ref, _, _, _, e4⟩
      · rw [ha] at e1
        injection e1 with e1
        subst e1
        exact e2
      · rw [ha] at e4
        cases e4)
    have HA := Lib.hid hA
    clear hA hT E hn hp hm hx hq hr hl hg hk hlt ha
    show Calls Try.prog 64 #[.func (.func 149) #[] #[.pointer (some ⟨gn, 0, none⟩), .pointer (some ⟨gp, 0, none⟩), .pointer (some ⟨gm, 0, none⟩), .pointer (some ⟨gx, 0, none⟩)]] w _
    go_enter Try.func64, Try.ntmps64
    go_wp2_with (go_at_call 65; (with_reducible refine HA.out.mono ?_); rintro e w1 ⟨rfl, h1⟩; have H1 := Lib.hid h1; clear h1)
    exact ⟨rfl, rfl, H1.out⟩
  · have hA : Calls Try.prog 65 #[.func (.func 149) #[] #[.pointer (some ⟨gn, 0, none⟩), .pointer (some ⟨gp, 0, none⟩), .pointer (some ⟨gm, 0, none⟩), .pointer (some ⟨gx, 0, none⟩)]] w (fun e w' => ∃ ref : Int, W64 ref ∧ e = .returned (.int .u64 ref) ∧ Only (fun g => g = gn) w w' ∧ cd' = (if lo ref = 0 then 4 else 0) ∧ ou' = (if lo ref = 0 then 0 else lo ref - 1)) := hT.mono (fun e w' h => by
      rcases h with ⟨a', e1, e2⟩ | ⟨ref, e1, e2, e3, e4⟩
      · rw [hfi] at e1
        cases e1
      · rw [hfi] at e4
        injection e4 with e4 e5
        exact ⟨ref, e1, e2, e3, e4, e5⟩)
    have HA := Lib.hid hA
    clear hA hT E hn hp hm hx hq hr hl hg hk hlt hfi
    show Calls Try.prog 64 #[.func (.func 149) #[] #[.pointer (some ⟨gn, 0, none⟩), .pointer (some ⟨gp, 0, none⟩), .pointer (some ⟨gm, 0, none⟩), .pointer (some ⟨gx, 0, none⟩)]] w _
    by_cases hcd : cd' = 4
    · go_enter Try.func64, Try.ntmps64
      go_wp2_with (first
        | (go_at_call 65; (with_reducible refine HA.out.mono ?_); rintro e w1 ⟨ref, ⟨r0, r1⟩, rfl, ho, h4, h5⟩; go_must (have hlo : lo ref = 0 := (by (by_cases h : lo ref = 0); exact h; rw [if_neg h] at h4; omega); have hz : (ref % 4294967296 == 0) = true := (by rw [show ref % 4294967296 = 0 from hlo]; rfl); rw [if_pos hlo] at h5; have HO := Lib.hid (And.intro ho h5)); clear ho h4 h5 hlo)
        | (go_at_call 66; refine (low_c _ _ r0 r1).mono ?_; rintro e w' ⟨rfl, rfl⟩))
      first | go_ret2 | go_ret
      refine ⟨?_, HO.out.1⟩
      rw [hcd, HO.out.2]
      rfl
    · go_enter Try.func64, Try.ntmps64
      go_wp2_with (first
        | (go_at_call 65; (with_reducible refine HA.out.mono ?_); rintro e w1 ⟨ref, ⟨r0, r1⟩, rfl, ho, h4, h5⟩; go_must (have hlo : ¬ lo ref = 0 := (fun h => by rw [if_pos h] at h4; exact hcd h4); have hz : (ref % 4294967296 == 0) = false := beq_false_of_ne hlo; rw [if_neg hlo] at h5 h4; have HO := Lib.hid (And.intro ho (And.intro h4 (And.intro h5 hlo)))); clear ho h4 h5 hlo)
        | (go_at_call 66; refine (low_c _ _ r0 r1).mono ?_; rintro e w' ⟨rfl, rfl⟩)
        | (go_at_call 67; refine (handle_c _ _ r0 r1).mono ?_; rintro e w' ⟨rfl, rfl⟩))
      have hl : ¬ ref % 4294967296 = 0 := HO.out.2.2.2
      have hw : (ref % 4294967296 - 1) % 4294967296 = ref % 4294967296 - 1 := by omega
      first | go_ret2 | go_ret
      refine ⟨?_, HO.out.1⟩
      rw [HO.out.2.1, HO.out.2.2.1]
      refine Eq.trans (b := Ending.returned (.tuple #[.int .i64 0, .int .u32 ((ref % 4294967296 - 1) % 4294967296)])) rfl ?_
      rw [hw]
      rfl

set_option maxHeartbeats 1000000 in
theorem giving_meets (kk : Int) (K T M : Nat) (f0 : FS) (gr : Nat) (rf : Int) (hrf : W64 rf) (hf : f0.pc = 95 ∧ f0.back = 0 ∧ f0.code = 0 ∧ f0.out = 0 ∧ f0.give = rf) : Meets 68 [⟨gr, 30, #[.int .u64 rf]⟩] ((docZ kk K T M).plan f0) := by
  refine ⟨enters_gv, ?_⟩
  intro w base gn gp gm gx P s fs ask ov cd ou hn hp hm hx hq hr hl hg hk hlt
  have E : Env w base gn gp gm gx P 0 _ s fs ask ov cd ou := ⟨hn, hp, hm, hx, hq, hr, hl, Nat.zero_le _⟩
  have hT := give_d kk K T M w base gn gp gm gx P _ s fs ask ov cd ou rf f0 E hg (fun x hx => hg.2 x hx) hrf hf
  have hB : Blk w gr 30 #[.int .u64 rf] := hk ⟨gr, 30, #[.int .u64 rf]⟩ (List.mem_singleton.2 rfl)
  have hcr := hB.cell
  refine ⟨fun a ha => ?_, fun cd' ou' hfi => ?_⟩
  · have hA : Calls Try.prog 69 #[.func (.func 149) #[] #[.pointer (some ⟨gn, 0, none⟩), .pointer (some ⟨gp, 0, none⟩), .pointer (some ⟨gm, 0, none⟩), .pointer (some ⟨gx, 0, none⟩)], .int .u64 rf] w (AskD w gn gm gx a) := hT.mono (fun e w' h => by
      rcases h with ⟨a', e1, e2⟩ | ⟨_, _, e4⟩
      · rw [ha] at e1
        injection e1 with e1
        subst e1
        exact e2
      · rw [ha] at e4
        cases e4)
    have HA := Lib.hid hA
    clear hA hT E hn hp hm hx hq hr hl hg hk hlt ha hB
    show Calls Try.prog 68 #[.func (.func 149) #[] #[.pointer (some ⟨gn, 0, none⟩), .pointer (some ⟨gp, 0, none⟩), .pointer (some ⟨gm, 0, none⟩), .pointer (some ⟨gx, 0, none⟩)], .pointer (some ⟨gr, 0, none⟩)] w _
    go_enter Try.func68, Try.ntmps68
    go_wp2_with (go_at_call 69; (with_reducible refine HA.out.mono ?_); rintro e w1 ⟨rfl, h1⟩; have H1 := Lib.hid h1; clear h1)
    exact ⟨rfl, rfl, H1.out⟩
  · have hA : Calls Try.prog 69 #[.func (.func 149) #[] #[.pointer (some ⟨gn, 0, none⟩), .pointer (some ⟨gp, 0, none⟩), .pointer (some ⟨gm, 0, none⟩), .pointer (some ⟨gx, 0, none⟩)], .int .u64 rf] w (fun e w' => e = .returned (.tuple #[]) ∧ Only (fun g => g = gn) w w' ∧ cd' = 0 ∧ ou' = 0) := hT.mono (fun e w' h => by
      rcases h with ⟨a', e1, e2⟩ | ⟨e1, e2, e4⟩
      · rw [hfi] at e1
        cases e1
      · rw [hfi] at e4
        injection e4 with e4 e5
        exact ⟨e1, e2, e4, e5⟩)
    have HA := Lib.hid hA
    clear hA hT E hn hp hm hx hq hr hl hg hk hlt hfi hB
    show Calls Try.prog 68 #[.func (.func 149) #[] #[.pointer (some ⟨gn, 0, none⟩), .pointer (some ⟨gp, 0, none⟩), .pointer (some ⟨gm, 0, none⟩), .pointer (some ⟨gx, 0, none⟩)], .pointer (some ⟨gr, 0, none⟩)] w _
    go_enter Try.func68, Try.ntmps68
    go_wp2_with (go_at_call 69; (with_reducible refine HA.out.mono ?_); rintro e w1 ⟨rfl, ho, h4, h5⟩; have HO := Lib.hid (And.intro ho (And.intro h4 h5)); clear ho h4 h5)
    go_ret2
    refine ⟨?_, HO.out.1⟩
    rw [HO.out.2.1, HO.out.2.2]
    rfl
end Go.Proofs.Ytffppdcpiieapaa.Arenac

namespace Go.Proofs.Ytffppdcpiieapaa.Drivec
open Go.RowKit Go.Proofs.Ytffppdcpiieapaa.Memc Go.Proofs.Ytffppdcpiieapaa.Procc Go.Proofs.Ytffppdcpiieapaa.Storec Go.Proofs.Ytffppdcpiieapaa.Refc Go.Proofs.Ytffppdcpiieapaa.Machc
set_option linter.unusedVariables false
set_option maxRecDepth 100000

theorem SafeL.spared {Pd : Nat → Prop} {w w' : World} {l : List Cap1} (hs : SafeL l) (hk : Kept w l) (ho : Only Pd w w') (h3 : Spared Pd w) : Kept w' l := fun x hx => (hk x hx).only ho (h3 _ _ _ (hk x hx) ⟨(hs x hx).2.2.1, (hs x hx).2.2.2.1, (hs x hx).2.2.2.2.1, (hs x hx).2.2.2.2.2.1, (hs x hx).1, (hs x hx).2.1⟩)
theorem On.prow {w : World} {base : Nat} {Z : Mac} {P : Nat} {q : Sl} {f : FS} {n : Nat} (h : On w base Z P q f n) : (∃ cs, Blk w P 126 cs) ∧ (∃ m xs, Row w base 194 2 q m xs) ∧ base ≤ P := by
  obtain ⟨F, cs, l, f0, fs, e1, e2, e3, e4, e5, e6, e7, e8, e9, e10⟩ := h
  exact ⟨⟨_, e5⟩, ⟨_, _, e6⟩, e10⟩
/-- what a step touches is none of what is not of these kinds -/
theorem spared_step {w : World} {gC gT P base nS nK nF : Nat} {c1 c2 c3 : Array Value} {sS sK q : Sl} {x1 x2 x3 : List Value} (hC : Blk w gC 102 c1) (hT : Blk w gT 104 c2) (hP : Blk w P 126 c3) (hS : Row w base 59 8 sS nS x1) (hK : Row w base 55 7 sK nK x2) (hq : Row w base 194 2 q nF x3) :
    Spared (fun g => (g = gT ∨ g = gC ∨ g = P) ∨ bl sS g ∨ bl sK g ∨ bl q g) w := fun g t cs hg ⟨n1, n2, n3, n4, n5, n6⟩ => by
  rintro ((h | h | h) | h | h | h)
  · exact Blk.ne hg hT n2 h
  · exact Blk.ne hg hC n1 h
  · exact Blk.ne hg hP n5 h
  · exact hS.ne hg (Ne.symm n3) g h rfl
  · exact hK.ne hg (Ne.symm n4) g h rfl
  · exact hq.ne hg (Ne.symm n6) g h rfl
theorem spared_start {w : World} {gC gT base nK : Nat} {c1 c2 : Array Value} {sK : Sl} {x2 : List Value} (hC : Blk w gC 102 c1) (hT : Blk w gT 104 c2) (hK : Row w base 55 7 sK nK x2) :
    Spared (fun g => g = gT ∨ g = gC ∨ bl sK g) w := fun g t cs hg ⟨n1, n2, n3, n4, n5, n6⟩ => by
  rintro (h | h | h)
  · exact Blk.ne hg hT n2 h
  · exact Blk.ne hg hC n1 h
  · exact hK.ne hg (Ne.symm n4) g h rfl
theorem on_step {w w' : World} {gC gT P P' base nS nK nF n n' : Nat} {c1 c2 c3 : Array Value} {sS sK q q' : Sl} {x1 x2 x3 : List Value} {Z : Mac} {f : FS} (h : On w base Z P' q' f n) (hC : Blk w gC 102 c1) (hT : Blk w gT 104 c2) (hP : Blk w P 126 c3) (hS : Row w base 59 8 sS nS x1) (hK : Row w base 55 7 sK nK x2) (hq : Row w base 194 2 q nF x3)
    (hs : P' ≠ P ∧ ∀ g, bl q' g → ¬ bl q g) (ho : Only (fun g => (g = gT ∨ g = gC ∨ g = P) ∨ bl sS g ∨ bl sK g ∨ bl q g) w w') (hn : n ≤ n') : On w' base Z P' q' f n' := by
  obtain ⟨⟨cp, hp⟩, ⟨m, xs, hr⟩, _⟩ := h.prow
  refine h.only ho ?_ ?_ (spared_step hC hT hP hS hK hq) hn
  · rintro ((e | e | e) | e | e | e)
    · exact Blk.ne hp hT (by decide) e
    · exact Blk.ne hp hC (by decide) e
    · exact hs.1 e
    · exact hS.ne hp (by decide) _ e rfl
    · exact hK.ne hp (by decide) _ e rfl
    · exact hq.ne hp (by decide) _ e rfl
  · rintro g hg ((e | e | e) | e | e | e)
    · exact hr.ne hT (by decide) g hg e
    · exact hr.ne hC (by decide) g hg e
    · exact hr.ne hP (by decide) g hg e
    · exact hr.ne_row hS (by decide) g hg g e rfl
    · exact hr.ne_row hK (by decide) g hg g e rfl
    · exact hs.2 g hg e
theorem on_start {w w' : World} {gC gT P' base nK n n' : Nat} {c1 c2 : Array Value} {sK q' : Sl} {x2 : List Value} {Z : Mac} {f : FS} (h : On w base Z P' q' f n) (hC : Blk w gC 102 c1) (hT : Blk w gT 104 c2) (hK : Row w base 55 7 sK nK x2)
    (ho : Only (fun g => g = gT ∨ g = gC ∨ bl sK g) w w') (hn : n ≤ n') : On w' base Z P' q' f n' := by
  obtain ⟨⟨cp, hp⟩, ⟨m, xs, hr⟩, _⟩ := h.prow
  refine h.only ho ?_ ?_ (spared_start hC hT hK) hn
  · rintro (e | e | e)
    · exact Blk.ne hp hT (by decide) e
    · exact Blk.ne hp hC (by decide) e
    · exact hK.ne hp (by decide) _ e rfl
  · rintro g hg (e | e | e)
    · exact hr.ne hT (by decide) g hg e
    · exact hr.ne hC (by decide) g hg e
    · exact hr.ne_row hK (by decide) g hg g e rfl
theorem frg_step {w w' : World} {B gC gT P base nS nK nF : Nat} {c1 c2 c3 : Array Value} {sS sK q : Sl} {x1 x2 x3 : List Value} (hC : Blk w gC 102 c1) (hT : Blk w gT 104 c2) (hP : Blk w P 126 c3) (hS : Row w base 59 8 sS nS x1) (hK : Row w base 55 7 sK nK x2) (hq : Row w base 194 2 q nF x3)
    (hB : B ≤ base ∧ base ≤ gC ∧ base ≤ gT ∧ base ≤ P) (ho : Only (fun g => (g = gT ∨ g = gC ∨ g = P) ∨ bl sS g ∨ bl sK g ∨ bl q g) w w') : FrG B w w' := ho.mono (by
  rintro g ((h | h | h) | h | h | h)
  · subst h; exact frg_mem hT (by omega) (.inr (.inl rfl))
  · subst h; exact frg_mem hC (by omega) (.inl rfl)
  · subst h; exact frg_mem hP (by omega) (.inr (.inr (.inr (.inr (.inl rfl)))))
  · obtain ⟨ds, hd⟩ := hS.blk h
    exact frg_mem hd (Nat.le_trans hB.1 (hS.lt h).1) (.inr (.inr (.inl rfl)))
  · obtain ⟨ds, hd⟩ := hK.blk h
    exact frg_mem hd (Nat.le_trans hB.1 (hK.lt h).1) (.inr (.inr (.inr (.inl rfl))))
  · obtain ⟨ds, hd⟩ := hq.blk h
    exact frg_mem hd (Nat.le_trans hB.1 (hq.lt h).1) (.inr (.inr (.inr (.inr (.inr rfl))))))
theorem frg_start {w w' : World} {B gC gT base nK : Nat} {c1 c2 : Array Value} {sK : Sl} {x2 : List Value} (hC : Blk w gC 102 c1) (hT : Blk w gT 104 c2) (hK : Row w base 55 7 sK nK x2)
    (hB : B ≤ base ∧ base ≤ gC ∧ base ≤ gT) (ho : Only (fun g => g = gT ∨ g = gC ∨ bl sK g) w w') : FrG B w w' := ho.mono (by
  rintro g (h | h | h)
  · subst h; exact frg_mem hT (by omega) (.inr (.inl rfl))
  · subst h; exact frg_mem hC (by omega) (.inl rfl)
  · obtain ⟨ds, hd⟩ := hK.blk h
    exact frg_mem hd (Nat.le_trans hB.1 (hK.lt h).1) (.inr (.inr (.inr (.inl rfl)))))
/-- what a turn comes to -/
def TurnedG (w : World) (B base gC gT T Bf : Nat) (bs : Array Value) (lb : List Cap1) (Z : Mac) (ls : List (List (Int × Int))) (s : RS) (e : Ending) (w' : World) : Prop :=
  e = .returned (.tuple #[]) ∧ InvG w' B base gC gT T Bf bs lb Z ls s ∧ FrG B w w'
theorem onB_set {s : RS} {l : List Int} {i j : Nat} {v : Int} (hj : i ≠ j) (h : ∃ k : Nat, (l.set i v)[j]? = some (k : Int)) : ∃ k : Nat, l[j]? = some (k : Int) := by
  obtain ⟨k, hk⟩ := h
  rw [List.getElem?_set_ne hj] at hk
  exact ⟨k, hk⟩

set_option maxHeartbeats 1000000 in
theorem stepg_inv (w : World) (B base gC gT T Bf : Nat) (bs : Array Value) (lb : List Cap1) (Z : Mac) (ls : List (List (Int × Int))) (s : RS) (h : InvG w B base gC gT T Bf bs lb Z ls s) (i k : Nat) (f : FS) (hi : i < T) (hk : s.call[i]? = some (k : Int)) (hf : s.on[i]? = some f) (hok : (Z.ask f).ok) (hn : s.steps.length < 90000 ∧ s.calls.length < 90000) :
    Calls Try.prog 88 #[.pointer (some ⟨gC, 0, none⟩), .pointer (some ⟨gT, i * 9, none⟩), .int .i64 i] w (TurnedG w B base gC gT T Bf bs lb Z ls (goR Z.ask Z.tell s i)) := by
  obtain ⟨⟨r, sS, sK, ct, Ps, qs, hC, hT, hE, hS, hK, ht, hsep⟩, hkeep, hlen, hfew, hlow, hcap⟩ := h
  obtain ⟨n, so, l, e1, e2, e3, e4, e5⟩ := ht i hi
  rcases e5 with ⟨hx, _⟩ | ⟨k', f', g1, g2, g3, g4, hb, hon⟩
  · rw [hk] at hx
    have := Option.some.inj hx
    omega
  · obtain rfl : k' = k := by rw [hk] at g1; have := Option.some.inj g1; omega
    obtain rfl : f' = f := by rw [hf] at g3; exact (Option.some.inj g3).symm
    have hOn := hon
    obtain ⟨F, cs, lc, f0, fs, c1, c2, c3, c4, c5, c6, c7, c8, c9, c10⟩ := hon
    have hx : s.calls[k']? = some s.calls[k'] := List.getElem?_eq_getElem g2
    have q4 := flatK_get s.calls k' _ 4 _ hx rfl
    have q5 := flatK_get s.calls k' _ 5 _ hx rfl
    have q6 := flatK_get s.calls k' _ 6 _ hx rfl
    have hp0 : Z.plan f0 fs = .ask (Z.ask f') := by
      show Z.nx (Z.after f0 fs) = _
      rw [← c8]; exact Mac.nx_ask g4
    have hnx : Z.plan f0 (fs ++ [((acc s.m (Z.ask f')).2.1, (acc s.m (Z.ask f')).2.2)]) = Z.nx (Z.tell f' (acc s.m (Z.ask f')).2.1 (acc s.m (Z.ask f')).2.2) := by
      show Z.nx (Z.after f0 _) = _
      rw [Mac.after_snoc, ← c8]
    have hfl : fs.length < 100000 := by omega
    have hB : B ≤ base ∧ base ≤ gC ∧ base ≤ gT ∧ base ≤ Ps i := ⟨hlow.1, hlow.2.2.1, hlow.2.2.2, c10⟩
    by_cases hpc : (Z.tell f' (acc s.m (Z.ask f')).2.1 (acc s.m (Z.ask f')).2.2).pc = 0
    · refine (stepg_fin w Bf bs gC gT (i * 9) i (Ps i) F base s.steps.length s.calls.length k' cs lc (Z.plan f0) (qs i) fs _ _ ct (Z.ask f') r s.m ⟨some ⟨gT, 0, none⟩, T, T⟩ sS sK (flatT s.steps) (flatK s.calls) _ _ _
        hC hT hb.2.1 hb.2.2.1 hb.2.2.2.1 hb.2.2.2.2.1 hb.2.2.2.2.2.1 hb.2.2.2.2.2.2.1 hb.2.2.2.2.2.2.2.1 hb.2.2.2.2.2.2.2.2 hE hfew hok hS hK (by omega) (by omega) g2 q4 q5 q6 c1 c2 c5 c6 c4 c3 hfl c7 hp0 (hnx.trans (Mac.nx_fin hpc)) hlow.2.1).mono ?_
      rintro e w' ⟨r3, s1, rfl, C, Tt, K, S, E, O⟩
      have hF := frg_step hC hT c5 hS hK c6 hB O
      have hBl := hF.below (Nat.le_trans hlow.1 hlow.2.1)
      have hs1 := S.n_.1
      refine ⟨rfl, ?_, hF⟩
      rw [goR_yes g3 g1 hx hpc]
      refine ⟨⟨r3, s1, sK, ended ct (i * 9), Ps, qs, C, Tt, E, ?_, ?_, fun j hj => ?_, fun a b ha hb' hab ona onb => ?_⟩, ⟨hkeep.1, SafeL.spared hkeep.2.2 hkeep.2.1 O (spared_step hC hT c5 hS hK c6), hkeep.2.2⟩, ⟨?_, ?_, hlen.2.2⟩, fun ar => ?_, ⟨hlow.1, Nat.le_trans hlow.2.1 O.size, hlow.2.2⟩, hcap⟩
      · show Row w' base _ 8 s1 (s.steps ++ [_]).length (flatT (s.steps ++ [_]))
        rw [List.length_append, flatT_snoc]
        exact S
      · show Row w' base _ 7 sK (s.calls.set k' _).length (flatK (s.calls.set k' _))
        rw [List.length_set, ← flatK_end s.calls k' _ (s.steps.length) _ hx]
        have e1 : ((s1.n : Int) - 1) = (s.steps.length : Int) := by omega
        rw [e1] at K
        exact K
      · by_cases hji : j = i
        · subst hji
          exact ⟨n, so, l, e1, e2, e3, e4.below hBl, .inl ⟨List.getElem?_set_self (by omega), hb.ended⟩⟩
        · obtain ⟨n2, so2, l2, d1, d2, d3, d4, d5⟩ := ht j hj
          refine ⟨n2, so2, l2, d1, d2, d3, d4.below hBl, ?_⟩
          rcases d5 with ⟨p1, p2⟩ | ⟨k2, f2, p1, p2, p3, p4, p5, p6⟩
          · exact .inl ⟨(List.getElem?_set_ne (Ne.symm hji)).trans p1, p2.other (fun m h1 h2 => ended_ne (by omega))⟩
          · refine .inr ⟨k2, f2, (List.getElem?_set_ne (Ne.symm hji)).trans p1, by show k2 < (s.calls.set k' _).length; rw [List.length_set]; exact p2, (List.getElem?_set_ne (Ne.symm hji)).trans p3, p4, p5.other (fun m h1 h2 => ended_ne (by omega)), ?_⟩
            refine on_step p6 hC hT c5 hS hK c6 (hsep j i hj hi hji ⟨_, p1⟩ ⟨_, hk⟩) O ?_
            show _ ≤ (s.steps ++ [_]).length
            rw [List.length_append]; omega
      · have hna : ∀ a, (∃ kk : Nat, (s.call.set i (-1))[a]? = some (kk : Int)) → a ≠ i := fun a ho e => by
          obtain ⟨kk, hkk⟩ := ho
          subst e
          rw [List.getElem?_set_self (by omega)] at hkk
          have := Option.some.inj hkk
          omega
        exact hsep a b ha hb' hab (onB_set (s := s) (Ne.symm (hna a ona)) ona) (onB_set (s := s) (Ne.symm (hna b onb)) onb)
      · show (s.on.set i _).length = T
        rw [List.length_set]; exact hlen.1
      · show (s.call.set i _).length = T
        rw [List.length_set]; exact hlen.2.1
      · rw [len_acc]; exact hfew ar
    · refine (stepg_ask w Bf bs gC gT (i * 9) i (Ps i) F base s.steps.length s.calls.length k' cs lc (Z.plan f0) (qs i) fs _ ct (Z.ask f') r s.m ⟨some ⟨gT, 0, none⟩, T, T⟩ sS sK (flatT s.steps) (flatK s.calls) _ _ _
        hC hT hb.2.1 hb.2.2.1 hb.2.2.2.1 hb.2.2.2.2.1 hb.2.2.2.2.2.1 hb.2.2.2.2.2.2.1 hb.2.2.2.2.2.2.2.1 hb.2.2.2.2.2.2.2.2 hE hfew hok hS hK (by omega) (by omega) g2 q4 q5 q6 c1 c2 c5 c6 c4 c3 hfl c7 hp0 (hnx.trans (Mac.nx_ask hpc)) hlow.2.1).mono ?_
      rintro e w' ⟨r3, s1, q1, rfl, C, Tt, K, S, E, P9, F9, L9, W9, O⟩
      have hF := frg_step hC hT c5 hS hK c6 hB O
      have hBl := hF.below (Nat.le_trans hlow.1 hlow.2.1)
      have hs1 := S.n_.1
      refine ⟨rfl, ?_, hF⟩
      rw [goR_no g3 hpc]
      refine ⟨⟨r3, s1, sK, askedc ct (i * 9) _, Ps, fun j => if j = i then q1 else qs j, C, Tt, E, ?_, K, fun j hj => ?_, fun a b ha hb' hab ona onb => ?_⟩, ⟨hkeep.1, SafeL.spared hkeep.2.2 hkeep.2.1 O (spared_step hC hT c5 hS hK c6), hkeep.2.2⟩, ⟨?_, hlen.2.1, hlen.2.2⟩, fun ar => ?_, ⟨hlow.1, Nat.le_trans hlow.2.1 O.size, hlow.2.2⟩, hcap⟩
      · show Row w' base _ 8 s1 (s.steps ++ [_]).length (flatT (s.steps ++ [_]))
        rw [List.length_append, flatT_snoc]
        exact S
      · by_cases hji : j = i
        · subst hji
          refine ⟨n, so, l, e1, e2, e3, e4.below hBl, .inr ⟨k', _, hk, g2, List.getElem?_set_self (by omega), hpc, hb.asked _, ?_⟩⟩
          simp only [if_true]
          refine ⟨F, cs, lc, f0, _, c1, c2, c3, L9, P9, F9, c7.snoc hp0 _ (acc_was s.m hE.2.1 _), ?_, ?_, c10⟩
          · rw [Mac.after_snoc, ← c8]
          · show _ ≤ (s.steps ++ [_]).length
            rw [List.length_append, List.length_append]
            simp only [List.length_cons, List.length_nil]
            omega
        · obtain ⟨n2, so2, l2, d1, d2, d3, d4, d5⟩ := ht j hj
          refine ⟨n2, so2, l2, d1, d2, d3, d4.below hBl, ?_⟩
          rcases d5 with ⟨p1, p2⟩ | ⟨k2, f2, p1, p2, p3, p4, p5, p6⟩
          · exact .inl ⟨p1, p2.other (fun m h1 h2 => askedc_ne (by omega))⟩
          · refine .inr ⟨k2, f2, p1, p2, (List.getElem?_set_ne (Ne.symm hji)).trans p3, p4, p5.other (fun m h1 h2 => askedc_ne (by omega)), ?_⟩
            simp only [hji, if_false]
            refine on_step p6 hC hT c5 hS hK c6 (hsep j i hj hi hji ⟨_, p1⟩ ⟨_, hk⟩) O ?_
            show _ ≤ (s.steps ++ [_]).length
            rw [List.length_append]; omega
      · have hold : ∀ j g, j < T → onB s j → j ≠ i → bl (qs j) g → g < w.heap.size := fun j g hj ⟨kk, hkk⟩ hji hg => by
          obtain ⟨n2, so2, l2, d1, d2, d3, d4, d5⟩ := ht j hj
          rcases d5 with ⟨p1, p2⟩ | ⟨k2, f2, p1, p2, p3, p4, p5, p6⟩
          · rw [hkk] at p1
            have := Option.some.inj p1
            omega
          · obtain ⟨_, ⟨m, xs, hr⟩, _⟩ := p6.prow
            exact (hr.lt hg).2
        have hs := hsep a b ha hb' hab ona onb
        refine ⟨hs.1, fun g hg hg2 => ?_⟩
        by_cases hai : a = i
        · have hbi : b ≠ i := fun e => hab (hai.trans e.symm)
          simp only [hai, if_true] at hg
          simp only [hbi, if_false] at hg2
          rcases W9 g hg with h1 | h1
          · exact (hsep b i hb' hi hbi onb ⟨_, hk⟩).2 g hg2 h1
          · have := hold b g hb' onb hbi hg2
            omega
        · simp only [hai, if_false] at hg
          by_cases hbi : b = i
          · simp only [hbi, if_true] at hg2
            rcases W9 g hg2 with h1 | h1
            · exact (hsep a i ha hi hai ona ⟨_, hk⟩).2 g hg h1
            · have := hold a g ha ona hai hg
              omega
          · simp only [hbi, if_false] at hg2
            exact hs.2 g hg hg2
      · show (s.on.set i _).length = T
        rw [List.length_set]; exact hlen.1
      · rw [len_acc]; exact hfew ar
end Go.Proofs.Ytffppdcpiieapaa.Drivec
