/- The machines of layer 5, as the program begins them: by contract. · Calls of layer 5 are begun, by contract; their machines ask for what may be asked for. -/
import Derived.Test.YtffppdcpiieapaaQ10
import Derived.Test.YtffppdcpiieapaaQ12
namespace Go.Proofs.Ytffppdcpiieapaa.Arenac
open Go.RowKit Go.Proofs.Ytffppdcpiieapaa.Memc Go.Proofs.Ytffppdcpiieapaa.Procc Go.Proofs.Ytffppdcpiieapaa.Machc Go.Proofs.Ytffppdcpiieapaa.Drivec Go.Proofs.Ytffppdcpiieapaa.Wordc
set_option linter.unusedVariables false
set_option maxRecDepth 100000

/-- the call is over, or it pauses -/
def Cx.Over (c : Cx) (v : Value) (e : Ending) (w' : World) : Prop := c.Asks e w' ∨ (e = .returned v ∧ Only (fun g => g = c.gn) c.W0 w' ∧ (docZ c.kk c.K c.T c.M).plan c.f0 c.fs = .fin 0 0)
theorem Cx.fin {c : Cx} (hg : Going ((docZ c.kk c.K c.T c.M).plan c.f0) c.fs) {k : Nat} {f : FS} {w : World} (h : c.At k f w) (hp : f.pc = 0) (hc : f.code = 0) (ho : f.out = 0) : (docZ c.kk c.K c.T c.M).plan c.f0 c.fs = .fin 0 0 := by
  have hk := over_at hg (Cx.le h) (by rw [h.2.2]; exact hp)
  exact (plan_at hk h.2.2).trans ((nx_end hp).trans (by rw [hc, ho]))
theorem Cx.over {c : Cx} (hg : Going ((docZ c.kk c.K c.T c.M).plan c.f0) c.fs) {k : Nat} {R : FS → Ending → Prop} {v : Value} {e : Ending} {w' : World} (h : c.To k R e w') (hr : ∀ f' e, R f' e → e = .returned v ∧ f'.pc = 0 ∧ f'.code = 0 ∧ f'.out = 0) : c.Over v e w' := by
  rcases h with h | ⟨k', f', _, h2, h3⟩
  · exact .inl h
  · obtain ⟨e1, e2, e3, e4⟩ := hr _ _ h3
    exact .inr ⟨e1, h2.2.1, Cx.fin hg h2 e2 e3 e4⟩
section
variable (k : Int) (K T M : Nat) (i vl d : Int)
theorem bg3 : docBg k K M i 3 vl d = { FS.none with kd := 3, vl := vl, t := i, d := d % K, pc := 30 } := by simp only [docBg, Int.reduceEq, if_true]
theorem bg6 : docBg k K M i 6 vl d = { FS.none with kd := 6, vl := vl, t := i, d := d % K, pc := 1 } := by simp only [docBg, Int.reduceEq, if_false, and_false]
theorem bg7 : docBg k K M i 7 vl d = { FS.none with kd := 7, vl := vl, t := i, d := d % K, pc := 4 } := by simp only [docBg, Int.reduceEq, if_false, if_true]
theorem bg8 : docBg k K M i 8 vl d = { FS.none with kd := 8, vl := vl, t := i, d := d % K, s := vl % M + 1, pc := 80 } := by simp only [docBg, Int.reduceEq, if_false, if_true]
end
theorem enters_ep : Enters 45 := fun _ _ => by kernel_rfl
theorem enters_er : Enters 43 := fun _ _ => by kernel_rfl
set_option maxHeartbeats 1000000 in
theorem ep_walk6 (c : Cx) (hok : c.Ok) (hg : Going ((docZ c.kk c.K c.T c.M).plan c.f0) c.fs) (h0 : c.At 0 c.f0 c.W0) (i vl d : Int) (hf0 : c.f0 = docBg c.kk c.K c.M i 6 vl d) (v0 : 0 ≤ vl) (v1 : vl ≤ 4294967295) (t1 : 1 ≤ c.T) (t2 : c.T ≤ 8) (m1 : 2 ≤ c.M) (m2 : c.M ≤ 64) (gO gT gC : Nat) (hO : Blk c.W0 gO 63 #[.int .i64 6, .int .u32 vl]) (hT : Blk c.W0 gT 3 #[.int .i64 i]) (hC : Blk c.W0 gC 23 #[.int .i64 c.kk, .int .i64 c.K, .int .i64 c.T, .int .i64 c.M]) :
    Calls Try.prog 45 #[c.doer, .pointer (some ⟨gO, 0, none⟩), .pointer (some ⟨gT, 0, none⟩), .pointer (some ⟨gC, 0, none⟩)] c.W0 (c.Over (.tuple #[.int .i64 0, .int .u32 0])) := by
  have m3 : 0 ≤ vl % (c.M : Int) := Int.emod_nonneg _ (by omega)
  have m4 : vl % (c.M : Int) < c.M := Int.emod_lt_of_pos _ (by omega)
  have hA : Calls Try.prog 46 #[c.doer, .int .i64 i] c.W0 (c.Over (.tuple #[])) := (c.hold hok h0 (by rw [hf0, bg6]) (th := i) (by rw [hf0, bg6])).mono (fun e w' h => Cx.over hg h (by
      rintro f' e ⟨rfl, g, dn, hw, rfl⟩
      have e1 : c.tel ({ c.f0 with g := g, pc := 3 } : FS) g dn = { c.f0 with g := g, pc := 0 } := (tell3 g dn rfl).trans (by rw [if_neg (fun h => h rfl), if_pos (show c.f0.kd = 6 by rw [hf0, bg6])])
      rw [e1, hf0, bg6]
      exact ⟨rfl, rfl, rfl, rfl⟩))
  have HA := Lib.hid hA
  have ho0 := hO.cell
  have ht0 := hT.cell
  have hc0 := hC.cell
  clear hA hok hg h0 hf0 hO hT hC
  obtain ⟨W, hW⟩ : ∃ W : World, W = c.W0 := ⟨_, rfl⟩
  rw [← hW] at HA ho0 ht0 hc0 ⊢
  clear hW
  go_enter Try.func45, Try.ntmps45
  go_wp2_with (first | (go_at_call 46; (with_reducible refine HA.out.mono ?_); rintro e v1_ (hq | ⟨rfl, ho, hpl⟩); (obtain rfl := hq.is; first | exact ⟨rfl, .inl hq⟩ | (go_simp; exact ⟨rfl, .inl hq⟩) | (simp only [Exit.jump]; exact ⟨rfl, .inl hq⟩)); (have HO := Lib.hid (And.intro ho hpl); clear ho hpl)))
  first | go_ret2 | go_ret
  exact .inr ⟨rfl, HO.out.1, HO.out.2⟩
set_option maxHeartbeats 1000000 in
theorem ep_walk7 (c : Cx) (hok : c.Ok) (hg : Going ((docZ c.kk c.K c.T c.M).plan c.f0) c.fs) (h0 : c.At 0 c.f0 c.W0) (i vl d : Int) (hf0 : c.f0 = docBg c.kk c.K c.M i 7 vl d) (v0 : 0 ≤ vl) (v1 : vl ≤ 4294967295) (t1 : 1 ≤ c.T) (t2 : c.T ≤ 8) (m1 : 2 ≤ c.M) (m2 : c.M ≤ 64) (gO gT gC : Nat) (hO : Blk c.W0 gO 63 #[.int .i64 7, .int .u32 vl]) (hT : Blk c.W0 gT 3 #[.int .i64 i]) (hC : Blk c.W0 gC 23 #[.int .i64 c.kk, .int .i64 c.K, .int .i64 c.T, .int .i64 c.M]) :
    Calls Try.prog 45 #[c.doer, .pointer (some ⟨gO, 0, none⟩), .pointer (some ⟨gT, 0, none⟩), .pointer (some ⟨gC, 0, none⟩)] c.W0 (c.Over (.tuple #[.int .i64 0, .int .u32 0])) := by
  have m3 : 0 ≤ vl % (c.M : Int) := Int.emod_nonneg _ (by omega)
  have m4 : vl % (c.M : Int) < c.M := Int.emod_lt_of_pos _ (by omega)
  have hA : Calls Try.prog 47 #[c.doer, .int .i64 i] c.W0 (c.Over (.tuple #[])) := (c.drop hok h0 (by rw [hf0, bg7]) (th := i) (by rw [hf0, bg7])).mono (fun e w' h => Cx.over hg h (by
      rintro f' e ⟨rfl, rfl⟩
      rw [hf0, bg7]
      exact ⟨rfl, rfl, rfl, rfl⟩))
  have HA := Lib.hid hA
  have ho0 := hO.cell
  have ht0 := hT.cell
  have hc0 := hC.cell
  clear hA hok hg h0 hf0 hO hT hC
  obtain ⟨W, hW⟩ : ∃ W : World, W = c.W0 := ⟨_, rfl⟩
  rw [← hW] at HA ho0 ht0 hc0 ⊢
  clear hW
  go_enter Try.func45, Try.ntmps45
  go_wp2_with (first | (go_at_call 47; (with_reducible refine HA.out.mono ?_); rintro e v1_ (hq | ⟨rfl, ho, hpl⟩); (obtain rfl := hq.is; first | exact ⟨rfl, .inl hq⟩ | (go_simp; exact ⟨rfl, .inl hq⟩) | (simp only [Exit.jump]; exact ⟨rfl, .inl hq⟩)); (have HO := Lib.hid (And.intro ho hpl); clear ho hpl)))
  first | go_ret2 | go_ret
  exact .inr ⟨rfl, HO.out.1, HO.out.2⟩
set_option maxHeartbeats 1000000 in
theorem ep_walk8 (c : Cx) (hok : c.Ok) (hg : Going ((docZ c.kk c.K c.T c.M).plan c.f0) c.fs) (h0 : c.At 0 c.f0 c.W0) (i vl d : Int) (hf0 : c.f0 = docBg c.kk c.K c.M i 8 vl d) (v0 : 0 ≤ vl) (v1 : vl ≤ 4294967295) (t1 : 1 ≤ c.T) (t2 : c.T ≤ 8) (m1 : 2 ≤ c.M) (m2 : c.M ≤ 64) (gO gT gC : Nat) (hO : Blk c.W0 gO 63 #[.int .i64 8, .int .u32 vl]) (hT : Blk c.W0 gT 3 #[.int .i64 i]) (hC : Blk c.W0 gC 23 #[.int .i64 c.kk, .int .i64 c.K, .int .i64 c.T, .int .i64 c.M]) :
    Calls Try.prog 45 #[c.doer, .pointer (some ⟨gO, 0, none⟩), .pointer (some ⟨gT, 0, none⟩), .pointer (some ⟨gC, 0, none⟩)] c.W0 (c.Over (.tuple #[.int .i64 0, .int .u32 0])) := by
  have m3 : 0 ≤ vl % (c.M : Int) := Int.emod_nonneg _ (by omega)
  have m4 : vl % (c.M : Int) < c.M := Int.emod_lt_of_pos _ (by omega)
  have hA : Calls Try.prog 48 #[c.doer, .int .u64 (vl % (c.M : Int) + 1)] c.W0 (c.Over (.tuple #[])) := (c.retire hok h0 (rf := vl % (c.M : Int) + 1) ⟨by omega, by omega⟩ (by rw [hf0, bg8]) (by rw [hf0, bg8])).mono (fun e w' h => Cx.over hg h (by
      rintro f' e ⟨rfl, g, a, b, d', h, i', _, rfl⟩
      rw [hf0, bg8]
      exact ⟨rfl, rfl, rfl, rfl⟩))
  have HA := Lib.hid hA
  have ho0 := hO.cell
  have ht0 := hT.cell
  have hc0 := hC.cell
  have w1 : (c.M : Int) % 4294967296 = c.M := by omega
  have h2 : ¬ (c.M : Int) = 0 := by omega
  have w5 : (vl % (c.M : Int) + 1) % 4294967296 = vl % (c.M : Int) + 1 := by omega
  clear hA hok hg h0 hf0 hO hT hC
  obtain ⟨W, hW⟩ : ∃ W : World, W = c.W0 := ⟨_, rfl⟩
  rw [← hW] at HA ho0 ht0 hc0 ⊢
  clear hW
  go_enter Try.func45, Try.ntmps45
  go_wp2_with (first | (go_at_call 48; (with_reducible refine HA.out.mono ?_); rintro e v1_ (hq | ⟨rfl, ho, hpl⟩); (obtain rfl := hq.is; first | exact ⟨rfl, .inl hq⟩ | (go_simp; exact ⟨rfl, .inl hq⟩) | (simp only [Exit.jump]; exact ⟨rfl, .inl hq⟩)); (have HO := Lib.hid (And.intro ho hpl); clear ho hpl)) | (go_at_call 39; refine (ref_c _ _ _ (by omega) (by omega) (by omega) (by omega)).mono ?_; (try rw [w5]); rintro e w' ⟨rfl, rfl⟩; (try simp only [Int.zero_mul, Int.zero_add]); (try rw [w5])))
  first | go_ret2 | go_ret
  exact .inr ⟨rfl, HO.out.1, HO.out.2⟩
set_option maxHeartbeats 1000000 in
theorem ep_walk3 (c : Cx) (hok : c.Ok) (hg : Going ((docZ c.kk c.K c.T c.M).plan c.f0) c.fs) (h0 : c.At 0 c.f0 c.W0) (i vl d : Int) (hf0 : c.f0 = docBg c.kk c.K c.M i 3 vl d) (v0 : 0 ≤ vl) (v1 : vl ≤ 4294967295) (t1 : 1 ≤ c.T) (t2 : c.T ≤ 8) (m1 : 2 ≤ c.M) (m2 : c.M ≤ 64) (gO gT gC : Nat) (hO : Blk c.W0 gO 63 #[.int .i64 3, .int .u32 vl]) (hT : Blk c.W0 gT 3 #[.int .i64 i]) (hC : Blk c.W0 gC 23 #[.int .i64 c.kk, .int .i64 c.K, .int .i64 c.T, .int .i64 c.M]) :
    Calls Try.prog 45 #[c.doer, .pointer (some ⟨gO, 0, none⟩), .pointer (some ⟨gT, 0, none⟩), .pointer (some ⟨gC, 0, none⟩)] c.W0 (c.Over (.tuple #[.int .i64 0, .int .u32 0])) := by
  have m3 : 0 ≤ vl % (c.M : Int) := Int.emod_nonneg _ (by omega)
  have m4 : vl % (c.M : Int) < c.M := Int.emod_lt_of_pos _ (by omega)
  have hA : Calls Try.prog 49 #[c.doer, .int .i64 c.T] c.W0 (c.Over (.tuple #[])) := (c.collect hok h0 (by rw [hf0, bg3]) t1 t2).mono (fun e w' h => Cx.over hg h (by
      rintro f' e ⟨rfl, g, p, a, b, d', h, i', rfl⟩
      rw [hf0, bg3]
      exact ⟨rfl, rfl, rfl, rfl⟩))
  have HA := Lib.hid hA
  have ho0 := hO.cell
  have ht0 := hT.cell
  have hc0 := hC.cell
  clear hA hok hg h0 hf0 hO hT hC
  obtain ⟨W, hW⟩ : ∃ W : World, W = c.W0 := ⟨_, rfl⟩
  rw [← hW] at HA ho0 ht0 hc0 ⊢
  clear hW
  go_enter Try.func45, Try.ntmps45
  go_wp2_with (first | (go_at_call 49; (with_reducible refine HA.out.mono ?_); rintro e v1_ (hq | ⟨rfl, ho, hpl⟩); (obtain rfl := hq.is; first | exact ⟨rfl, .inl hq⟩ | (go_simp; exact ⟨rfl, .inl hq⟩) | (simp only [Exit.jump]; exact ⟨rfl, .inl hq⟩)); (have HO := Lib.hid (And.intro ho hpl); clear ho hpl)))
  first | go_ret2 | go_ret
  exact .inr ⟨rfl, HO.out.1, HO.out.2⟩
end Go.Proofs.Ytffppdcpiieapaa.Arenac

namespace Go.Proofs.Ytffppdcpiieapaa.Arenac
open Go.RowKit Go.Proofs.Ytffppdcpiieapaa.Memc Go.Proofs.Ytffppdcpiieapaa.Procc Go.Proofs.Ytffppdcpiieapaa.Machc Go.Proofs.Ytffppdcpiieapaa.Drivec Go.Proofs.Ytffppdcpiieapaa.Wordc
set_option linter.unusedVariables false
set_option maxRecDepth 100000

def okE (i kd vl d : Int) : Prop := (kd = 3 ∨ kd = 6 ∨ kd = 7 ∨ kd = 8) ∧ 0 ≤ vl ∧ vl ≤ 4294967295 ∧ 0 ≤ i ∧ i ≤ 100
theorem ep_meets (k : Int) (K T M : Nat) (t1 : 1 ≤ T) (t2 : T ≤ 8) (m1 : 2 ≤ M) (m2 : M ≤ 64) (gO gT gC : Nat) (i kd vl d : Int) (hkd : okE i kd vl d) : Meets 45 [⟨gO, 63, #[.int .i64 kd, .int .u32 vl]⟩, ⟨gT, 3, #[.int .i64 i]⟩, ⟨gC, 23, #[.int .i64 k, .int .i64 K, .int .i64 T, .int .i64 M]⟩] ((docZ k K T M).plan ((docZ k K T M).bg i kd vl d)) := by
  refine ⟨enters_ep, ?_⟩
  intro w base gn gp gm gx P s fs ask ov cd ou hn hp hm hx hq hr hl hg hk hlt
  have E : Env w base gn gp gm gx P 0 _ s fs ask ov cd ou := ⟨hn, hp, hm, hx, hq, hr, hl, Nat.zero_le _⟩
  have hO := hk _ (List.mem_cons_self ..)
  have hT := hk _ (List.mem_cons_of_mem _ (List.mem_cons_self ..))
  have hC := hk _ (List.mem_cons_of_mem _ (List.mem_cons_of_mem _ (List.mem_cons_self ..)))
  obtain ⟨c, hc⟩ : ∃ c : Cx, c = ⟨base, gn, gp, gm, gx, P, .func (.func 45) #[] (([⟨gO, 63, #[.int .i64 kd, .int .u32 vl]⟩, ⟨gT, 3, #[.int .i64 i]⟩, ⟨gC, 23, #[.int .i64 k, .int .i64 K, .int .i64 T, .int .i64 M]⟩] : List Cap1).map Cap1.ptr).toArray, s, fs, ask, ov, cd, ou, k, K, T, M, (docZ k K T M).bg i kd vl d, w⟩ := ⟨_, rfl⟩
  have hA : Calls Try.prog 45 #[c.doer, .pointer (some ⟨gO, 0, none⟩), .pointer (some ⟨gT, 0, none⟩), .pointer (some ⟨gC, 0, none⟩)] c.W0 (c.Over (.tuple #[.int .i64 0, .int .u32 0])) := by
    have hok : c.Ok := by rw [hc]; exact fun x hx => hg.2 x hx
    have hg' : Going ((docZ c.kk c.K c.T c.M).plan c.f0) c.fs := by rw [hc]; exact hg
    have h0 : c.At 0 c.f0 c.W0 := by rw [hc]; exact ⟨E, Only.refl _ _, rfl⟩
    obtain ⟨hkd, v0, v1, _, _⟩ := hkd
    have t1' : 1 ≤ c.T := by rw [hc]; exact t1
    have t2' : c.T ≤ 8 := by rw [hc]; exact t2
    have m1' : 2 ≤ c.M := by rw [hc]; exact m1
    have m2' : c.M ≤ 64 := by rw [hc]; exact m2
    have hC' : Blk c.W0 gC 23 #[.int .i64 c.kk, .int .i64 c.K, .int .i64 c.T, .int .i64 c.M] := by rw [hc]; exact hC
    have hT' : Blk c.W0 gT 3 #[.int .i64 i] := by rw [hc]; exact hT
    have hO' : Blk c.W0 gO 63 #[.int .i64 kd, .int .u32 vl] := by rw [hc]; exact hO
    have hf0 : c.f0 = docBg c.kk c.K c.M i kd vl d := by rw [hc]; rfl
    rcases hkd with rfl | rfl | rfl | rfl
    · exact ep_walk3 c hok hg' h0 i vl d hf0 v0 v1 t1' t2' m1' m2' gO gT gC hO' hT' hC'
    · exact ep_walk6 c hok hg' h0 i vl d hf0 v0 v1 t1' t2' m1' m2' gO gT gC hO' hT' hC'
    · exact ep_walk7 c hok hg' h0 i vl d hf0 v0 v1 t1' t2' m1' m2' gO gT gC hO' hT' hC'
    · exact ep_walk8 c hok hg' h0 i vl d hf0 v0 v1 t1' t2' m1' m2' gO gT gC hO' hT' hC'
  rw [hc] at hA
  refine ⟨fun a ha => hA.mono ?_, fun cd' ou' hfi => hA.mono ?_⟩
  · rintro e w' (⟨a', h1, h2⟩ | ⟨_, _, h3⟩)
    · have h1' : (docZ k K T M).plan ((docZ k K T M).bg i kd vl d) fs = .ask a' := h1
      rw [ha] at h1'
      injection h1' with h1'
      subst h1'
      exact h2
    · have h3' : (docZ k K T M).plan ((docZ k K T M).bg i kd vl d) fs = .fin 0 0 := h3
      rw [ha] at h3'
      cases h3'
  · rintro e w' (⟨a', h1, h2⟩ | ⟨h1, h2, h3⟩)
    · have h1' : (docZ k K T M).plan ((docZ k K T M).bg i kd vl d) fs = .ask a' := h1
      rw [hfi] at h1'
      cases h1'
    · have h3' : (docZ k K T M).plan ((docZ k K T M).bg i kd vl d) fs = .fin 0 0 := h3
      rw [hfi] at h3'
      injection h3' with h4 h5
      subst h4 h5
      exact ⟨h1, h2⟩
set_option maxHeartbeats 1000000 in
theorem runE_begins (gc : Nat) (k : Int) (K T M : Nat) (t1 : 1 ≤ T) (t2 : T ≤ 8) (m1 : 2 ≤ M) (m2 : M ≤ 64) : Begins 43 [⟨gc, 23, #[.int .i64 k, .int .i64 K, .int .i64 T, .int .i64 M]⟩] okE (fun i kd vl d => (docZ k K T M).plan ((docZ k K T M).bg i kd vl d)) := by
  refine ⟨enters_er, ?_⟩
  rintro w i kd vl d hok hk
  have hmf : ∀ (fn : Fn) (first cap : Array Value) (w : World), (Instr.makeFunc fn first cap).run Try.prog w = .ok (.func fn first cap) w := fun _ _ _ _ => rfl
  have hC : Blk w gc 23 #[.int .i64 k, .int .i64 K, .int .i64 T, .int .i64 M] := hk ⟨gc, 23, #[.int .i64 k, .int .i64 K, .int .i64 T, .int .i64 M]⟩ (List.mem_singleton.2 rfl)
  have HC := Lib.hid hC
  have HOK := Lib.hid hok
  clear hC hk hok
  show Calls Try.prog 43 #[.int .i64 i, .agg #[.int .i64 kd, .int .u32 vl], .int .u32 d, .pointer (some ⟨gc, 0, none⟩)] w _
  go_enter Try.func43, Try.ntmps43
  go_wp2_with (go_at_call 44; (with_reducible refine (proc_g _ 45 #[.pointer (some ⟨w.heap.size + 1, 0, none⟩), .pointer (some ⟨w.heap.size, 0, none⟩), .pointer (some ⟨gc, 0, none⟩)]).mono ?_); rintro e w1 ⟨rfl, rfl⟩)
  go_ret
  have hlt := HC.out.lt
  refine ⟨_, 45, [⟨w.heap.size + 1, 63, #[.int .i64 kd, .int .u32 vl]⟩, ⟨w.heap.size, 3, #[.int .i64 i]⟩, ⟨gc, 23, #[.int .i64 k, .int .i64 K, .int .i64 T, .int .i64 M]⟩], rfl, blk_at2 _ _ _ _ (by simp), (fun x hx => ?_), (fun x hx => ?_), ep_meets k K T M t1 t2 m1 m2 _ _ _ i kd vl d HOK.out, (by first | omega | (simp; omega) | simp), (((Below.refl _ _).alloc (Nat.le_refl _) _).alloc (by first | omega | (simp; done) | (simp; omega)) _).alloc (by first | omega | (simp; done) | (simp; omega)) _⟩
  · simp only [List.mem_cons, List.not_mem_nil, or_false] at hx
    rcases hx with rfl | rfl | rfl
    · exact (blk_at2 _ _ _ _ (by simp)).alloc _
    · exact ((Blk.new _ _ _).alloc _).alloc _
    · exact ((HC.out.alloc _).alloc _).alloc _
  · simp only [List.mem_cons, List.not_mem_nil, or_false] at hx
    rcases hx with rfl | rfl | rfl
    all_goals simp
/-- the states of layer 5's calls -/
structure GE (T : Nat) (f : FS) : Prop where
  w : W64 f.w
  l : W64 f.l
  g : W64 f.g
  s : W64 f.s
  give : W64 f.give
  chain : 0 ≤ f.chain ∧ f.chain ≤ 4294967295
  pos : 0 ≤ f.pos ∧ f.pos ≤ T
  t : 0 ≤ f.t ∧ f.t ≤ 100
  hold : f.hold = 0
  seen : f.seen = []
  pc : (f.kd = 6 ∧ (f.pc = 1 ∨ f.pc = 2 ∨ f.pc = 3 ∨ f.pc = 0)) ∨ (f.kd = 7 ∧ (f.pc = 4 ∨ f.pc = 0)) ∨
    ((f.kd = 8 ∨ f.kd = 3) ∧ f.behind = (if f.kd = 8 then 81 else 0) ∧ (f.pc = 86 ∨ (f.back = 87 ∧ (f.pc = 95 ∨ f.pc = 96 ∨ f.pc = 97)))) ∨
    (f.kd = 8 ∧ (f.pc = 80 ∨ f.pc = 81 ∨ f.pc = 82 ∨ f.pc = 83 ∨ f.pc = 84 ∨ f.pc = 0)) ∨
    (f.kd = 3 ∧ (f.pc = 30 ∨ (f.pc = 31 ∧ f.pos + 1 ≤ T) ∨ f.pc = 32 ∨ f.pc = 33 ∨ f.pc = 34 ∨ f.pc = 35 ∨ f.pc = 0))
theorem chained_ok {T : Nat} {f : FS} {ch bh : Int} (hg : GE T f) (c0 : 0 ≤ ch) (c1 : ch ≤ 4294967295) (h : (f.kd = 8 ∧ bh = 81) ∨ (f.kd = 3 ∧ bh = 0)) : GE T (f.chained ch bh) := by
  have e : GE T ({ f with chain := ch, behind := bh, pc := if ch = 0 then bh else 86 } : FS) := by
    refine { hg with chain := ⟨c0, c1⟩, pc := ?_ }
    by_cases hc : ch = 0
    · rw [if_pos hc]
      rcases h with ⟨hk, rfl⟩ | ⟨hk, rfl⟩
      · exact .inr (.inr (.inr (.inl ⟨hk, by simp⟩)))
      · exact .inr (.inr (.inr (.inr ⟨hk, by simp⟩)))
    · rw [if_neg hc]
      rcases h with ⟨hk, rfl⟩ | ⟨hk, rfl⟩
      · exact .inr (.inr (.inl ⟨.inl hk, by show (81 : Int) = if f.kd = 8 then 81 else 0; rw [if_pos hk], .inl rfl⟩))
      · exact .inr (.inr (.inl ⟨.inr hk, by show (0 : Int) = if f.kd = 8 then 81 else 0; rw [if_neg (by rw [hk]; decide)], .inl rfl⟩))
  exact e
theorem behind_cases {T : Nat} {f : FS} (hk : f.kd = 8 ∨ f.kd = 3) (hb : f.behind = (if f.kd = 8 then 81 else 0)) : (f.kd = 8 ∧ f.behind = 81) ∨ (f.kd = 3 ∧ f.behind = 0) := by
  rcases hk with hk | hk
  · rw [if_pos hk] at hb; exact .inl ⟨hk, hb⟩
  · rw [if_neg (by rw [hk]; decide)] at hb; exact .inr ⟨hk, hb⟩
theorem w64_lo {x : Int} : 0 ≤ lo x ∧ lo x ≤ 4294967295 := by unfold lo; omega
theorem w64_pk {h l : Int} (h0 : 0 ≤ h ∧ h ≤ 4294967295) (l0 : 0 ≤ l ∧ l ≤ 4294967295) : W64 (pk h l) := ⟨by unfold pk; omega, by unfold pk; omega⟩
theorem w64_hi {x : Int} (h : W64 x) : 0 ≤ hi x ∧ hi x ≤ 4294967295 := by obtain ⟨a, b⟩ := h; unfold hi; omega
set_option maxHeartbeats 1000000 in
theorem ep_ok (k : Int) (K T M : Nat) (t1 : 1 ≤ T) (t2 : T ≤ 8) (m1 : 2 ≤ M) (m2 : M ≤ 64) : MacOk (docZ k K T M) okE (GE T) where
  bg := by
    rintro i kd vl d ⟨hkd, v0, v1, i0, i1⟩
    have h0 : W64 0 := ⟨Int.le_refl _, by decide⟩
    have m3 : 0 ≤ vl % (M : Int) := Int.emod_nonneg _ (by omega)
    have m4 : vl % (M : Int) < M := Int.emod_lt_of_pos _ (by omega)
    have hc : (0 : Int) ≤ 0 ∧ (0 : Int) ≤ 4294967295 := by decide
    have hp : (0 : Int) ≤ 0 ∧ (0 : Int) ≤ (T : Int) := ⟨Int.le_refl _, by omega⟩
    have hz : (docZ k K T M).bg i kd vl d = docBg k K M i kd vl d := rfl
    rw [hz]
    rcases hkd with rfl | rfl | rfl | rfl
    · rw [bg3]
      exact ⟨⟨h0, h0, h0, h0, h0, hc, hp, ⟨i0, i1⟩, rfl, rfl, .inr (.inr (.inr (.inr ⟨rfl, .inl rfl⟩)))⟩, by simp⟩
    · rw [bg6]
      exact ⟨⟨h0, h0, h0, h0, h0, hc, hp, ⟨i0, i1⟩, rfl, rfl, .inl ⟨rfl, .inl rfl⟩⟩, by simp⟩
    · rw [bg7]
      exact ⟨⟨h0, h0, h0, h0, h0, hc, hp, ⟨i0, i1⟩, rfl, rfl, .inr (.inl ⟨rfl, .inl rfl⟩)⟩, by simp⟩
    · rw [bg8]
      exact ⟨⟨h0, h0, h0, ⟨by show 0 ≤ vl % (M : Int) + 1; omega, by show vl % (M : Int) + 1 ≤ _; omega⟩, h0, hc, hp, ⟨i0, i1⟩, rfl, rfl, .inr (.inr (.inr (.inl ⟨rfl, .inl rfl⟩)))⟩, by simp⟩
  ask := by
    intro f hg hp
    have hw := hg.w
    have hl := hg.l
    have hgg := hg.g
    have hs := hg.s
    have hv := hg.give
    have hc := hg.chain
    have hpos := hg.pos
    have ht := hg.t
    unfold W64 at hw hl hgg hs hv
    show (docAsk k K M f).ok
    rcases hg.pc with ⟨hk, h | h | h | h⟩ | ⟨hk, h | h⟩ | ⟨hk, hb, h | ⟨h87, h | h | h⟩⟩ | ⟨hk, h | h | h | h | h | h⟩ | ⟨hk, h | ⟨h, hps⟩ | h | h | h | h | h⟩
    · rw [ask1 h]; unfold Acc.ok; dsimp only; (try unfold hnd); (try unfold pk); (try unfold up); (try unfold hi); (try unfold lo); (try unfold w64); omega
    · rw [ask2 h]; unfold Acc.ok; dsimp only; (try unfold hnd); (try unfold pk); (try unfold up); (try unfold hi); (try unfold lo); (try unfold w64); omega
    · rw [ask3 h]; unfold Acc.ok; dsimp only; (try unfold hnd); (try unfold pk); (try unfold up); (try unfold hi); (try unfold lo); (try unfold w64); omega
    · exact absurd h hp
    · rw [ask4 h]; unfold Acc.ok; dsimp only; (try unfold hnd); (try unfold pk); (try unfold up); (try unfold hi); (try unfold lo); (try unfold w64); omega
    · exact absurd h hp
    · rw [ask86 h]; unfold Acc.ok; dsimp only; (try unfold hnd); (try unfold pk); (try unfold up); (try unfold hi); (try unfold lo); (try unfold w64); omega
    · rw [ask95 h]; unfold Acc.ok; dsimp only; (try unfold hnd); (try unfold pk); (try unfold up); (try unfold hi); (try unfold lo); (try unfold w64); omega
    · rw [ask96 h]; unfold Acc.ok; dsimp only; (try unfold hnd); (try unfold pk); (try unfold up); (try unfold hi); (try unfold lo); (try unfold w64); omega
    · rw [ask97 h]; unfold Acc.ok; dsimp only; (try unfold hnd); (try unfold pk); (try unfold up); (try unfold hi); (try unfold lo); (try unfold w64); omega
    · rw [ask80 h]; unfold Acc.ok; dsimp only; (try unfold hnd); (try unfold pk); (try unfold up); (try unfold hi); (try unfold lo); (try unfold w64); omega
    · rw [ask81 h]; unfold Acc.ok; dsimp only; (try unfold hnd); (try unfold pk); (try unfold up); (try unfold hi); (try unfold lo); (try unfold w64); omega
    · rw [ask82 h]; unfold Acc.ok; dsimp only; (try unfold hnd); (try unfold pk); (try unfold up); (try unfold hi); (try unfold lo); (try unfold w64); omega
    · rw [ask83 h]; unfold Acc.ok; dsimp only; (try unfold hnd); (try unfold pk); (try unfold up); (try unfold hi); (try unfold lo); (try unfold w64); omega
    · rw [ask84 h]; unfold Acc.ok; dsimp only; (try unfold hnd); (try unfold pk); (try unfold up); (try unfold hi); (try unfold lo); (try unfold w64); omega
    · exact absurd h hp
    · rw [ask30 h]; unfold Acc.ok; dsimp only; (try unfold hnd); (try unfold pk); (try unfold up); (try unfold hi); (try unfold lo); (try unfold w64); omega
    · rw [ask31 h]; unfold Acc.ok; dsimp only; (try unfold hnd); (try unfold pk); (try unfold up); (try unfold hi); (try unfold lo); (try unfold w64); omega
    · rw [ask32 h]; unfold Acc.ok; dsimp only; (try unfold hnd); (try unfold pk); (try unfold up); (try unfold hi); (try unfold lo); (try unfold w64); omega
    · rw [ask33 h]; unfold Acc.ok; dsimp only; (try unfold hnd); (try unfold pk); (try unfold up); (try unfold hi); (try unfold lo); (try unfold w64); omega
    · rw [ask34 h]; unfold Acc.ok; dsimp only; (try unfold hnd); (try unfold pk); (try unfold up); (try unfold hi); (try unfold lo); (try unfold w64); omega
    · rw [ask35 h]; unfold Acc.ok; dsimp only; (try unfold hnd); (try unfold pk); (try unfold up); (try unfold hi); (try unfold lo); (try unfold w64); omega
    · exact absurd h hp
  tell := by
    intro f was dn hg hp w0 w1
    have hx : W64 was := ⟨w0, w1⟩
    show GE T (docTell k K T M f was dn)
    rcases hg.pc with ⟨hk, h | h | h | h⟩ | ⟨hk, h | h⟩ | ⟨hk, hb, h | ⟨h87, h | h | h⟩⟩ | ⟨hk, h | h | h | h | h | h⟩ | ⟨hk, h | ⟨h, hps⟩ | h | h | h | h | h⟩
    · rw [tell1 was dn h]; exact { hg with g := hx, pc := .inl ⟨hk, .inr (.inl rfl)⟩ }
    · rw [tell2 was dn h]; exact { hg with pc := .inl ⟨hk, .inr (.inr (.inl rfl))⟩ }
    · rw [tell3 was dn h]
      split
      · exact { hg with g := hx, pc := .inl ⟨hk, .inr (.inl rfl)⟩ }
      · exact { hg with pc := .inl ⟨hk, .inr (.inr (.inr rfl))⟩ }
    · exact absurd h hp
    · rw [tell4 was dn h]; exact { hg with pc := .inr (.inl ⟨hk, .inr rfl⟩) }
    · exact absurd h hp
    · rw [tell86 was dn h]; exact { hg with chain := w64_lo, give := w64_pk (w64_hi hx) hg.chain, pc := .inr (.inr (.inl ⟨hk, hb, .inr ⟨rfl, .inl rfl⟩⟩)) }
    · rw [tell95 was dn h]; exact { hg with w := hx, pc := .inr (.inr (.inl ⟨hk, hb, .inr ⟨h87, .inr (.inl rfl)⟩⟩)) }
    · rw [tell96 was dn h]; exact { hg with pc := .inr (.inr (.inl ⟨hk, hb, .inr ⟨h87, .inr (.inr rfl)⟩⟩)) }
    · rw [tell97 was dn h, if_pos h87]
      split
      · exact chained_ok hg hg.chain.1 hg.chain.2 (behind_cases (T := T) hk hb)
      · exact { hg with pc := .inr (.inr (.inl ⟨hk, hb, .inr ⟨h87, .inl rfl⟩⟩)) }
    · rw [tell80 was dn h]; exact { hg with g := hx, pc := .inr (.inr (.inr (.inl ⟨hk, by simp⟩))) }
    · rw [tell81 was dn h]; refine { hg with w := hx, pc := .inr (.inr (.inr (.inl ⟨hk, ?_⟩))) }; simp only; split <;> simp
    · rw [tell82 was dn h]
      split
      · exact chained_ok hg w64_lo.1 w64_lo.2 (.inl ⟨hk, rfl⟩)
      · exact { hg with pc := .inr (.inr (.inr (.inl ⟨hk, by simp⟩))) }
    · rw [tell83 was dn h]; exact { hg with pc := .inr (.inr (.inr (.inl ⟨hk, by simp⟩))) }
    · rw [tell84 was dn h, if_pos hk]
      split
      · exact { hg with pc := .inr (.inr (.inr (.inl ⟨hk, by simp⟩))) }
      · exact { hg with pc := .inr (.inr (.inr (.inl ⟨hk, by simp⟩))) }
    · exact absurd h hp
    · rw [tell30 was dn h]; exact { hg with g := hx, pos := ⟨Int.le_refl _, by show (0 : Int) ≤ T; omega⟩, pc := .inr (.inr (.inr (.inr ⟨hk, .inr (.inl ⟨rfl, by show (0 : Int) + 1 ≤ T; omega⟩)⟩))) }
    · rw [tell31 was dn h]
      have hq := hg.pos
      split
      · exact { hg with pc := .inr (.inr (.inr (.inr ⟨hk, by simp⟩))) }
      · refine { hg with pos := ⟨by show 0 ≤ f.pos + 1; omega, hps⟩, pc := .inr (.inr (.inr (.inr ⟨hk, ?_⟩))) }
        show (if f.pos + 1 = (T : Int) then (32 : Int) else 31) = 30 ∨ ((if f.pos + 1 = (T : Int) then (32 : Int) else 31) = 31 ∧ f.pos + 1 + 1 ≤ T) ∨ (if f.pos + 1 = (T : Int) then (32 : Int) else 31) = 32 ∨ _
        by_cases hT : f.pos + 1 = T
        · rw [if_pos hT]; exact .inr (.inr (.inl rfl))
        · rw [if_neg hT]; exact .inr (.inl ⟨rfl, by omega⟩)
    · rw [tell32 was dn h]; exact { hg with pc := .inr (.inr (.inr (.inr ⟨hk, by simp⟩))) }
    · rw [tell33 was dn h]; exact { hg with g := hx, pc := .inr (.inr (.inr (.inr ⟨hk, by simp⟩))) }
    · rw [tell34 was dn h]; refine { hg with w := hx, pc := .inr (.inr (.inr (.inr ⟨hk, ?_⟩))) }; simp only; split <;> simp
    · rw [tell35 was dn h]
      split
      · exact chained_ok hg w64_lo.1 w64_lo.2 (.inr ⟨hk, rfl⟩)
      · exact { hg with pc := .inr (.inr (.inr (.inr ⟨hk, by simp⟩))) }
    · exact absurd h hp
end Go.Proofs.Ytffppdcpiieapaa.Arenac
