/- The package store's Do, by its contract: the words behind an access, and what it tells; what it was handed stays. -/
import Derived.Test.YtjgbgjkjnlaloaaStoreC
import Derived.Deep.RegionHeld3
import Derived.Deep.DrawnRows
namespace Go.Proofs.Ytjgbgjkjnlaloaa.Storec
open Go.RowKit Go.Proofs.Ytjgbgjkjnlaloaa.Memc
set_option linter.unusedVariables false
set_option maxRecDepth 100000
attribute [local go_sem ↓] Go.wp_at_zero Go.wp_at_succ

theorem finder_c (p : Addr) (w : World) :
    Calls Try.prog 43 #[.pointer (some p)] w fun e w' => e = .returned (.func (.func 73) #[] #[.pointer (some ⟨w.heap.size, 0, none⟩)]) ∧ w' = w.alloc (.cells #[.pointer (some p)] 90) := by
  have hmf : ∀ (fn : Fn) (first cap : Array Value) (w : World), (Instr.makeFunc fn first cap).run Try.prog w = .ok (.func fn first cap) w := fun _ _ _ _ => rfl
  go_enter Try.func43, Try.ntmps43
  go_wp2
  go_ret
  exact ⟨rfl, rfl⟩

/-- what Do comes to -/
def Done (w : World) (m : M) (c : Acc) (e : Ending) (w' : World) : Prop :=
  ∃ r : R, e = .returned (.tuple #[.agg #[.int .u64 r.e, .int .u64 r.f, .slice r.L.A r.L.n r.L.c, .slice r.P.A r.P.n r.P.c, .int .u64 r.h, .int .u64 r.t, .slice r.K.A r.K.n r.K.c, .slice r.X.A r.X.n r.X.c, .slice r.S.A r.S.n r.S.c], .int .u64 (acc m c).2.1, .bool (acc m c).2.2]) ∧ Rm w' w'.heap.size r (acc m c).1 ∧ Below w.heap.size w w'

/-- what Do comes to, the rows being its own -/
def DoneOwn (w : World) (m : M) (c : Acc) (e : Ending) (w' : World) : Prop :=
  ∃ r : R, e = .returned (.tuple #[.agg #[.int .u64 r.e, .int .u64 r.f, .slice r.L.A r.L.n r.L.c, .slice r.P.A r.P.n r.P.c, .int .u64 r.h, .int .u64 r.t, .slice r.K.A r.K.n r.K.c, .slice r.X.A r.X.n r.X.c, .slice r.S.A r.S.n r.S.c], .int .u64 (acc m c).2.1, .bool (acc m c).2.2]) ∧ Rm w' w'.heap.size r (acc m c).1 ∧ Below w.heap.size w w' ∧ ∀ a, la a → Own w' w.heap.size (r.sl a) ((acc m c).1.area a)

set_option maxHeartbeats 4000000 in
theorem do_own (w : World) (B : Nat) (r : R) (m : M) (c : Acc) (h : Rm w B r m) (hB : B ≤ w.heap.size) (hm : ∀ a, (m.area a).length ≤ 1000000) (hc : c.ok) :
    Calls Try.prog 17 #[.agg #[.int .u64 r.e, .int .u64 r.f, .slice r.L.A r.L.n r.L.c, .slice r.P.A r.P.n r.P.c, .int .u64 r.h, .int .u64 r.t, .slice r.K.A r.K.n r.K.c, .slice r.X.A r.X.n r.X.c, .slice r.S.A r.S.n r.S.c], .agg #[.int .i64 c.d, .int .i64 c.ar, .int .i64 c.at_, .int .u64 c.old, .int .u64 c.new]] w (DoneOwn w m c) := by
  have HR : Hid (Rm w w.heap.size r m) := h.more hB
  have HM : Hid (∀ a, (m.area a).length ≤ 1000000) := hm
  have HC := Lib.hid hc
  clear h hm hB hc
  have b0 : Below w.heap.size w (((w.alloc (.cells #[.int .u64 r.e, .int .u64 r.f, .slice r.L.A r.L.n r.L.c, .slice r.P.A r.P.n r.P.c, .int .u64 r.h, .int .u64 r.t, .slice r.K.A r.K.n r.K.c, .slice r.X.A r.X.n r.X.c, .slice r.S.A r.S.n r.S.c] 25)).alloc (.cells #[.int .i64 c.d, .int .i64 c.ar, .int .i64 c.at_, .int .u64 c.old, .int .u64 c.new] 27)).alloc (.cells #[.int .u64 0, .int .u64 0, .slice none 0 0, .slice none 0 0, .int .u64 0, .int .u64 0, .slice none 0 0, .slice none 0 0, .slice none 0 0] 25)) :=
    (((Below.refl _ _).alloc (Nat.le_refl _) _).alloc (by simp) _).alloc (by simp; omega) _
  have k1 : Blk (((w.alloc (.cells #[.int .u64 r.e, .int .u64 r.f, .slice r.L.A r.L.n r.L.c, .slice r.P.A r.P.n r.P.c, .int .u64 r.h, .int .u64 r.t, .slice r.K.A r.K.n r.K.c, .slice r.X.A r.X.n r.X.c, .slice r.S.A r.S.n r.S.c] 25)).alloc (.cells #[.int .i64 c.d, .int .i64 c.ar, .int .i64 c.at_, .int .u64 c.old, .int .u64 c.new] 27)).alloc (.cells #[.int .u64 0, .int .u64 0, .slice none 0 0, .slice none 0 0, .int .u64 0, .int .u64 0, .slice none 0 0, .slice none 0 0, .slice none 0 0] 25)) (w.heap.size + 1) 27 #[.int .i64 c.d, .int .i64 c.ar, .int .i64 c.at_, .int .u64 c.old, .int .u64 c.new] := by
    simpa using (Blk.new (w.alloc (.cells #[.int .u64 r.e, .int .u64 r.f, .slice r.L.A r.L.n r.L.c, .slice r.P.A r.P.n r.P.c, .int .u64 r.h, .int .u64 r.t, .slice r.K.A r.K.n r.K.c, .slice r.X.A r.X.n r.X.c, .slice r.S.A r.S.n r.S.c] 25)) 27 #[.int .i64 c.d, .int .i64 c.ar, .int .i64 c.at_, .int .u64 c.old, .int .u64 c.new]).alloc (.cells #[.int .u64 0, .int .u64 0, .slice none 0 0, .slice none 0 0, .int .u64 0, .int .u64 0, .slice none 0 0, .slice none 0 0, .slice none 0 0] 25)
  have k2 : Blk (((w.alloc (.cells #[.int .u64 r.e, .int .u64 r.f, .slice r.L.A r.L.n r.L.c, .slice r.P.A r.P.n r.P.c, .int .u64 r.h, .int .u64 r.t, .slice r.K.A r.K.n r.K.c, .slice r.X.A r.X.n r.X.c, .slice r.S.A r.S.n r.S.c] 25)).alloc (.cells #[.int .i64 c.d, .int .i64 c.ar, .int .i64 c.at_, .int .u64 c.old, .int .u64 c.new] 27)).alloc (.cells #[.int .u64 0, .int .u64 0, .slice none 0 0, .slice none 0 0, .int .u64 0, .int .u64 0, .slice none 0 0, .slice none 0 0, .slice none 0 0] 25)) (w.heap.size + 1 + 1) 25 #[.int .u64 0, .int .u64 0, .slice none 0 0, .slice none 0 0, .int .u64 0, .int .u64 0, .slice none 0 0, .slice none 0 0, .slice none 0 0] := by
    simpa using Blk.new ((w.alloc (.cells #[.int .u64 r.e, .int .u64 r.f, .slice r.L.A r.L.n r.L.c, .slice r.P.A r.P.n r.P.c, .int .u64 r.h, .int .u64 r.t, .slice r.K.A r.K.n r.K.c, .slice r.X.A r.X.n r.X.c, .slice r.S.A r.S.n r.S.c] 25)).alloc (.cells #[.int .i64 c.d, .int .i64 c.ar, .int .i64 c.at_, .int .u64 c.old, .int .u64 c.new] 27)) 25 #[.int .u64 0, .int .u64 0, .slice none 0 0, .slice none 0 0, .int .u64 0, .int .u64 0, .slice none 0 0, .slice none 0 0, .slice none 0 0]
  have HB0 := Lib.hid b0
  have K1 := Lib.hid k1
  have K2 := Lib.hid k2
  clear b0 k1 k2
  go_enter Try.func17, Try.ntmps17
  go_wp2_with fail
  refine (copied_c _ w.heap.size r m (HR.out.below HB0.out) HB0.out.size HM.out).mono ?_
  rintro e w1 ⟨r1, rfl, hs1, hf1, hb1⟩
  have HS1 := Lib.hid hs1
  have HF1 := Lib.hid hf1
  have HB1 := Lib.hid hb1
  obtain ⟨x1, x2⟩ := two_below hb1 K1.out K2.out
  obtain ⟨cb, fb, cc, fc⟩ := two_rules x1 x2
  have X1 := Lib.hid x1
  have X2 := Lib.hid x2
  clear x1 x2 hs1 hf1 hb1
  have hh : Hold (((((((((w1.setCell ⟨w.heap.size + 1 + 1, 0, none⟩ (.int .u64 r1.e)).setCell ⟨w.heap.size + 1 + 1, 1, none⟩ (.int .u64 r1.f)).setCell ⟨w.heap.size + 1 + 1, 2, none⟩ (.slice r1.L.A r1.L.n r1.L.c)).setCell ⟨w.heap.size + 1 + 1, 3, none⟩ (.slice r1.P.A r1.P.n r1.P.c)).setCell ⟨w.heap.size + 1 + 1, 4, none⟩ (.int .u64 r1.h)).setCell ⟨w.heap.size + 1 + 1, 5, none⟩ (.int .u64 r1.t)).setCell ⟨w.heap.size + 1 + 1, 6, none⟩ (.slice r1.K.A r1.K.n r1.K.c)).setCell ⟨w.heap.size + 1 + 1, 7, none⟩ (.slice r1.X.A r1.X.n r1.X.c)).setCell ⟨w.heap.size + 1 + 1, 8, none⟩ (.slice r1.S.A r1.S.n r1.S.c)) (w.heap.size + 1 + 1) (w.heap.size + 1 + 1) r1 m := hold_nine X2.out HS1.out HR.out.2.2.2.2.1 HF1.out (Nat.le_refl _) (by simp)
  have hx : Blk (((((((((w1.setCell ⟨w.heap.size + 1 + 1, 0, none⟩ (.int .u64 r1.e)).setCell ⟨w.heap.size + 1 + 1, 1, none⟩ (.int .u64 r1.f)).setCell ⟨w.heap.size + 1 + 1, 2, none⟩ (.slice r1.L.A r1.L.n r1.L.c)).setCell ⟨w.heap.size + 1 + 1, 3, none⟩ (.slice r1.P.A r1.P.n r1.P.c)).setCell ⟨w.heap.size + 1 + 1, 4, none⟩ (.int .u64 r1.h)).setCell ⟨w.heap.size + 1 + 1, 5, none⟩ (.int .u64 r1.t)).setCell ⟨w.heap.size + 1 + 1, 6, none⟩ (.slice r1.K.A r1.K.n r1.K.c)).setCell ⟨w.heap.size + 1 + 1, 7, none⟩ (.slice r1.X.A r1.X.n r1.X.c)).setCell ⟨w.heap.size + 1 + 1, 8, none⟩ (.slice r1.S.A r1.S.n r1.S.c)) (w.heap.size + 1) 27 #[.int .i64 c.d, .int .i64 c.ar, .int .i64 c.at_, .int .u64 c.old, .int .u64 c.new] := blk_nine_far X1.out (by omega)
  have hbw : Below w.heap.size w (((((((((w1.setCell ⟨w.heap.size + 1 + 1, 0, none⟩ (.int .u64 r1.e)).setCell ⟨w.heap.size + 1 + 1, 1, none⟩ (.int .u64 r1.f)).setCell ⟨w.heap.size + 1 + 1, 2, none⟩ (.slice r1.L.A r1.L.n r1.L.c)).setCell ⟨w.heap.size + 1 + 1, 3, none⟩ (.slice r1.P.A r1.P.n r1.P.c)).setCell ⟨w.heap.size + 1 + 1, 4, none⟩ (.int .u64 r1.h)).setCell ⟨w.heap.size + 1 + 1, 5, none⟩ (.int .u64 r1.t)).setCell ⟨w.heap.size + 1 + 1, 6, none⟩ (.slice r1.K.A r1.K.n r1.K.c)).setCell ⟨w.heap.size + 1 + 1, 7, none⟩ (.slice r1.X.A r1.X.n r1.X.c)).setCell ⟨w.heap.size + 1 + 1, 8, none⟩ (.slice r1.S.A r1.S.n r1.S.c)) := below_nine (HB0.out.trans (HB1.out.mono HB0.out.size)) (by omega) _ _ _ _ _ _ _ _ _
  have HH := Lib.hid hh
  have HX := Lib.hid hx
  have HBW := Lib.hid hbw
  clear hh hx hbw
  go_wp2_with fail
  generalize (((((((((w1.setCell ⟨w.heap.size + 1 + 1, 0, none⟩ (.int .u64 r1.e)).setCell ⟨w.heap.size + 1 + 1, 1, none⟩ (.int .u64 r1.f)).setCell ⟨w.heap.size + 1 + 1, 2, none⟩ (.slice r1.L.A r1.L.n r1.L.c)).setCell ⟨w.heap.size + 1 + 1, 3, none⟩ (.slice r1.P.A r1.P.n r1.P.c)).setCell ⟨w.heap.size + 1 + 1, 4, none⟩ (.int .u64 r1.h)).setCell ⟨w.heap.size + 1 + 1, 5, none⟩ (.int .u64 r1.t)).setCell ⟨w.heap.size + 1 + 1, 6, none⟩ (.slice r1.K.A r1.K.n r1.K.c)).setCell ⟨w.heap.size + 1 + 1, 7, none⟩ (.slice r1.X.A r1.X.n r1.X.c)).setCell ⟨w.heap.size + 1 + 1, 8, none⟩ (.slice r1.S.A r1.S.n r1.S.c)) = W at HH HX HBW ⊢
  clear HB0 K1 K2 HS1 HF1 HB1 X1 X2 cb fb cc fc HR HM
  have hX := HX.out.cell
  have hzX := HX.out.lt
  have hzH := HH.out.1.lt
  have hne := World.new_ne W
  go_region_held3 (fun w' => w'.cell? ⟨w.heap.size + 1, 0, none⟩ = some (.int .i64 c.d) ∧ w'.cell? ⟨w.heap.size + 1, 1, none⟩ = some (.int .i64 c.ar) ∧ w'.cell? ⟨w.heap.size + 1, 2, none⟩ = some (.int .i64 c.at_) ∧ w'.cell? ⟨w.heap.size + 1, 3, none⟩ = some (.int .u64 c.old) ∧ w'.cell? ⟨w.heap.size + 1, 4, none⟩ = some (.int .u64 c.new)) (first | go_keep | exact cells5 (((HX.out.alloc _).drew.below hb2 (by omega))))
    (first | (go_at_call 43; refine (finder_c _ _).mono ?_; rintro e w' ⟨rfl, rfl⟩) | (go_at_call 42; refine (access_c (w.heap.size + 1 + 1) (w.heap.size + 1 + 1) r1 m ⟨W.heap.size, 0, none⟩ c _ (by go_simp) (by simp) (HH.out.alloc _).drew (by simp; omega) HC.out).mono ?_; rintro e w' ⟨⟨r2, hr2⟩, rfl, hb2, _⟩))
  have HR2 := Lib.hid hr2
  have HB2 := Lib.hid hb2
  have hc2 : ∀ i, w'.cell? ⟨w.heap.size + 1 + 1, i, none⟩ = (#[.int .u64 r2.e, .int .u64 r2.f, .slice r2.L.A r2.L.n r2.L.c, .slice r2.P.A r2.P.n r2.P.c, .int .u64 r2.h, .int .u64 r2.t, .slice r2.K.A r2.K.n r2.K.c, .slice r2.X.A r2.X.n r2.X.c, .slice r2.S.A r2.S.n r2.S.c] : Array Value)[i]? := hr2.1.cell
  have hf2 := hr2.1.frozen
  clear hr2 hb2
  go_wp2
  refine bodyPost_ret (v := .tuple #[.agg #[.int .u64 r2.e, .int .u64 r2.f, .slice r2.L.A r2.L.n r2.L.c, .slice r2.P.A r2.P.n r2.P.c, .int .u64 r2.h, .int .u64 r2.t, .slice r2.K.A r2.K.n r2.K.c, .slice r2.X.A r2.X.n r2.X.c, .slice r2.S.A r2.S.n r2.S.c], .int .u64 (acc m c).2.1, .bool (acc m c).2.2]) (by simp [results, Try.results17, go_sem, hc2]) rfl ?_
  exact ⟨r2, rfl, HR2.out.again.rm, below_nine (HBW.out.trans ((((Below.refl _ _).alloc (by have := HBW.out.size; omega) _).drew).trans (HB2.out.mono (by omega)))) (by omega) _ _ _ _ _ _ _ _ _, fun a hl => (HR2.out.again.2.2.2.2.2.2.2.1 a hl).weaken (by omega)⟩
theorem do_c (w : World) (B : Nat) (r : R) (m : M) (c : Acc) (h : Rm w B r m) (hB : B ≤ w.heap.size) (hm : ∀ a, (m.area a).length ≤ 1000000) (hc : c.ok) :
    Calls Try.prog 17 #[.agg #[.int .u64 r.e, .int .u64 r.f, .slice r.L.A r.L.n r.L.c, .slice r.P.A r.P.n r.P.c, .int .u64 r.h, .int .u64 r.t, .slice r.K.A r.K.n r.K.c, .slice r.X.A r.X.n r.X.c, .slice r.S.A r.S.n r.S.c], .agg #[.int .i64 c.d, .int .i64 c.ar, .int .i64 c.at_, .int .u64 c.old, .int .u64 c.new]] w (Done w m c) :=
  (do_own w B r m c h hB hm hc).mono fun e w' ⟨r', he, hr, hb, _⟩ => ⟨r', he, hr, hb⟩
end Go.Proofs.Ytjgbgjkjnlaloaa.Storec
