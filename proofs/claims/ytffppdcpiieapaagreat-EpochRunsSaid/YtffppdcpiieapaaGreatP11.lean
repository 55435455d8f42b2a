/- A part of the proof. -/
import Derived.Deep.RegionLaw
import Derived.Test.YtffppdcpiieapaaGreatP1
import Derived.Test.YtffppdcpiieapaaGreatP9
import Derived.Test.YtffppdcpiieapaaGreatP10
namespace Go.Proofs.YtffppdcpiieapaaGreat.Refc
open Go.RowKit Memc
set_option linter.unusedVariables false
set_option maxRecDepth 100000

def Did (w : World) (q : R) (m : M) (c : Acc) (e : Ending) (w' : World) : Prop :=
 ∃ r : R, e = .returned (.tuple #[.agg #[.int .u64 r.e, .int .u64 r.f, .slice r.L.A r.L.n r.L.c, .slice r.P.A r.P.n r.P.c, .int .u64 r.h, .int .u64 r.t, .slice r.K.A r.K.n r.K.c, .slice r.X.A r.X.n r.X.c, .slice r.S.A r.S.n r.S.c], .int .u64 (acc m c).2.1, .bool (acc m c).2.2]) /\ Rm w' w'.heap.size r (acc m c).1 /\ Below w.heap.size w w' /\ ∀ b, b < w.heap.size -> Off q b -> Off r b

theorem three_rules {W W' : World} {b c d : Nat} {t u v : TypeId} {cs ds es : Array Value} (hb : Below W.heap.size W W') (h0 : Blk W b t cs) (h1 : Blk W c u ds) (h2 : Blk W d v es) :
   (∀ i, W'.cell? ⟨b, i, none⟩ = cs[i]?) /\ (∀ i, W'.cell? ⟨c, i, none⟩ = ds[i]?) /\ (∀ i, W'.cell? ⟨d, i, none⟩ = es[i]?) /\ (∀ i, W'.frozen? ⟨d, i, none⟩ = false) :=
 ⟨(h0.below hb h0.lt).cell, (h1.below hb h1.lt).cell, (h2.below hb h2.lt).cell, (h2.below hb h2.lt).frozen⟩

set_option maxHeartbeats 2000000 in
theorem do_neg (w : World) (B : Nat) (r : R) (m : M) (h : Rm w B r m) (hB : B <= w.heap.size) (d ar at_ old new : Int) (ha : -9223372036854775808 <= ar) (ha' : ar <= 9223372036854775807) (h0 : at_ < 0) :
   Calls Tryz.prog 60 #[.agg #[.int .u64 r.e, .int .u64 r.f, .slice r.L.A r.L.n r.L.c, .slice r.P.A r.P.n r.P.c, .int .u64 r.h, .int .u64 r.t, .slice r.K.A r.K.n r.K.c, .slice r.X.A r.X.n r.X.c, .slice r.S.A r.S.n r.S.c], .agg #[.int .i64 d, .int .i64 ar, .int .i64 at_, .int .u64 old, .int .u64 new]] w (Did w r m ⟨d, ar, at_, old, new⟩) := by
 have HC : Hid (acc m ⟨d, ar, at_, old, new⟩ = (m, 0, false)) := lh (by unfold acc; rw [if_neg (fun hh => by have := hh.1.1; simp only at this; omega)])

 have HR : Hid (Rm w w.heap.size r m) := h.more hB
 have x0 : Blk (((w.alloc (.cells #[.int .u64 r.e, .int .u64 r.f, .slice r.L.A r.L.n r.L.c, .slice r.P.A r.P.n r.P.c, .int .u64 r.h, .int .u64 r.t, .slice r.K.A r.K.n r.K.c, .slice r.X.A r.X.n r.X.c, .slice r.S.A r.S.n r.S.c] 33)).alloc (.cells #[.int .i64 d, .int .i64 ar, .int .i64 at_, .int .u64 old, .int .u64 new] 66)).alloc (.cells zM 33)) w.heap.size 33 #[.int .u64 r.e, .int .u64 r.f, .slice r.L.A r.L.n r.L.c, .slice r.P.A r.P.n r.P.c, .int .u64 r.h, .int .u64 r.t, .slice r.K.A r.K.n r.K.c, .slice r.X.A r.X.n r.X.c, .slice r.S.A r.S.n r.S.c] := ((Blk.new _ _ _).alloc _).alloc _
 have y0 : Blk (((w.alloc (.cells #[.int .u64 r.e, .int .u64 r.f, .slice r.L.A r.L.n r.L.c, .slice r.P.A r.P.n r.P.c, .int .u64 r.h, .int .u64 r.t, .slice r.K.A r.K.n r.K.c, .slice r.X.A r.X.n r.X.c, .slice r.S.A r.S.n r.S.c] 33)).alloc (.cells #[.int .i64 d, .int .i64 ar, .int .i64 at_, .int .u64 old, .int .u64 new] 66)).alloc (.cells zM 33)) (w.heap.size + 1) 66 #[.int .i64 d, .int .i64 ar, .int .i64 at_, .int .u64 old, .int .u64 new] := (blk_at (by simp)).alloc _
 have z0 : Blk (((w.alloc (.cells #[.int .u64 r.e, .int .u64 r.f, .slice r.L.A r.L.n r.L.c, .slice r.P.A r.P.n r.P.c, .int .u64 r.h, .int .u64 r.t, .slice r.K.A r.K.n r.K.c, .slice r.X.A r.X.n r.X.c, .slice r.S.A r.S.n r.S.c] 33)).alloc (.cells #[.int .i64 d, .int .i64 ar, .int .i64 at_, .int .u64 old, .int .u64 new] 66)).alloc (.cells zM 33)) (w.heap.size + 1 + 1) 33 #[.int .u64 0, .int .u64 0, .slice none 0 0, .slice none 0 0, .int .u64 0, .int .u64 0, .slice none 0 0, .slice none 0 0, .slice none 0 0] := blk_at (by simp)
 have W0 : Hid (Below w.heap.size w (((w.alloc (.cells #[.int .u64 r.e, .int .u64 r.f, .slice r.L.A r.L.n r.L.c, .slice r.P.A r.P.n r.P.c, .int .u64 r.h, .int .u64 r.t, .slice r.K.A r.K.n r.K.c, .slice r.X.A r.X.n r.X.c, .slice r.S.A r.S.n r.S.c] 33)).alloc (.cells #[.int .i64 d, .int .i64 ar, .int .i64 at_, .int .u64 old, .int .u64 new] 66)).alloc (.cells zM 33))) := lh ((((Below.refl _ _).alloc (Nat.le_refl _) _).alloc (by simp) _).alloc (by simp; omega) _)
 have X0 := lh x0
 have Y0 := lh y0
 have Z0 := lh z0
 clear h hB x0 y0 z0
 have RA := lh (HR.out.below W0.out)
 go_enter Tryz.func60, Tryz.ntmps60
 go_wp2_with (go_at_call 24; refine (area_c _ w.heap.size r m ar RA.out W0.out.size (by omega) (by omega)).mono ?_; rintro e w1 ⟨s, rfl, hrd, hb1⟩; have B1 := lh hb1; obtain ⟨hx1, hy1, hz1, hfz1⟩ := three_rules hb1 X0.out Y0.out Z0.out; clear hrd hb1)
 refine bodyPost_ret (v := .tuple #[.agg #[.int .u64 r.e, .int .u64 r.f, .slice r.L.A r.L.n r.L.c, .slice r.P.A r.P.n r.P.c, .int .u64 r.h, .int .u64 r.t, .slice r.K.A r.K.n r.K.c, .slice r.X.A r.X.n r.X.c, .slice r.S.A r.S.n r.S.c], .int .u64 0, .bool false]) (by simp [results, Tryz.results60, go_sem, hz1]) rfl ?_
 have hr1 : Rm w1 w.heap.size r m := HR.out.below (W0.out.trans (B1.out.mono W0.out.size))
 have hbb := W0.out.trans (B1.out.mono W0.out.size)
 have hsz := B1.out.size
 have hr2 := rm_nine (b := w.heap.size + 1 + 1) hr1 (off_rm HR.out (by omega)) r
 exact ⟨r, by rw [HC.out], by rw [HC.out]; exact hr2.more (by simp only [size_set]; have := hbb.size; omega), below_nine hbb (by omega) _ _ _ _ _ _ _ _ _, fun b _ h => h⟩

set_option maxHeartbeats 2000000 in
theorem do_far (w : World) (B : Nat) (r : R) (m : M) (h : Rm w B r m) (hB : B <= w.heap.size) (d ar at_ old new : Int) (ha : -9223372036854775808 <= ar) (ha' : ar <= 9223372036854775807) (h0 : 0 <= at_) (h1 : (m.area ar).length <= at_) :
   Calls Tryz.prog 60 #[.agg #[.int .u64 r.e, .int .u64 r.f, .slice r.L.A r.L.n r.L.c, .slice r.P.A r.P.n r.P.c, .int .u64 r.h, .int .u64 r.t, .slice r.K.A r.K.n r.K.c, .slice r.X.A r.X.n r.X.c, .slice r.S.A r.S.n r.S.c], .agg #[.int .i64 d, .int .i64 ar, .int .i64 at_, .int .u64 old, .int .u64 new]] w (Did w r m ⟨d, ar, at_, old, new⟩) := by
 have HC : Hid (acc m ⟨d, ar, at_, old, new⟩ = (m, 0, false)) := lh (by unfold acc; rw [if_neg (fun hh => by have := hh.1.2; simp only at this; omega)])
 have h0' : decide (at_ < 0) = false := by simp; omega
 have HL := lh h1
 clear h1
 have HR : Hid (Rm w w.heap.size r m) := h.more hB
 have x0 : Blk (((w.alloc (.cells #[.int .u64 r.e, .int .u64 r.f, .slice r.L.A r.L.n r.L.c, .slice r.P.A r.P.n r.P.c, .int .u64 r.h, .int .u64 r.t, .slice r.K.A r.K.n r.K.c, .slice r.X.A r.X.n r.X.c, .slice r.S.A r.S.n r.S.c] 33)).alloc (.cells #[.int .i64 d, .int .i64 ar, .int .i64 at_, .int .u64 old, .int .u64 new] 66)).alloc (.cells zM 33)) w.heap.size 33 #[.int .u64 r.e, .int .u64 r.f, .slice r.L.A r.L.n r.L.c, .slice r.P.A r.P.n r.P.c, .int .u64 r.h, .int .u64 r.t, .slice r.K.A r.K.n r.K.c, .slice r.X.A r.X.n r.X.c, .slice r.S.A r.S.n r.S.c] := ((Blk.new _ _ _).alloc _).alloc _
 have y0 : Blk (((w.alloc (.cells #[.int .u64 r.e, .int .u64 r.f, .slice r.L.A r.L.n r.L.c, .slice r.P.A r.P.n r.P.c, .int .u64 r.h, .int .u64 r.t, .slice r.K.A r.K.n r.K.c, .slice r.X.A r.X.n r.X.c, .slice r.S.A r.S.n r.S.c] 33)).alloc (.cells #[.int .i64 d, .int .i64 ar, .int .i64 at_, .int .u64 old, .int .u64 new] 66)).alloc (.cells zM 33)) (w.heap.size + 1) 66 #[.int .i64 d, .int .i64 ar, .int .i64 at_, .int .u64 old, .int .u64 new] := (blk_at (by simp)).alloc _
 have z0 : Blk (((w.alloc (.cells #[.int .u64 r.e, .int .u64 r.f, .slice r.L.A r.L.n r.L.c, .slice r.P.A r.P.n r.P.c, .int .u64 r.h, .int .u64 r.t, .slice r.K.A r.K.n r.K.c, .slice r.X.A r.X.n r.X.c, .slice r.S.A r.S.n r.S.c] 33)).alloc (.cells #[.int .i64 d, .int .i64 ar, .int .i64 at_, .int .u64 old, .int .u64 new] 66)).alloc (.cells zM 33)) (w.heap.size + 1 + 1) 33 #[.int .u64 0, .int .u64 0, .slice none 0 0, .slice none 0 0, .int .u64 0, .int .u64 0, .slice none 0 0, .slice none 0 0, .slice none 0 0] := blk_at (by simp)
 have W0 : Hid (Below w.heap.size w (((w.alloc (.cells #[.int .u64 r.e, .int .u64 r.f, .slice r.L.A r.L.n r.L.c, .slice r.P.A r.P.n r.P.c, .int .u64 r.h, .int .u64 r.t, .slice r.K.A r.K.n r.K.c, .slice r.X.A r.X.n r.X.c, .slice r.S.A r.S.n r.S.c] 33)).alloc (.cells #[.int .i64 d, .int .i64 ar, .int .i64 at_, .int .u64 old, .int .u64 new] 66)).alloc (.cells zM 33))) := lh ((((Below.refl _ _).alloc (Nat.le_refl _) _).alloc (by simp) _).alloc (by simp; omega) _)
 have X0 := lh x0
 have Y0 := lh y0
 have Z0 := lh z0
 clear h hB x0 y0 z0
 have RA := lh (HR.out.below W0.out)
 go_enter Tryz.func60, Tryz.ntmps60
 go_wp2_with (go_at_call 24; refine (area_c _ w.heap.size r m ar RA.out W0.out.size (by omega) (by omega)).mono ?_; rintro e w1 ⟨s, rfl, hrd, hb1⟩; have B1 := lh hb1; obtain ⟨hx1, hy1, hz1, hfz1⟩ := three_rules hb1 X0.out Y0.out Z0.out; have hn : (s.n : Int) <= at_ := (by have := hrd.1; have := HL.out; omega); have hm : (s.n : Int) <= 9223372036854775807 := (by have := hrd.2.1; have := hrd.2.2.1; unfold maxLen at this; omega); clear hrd hb1)
 refine bodyPost_ret (v := .tuple #[.agg #[.int .u64 r.e, .int .u64 r.f, .slice r.L.A r.L.n r.L.c, .slice r.P.A r.P.n r.P.c, .int .u64 r.h, .int .u64 r.t, .slice r.K.A r.K.n r.K.c, .slice r.X.A r.X.n r.X.c, .slice r.S.A r.S.n r.S.c], .int .u64 0, .bool false]) (by simp [results, Tryz.results60, go_sem, hz1]) rfl ?_
 have hr1 : Rm w1 w.heap.size r m := HR.out.below (W0.out.trans (B1.out.mono W0.out.size))
 have hbb := W0.out.trans (B1.out.mono W0.out.size)
 have hsz := B1.out.size
 have hr2 := rm_nine (b := w.heap.size + 1 + 1) hr1 (off_rm HR.out (by omega)) r
 exact ⟨r, by rw [HC.out], by rw [HC.out]; exact hr2.more (by simp only [size_set]; have := hbb.size; omega), below_nine hbb (by omega) _ _ _ _ _ _ _ _ _, fun b _ h => h⟩

set_option maxHeartbeats 2000000 in
theorem do_low (w : World) (B : Nat) (r : R) (m : M) (h : Rm w B r m) (hB : B <= w.heap.size) (d ar at_ old new : Int) (ha : -9223372036854775808 <= ar) (ha' : ar <= 9223372036854775807) (h0 : 0 <= at_) (h1 : at_ < (m.area ar).length) (h2 : d < 1) :
   Calls Tryz.prog 60 #[.agg #[.int .u64 r.e, .int .u64 r.f, .slice r.L.A r.L.n r.L.c, .slice r.P.A r.P.n r.P.c, .int .u64 r.h, .int .u64 r.t, .slice r.K.A r.K.n r.K.c, .slice r.X.A r.X.n r.X.c, .slice r.S.A r.S.n r.S.c], .agg #[.int .i64 d, .int .i64 ar, .int .i64 at_, .int .u64 old, .int .u64 new]] w (Did w r m ⟨d, ar, at_, old, new⟩) := by
 have HC : Hid (acc m ⟨d, ar, at_, old, new⟩ = (m, 0, false)) := lh (by unfold acc; rw [if_neg (fun hh => by have := hh.2.1; simp only at this; omega)])
 have h0' : decide (at_ < 0) = false := by simp; omega
 have HL := lh h1
 clear h1
 have HR : Hid (Rm w w.heap.size r m) := h.more hB
 have x0 : Blk (((w.alloc (.cells #[.int .u64 r.e, .int .u64 r.f, .slice r.L.A r.L.n r.L.c, .slice r.P.A r.P.n r.P.c, .int .u64 r.h, .int .u64 r.t, .slice r.K.A r.K.n r.K.c, .slice r.X.A r.X.n r.X.c, .slice r.S.A r.S.n r.S.c] 33)).alloc (.cells #[.int .i64 d, .int .i64 ar, .int .i64 at_, .int .u64 old, .int .u64 new] 66)).alloc (.cells zM 33)) w.heap.size 33 #[.int .u64 r.e, .int .u64 r.f, .slice r.L.A r.L.n r.L.c, .slice r.P.A r.P.n r.P.c, .int .u64 r.h, .int .u64 r.t, .slice r.K.A r.K.n r.K.c, .slice r.X.A r.X.n r.X.c, .slice r.S.A r.S.n r.S.c] := ((Blk.new _ _ _).alloc _).alloc _
 have y0 : Blk (((w.alloc (.cells #[.int .u64 r.e, .int .u64 r.f, .slice r.L.A r.L.n r.L.c, .slice r.P.A r.P.n r.P.c, .int .u64 r.h, .int .u64 r.t, .slice r.K.A r.K.n r.K.c, .slice r.X.A r.X.n r.X.c, .slice r.S.A r.S.n r.S.c] 33)).alloc (.cells #[.int .i64 d, .int .i64 ar, .int .i64 at_, .int .u64 old, .int .u64 new] 66)).alloc (.cells zM 33)) (w.heap.size + 1) 66 #[.int .i64 d, .int .i64 ar, .int .i64 at_, .int .u64 old, .int .u64 new] := (blk_at (by simp)).alloc _
 have z0 : Blk (((w.alloc (.cells #[.int .u64 r.e, .int .u64 r.f, .slice r.L.A r.L.n r.L.c, .slice r.P.A r.P.n r.P.c, .int .u64 r.h, .int .u64 r.t, .slice r.K.A r.K.n r.K.c, .slice r.X.A r.X.n r.X.c, .slice r.S.A r.S.n r.S.c] 33)).alloc (.cells #[.int .i64 d, .int .i64 ar, .int .i64 at_, .int .u64 old, .int .u64 new] 66)).alloc (.cells zM 33)) (w.heap.size + 1 + 1) 33 #[.int .u64 0, .int .u64 0, .slice none 0 0, .slice none 0 0, .int .u64 0, .int .u64 0, .slice none 0 0, .slice none 0 0, .slice none 0 0] := blk_at (by simp)
 have W0 : Hid (Below w.heap.size w (((w.alloc (.cells #[.int .u64 r.e, .int .u64 r.f, .slice r.L.A r.L.n r.L.c, .slice r.P.A r.P.n r.P.c, .int .u64 r.h, .int .u64 r.t, .slice r.K.A r.K.n r.K.c, .slice r.X.A r.X.n r.X.c, .slice r.S.A r.S.n r.S.c] 33)).alloc (.cells #[.int .i64 d, .int .i64 ar, .int .i64 at_, .int .u64 old, .int .u64 new] 66)).alloc (.cells zM 33))) := lh ((((Below.refl _ _).alloc (Nat.le_refl _) _).alloc (by simp) _).alloc (by simp; omega) _)
 have X0 := lh x0
 have Y0 := lh y0
 have Z0 := lh z0
 clear h hB x0 y0 z0
 have RA := lh (HR.out.below W0.out)
 go_enter Tryz.func60, Tryz.ntmps60
 go_wp2_with (go_at_call 24; refine (area_c _ w.heap.size r m ar RA.out W0.out.size (by omega) (by omega)).mono ?_; rintro e w1 ⟨s, rfl, hrd, hb1⟩; have B1 := lh hb1; obtain ⟨hx1, hy1, hz1, hfz1⟩ := three_rules hb1 X0.out Y0.out Z0.out; have hn : at_ < (s.n : Int) := (by have := hrd.1; have := HL.out; omega); have hm : (s.n : Int) <= 9223372036854775807 := (by have := hrd.2.1; have := hrd.2.2.1; unfold maxLen at this; omega); clear hrd hb1)
 refine bodyPost_ret (v := .tuple #[.agg #[.int .u64 r.e, .int .u64 r.f, .slice r.L.A r.L.n r.L.c, .slice r.P.A r.P.n r.P.c, .int .u64 r.h, .int .u64 r.t, .slice r.K.A r.K.n r.K.c, .slice r.X.A r.X.n r.X.c, .slice r.S.A r.S.n r.S.c], .int .u64 0, .bool false]) (by simp [results, Tryz.results60, go_sem, hz1]) rfl ?_
 have hr1 : Rm w1 w.heap.size r m := HR.out.below (W0.out.trans (B1.out.mono W0.out.size))
 have hbb := W0.out.trans (B1.out.mono W0.out.size)
 have hsz := B1.out.size
 have hr2 := rm_nine (b := w.heap.size + 1 + 1) hr1 (off_rm HR.out (by omega)) r
 exact ⟨r, by rw [HC.out], by rw [HC.out]; exact hr2.more (by simp only [size_set]; have := hbb.size; omega), below_nine hbb (by omega) _ _ _ _ _ _ _ _ _, fun b _ h => h⟩

set_option maxHeartbeats 2000000 in
theorem do_high (w : World) (B : Nat) (r : R) (m : M) (h : Rm w B r m) (hB : B <= w.heap.size) (d ar at_ old new : Int) (ha : -9223372036854775808 <= ar) (ha' : ar <= 9223372036854775807) (h0 : 0 <= at_) (h1 : at_ < (m.area ar).length) (h2 : 3 < d) :
   Calls Tryz.prog 60 #[.agg #[.int .u64 r.e, .int .u64 r.f, .slice r.L.A r.L.n r.L.c, .slice r.P.A r.P.n r.P.c, .int .u64 r.h, .int .u64 r.t, .slice r.K.A r.K.n r.K.c, .slice r.X.A r.X.n r.X.c, .slice r.S.A r.S.n r.S.c], .agg #[.int .i64 d, .int .i64 ar, .int .i64 at_, .int .u64 old, .int .u64 new]] w (Did w r m ⟨d, ar, at_, old, new⟩) := by
 have HC : Hid (acc m ⟨d, ar, at_, old, new⟩ = (m, 0, false)) := lh (by unfold acc; rw [if_neg (fun hh => by have := hh.2.2; simp only at this; omega)])
 have h0' : decide (at_ < 0) = false := by simp; omega
 have HL := lh h1
 clear h1
 have HR : Hid (Rm w w.heap.size r m) := h.more hB
 have x0 : Blk (((w.alloc (.cells #[.int .u64 r.e, .int .u64 r.f, .slice r.L.A r.L.n r.L.c, .slice r.P.A r.P.n r.P.c, .int .u64 r.h, .int .u64 r.t, .slice r.K.A r.K.n r.K.c, .slice r.X.A r.X.n r.X.c, .slice r.S.A r.S.n r.S.c] 33)).alloc (.cells #[.int .i64 d, .int .i64 ar, .int .i64 at_, .int .u64 old, .int .u64 new] 66)).alloc (.cells zM 33)) w.heap.size 33 #[.int .u64 r.e, .int .u64 r.f, .slice r.L.A r.L.n r.L.c, .slice r.P.A r.P.n r.P.c, .int .u64 r.h, .int .u64 r.t, .slice r.K.A r.K.n r.K.c, .slice r.X.A r.X.n r.X.c, .slice r.S.A r.S.n r.S.c] := ((Blk.new _ _ _).alloc _).alloc _
 have y0 : Blk (((w.alloc (.cells #[.int .u64 r.e, .int .u64 r.f, .slice r.L.A r.L.n r.L.c, .slice r.P.A r.P.n r.P.c, .int .u64 r.h, .int .u64 r.t, .slice r.K.A r.K.n r.K.c, .slice r.X.A r.X.n r.X.c, .slice r.S.A r.S.n r.S.c] 33)).alloc (.cells #[.int .i64 d, .int .i64 ar, .int .i64 at_, .int .u64 old, .int .u64 new] 66)).alloc (.cells zM 33)) (w.heap.size + 1) 66 #[.int .i64 d, .int .i64 ar, .int .i64 at_, .int .u64 old, .int .u64 new] := (blk_at (by simp)).alloc _
 have z0 : Blk (((w.alloc (.cells #[.int .u64 r.e, .int .u64 r.f, .slice r.L.A r.L.n r.L.c, .slice r.P.A r.P.n r.P.c, .int .u64 r.h, .int .u64 r.t, .slice r.K.A r.K.n r.K.c, .slice r.X.A r.X.n r.X.c, .slice r.S.A r.S.n r.S.c] 33)).alloc (.cells #[.int .i64 d, .int .i64 ar, .int .i64 at_, .int .u64 old, .int .u64 new] 66)).alloc (.cells zM 33)) (w.heap.size + 1 + 1) 33 #[.int .u64 0, .int .u64 0, .slice none 0 0, .slice none 0 0, .int .u64 0, .int .u64 0, .slice none 0 0, .slice none 0 0, .slice none 0 0] := blk_at (by simp)
 have W0 : Hid (Below w.heap.size w (((w.alloc (.cells #[.int .u64 r.e, .int .u64 r.f, .slice r.L.A r.L.n r.L.c, .slice r.P.A r.P.n r.P.c, .int .u64 r.h, .int .u64 r.t, .slice r.K.A r.K.n r.K.c, .slice r.X.A r.X.n r.X.c, .slice r.S.A r.S.n r.S.c] 33)).alloc (.cells #[.int .i64 d, .int .i64 ar, .int .i64 at_, .int .u64 old, .int .u64 new] 66)).alloc (.cells zM 33))) := lh ((((Below.refl _ _).alloc (Nat.le_refl _) _).alloc (by simp) _).alloc (by simp; omega) _)
 have X0 := lh x0
 have Y0 := lh y0
 have Z0 := lh z0
 clear h hB x0 y0 z0
 have RA := lh (HR.out.below W0.out)
 go_enter Tryz.func60, Tryz.ntmps60
 go_wp2_with (go_at_call 24; refine (area_c _ w.heap.size r m ar RA.out W0.out.size (by omega) (by omega)).mono ?_; rintro e w1 ⟨s, rfl, hrd, hb1⟩; have B1 := lh hb1; obtain ⟨hx1, hy1, hz1, hfz1⟩ := three_rules hb1 X0.out Y0.out Z0.out; have hn : at_ < (s.n : Int) := (by have := hrd.1; have := HL.out; omega); have hm : (s.n : Int) <= 9223372036854775807 := (by have := hrd.2.1; have := hrd.2.2.1; unfold maxLen at this; omega); clear hrd hb1)
 refine bodyPost_ret (v := .tuple #[.agg #[.int .u64 r.e, .int .u64 r.f, .slice r.L.A r.L.n r.L.c, .slice r.P.A r.P.n r.P.c, .int .u64 r.h, .int .u64 r.t, .slice r.K.A r.K.n r.K.c, .slice r.X.A r.X.n r.X.c, .slice r.S.A r.S.n r.S.c], .int .u64 0, .bool false]) (by simp [results, Tryz.results60, go_sem, hz1]) rfl ?_
 have hr1 : Rm w1 w.heap.size r m := HR.out.below (W0.out.trans (B1.out.mono W0.out.size))
 have hbb := W0.out.trans (B1.out.mono W0.out.size)
 have hsz := B1.out.size
 have hr2 := rm_nine (b := w.heap.size + 1 + 1) hr1 (off_rm HR.out (by omega)) r
 exact ⟨r, by rw [HC.out], by rw [HC.out]; exact hr2.more (by simp only [size_set]; have := hbb.size; omega), below_nine hbb (by omega) _ _ _ _ _ _ _ _ _, fun b _ h => h⟩
end Go.Proofs.YtffppdcpiieapaaGreat.Refc

namespace Go.Proofs.YtffppdcpiieapaaGreat.Refc
open Go.RowKit Memc
set_option linter.unusedVariables false
set_option maxRecDepth 100000

set_option maxHeartbeats 2000000 in
theorem do_read (w : World) (B : Nat) (r : R) (m : M) (h : Rm w B r m) (hB : B <= w.heap.size) (ar old new : Int) (k : Nat) (x : Int) (ha : -9223372036854775808 <= ar) (ha' : ar <= 9223372036854775807) (hk : k < (m.area ar).length) (hk6 : (k : Int) <= 9223372036854775807) (hx : Memc.get m ar k = x)  :
   Calls Tryz.prog 60 #[.agg #[.int .u64 r.e, .int .u64 r.f, .slice r.L.A r.L.n r.L.c, .slice r.P.A r.P.n r.P.c, .int .u64 r.h, .int .u64 r.t, .slice r.K.A r.K.n r.K.c, .slice r.X.A r.X.n r.X.c, .slice r.S.A r.S.n r.S.c], .agg #[.int .i64 1, .int .i64 ar, .int .i64 (k : Int), .int .u64 old, .int .u64 new]] w (Did w r m ⟨1, ar, k, old, new⟩) := by
 have HC : Hid (acc m ⟨1, ar, k, old, new⟩ = (m, x, false)) := lh (by rw [<- hx]; unfold acc; rw [if_pos ⟨⟨by simp, by simpa using hk⟩, by simp⟩, if_pos (.inl rfl)])
 have HX : Hid ((m.area ar).getD k 0 = x) := lh (by simpa [Memc.get] using hx)
 have HK := lh hk
 have hk0 : (0 : Int) <= (k : Int) := by omega
 have hk63 : (k : Int) <= 9223372036854775807 := hk6
 clear hx hk hk6
 have HR : Hid (Rm w w.heap.size r m) := h.more hB
 have x0 : Blk (((w.alloc (.cells #[.int .u64 r.e, .int .u64 r.f, .slice r.L.A r.L.n r.L.c, .slice r.P.A r.P.n r.P.c, .int .u64 r.h, .int .u64 r.t, .slice r.K.A r.K.n r.K.c, .slice r.X.A r.X.n r.X.c, .slice r.S.A r.S.n r.S.c] 33)).alloc (.cells #[.int .i64 1, .int .i64 ar, .int .i64 (k : Int), .int .u64 old, .int .u64 new] 66)).alloc (.cells zM 33)) w.heap.size 33 #[.int .u64 r.e, .int .u64 r.f, .slice r.L.A r.L.n r.L.c, .slice r.P.A r.P.n r.P.c, .int .u64 r.h, .int .u64 r.t, .slice r.K.A r.K.n r.K.c, .slice r.X.A r.X.n r.X.c, .slice r.S.A r.S.n r.S.c] := ((Blk.new _ _ _).alloc _).alloc _
 have y0 : Blk (((w.alloc (.cells #[.int .u64 r.e, .int .u64 r.f, .slice r.L.A r.L.n r.L.c, .slice r.P.A r.P.n r.P.c, .int .u64 r.h, .int .u64 r.t, .slice r.K.A r.K.n r.K.c, .slice r.X.A r.X.n r.X.c, .slice r.S.A r.S.n r.S.c] 33)).alloc (.cells #[.int .i64 1, .int .i64 ar, .int .i64 (k : Int), .int .u64 old, .int .u64 new] 66)).alloc (.cells zM 33)) (w.heap.size + 1) 66 #[.int .i64 1, .int .i64 ar, .int .i64 (k : Int), .int .u64 old, .int .u64 new] := (blk_at (by simp)).alloc _
 have z0 : Blk (((w.alloc (.cells #[.int .u64 r.e, .int .u64 r.f, .slice r.L.A r.L.n r.L.c, .slice r.P.A r.P.n r.P.c, .int .u64 r.h, .int .u64 r.t, .slice r.K.A r.K.n r.K.c, .slice r.X.A r.X.n r.X.c, .slice r.S.A r.S.n r.S.c] 33)).alloc (.cells #[.int .i64 1, .int .i64 ar, .int .i64 (k : Int), .int .u64 old, .int .u64 new] 66)).alloc (.cells zM 33)) (w.heap.size + 1 + 1) 33 #[.int .u64 0, .int .u64 0, .slice none 0 0, .slice none 0 0, .int .u64 0, .int .u64 0, .slice none 0 0, .slice none 0 0, .slice none 0 0] := blk_at (by simp)
 have W0 : Hid (Below w.heap.size w (((w.alloc (.cells #[.int .u64 r.e, .int .u64 r.f, .slice r.L.A r.L.n r.L.c, .slice r.P.A r.P.n r.P.c, .int .u64 r.h, .int .u64 r.t, .slice r.K.A r.K.n r.K.c, .slice r.X.A r.X.n r.X.c, .slice r.S.A r.S.n r.S.c] 33)).alloc (.cells #[.int .i64 1, .int .i64 ar, .int .i64 (k : Int), .int .u64 old, .int .u64 new] 66)).alloc (.cells zM 33))) := lh ((((Below.refl _ _).alloc (Nat.le_refl _) _).alloc (by simp) _).alloc (by simp; omega) _)
 have X0 := lh x0
 have Y0 := lh y0
 have Z0 := lh z0
 clear h hB x0 y0 z0
 have RA := lh (HR.out.below W0.out)
 go_enter Tryz.func60, Tryz.ntmps60
 go_wp2_with (go_at_call 24; refine (area_c _ w.heap.size r m ar RA.out W0.out.size (by omega) (by omega)).mono ?_; rintro e w1 ⟨s, rfl, hrd, hb1⟩; have B1 := lh hb1; obtain ⟨hx1, hy1, hz1, hfz1⟩ := three_rules hb1 X0.out Y0.out Z0.out; have HRD := lh hrd; go_must (obtain ⟨A, n, cp⟩ := s; obtain ⟨ad, hA, hlt, hcell⟩ := hrd.at_ HK.out; (have hA : A = some ad := hA); subst hA; rw [HX.out] at hcell); go_must (have hn : (k : Int) < (n : Int) := (by have h1 : n = (m.area ar).length := hrd.1; have := HK.out; omega)); go_must (have hm : (n : Int) <= 9223372036854775807 := (by have h1 : n <= maxLen := Nat.le_trans hrd.2.1 hrd.2.2.1; unfold maxLen at h1; omega)); clear hrd hb1 hlt)
 refine bodyPost_ret (v := .tuple #[.agg #[.int .u64 r.e, .int .u64 r.f, .slice r.L.A r.L.n r.L.c, .slice r.P.A r.P.n r.P.c, .int .u64 r.h, .int .u64 r.t, .slice r.K.A r.K.n r.K.c, .slice r.X.A r.X.n r.X.c, .slice r.S.A r.S.n r.S.c], .int .u64 x, .bool false]) (by simp [results, Tryz.results60, go_sem, hz1]) rfl ?_
 have hr1 : Rm w1 w.heap.size r m := HR.out.below (W0.out.trans (B1.out.mono W0.out.size))
 have hbb := W0.out.trans (B1.out.mono W0.out.size)
 have hsz := B1.out.size
 have hr2 := rm_nine (b := w.heap.size + 1 + 1) hr1 (off_rm HR.out (by omega)) r
 exact ⟨r, by rw [HC.out], by rw [HC.out]; exact hr2.more (by simp only [size_set]; have := hbb.size; omega), below_nine hbb (by omega) _ _ _ _ _ _ _ _ _, fun b _ h => h⟩

set_option maxHeartbeats 2000000 in
theorem do_stays (w : World) (B : Nat) (r : R) (m : M) (h : Rm w B r m) (hB : B <= w.heap.size) (ar old new : Int) (k : Nat) (x : Int) (ha : -9223372036854775808 <= ar) (ha' : ar <= 9223372036854775807) (hk : k < (m.area ar).length) (hk6 : (k : Int) <= 9223372036854775807) (hx : Memc.get m ar k = x) (hne : ¬ x = old) :
   Calls Tryz.prog 60 #[.agg #[.int .u64 r.e, .int .u64 r.f, .slice r.L.A r.L.n r.L.c, .slice r.P.A r.P.n r.P.c, .int .u64 r.h, .int .u64 r.t, .slice r.K.A r.K.n r.K.c, .slice r.X.A r.X.n r.X.c, .slice r.S.A r.S.n r.S.c], .agg #[.int .i64 3, .int .i64 ar, .int .i64 (k : Int), .int .u64 old, .int .u64 new]] w (Did w r m ⟨3, ar, k, old, new⟩) := by
 have HC : Hid (acc m ⟨3, ar, k, old, new⟩ = (m, x, false)) := lh (by rw [<- hx]; unfold acc; rw [if_pos ⟨⟨by simp, by simpa using hk⟩, by simp⟩, if_pos (.inr ⟨rfl, by rw [hx]; exact hne⟩)])
 have hq : (x != old) = true := by simp [hne]
 clear hne
 have HX : Hid ((m.area ar).getD k 0 = x) := lh (by simpa [Memc.get] using hx)
 have HK := lh hk
 have hk0 : (0 : Int) <= (k : Int) := by omega
 have hk63 : (k : Int) <= 9223372036854775807 := hk6
 clear hx hk hk6
 have HR : Hid (Rm w w.heap.size r m) := h.more hB
 have x0 : Blk (((w.alloc (.cells #[.int .u64 r.e, .int .u64 r.f, .slice r.L.A r.L.n r.L.c, .slice r.P.A r.P.n r.P.c, .int .u64 r.h, .int .u64 r.t, .slice r.K.A r.K.n r.K.c, .slice r.X.A r.X.n r.X.c, .slice r.S.A r.S.n r.S.c] 33)).alloc (.cells #[.int .i64 3, .int .i64 ar, .int .i64 (k : Int), .int .u64 old, .int .u64 new] 66)).alloc (.cells zM 33)) w.heap.size 33 #[.int .u64 r.e, .int .u64 r.f, .slice r.L.A r.L.n r.L.c, .slice r.P.A r.P.n r.P.c, .int .u64 r.h, .int .u64 r.t, .slice r.K.A r.K.n r.K.c, .slice r.X.A r.X.n r.X.c, .slice r.S.A r.S.n r.S.c] := ((Blk.new _ _ _).alloc _).alloc _
 have y0 : Blk (((w.alloc (.cells #[.int .u64 r.e, .int .u64 r.f, .slice r.L.A r.L.n r.L.c, .slice r.P.A r.P.n r.P.c, .int .u64 r.h, .int .u64 r.t, .slice r.K.A r.K.n r.K.c, .slice r.X.A r.X.n r.X.c, .slice r.S.A r.S.n r.S.c] 33)).alloc (.cells #[.int .i64 3, .int .i64 ar, .int .i64 (k : Int), .int .u64 old, .int .u64 new] 66)).alloc (.cells zM 33)) (w.heap.size + 1) 66 #[.int .i64 3, .int .i64 ar, .int .i64 (k : Int), .int .u64 old, .int .u64 new] := (blk_at (by simp)).alloc _
 have z0 : Blk (((w.alloc (.cells #[.int .u64 r.e, .int .u64 r.f, .slice r.L.A r.L.n r.L.c, .slice r.P.A r.P.n r.P.c, .int .u64 r.h, .int .u64 r.t, .slice r.K.A r.K.n r.K.c, .slice r.X.A r.X.n r.X.c, .slice r.S.A r.S.n r.S.c] 33)).alloc (.cells #[.int .i64 3, .int .i64 ar, .int .i64 (k : Int), .int .u64 old, .int .u64 new] 66)).alloc (.cells zM 33)) (w.heap.size + 1 + 1) 33 #[.int .u64 0, .int .u64 0, .slice none 0 0, .slice none 0 0, .int .u64 0, .int .u64 0, .slice none 0 0, .slice none 0 0, .slice none 0 0] := blk_at (by simp)
 have W0 : Hid (Below w.heap.size w (((w.alloc (.cells #[.int .u64 r.e, .int .u64 r.f, .slice r.L.A r.L.n r.L.c, .slice r.P.A r.P.n r.P.c, .int .u64 r.h, .int .u64 r.t, .slice r.K.A r.K.n r.K.c, .slice r.X.A r.X.n r.X.c, .slice r.S.A r.S.n r.S.c] 33)).alloc (.cells #[.int .i64 3, .int .i64 ar, .int .i64 (k : Int), .int .u64 old, .int .u64 new] 66)).alloc (.cells zM 33))) := lh ((((Below.refl _ _).alloc (Nat.le_refl _) _).alloc (by simp) _).alloc (by simp; omega) _)
 have X0 := lh x0
 have Y0 := lh y0
 have Z0 := lh z0
 clear h hB x0 y0 z0
 have RA := lh (HR.out.below W0.out)
 go_enter Tryz.func60, Tryz.ntmps60
 go_wp2_with (go_at_call 24; refine (area_c _ w.heap.size r m ar RA.out W0.out.size (by omega) (by omega)).mono ?_; rintro e w1 ⟨s, rfl, hrd, hb1⟩; have B1 := lh hb1; obtain ⟨hx1, hy1, hz1, hfz1⟩ := three_rules hb1 X0.out Y0.out Z0.out; have HRD := lh hrd; go_must (obtain ⟨A, n, cp⟩ := s; obtain ⟨ad, hA, hlt, hcell⟩ := hrd.at_ HK.out; (have hA : A = some ad := hA); subst hA; rw [HX.out] at hcell); go_must (have hn : (k : Int) < (n : Int) := (by have h1 : n = (m.area ar).length := hrd.1; have := HK.out; omega)); go_must (have hm : (n : Int) <= 9223372036854775807 := (by have h1 : n <= maxLen := Nat.le_trans hrd.2.1 hrd.2.2.1; unfold maxLen at h1; omega)); clear hrd hb1 hlt)
 refine bodyPost_ret (v := .tuple #[.agg #[.int .u64 r.e, .int .u64 r.f, .slice r.L.A r.L.n r.L.c, .slice r.P.A r.P.n r.P.c, .int .u64 r.h, .int .u64 r.t, .slice r.K.A r.K.n r.K.c, .slice r.X.A r.X.n r.X.c, .slice r.S.A r.S.n r.S.c], .int .u64 x, .bool false]) (by simp [results, Tryz.results60, go_sem, hz1]) rfl ?_
 have hr1 : Rm w1 w.heap.size r m := HR.out.below (W0.out.trans (B1.out.mono W0.out.size))
 have hbb := W0.out.trans (B1.out.mono W0.out.size)
 have hsz := B1.out.size
 have hr2 := rm_nine (b := w.heap.size + 1 + 1) hr1 (off_rm HR.out (by omega)) r
 exact ⟨r, by rw [HC.out], by rw [HC.out]; exact hr2.more (by simp only [size_set]; have := hbb.size; omega), below_nine hbb (by omega) _ _ _ _ _ _ _ _ _, fun b _ h => h⟩

set_option maxHeartbeats 4000000 in
theorem do_write (w : World) (B : Nat) (r : R) (m : M) (h : Rm w B r m) (hB : B <= w.heap.size) (ar old new : Int) (k : Nat) (x : Int) (ha : -9223372036854775808 <= ar) (ha' : ar <= 9223372036854775807) (hk : k < (m.area ar).length) (hk6 : (k : Int) <= 9223372036854775807) (hx : Memc.get m ar k = x) (hf : Few m) (hv : 0 <= new /\ new <= 18446744073709551615)  :
   Calls Tryz.prog 60 #[.agg #[.int .u64 r.e, .int .u64 r.f, .slice r.L.A r.L.n r.L.c, .slice r.P.A r.P.n r.P.c, .int .u64 r.h, .int .u64 r.t, .slice r.K.A r.K.n r.K.c, .slice r.X.A r.X.n r.X.c, .slice r.S.A r.S.n r.S.c], .agg #[.int .i64 2, .int .i64 ar, .int .i64 (k : Int), .int .u64 old, .int .u64 new]] w (Did w r m ⟨2, ar, k, old, new⟩) := by
 have HC : Hid (acc m ⟨2, ar, k, old, new⟩ = (set m ar k new, x, true)) := lh (by rw [<- hx]; unfold acc; rw [if_pos ⟨⟨by simp, by simpa using hk⟩, by simp⟩, if_neg (by simp)])
 have HF := lh hf
 have HV := lh hv
 have har : 1 <= ar /\ ar <= 9 := by
   by_cases ho : ar < 1 \/ 9 < ar
   · rw [area_no m ar ho] at hk; simp at hk
   · omega
 obtain ⟨ar1, ar9⟩ := har
 clear hf hv
 have HX : Hid ((m.area ar).getD k 0 = x) := lh (by simpa [Memc.get] using hx)
 have HK := lh hk
 have hk0 : (0 : Int) <= (k : Int) := by omega
 have hk63 : (k : Int) <= 9223372036854775807 := hk6
 clear hx hk hk6
 have HR : Hid (Rm w w.heap.size r m) := h.more hB
 have x0 : Blk (((w.alloc (.cells #[.int .u64 r.e, .int .u64 r.f, .slice r.L.A r.L.n r.L.c, .slice r.P.A r.P.n r.P.c, .int .u64 r.h, .int .u64 r.t, .slice r.K.A r.K.n r.K.c, .slice r.X.A r.X.n r.X.c, .slice r.S.A r.S.n r.S.c] 33)).alloc (.cells #[.int .i64 2, .int .i64 ar, .int .i64 (k : Int), .int .u64 old, .int .u64 new] 66)).alloc (.cells zM 33)) w.heap.size 33 #[.int .u64 r.e, .int .u64 r.f, .slice r.L.A r.L.n r.L.c, .slice r.P.A r.P.n r.P.c, .int .u64 r.h, .int .u64 r.t, .slice r.K.A r.K.n r.K.c, .slice r.X.A r.X.n r.X.c, .slice r.S.A r.S.n r.S.c] := ((Blk.new _ _ _).alloc _).alloc _
 have y0 : Blk (((w.alloc (.cells #[.int .u64 r.e, .int .u64 r.f, .slice r.L.A r.L.n r.L.c, .slice r.P.A r.P.n r.P.c, .int .u64 r.h, .int .u64 r.t, .slice r.K.A r.K.n r.K.c, .slice r.X.A r.X.n r.X.c, .slice r.S.A r.S.n r.S.c] 33)).alloc (.cells #[.int .i64 2, .int .i64 ar, .int .i64 (k : Int), .int .u64 old, .int .u64 new] 66)).alloc (.cells zM 33)) (w.heap.size + 1) 66 #[.int .i64 2, .int .i64 ar, .int .i64 (k : Int), .int .u64 old, .int .u64 new] := (blk_at (by simp)).alloc _
 have z0 : Blk (((w.alloc (.cells #[.int .u64 r.e, .int .u64 r.f, .slice r.L.A r.L.n r.L.c, .slice r.P.A r.P.n r.P.c, .int .u64 r.h, .int .u64 r.t, .slice r.K.A r.K.n r.K.c, .slice r.X.A r.X.n r.X.c, .slice r.S.A r.S.n r.S.c] 33)).alloc (.cells #[.int .i64 2, .int .i64 ar, .int .i64 (k : Int), .int .u64 old, .int .u64 new] 66)).alloc (.cells zM 33)) (w.heap.size + 1 + 1) 33 #[.int .u64 0, .int .u64 0, .slice none 0 0, .slice none 0 0, .int .u64 0, .int .u64 0, .slice none 0 0, .slice none 0 0, .slice none 0 0] := blk_at (by simp)
 have W0 : Hid (Below w.heap.size w (((w.alloc (.cells #[.int .u64 r.e, .int .u64 r.f, .slice r.L.A r.L.n r.L.c, .slice r.P.A r.P.n r.P.c, .int .u64 r.h, .int .u64 r.t, .slice r.K.A r.K.n r.K.c, .slice r.X.A r.X.n r.X.c, .slice r.S.A r.S.n r.S.c] 33)).alloc (.cells #[.int .i64 2, .int .i64 ar, .int .i64 (k : Int), .int .u64 old, .int .u64 new] 66)).alloc (.cells zM 33))) := lh ((((Below.refl _ _).alloc (Nat.le_refl _) _).alloc (by simp) _).alloc (by simp; omega) _)
 have X0 := lh x0
 have Y0 := lh y0
 have Z0 := lh z0
 clear h hB x0 y0 z0
 have RA := lh (HR.out.below W0.out)
 go_enter Tryz.func60, Tryz.ntmps60
 go_wp2_with (first | (go_at_call 24; refine (area_c _ w.heap.size r m ar RA.out W0.out.size (by omega) (by omega)).mono ?_; rintro e w1 ⟨s, rfl, hrd, hb1⟩; have B1 := lh hb1; obtain ⟨hx1, hy1, hz1, hfz1⟩ := three_rules hb1 X0.out Y0.out Z0.out; have X1 := lh (X0.out.below hb1 X0.out.lt); have Y1 := lh (Y0.out.below hb1 Y0.out.lt); have Z1 := lh (Z0.out.below hb1 Z0.out.lt); have HRD := lh hrd; go_must (obtain ⟨A, n, cp⟩ := s; obtain ⟨ad, hA, hlt, hcell⟩ := hrd.at_ HK.out; (have hA : A = some ad := hA); subst hA; rw [HX.out] at hcell); go_must (have hn : (k : Int) < (n : Int) := (by have h1 : n = (m.area ar).length := hrd.1; have := HK.out; omega)); go_must (have hm : (n : Int) <= 9223372036854775807 := (by have h1 : n <= maxLen := Nat.le_trans hrd.2.1 hrd.2.2.1; unfold maxLen at h1; omega)); clear hrd hb1 hlt) | (at_builtin; refine wpList_app (by rfl) (.tmp 56) (.tmp 57) (by rfl) w1.heap.size w1.heap.size ⟨some ⟨w1.heap.size, 0, none⟩, 0, 0⟩ ⟨some ad, n, cp⟩ [] (m.area ar) (by rfl) (by rfl) (made_empty (Nat.le_refl _)) (HRD.out.alloc (Nat.le_refl _) _) (by have := few_area HF.out ar; simp; omega) (by simp) ?_; intro s2 w2 ho2 hb2; simp only [List.nil_append] at ho2; have HO2 := lh ho2; go_must (have B2 : Hid (Below w1.heap.size w1 w2) := lh (((Below.refl w1.heap.size w1).alloc (Nat.le_refl _) _).trans hb2)); clear ho2 hb2; go_must (obtain ⟨A2, n2, cp2⟩ := s2; obtain ⟨g2, hA2, hg2, hg2', hc2, hf2⟩ := HO2.out.at_ HK.out; (have hA2 : A2 = some ⟨g2, 0, none⟩ := hA2); subst hA2); go_must (have hl2 := Z1.out.lt; obtain ⟨hx2, hy2, hz2, hfz2⟩ := three_rules B2.out X1.out Y1.out Z1.out; have hne0 : ¬ g2 = w.heap.size := (by omega); have hne1 : ¬ g2 = w.heap.size + 1 := (by omega); have hne2 : ¬ g2 = w.heap.size + 1 + 1 := (by omega)); clear hx1 hy1 hz1 hfz1 hcell; go_must (have hn2 : (k : Int) < (n2 : Int) := (by have h1 : n2 = (m.area ar).length := HO2.out.n_.1; have := HK.out; omega))) | (go_at_call 76; go_must (have HW := lh (HO2.out.set_ (k := k) rfl new HV.out); have RW := lh (((HR.out.below (W0.out.trans (B1.out.mono W0.out.size))).below (B2.out.mono (Nat.le_trans W0.out.size B1.out.size))).setCell (p := ⟨g2, k, none⟩) (by show w.heap.size <= g2; omega) (.int .u64 new))); go_must (refine (with_c _ w2.heap.size r m ⟨some ⟨g2, 0, none⟩, n2, cp2⟩ ar ((m.area ar).set k new) (RW.out.more (by have := B2.out.size; omega)) (by have := HW.out.rd; simpa only [size_set] using this) (by simp only [size_set]; exact Nat.le_refl _) (by simp) ar1 ar9).mono ?_); rintro e w4 ⟨q4, rfl, hr4, hb4, hq4⟩; have R4 := lh hr4; have Q4 := lh hq4; go_must (have Z2 := lh ((Z1.out.below B2.out Z1.out.lt).far (p := ⟨g2, k, none⟩) (by show w.heap.size + 1 + 1 ≠ g2; omega) (.int .u64 new)); have B4 := lh hb4; have Z4 := lh (Z2.out.below hb4 Z2.out.lt); have hz4 := Z4.out.cell; have hfz4 := Z4.out.frozen); clear hr4 hb4 hq4 hx2 hy2 hz2 hfz2))
 refine bodyPost_ret (v := .tuple #[.agg #[.int .u64 q4.e, .int .u64 q4.f, .slice q4.L.A q4.L.n q4.L.c, .slice q4.P.A q4.P.n q4.P.c, .int .u64 q4.h, .int .u64 q4.t, .slice q4.K.A q4.K.n q4.K.c, .slice q4.X.A q4.X.n q4.X.c, .slice q4.S.A q4.S.n q4.S.c], .int .u64 x, .bool true]) (by simp [results, Tryz.results60, go_sem, hz4]) rfl ?_
 have hl1 := Z1.out.lt
 have f4 := off_puts Q4.out (off_rm HR.out (b := w.heap.size + 1 + 1) (by omega)) (fun ad had => by injection had with had; subst had; show g2 ≠ _; omega)
 have r4 := rm_nine (b := w.heap.size + 1 + 1) R4.out f4 q4
 have hbw : Below w.heap.size w w4 := ((W0.out.trans (B1.out.mono W0.out.size)).trans (B2.out.mono (by omega))).setCell (p := ⟨g2, k, none⟩) (by show w.heap.size <= g2; omega) (.int .u64 new) |>.trans (B4.out.mono (by simp only [size_set]; have := B2.out.size; omega))
 have hst : Memc.set m ar k new = m.put ar ((m.area ar).set k new) := by simp [Memc.set]
 exact ⟨q4, by rw [HC.out], by rw [HC.out]; simpa only [size_set, hst] using r4, below_nine hbw (by omega) _ _ _ _ _ _ _ _ _, fun b hb h => off_puts Q4.out h (fun ad had => by injection had with had; subst had; have := B1.out.size; have := W0.out.size; show g2 ≠ b; omega)⟩

set_option maxHeartbeats 4000000 in
theorem do_swap (w : World) (B : Nat) (r : R) (m : M) (h : Rm w B r m) (hB : B <= w.heap.size) (ar old new : Int) (k : Nat) (x : Int) (ha : -9223372036854775808 <= ar) (ha' : ar <= 9223372036854775807) (hk : k < (m.area ar).length) (hk6 : (k : Int) <= 9223372036854775807) (hx : Memc.get m ar k = x) (hf : Few m) (hv : 0 <= new /\ new <= 18446744073709551615) (he : x = old) :
   Calls Tryz.prog 60 #[.agg #[.int .u64 r.e, .int .u64 r.f, .slice r.L.A r.L.n r.L.c, .slice r.P.A r.P.n r.P.c, .int .u64 r.h, .int .u64 r.t, .slice r.K.A r.K.n r.K.c, .slice r.X.A r.X.n r.X.c, .slice r.S.A r.S.n r.S.c], .agg #[.int .i64 3, .int .i64 ar, .int .i64 (k : Int), .int .u64 old, .int .u64 new]] w (Did w r m ⟨3, ar, k, old, new⟩) := by
 have HC : Hid (acc m ⟨3, ar, k, old, new⟩ = (set m ar k new, x, true)) := lh (by rw [<- hx]; unfold acc; rw [if_pos ⟨⟨by simp, by simpa using hk⟩, by simp⟩, if_neg (by simp [hx, he])])
 have hq : (x != old) = false := by simp [he]
 clear he
 have HF := lh hf
 have HV := lh hv
 have har : 1 <= ar /\ ar <= 9 := by
   by_cases ho : ar < 1 \/ 9 < ar
   · rw [area_no m ar ho] at hk; simp at hk
   · omega
 obtain ⟨ar1, ar9⟩ := har
 clear hf hv
 have HX : Hid ((m.area ar).getD k 0 = x) := lh (by simpa [Memc.get] using hx)
 have HK := lh hk
 have hk0 : (0 : Int) <= (k : Int) := by omega
 have hk63 : (k : Int) <= 9223372036854775807 := hk6
 clear hx hk hk6
 have HR : Hid (Rm w w.heap.size r m) := h.more hB
 have x0 : Blk (((w.alloc (.cells #[.int .u64 r.e, .int .u64 r.f, .slice r.L.A r.L.n r.L.c, .slice r.P.A r.P.n r.P.c, .int .u64 r.h, .int .u64 r.t, .slice r.K.A r.K.n r.K.c, .slice r.X.A r.X.n r.X.c, .slice r.S.A r.S.n r.S.c] 33)).alloc (.cells #[.int .i64 3, .int .i64 ar, .int .i64 (k : Int), .int .u64 old, .int .u64 new] 66)).alloc (.cells zM 33)) w.heap.size 33 #[.int .u64 r.e, .int .u64 r.f, .slice r.L.A r.L.n r.L.c, .slice r.P.A r.P.n r.P.c, .int .u64 r.h, .int .u64 r.t, .slice r.K.A r.K.n r.K.c, .slice r.X.A r.X.n r.X.c, .slice r.S.A r.S.n r.S.c] := ((Blk.new _ _ _).alloc _).alloc _
 have y0 : Blk (((w.alloc (.cells #[.int .u64 r.e, .int .u64 r.f, .slice r.L.A r.L.n r.L.c, .slice r.P.A r.P.n r.P.c, .int .u64 r.h, .int .u64 r.t, .slice r.K.A r.K.n r.K.c, .slice r.X.A r.X.n r.X.c, .slice r.S.A r.S.n r.S.c] 33)).alloc (.cells #[.int .i64 3, .int .i64 ar, .int .i64 (k : Int), .int .u64 old, .int .u64 new] 66)).alloc (.cells zM 33)) (w.heap.size + 1) 66 #[.int .i64 3, .int .i64 ar, .int .i64 (k : Int), .int .u64 old, .int .u64 new] := (blk_at (by simp)).alloc _
 have z0 : Blk (((w.alloc (.cells #[.int .u64 r.e, .int .u64 r.f, .slice r.L.A r.L.n r.L.c, .slice r.P.A r.P.n r.P.c, .int .u64 r.h, .int .u64 r.t, .slice r.K.A r.K.n r.K.c, .slice r.X.A r.X.n r.X.c, .slice r.S.A r.S.n r.S.c] 33)).alloc (.cells #[.int .i64 3, .int .i64 ar, .int .i64 (k : Int), .int .u64 old, .int .u64 new] 66)).alloc (.cells zM 33)) (w.heap.size + 1 + 1) 33 #[.int .u64 0, .int .u64 0, .slice none 0 0, .slice none 0 0, .int .u64 0, .int .u64 0, .slice none 0 0, .slice none 0 0, .slice none 0 0] := blk_at (by simp)
 have W0 : Hid (Below w.heap.size w (((w.alloc (.cells #[.int .u64 r.e, .int .u64 r.f, .slice r.L.A r.L.n r.L.c, .slice r.P.A r.P.n r.P.c, .int .u64 r.h, .int .u64 r.t, .slice r.K.A r.K.n r.K.c, .slice r.X.A r.X.n r.X.c, .slice r.S.A r.S.n r.S.c] 33)).alloc (.cells #[.int .i64 3, .int .i64 ar, .int .i64 (k : Int), .int .u64 old, .int .u64 new] 66)).alloc (.cells zM 33))) := lh ((((Below.refl _ _).alloc (Nat.le_refl _) _).alloc (by simp) _).alloc (by simp; omega) _)
 have X0 := lh x0
 have Y0 := lh y0
 have Z0 := lh z0
 clear h hB x0 y0 z0
 have RA := lh (HR.out.below W0.out)
 go_enter Tryz.func60, Tryz.ntmps60
 go_wp2_with (first | (go_at_call 24; refine (area_c _ w.heap.size r m ar RA.out W0.out.size (by omega) (by omega)).mono ?_; rintro e w1 ⟨s, rfl, hrd, hb1⟩; have B1 := lh hb1; obtain ⟨hx1, hy1, hz1, hfz1⟩ := three_rules hb1 X0.out Y0.out Z0.out; have X1 := lh (X0.out.below hb1 X0.out.lt); have Y1 := lh (Y0.out.below hb1 Y0.out.lt); have Z1 := lh (Z0.out.below hb1 Z0.out.lt); have HRD := lh hrd; go_must (obtain ⟨A, n, cp⟩ := s; obtain ⟨ad, hA, hlt, hcell⟩ := hrd.at_ HK.out; (have hA : A = some ad := hA); subst hA; rw [HX.out] at hcell); go_must (have hn : (k : Int) < (n : Int) := (by have h1 : n = (m.area ar).length := hrd.1; have := HK.out; omega)); go_must (have hm : (n : Int) <= 9223372036854775807 := (by have h1 : n <= maxLen := Nat.le_trans hrd.2.1 hrd.2.2.1; unfold maxLen at h1; omega)); clear hrd hb1 hlt) | (at_builtin; refine wpList_app (by rfl) (.tmp 56) (.tmp 57) (by rfl) w1.heap.size w1.heap.size ⟨some ⟨w1.heap.size, 0, none⟩, 0, 0⟩ ⟨some ad, n, cp⟩ [] (m.area ar) (by rfl) (by rfl) (made_empty (Nat.le_refl _)) (HRD.out.alloc (Nat.le_refl _) _) (by have := few_area HF.out ar; simp; omega) (by simp) ?_; intro s2 w2 ho2 hb2; simp only [List.nil_append] at ho2; have HO2 := lh ho2; go_must (have B2 : Hid (Below w1.heap.size w1 w2) := lh (((Below.refl w1.heap.size w1).alloc (Nat.le_refl _) _).trans hb2)); clear ho2 hb2; go_must (obtain ⟨A2, n2, cp2⟩ := s2; obtain ⟨g2, hA2, hg2, hg2', hc2, hf2⟩ := HO2.out.at_ HK.out; (have hA2 : A2 = some ⟨g2, 0, none⟩ := hA2); subst hA2); go_must (have hl2 := Z1.out.lt; obtain ⟨hx2, hy2, hz2, hfz2⟩ := three_rules B2.out X1.out Y1.out Z1.out; have hne0 : ¬ g2 = w.heap.size := (by omega); have hne1 : ¬ g2 = w.heap.size + 1 := (by omega); have hne2 : ¬ g2 = w.heap.size + 1 + 1 := (by omega)); clear hx1 hy1 hz1 hfz1 hcell; go_must (have hn2 : (k : Int) < (n2 : Int) := (by have h1 : n2 = (m.area ar).length := HO2.out.n_.1; have := HK.out; omega))) | (go_at_call 76; go_must (have HW := lh (HO2.out.set_ (k := k) rfl new HV.out); have RW := lh (((HR.out.below (W0.out.trans (B1.out.mono W0.out.size))).below (B2.out.mono (Nat.le_trans W0.out.size B1.out.size))).setCell (p := ⟨g2, k, none⟩) (by show w.heap.size <= g2; omega) (.int .u64 new))); go_must (refine (with_c _ w2.heap.size r m ⟨some ⟨g2, 0, none⟩, n2, cp2⟩ ar ((m.area ar).set k new) (RW.out.more (by have := B2.out.size; omega)) (by have := HW.out.rd; simpa only [size_set] using this) (by simp only [size_set]; exact Nat.le_refl _) (by simp) ar1 ar9).mono ?_); rintro e w4 ⟨q4, rfl, hr4, hb4, hq4⟩; have R4 := lh hr4; have Q4 := lh hq4; go_must (have Z2 := lh ((Z1.out.below B2.out Z1.out.lt).far (p := ⟨g2, k, none⟩) (by show w.heap.size + 1 + 1 ≠ g2; omega) (.int .u64 new)); have B4 := lh hb4; have Z4 := lh (Z2.out.below hb4 Z2.out.lt); have hz4 := Z4.out.cell; have hfz4 := Z4.out.frozen); clear hr4 hb4 hq4 hx2 hy2 hz2 hfz2))
 refine bodyPost_ret (v := .tuple #[.agg #[.int .u64 q4.e, .int .u64 q4.f, .slice q4.L.A q4.L.n q4.L.c, .slice q4.P.A q4.P.n q4.P.c, .int .u64 q4.h, .int .u64 q4.t, .slice q4.K.A q4.K.n q4.K.c, .slice q4.X.A q4.X.n q4.X.c, .slice q4.S.A q4.S.n q4.S.c], .int .u64 x, .bool true]) (by simp [results, Tryz.results60, go_sem, hz4]) rfl ?_
 have hl1 := Z1.out.lt
 have f4 := off_puts Q4.out (off_rm HR.out (b := w.heap.size + 1 + 1) (by omega)) (fun ad had => by injection had with had; subst had; show g2 ≠ _; omega)
 have r4 := rm_nine (b := w.heap.size + 1 + 1) R4.out f4 q4
 have hbw : Below w.heap.size w w4 := ((W0.out.trans (B1.out.mono W0.out.size)).trans (B2.out.mono (by omega))).setCell (p := ⟨g2, k, none⟩) (by show w.heap.size <= g2; omega) (.int .u64 new) |>.trans (B4.out.mono (by simp only [size_set]; have := B2.out.size; omega))
 have hst : Memc.set m ar k new = m.put ar ((m.area ar).set k new) := by simp [Memc.set]
 exact ⟨q4, by rw [HC.out], by rw [HC.out]; simpa only [size_set, hst] using r4, below_nine hbw (by omega) _ _ _ _ _ _ _ _ _, fun b hb h => off_puts Q4.out h (fun ad had => by injection had with had; subst had; have := B1.out.size; have := W0.out.size; show g2 ≠ b; omega)⟩

theorem refdo_c (w : World) (B : Nat) (r : R) (m : M) (c : Acc) (h : Rm w B r m) (hB : B <= w.heap.size) (hf : Few m) (hc : c.ok) :
   Calls Tryz.prog 60 #[.agg #[.int .u64 r.e, .int .u64 r.f, .slice r.L.A r.L.n r.L.c, .slice r.P.A r.P.n r.P.c, .int .u64 r.h, .int .u64 r.t, .slice r.K.A r.K.n r.K.c, .slice r.X.A r.X.n r.X.c, .slice r.S.A r.S.n r.S.c], .agg #[.int .i64 c.d, .int .i64 c.ar, .int .i64 c.at_, .int .u64 c.old, .int .u64 c.new]] w (Did w r m c) := by
 obtain ⟨d, ar, at_, old, new⟩ := c
 obtain ⟨⟨k1, k2⟩, ⟨k3, k4⟩, ⟨k5, k6⟩, k7, k8⟩ := hc
 simp only at k1 k2 k3 k4 k5 k6 k7 k8
 by_cases h0 : at_ < 0
 · exact do_neg w B r m h hB d ar at_ old new k3 k4 h0
 · by_cases h1 : at_ < (m.area ar).length
   · by_cases h2 : d < 1
     · exact do_low w B r m h hB d ar at_ old new k3 k4 (by omega) h1 h2
     · by_cases h3 : 3 < d
       · exact do_high w B r m h hB d ar at_ old new k3 k4 (by omega) h1 h3
       · obtain ⟨k, rfl⟩ : ∃ k : Nat, at_ = k := ⟨at_.toNat, by omega⟩
         have hk : k < (m.area ar).length := by omega
         rcases (show d = 1 \/ d = 2 \/ d = 3 by omega) with rfl | rfl | rfl
         · exact do_read w B r m h hB ar old new k _ k3 k4 hk k6 rfl
         · exact do_write w B r m h hB ar old new k _ k3 k4 hk k6 rfl hf k8
         · by_cases he : Memc.get m ar k = old
           · exact do_swap w B r m h hB ar old new k _ k3 k4 hk k6 rfl hf k8 he
           · exact do_stays w B r m h hB ar old new k _ k3 k4 hk k6 rfl he
   · exact do_far w B r m h hB d ar at_ old new k3 k4 (by omega) (by omega)
end Go.Proofs.YtffppdcpiieapaaGreat.Refc

namespace Go.Proofs.YtffppdcpiieapaaGreat.Replr
open Go.RowKit Memc Newc Refc
set_option linter.unusedVariables false
attribute [local go_sem ↓] Go.wp_at_zero Go.wp_at_succ

theorem five_off {w : World} {base : Nat} {r : R} {m : Memc.M} (h : Five w base r m) {b : Nat} (hb : b < base) : Off r b := fun a hl ad _ had => by
 have := ((h.1 a hl).lt had).1; omega

theorem newM_few (k : Int) (K T M : Nat) (a2 : K <= 64) (t2 : T <= 8) (m2 : M <= 64) : Few (newM k K T M) := by
 intro a h1 h2
 have hm : M * K <= 4096 := Nat.le_trans (Nat.mul_le_mul m2 a2) (by omega)
 rcases nine (show ¬ (a < 1 \/ 9 < a) by omega) with rfl | rfl | rfl | rfl | rfl | rfl | rfl | rfl | rfl
 · show 1 <= 5000; omega
 · show 1 <= 5000; omega
 · show (List.replicate 3 (0 : Int)).length <= 5000; simp
 · show (List.replicate T (0 : Int)).length <= 5000; simp; omega
 · show 1 <= 5000; omega
 · show 1 <= 5000; omega
 · show (Newc.linked _ M M).length <= 5000; rw [Newc.linked_len]; omega
 · show (List.replicate M (0 : Int)).length <= 5000; simp; omega
 · show (List.replicate (M * K) (0 : Int)).length <= 5000; simp; omega

end Go.Proofs.YtffppdcpiieapaaGreat.Replr
