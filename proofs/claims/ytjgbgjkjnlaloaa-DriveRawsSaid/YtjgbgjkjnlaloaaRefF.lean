/- The document's answer for the store: an access, by its contract. -/
import Derived.Test.YtjgbgjkjnlaloaaRefX
namespace Go.Proofs.Ytjgbgjkjnlaloaa.Refc
open Go.RowKit Go.Proofs.Ytjgbgjkjnlaloaa.Memc
set_option linter.unusedVariables false
set_option maxRecDepth 100000

/-- what Do comes to -/
def Did (w : World) (q : R) (m : M) (c : Acc) (e : Ending) (w' : World) : Prop :=
  ∃ r : R, e = .returned (.tuple #[.agg #[.int .u64 r.e, .int .u64 r.f, .slice r.L.A r.L.n r.L.c, .slice r.P.A r.P.n r.P.c, .int .u64 r.h, .int .u64 r.t, .slice r.K.A r.K.n r.K.c, .slice r.X.A r.X.n r.X.c, .slice r.S.A r.S.n r.S.c], .int .u64 (acc m c).2.1, .bool (acc m c).2.2]) ∧ Rm w' w'.heap.size r (acc m c).1 ∧ Below w.heap.size w w' ∧ ∀ b, b < w.heap.size → Off q b → Off r b

theorem three_rules {W W' : World} {b c d : Nat} {t u v : TypeId} {cs ds es : Array Value} (hb : Below W.heap.size W W') (h0 : Blk W b t cs) (h1 : Blk W c u ds) (h2 : Blk W d v es) :
    (∀ i, W'.cell? ⟨b, i, none⟩ = cs[i]?) ∧ (∀ i, W'.cell? ⟨c, i, none⟩ = ds[i]?) ∧ (∀ i, W'.cell? ⟨d, i, none⟩ = es[i]?) ∧ (∀ i, W'.frozen? ⟨d, i, none⟩ = false) :=
  ⟨(h0.below hb h0.lt).cell, (h1.below hb h1.lt).cell, (h2.below hb h2.lt).cell, (h2.below hb h2.lt).frozen⟩

set_option maxHeartbeats 2000000 in
theorem do_neg (w : World) (B : Nat) (r : R) (m : M) (h : Rm w B r m) (hB : B ≤ w.heap.size) (d ar at_ old new : Int) (ha : -9223372036854775808 ≤ ar) (ha' : ar ≤ 9223372036854775807) (h0 : at_ < 0) :
    Calls Try.prog 18 #[.agg #[.int .u64 r.e, .int .u64 r.f, .slice r.L.A r.L.n r.L.c, .slice r.P.A r.P.n r.P.c, .int .u64 r.h, .int .u64 r.t, .slice r.K.A r.K.n r.K.c, .slice r.X.A r.X.n r.X.c, .slice r.S.A r.S.n r.S.c], .agg #[.int .i64 d, .int .i64 ar, .int .i64 at_, .int .u64 old, .int .u64 new]] w (Did w r m ⟨d, ar, at_, old, new⟩) := by
  have HC : Hid (acc m ⟨d, ar, at_, old, new⟩ = (m, 0, false)) := Lib.hid (by unfold acc; rw [if_neg (fun hh => by have := hh.1.1; simp only at this; omega)])

  have HR : Hid (Rm w w.heap.size r m) := h.more hB
  have x0 : Blk (((w.alloc (.cells #[.int .u64 r.e, .int .u64 r.f, .slice r.L.A r.L.n r.L.c, .slice r.P.A r.P.n r.P.c, .int .u64 r.h, .int .u64 r.t, .slice r.K.A r.K.n r.K.c, .slice r.X.A r.X.n r.X.c, .slice r.S.A r.S.n r.S.c] 25)).alloc (.cells #[.int .i64 d, .int .i64 ar, .int .i64 at_, .int .u64 old, .int .u64 new] 27)).alloc (.cells #[.int .u64 0, .int .u64 0, .slice none 0 0, .slice none 0 0, .int .u64 0, .int .u64 0, .slice none 0 0, .slice none 0 0, .slice none 0 0] 25)) w.heap.size 25 #[.int .u64 r.e, .int .u64 r.f, .slice r.L.A r.L.n r.L.c, .slice r.P.A r.P.n r.P.c, .int .u64 r.h, .int .u64 r.t, .slice r.K.A r.K.n r.K.c, .slice r.X.A r.X.n r.X.c, .slice r.S.A r.S.n r.S.c] := ((Blk.new _ _ _).alloc _).alloc _
  have y0 : Blk (((w.alloc (.cells #[.int .u64 r.e, .int .u64 r.f, .slice r.L.A r.L.n r.L.c, .slice r.P.A r.P.n r.P.c, .int .u64 r.h, .int .u64 r.t, .slice r.K.A r.K.n r.K.c, .slice r.X.A r.X.n r.X.c, .slice r.S.A r.S.n r.S.c] 25)).alloc (.cells #[.int .i64 d, .int .i64 ar, .int .i64 at_, .int .u64 old, .int .u64 new] 27)).alloc (.cells #[.int .u64 0, .int .u64 0, .slice none 0 0, .slice none 0 0, .int .u64 0, .int .u64 0, .slice none 0 0, .slice none 0 0, .slice none 0 0] 25)) (w.heap.size + 1) 27 #[.int .i64 d, .int .i64 ar, .int .i64 at_, .int .u64 old, .int .u64 new] := (blk_at (by simp)).alloc _
  have z0 : Blk (((w.alloc (.cells #[.int .u64 r.e, .int .u64 r.f, .slice r.L.A r.L.n r.L.c, .slice r.P.A r.P.n r.P.c, .int .u64 r.h, .int .u64 r.t, .slice r.K.A r.K.n r.K.c, .slice r.X.A r.X.n r.X.c, .slice r.S.A r.S.n r.S.c] 25)).alloc (.cells #[.int .i64 d, .int .i64 ar, .int .i64 at_, .int .u64 old, .int .u64 new] 27)).alloc (.cells #[.int .u64 0, .int .u64 0, .slice none 0 0, .slice none 0 0, .int .u64 0, .int .u64 0, .slice none 0 0, .slice none 0 0, .slice none 0 0] 25)) (w.heap.size + 1 + 1) 25 #[.int .u64 0, .int .u64 0, .slice none 0 0, .slice none 0 0, .int .u64 0, .int .u64 0, .slice none 0 0, .slice none 0 0, .slice none 0 0] := blk_at (by simp)
  have W0 : Hid (Below w.heap.size w (((w.alloc (.cells #[.int .u64 r.e, .int .u64 r.f, .slice r.L.A r.L.n r.L.c, .slice r.P.A r.P.n r.P.c, .int .u64 r.h, .int .u64 r.t, .slice r.K.A r.K.n r.K.c, .slice r.X.A r.X.n r.X.c, .slice r.S.A r.S.n r.S.c] 25)).alloc (.cells #[.int .i64 d, .int .i64 ar, .int .i64 at_, .int .u64 old, .int .u64 new] 27)).alloc (.cells #[.int .u64 0, .int .u64 0, .slice none 0 0, .slice none 0 0, .int .u64 0, .int .u64 0, .slice none 0 0, .slice none 0 0, .slice none 0 0] 25))) := Lib.hid ((((Below.refl _ _).alloc (Nat.le_refl _) _).alloc (by simp) _).alloc (by simp; omega) _)
  have X0 := Lib.hid x0
  have Y0 := Lib.hid y0
  have Z0 := Lib.hid z0
  clear h hB x0 y0 z0
  have RA := Lib.hid (HR.out.below W0.out)
  go_enter Try.func18, Try.ntmps18
  go_wp2_with (go_at_call 26; refine (area_c _ w.heap.size r m ar RA.out W0.out.size (by omega) (by omega)).mono ?_; rintro e w1 ⟨s, rfl, hrd, hb1⟩; have B1 := Lib.hid hb1; obtain ⟨hx1, hy1, hz1, hfz1⟩ := three_rules hb1 X0.out Y0.out Z0.out; clear hrd hb1)
  refine bodyPost_ret (v := .tuple #[.agg #[.int .u64 r.e, .int .u64 r.f, .slice r.L.A r.L.n r.L.c, .slice r.P.A r.P.n r.P.c, .int .u64 r.h, .int .u64 r.t, .slice r.K.A r.K.n r.K.c, .slice r.X.A r.X.n r.X.c, .slice r.S.A r.S.n r.S.c], .int .u64 0, .bool false]) (by simp [results, Try.results18, go_sem, hz1]) rfl ?_
  have hr1 : Rm w1 w.heap.size r m := HR.out.below (W0.out.trans (B1.out.mono W0.out.size))
  have hbb := W0.out.trans (B1.out.mono W0.out.size)
  have hsz := B1.out.size
  have hr2 := rm_nine (b := w.heap.size + 1 + 1) hr1 (off_rm HR.out (by omega)) r
  exact ⟨r, by rw [HC.out], by rw [HC.out]; exact hr2.more (by simp only [size_set]; have := hbb.size; omega), below_nine hbb (by omega) _ _ _ _ _ _ _ _ _, fun b _ h => h⟩

set_option maxHeartbeats 2000000 in
theorem do_far (w : World) (B : Nat) (r : R) (m : M) (h : Rm w B r m) (hB : B ≤ w.heap.size) (d ar at_ old new : Int) (ha : -9223372036854775808 ≤ ar) (ha' : ar ≤ 9223372036854775807) (h0 : 0 ≤ at_) (h1 : (m.area ar).length ≤ at_) :
    Calls Try.prog 18 #[.agg #[.int .u64 r.e, .int .u64 r.f, .slice r.L.A r.L.n r.L.c, .slice r.P.A r.P.n r.P.c, .int .u64 r.h, .int .u64 r.t, .slice r.K.A r.K.n r.K.c, .slice r.X.A r.X.n r.X.c, .slice r.S.A r.S.n r.S.c], .agg #[.int .i64 d, .int .i64 ar, .int .i64 at_, .int .u64 old, .int .u64 new]] w (Did w r m ⟨d, ar, at_, old, new⟩) := by
  have HC : Hid (acc m ⟨d, ar, at_, old, new⟩ = (m, 0, false)) := Lib.hid (by unfold acc; rw [if_neg (fun hh => by have := hh.1.2; simp only at this; omega)])
  have h0' : decide (at_ < 0) = false := by simp; omega
  have HL := Lib.hid h1
  clear h1
  have HR : Hid (Rm w w.heap.size r m) := h.more hB
  have x0 : Blk (((w.alloc (.cells #[.int .u64 r.e, .int .u64 r.f, .slice r.L.A r.L.n r.L.c, .slice r.P.A r.P.n r.P.c, .int .u64 r.h, .int .u64 r.t, .slice r.K.A r.K.n r.K.c, .slice r.X.A r.X.n r.X.c, .slice r.S.A r.S.n r.S.c] 25)).alloc (.cells #[.int .i64 d, .int .i64 ar, .int .i64 at_, .int .u64 old, .int .u64 new] 27)).alloc (.cells #[.int .u64 0, .int .u64 0, .slice none 0 0, .slice none 0 0, .int .u64 0, .int .u64 0, .slice none 0 0, .slice none 0 0, .slice none 0 0] 25)) w.heap.size 25 #[.int .u64 r.e, .int .u64 r.f, .slice r.L.A r.L.n r.L.c, .slice r.P.A r.P.n r.P.c, .int .u64 r.h, .int .u64 r.t, .slice r.K.A r.K.n r.K.c, .slice r.X.A r.X.n r.X.c, .slice r.S.A r.S.n r.S.c] := ((Blk.new _ _ _).alloc _).alloc _
  have y0 : Blk (((w.alloc (.cells #[.int .u64 r.e, .int .u64 r.f, .slice r.L.A r.L.n r.L.c, .slice r.P.A r.P.n r.P.c, .int .u64 r.h, .int .u64 r.t, .slice r.K.A r.K.n r.K.c, .slice r.X.A r.X.n r.X.c, .slice r.S.A r.S.n r.S.c] 25)).alloc (.cells #[.int .i64 d, .int .i64 ar, .int .i64 at_, .int .u64 old, .int .u64 new] 27)).alloc (.cells #[.int .u64 0, .int .u64 0, .slice none 0 0, .slice none 0 0, .int .u64 0, .int .u64 0, .slice none 0 0, .slice none 0 0, .slice none 0 0] 25)) (w.heap.size + 1) 27 #[.int .i64 d, .int .i64 ar, .int .i64 at_, .int .u64 old, .int .u64 new] := (blk_at (by simp)).alloc _
  have z0 : Blk (((w.alloc (.cells #[.int .u64 r.e, .int .u64 r.f, .slice r.L.A r.L.n r.L.c, .slice r.P.A r.P.n r.P.c, .int .u64 r.h, .int .u64 r.t, .slice r.K.A r.K.n r.K.c, .slice r.X.A r.X.n r.X.c, .slice r.S.A r.S.n r.S.c] 25)).alloc (.cells #[.int .i64 d, .int .i64 ar, .int .i64 at_, .int .u64 old, .int .u64 new] 27)).alloc (.cells #[.int .u64 0, .int .u64 0, .slice none 0 0, .slice none 0 0, .int .u64 0, .int .u64 0, .slice none 0 0, .slice none 0 0, .slice none 0 0] 25)) (w.heap.size + 1 + 1) 25 #[.int .u64 0, .int .u64 0, .slice none 0 0, .slice none 0 0, .int .u64 0, .int .u64 0, .slice none 0 0, .slice none 0 0, .slice none 0 0] := blk_at (by simp)
  have W0 : Hid (Below w.heap.size w (((w.alloc (.cells #[.int .u64 r.e, .int .u64 r.f, .slice r.L.A r.L.n r.L.c, .slice r.P.A r.P.n r.P.c, .int .u64 r.h, .int .u64 r.t, .slice r.K.A r.K.n r.K.c, .slice r.X.A r.X.n r.X.c, .slice r.S.A r.S.n r.S.c] 25)).alloc (.cells #[.int .i64 d, .int .i64 ar, .int .i64 at_, .int .u64 old, .int .u64 new] 27)).alloc (.cells #[.int .u64 0, .int .u64 0, .slice none 0 0, .slice none 0 0, .int .u64 0, .int .u64 0, .slice none 0 0, .slice none 0 0, .slice none 0 0] 25))) := Lib.hid ((((Below.refl _ _).alloc (Nat.le_refl _) _).alloc (by simp) _).alloc (by simp; omega) _)
  have X0 := Lib.hid x0
  have Y0 := Lib.hid y0
  have Z0 := Lib.hid z0
  clear h hB x0 y0 z0
  have RA := Lib.hid (HR.out.below W0.out)
  go_enter Try.func18, Try.ntmps18
  go_wp2_with (go_at_call 26; refine (area_c _ w.heap.size r m ar RA.out W0.out.size (by omega) (by omega)).mono ?_; rintro e w1 ⟨s, rfl, hrd, hb1⟩; have B1 := Lib.hid hb1; obtain ⟨hx1, hy1, hz1, hfz1⟩ := three_rules hb1 X0.out Y0.out Z0.out; have hn : (s.n : Int) ≤ at_ := (by have := hrd.1; have := HL.out; omega); have hm : (s.n : Int) ≤ 9223372036854775807 := (by have := hrd.2.1; have := hrd.2.2.1; unfold maxLen at this; omega); clear hrd hb1)
  refine bodyPost_ret (v := .tuple #[.agg #[.int .u64 r.e, .int .u64 r.f, .slice r.L.A r.L.n r.L.c, .slice r.P.A r.P.n r.P.c, .int .u64 r.h, .int .u64 r.t, .slice r.K.A r.K.n r.K.c, .slice r.X.A r.X.n r.X.c, .slice r.S.A r.S.n r.S.c], .int .u64 0, .bool false]) (by simp [results, Try.results18, go_sem, hz1]) rfl ?_
  have hr1 : Rm w1 w.heap.size r m := HR.out.below (W0.out.trans (B1.out.mono W0.out.size))
  have hbb := W0.out.trans (B1.out.mono W0.out.size)
  have hsz := B1.out.size
  have hr2 := rm_nine (b := w.heap.size + 1 + 1) hr1 (off_rm HR.out (by omega)) r
  exact ⟨r, by rw [HC.out], by rw [HC.out]; exact hr2.more (by simp only [size_set]; have := hbb.size; omega), below_nine hbb (by omega) _ _ _ _ _ _ _ _ _, fun b _ h => h⟩

set_option maxHeartbeats 2000000 in
theorem do_low (w : World) (B : Nat) (r : R) (m : M) (h : Rm w B r m) (hB : B ≤ w.heap.size) (d ar at_ old new : Int) (ha : -9223372036854775808 ≤ ar) (ha' : ar ≤ 9223372036854775807) (h0 : 0 ≤ at_) (h1 : at_ < (m.area ar).length) (h2 : d < 1) :
    Calls Try.prog 18 #[.agg #[.int .u64 r.e, .int .u64 r.f, .slice r.L.A r.L.n r.L.c, .slice r.P.A r.P.n r.P.c, .int .u64 r.h, .int .u64 r.t, .slice r.K.A r.K.n r.K.c, .slice r.X.A r.X.n r.X.c, .slice r.S.A r.S.n r.S.c], .agg #[.int .i64 d, .int .i64 ar, .int .i64 at_, .int .u64 old, .int .u64 new]] w (Did w r m ⟨d, ar, at_, old, new⟩) := by
  have HC : Hid (acc m ⟨d, ar, at_, old, new⟩ = (m, 0, false)) := Lib.hid (by unfold acc; rw [if_neg (fun hh => by have := hh.2.1; simp only at this; omega)])
  have h0' : decide (at_ < 0) = false := by simp; omega
  have HL := Lib.hid h1
  clear h1
  have HR : Hid (Rm w w.heap.size r m) := h.more hB
  have x0 : Blk (((w.alloc (.cells #[.int .u64 r.e, .int .u64 r.f, .slice r.L.A r.L.n r.L.c, .slice r.P.A r.P.n r.P.c, .int .u64 r.h, .int .u64 r.t, .slice r.K.A r.K.n r.K.c, .slice r.X.A r.X.n r.X.c, .slice r.S.A r.S.n r.S.c] 25)).alloc (.cells #[.int .i64 d, .int .i64 ar, .int .i64 at_, .int .u64 old, .int .u64 new] 27)).alloc (.cells #[.int .u64 0, .int .u64 0, .slice none 0 0, .slice none 0 0, .int .u64 0, .int .u64 0, .slice none 0 0, .slice none 0 0, .slice none 0 0] 25)) w.heap.size 25 #[.int .u64 r.e, .int .u64 r.f, .slice r.L.A r.L.n r.L.c, .slice r.P.A r.P.n r.P.c, .int .u64 r.h, .int .u64 r.t, .slice r.K.A r.K.n r.K.c, .slice r.X.A r.X.n r.X.c, .slice r.S.A r.S.n r.S.c] := ((Blk.new _ _ _).alloc _).alloc _
  have y0 : Blk (((w.alloc (.cells #[.int .u64 r.e, .int .u64 r.f, .slice r.L.A r.L.n r.L.c, .slice r.P.A r.P.n r.P.c, .int .u64 r.h, .int .u64 r.t, .slice r.K.A r.K.n r.K.c, .slice r.X.A r.X.n r.X.c, .slice r.S.A r.S.n r.S.c] 25)).alloc (.cells #[.int .i64 d, .int .i64 ar, .int .i64 at_, .int .u64 old, .int .u64 new] 27)).alloc (.cells #[.int .u64 0, .int .u64 0, .slice none 0 0, .slice none 0 0, .int .u64 0, .int .u64 0, .slice none 0 0, .slice none 0 0, .slice none 0 0] 25)) (w.heap.size + 1) 27 #[.int .i64 d, .int .i64 ar, .int .i64 at_, .int .u64 old, .int .u64 new] := (blk_at (by simp)).alloc _
  have z0 : Blk (((w.alloc (.cells #[.int .u64 r.e, .int .u64 r.f, .slice r.L.A r.L.n r.L.c, .slice r.P.A r.P.n r.P.c, .int .u64 r.h, .int .u64 r.t, .slice r.K.A r.K.n r.K.c, .slice r.X.A r.X.n r.X.c, .slice r.S.A r.S.n r.S.c] 25)).alloc (.cells #[.int .i64 d, .int .i64 ar, .int .i64 at_, .int .u64 old, .int .u64 new] 27)).alloc (.cells #[.int .u64 0, .int .u64 0, .slice none 0 0, .slice none 0 0, .int .u64 0, .int .u64 0, .slice none 0 0, .slice none 0 0, .slice none 0 0] 25)) (w.heap.size + 1 + 1) 25 #[.int .u64 0, .int .u64 0, .slice none 0 0, .slice none 0 0, .int .u64 0, .int .u64 0, .slice none 0 0, .slice none 0 0, .slice none 0 0] := blk_at (by simp)
  have W0 : Hid (Below w.heap.size w (((w.alloc (.cells #[.int .u64 r.e, .int .u64 r.f, .slice r.L.A r.L.n r.L.c, .slice r.P.A r.P.n r.P.c, .int .u64 r.h, .int .u64 r.t, .slice r.K.A r.K.n r.K.c, .slice r.X.A r.X.n r.X.c, .slice r.S.A r.S.n r.S.c] 25)).alloc (.cells #[.int .i64 d, .int .i64 ar, .int .i64 at_, .int .u64 old, .int .u64 new] 27)).alloc (.cells #[.int .u64 0, .int .u64 0, .slice none 0 0, .slice none 0 0, .int .u64 0, .int .u64 0, .slice none 0 0, .slice none 0 0, .slice none 0 0] 25))) := Lib.hid ((((Below.refl _ _).alloc (Nat.le_refl _) _).alloc (by simp) _).alloc (by simp; omega) _)
  have X0 := Lib.hid x0
  have Y0 := Lib.hid y0
  have Z0 := Lib.hid z0
  clear h hB x0 y0 z0
  have RA := Lib.hid (HR.out.below W0.out)
  go_enter Try.func18, Try.ntmps18
  go_wp2_with (go_at_call 26; refine (area_c _ w.heap.size r m ar RA.out W0.out.size (by omega) (by omega)).mono ?_; rintro e w1 ⟨s, rfl, hrd, hb1⟩; have B1 := Lib.hid hb1; obtain ⟨hx1, hy1, hz1, hfz1⟩ := three_rules hb1 X0.out Y0.out Z0.out; have hn : at_ < (s.n : Int) := (by have := hrd.1; have := HL.out; omega); have hm : (s.n : Int) ≤ 9223372036854775807 := (by have := hrd.2.1; have := hrd.2.2.1; unfold maxLen at this; omega); clear hrd hb1)
  refine bodyPost_ret (v := .tuple #[.agg #[.int .u64 r.e, .int .u64 r.f, .slice r.L.A r.L.n r.L.c, .slice r.P.A r.P.n r.P.c, .int .u64 r.h, .int .u64 r.t, .slice r.K.A r.K.n r.K.c, .slice r.X.A r.X.n r.X.c, .slice r.S.A r.S.n r.S.c], .int .u64 0, .bool false]) (by simp [results, Try.results18, go_sem, hz1]) rfl ?_
  have hr1 : Rm w1 w.heap.size r m := HR.out.below (W0.out.trans (B1.out.mono W0.out.size))
  have hbb := W0.out.trans (B1.out.mono W0.out.size)
  have hsz := B1.out.size
  have hr2 := rm_nine (b := w.heap.size + 1 + 1) hr1 (off_rm HR.out (by omega)) r
  exact ⟨r, by rw [HC.out], by rw [HC.out]; exact hr2.more (by simp only [size_set]; have := hbb.size; omega), below_nine hbb (by omega) _ _ _ _ _ _ _ _ _, fun b _ h => h⟩

set_option maxHeartbeats 2000000 in
theorem do_high (w : World) (B : Nat) (r : R) (m : M) (h : Rm w B r m) (hB : B ≤ w.heap.size) (d ar at_ old new : Int) (ha : -9223372036854775808 ≤ ar) (ha' : ar ≤ 9223372036854775807) (h0 : 0 ≤ at_) (h1 : at_ < (m.area ar).length) (h2 : 3 < d) :
    Calls Try.prog 18 #[.agg #[.int .u64 r.e, .int .u64 r.f, .slice r.L.A r.L.n r.L.c, .slice r.P.A r.P.n r.P.c, .int .u64 r.h, .int .u64 r.t, .slice r.K.A r.K.n r.K.c, .slice r.X.A r.X.n r.X.c, .slice r.S.A r.S.n r.S.c], .agg #[.int .i64 d, .int .i64 ar, .int .i64 at_, .int .u64 old, .int .u64 new]] w (Did w r m ⟨d, ar, at_, old, new⟩) := by
  have HC : Hid (acc m ⟨d, ar, at_, old, new⟩ = (m, 0, false)) := Lib.hid (by unfold acc; rw [if_neg (fun hh => by have := hh.2.2; simp only at this; omega)])
  have h0' : decide (at_ < 0) = false := by simp; omega
  have HL := Lib.hid h1
  clear h1
  have HR : Hid (Rm w w.heap.size r m) := h.more hB
  have x0 : Blk (((w.alloc (.cells #[.int .u64 r.e, .int .u64 r.f, .slice r.L.A r.L.n r.L.c, .slice r.P.A r.P.n r.P.c, .int .u64 r.h, .int .u64 r.t, .slice r.K.A r.K.n r.K.c, .slice r.X.A r.X.n r.X.c, .slice r.S.A r.S.n r.S.c] 25)).alloc (.cells #[.int .i64 d, .int .i64 ar, .int .i64 at_, .int .u64 old, .int .u64 new] 27)).alloc (.cells #[.int .u64 0, .int .u64 0, .slice none 0 0, .slice none 0 0, .int .u64 0, .int .u64 0, .slice none 0 0, .slice none 0 0, .slice none 0 0] 25)) w.heap.size 25 #[.int .u64 r.e, .int .u64 r.f, .slice r.L.A r.L.n r.L.c, .slice r.P.A r.P.n r.P.c, .int .u64 r.h, .int .u64 r.t, .slice r.K.A r.K.n r.K.c, .slice r.X.A r.X.n r.X.c, .slice r.S.A r.S.n r.S.c] := ((Blk.new _ _ _).alloc _).alloc _
  have y0 : Blk (((w.alloc (.cells #[.int .u64 r.e, .int .u64 r.f, .slice r.L.A r.L.n r.L.c, .slice r.P.A r.P.n r.P.c, .int .u64 r.h, .int .u64 r.t, .slice r.K.A r.K.n r.K.c, .slice r.X.A r.X.n r.X.c, .slice r.S.A r.S.n r.S.c] 25)).alloc (.cells #[.int .i64 d, .int .i64 ar, .int .i64 at_, .int .u64 old, .int .u64 new] 27)).alloc (.cells #[.int .u64 0, .int .u64 0, .slice none 0 0, .slice none 0 0, .int .u64 0, .int .u64 0, .slice none 0 0, .slice none 0 0, .slice none 0 0] 25)) (w.heap.size + 1) 27 #[.int .i64 d, .int .i64 ar, .int .i64 at_, .int .u64 old, .int .u64 new] := (blk_at (by simp)).alloc _
  have z0 : Blk (((w.alloc (.cells #[.int .u64 r.e, .int .u64 r.f, .slice r.L.A r.L.n r.L.c, .slice r.P.A r.P.n r.P.c, .int .u64 r.h, .int .u64 r.t, .slice r.K.A r.K.n r.K.c, .slice r.X.A r.X.n r.X.c, .slice r.S.A r.S.n r.S.c] 25)).alloc (.cells #[.int .i64 d, .int .i64 ar, .int .i64 at_, .int .u64 old, .int .u64 new] 27)).alloc (.cells #[.int .u64 0, .int .u64 0, .slice none 0 0, .slice none 0 0, .int .u64 0, .int .u64 0, .slice none 0 0, .slice none 0 0, .slice none 0 0] 25)) (w.heap.size + 1 + 1) 25 #[.int .u64 0, .int .u64 0, .slice none 0 0, .slice none 0 0, .int .u64 0, .int .u64 0, .slice none 0 0, .slice none 0 0, .slice none 0 0] := blk_at (by simp)
  have W0 : Hid (Below w.heap.size w (((w.alloc (.cells #[.int .u64 r.e, .int .u64 r.f, .slice r.L.A r.L.n r.L.c, .slice r.P.A r.P.n r.P.c, .int .u64 r.h, .int .u64 r.t, .slice r.K.A r.K.n r.K.c, .slice r.X.A r.X.n r.X.c, .slice r.S.A r.S.n r.S.c] 25)).alloc (.cells #[.int .i64 d, .int .i64 ar, .int .i64 at_, .int .u64 old, .int .u64 new] 27)).alloc (.cells #[.int .u64 0, .int .u64 0, .slice none 0 0, .slice none 0 0, .int .u64 0, .int .u64 0, .slice none 0 0, .slice none 0 0, .slice none 0 0] 25))) := Lib.hid ((((Below.refl _ _).alloc (Nat.le_refl _) _).alloc (by simp) _).alloc (by simp; omega) _)
  have X0 := Lib.hid x0
  have Y0 := Lib.hid y0
  have Z0 := Lib.hid z0
  clear h hB x0 y0 z0
  have RA := Lib.hid (HR.out.below W0.out)
  go_enter Try.func18, Try.ntmps18
  go_wp2_with (go_at_call 26; refine (area_c _ w.heap.size r m ar RA.out W0.out.size (by omega) (by omega)).mono ?_; rintro e w1 ⟨s, rfl, hrd, hb1⟩; have B1 := Lib.hid hb1; obtain ⟨hx1, hy1, hz1, hfz1⟩ := three_rules hb1 X0.out Y0.out Z0.out; have hn : at_ < (s.n : Int) := (by have := hrd.1; have := HL.out; omega); have hm : (s.n : Int) ≤ 9223372036854775807 := (by have := hrd.2.1; have := hrd.2.2.1; unfold maxLen at this; omega); clear hrd hb1)
  refine bodyPost_ret (v := .tuple #[.agg #[.int .u64 r.e, .int .u64 r.f, .slice r.L.A r.L.n r.L.c, .slice r.P.A r.P.n r.P.c, .int .u64 r.h, .int .u64 r.t, .slice r.K.A r.K.n r.K.c, .slice r.X.A r.X.n r.X.c, .slice r.S.A r.S.n r.S.c], .int .u64 0, .bool false]) (by simp [results, Try.results18, go_sem, hz1]) rfl ?_
  have hr1 : Rm w1 w.heap.size r m := HR.out.below (W0.out.trans (B1.out.mono W0.out.size))
  have hbb := W0.out.trans (B1.out.mono W0.out.size)
  have hsz := B1.out.size
  have hr2 := rm_nine (b := w.heap.size + 1 + 1) hr1 (off_rm HR.out (by omega)) r
  exact ⟨r, by rw [HC.out], by rw [HC.out]; exact hr2.more (by simp only [size_set]; have := hbb.size; omega), below_nine hbb (by omega) _ _ _ _ _ _ _ _ _, fun b _ h => h⟩
end Go.Proofs.Ytjgbgjkjnlaloaa.Refc
