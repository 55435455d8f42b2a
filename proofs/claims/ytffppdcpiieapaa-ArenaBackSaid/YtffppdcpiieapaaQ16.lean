/- Picks of one thread, so often; whether the program of layer 5 is awake. · Whether the program of layer 5 is awake: the region that draws, a tree of its orders. · What Take and Give are behind their accesses, by the document's answer: small steps. · What a call is behind its accesses, by the document's answer. · How a Take ends, by the document's answer. · What a call is behind its accesses, by the document's answer. · What a call is behind its accesses, by the document's answer. · The document's machines of Take and Give, by contract. -/
import Derived.Deep.DeepCutAuto
import Derived.Test.YtffppdcpiieapaaQ5
import Derived.Test.YtffppdcpiieapaaQ12
import Derived.Test.YtffppdcpiieapaaQ15
namespace Go.Proofs.Ytffppdcpiieapaa.Machc
open Go.RowKit Go.Proofs.Ytffppdcpiieapaa.Memc Go.Proofs.Ytffppdcpiieapaa.Newc Go.Proofs.Ytffppdcpiieapaa.Drivec Go.Proofs.Ytffppdcpiieapaa.Procc Go.Proofs.Ytffppdcpiieapaa.Arenac
set_option linter.unusedVariables false
set_option maxRecDepth 100000

set_option maxHeartbeats 1000000 in
theorem picked_c (w : World) (t : Int) (n : Nat) (t0 : -9223372036854775808 ≤ t) (t1 : t ≤ 9223372036854775807) (hn : n ≤ 100000) :
    Calls Try.prog 22 #[.int .i64 t, .int .i64 n] w fun e w' => ∃ q : Sl, e = .returned (.slice q.A q.n q.c) ∧ Row w' w.heap.size 65 2 q n (flatP (List.replicate n (t, 0))) ∧ Below w.heap.size w w' := by
  go_enter Try.func22, Try.ntmps22
  go_wp2_with fail
  go_loopw [5, 6] (fun p i wr => ∃ (j : Nat) (q : Sl), p = .slice q.A q.n q.c ∧ i = .int .i64 j ∧ j ≤ n ∧ Row wr w.heap.size 65 2 q j (flatP (List.replicate j (t, 0))) ∧ Below w.heap.size w wr) (fun _ i _ => n - (intOf i).toNat)
  case atStart => exact ⟨0, nilS, rfl, rfl, Nat.zero_le _, row_nil _ _ _ _, Below.refl _ _⟩
  case round =>
  obtain ⟨j, q, rfl, rfl, hj, hr, hb⟩ := hrel
  have R0 := Lib.hid hr
  have W0 := Lib.hid hb
  clear hr hb
  generalize wr = V0 at R0 W0 ⊢
  have i0 : (0 : Int) ≤ j := Int.natCast_nonneg _
  by_cases hlt : j < n
  · have i1 : (j : Int) < n := by omega
    obtain ⟨ji, hji, hjz0, hjz1, hjz2⟩ := info_parts pick_cell
    go_upto_region 4 with (at_builtin; refine wpList_app2 rfl _ _ 25 rfl w.heap.size 65 ji _ 2 16 Try.underlying25 hji hjz0 hjz1 hjz2 rfl (by decide) q j (flatP (List.replicate j (t, 0))) rfl (Row.alloc R0.out (.cells #[.int .i64 t, .int .u32 0] 65)) V0.heap.size [.int .i64 t, .int .u32 0] rfl rfl (fun j u hj => (Blk.cell (Arenac.blk_at2 _ _ _ _ rfl) j).trans (by simpa using hj)) (by simp [Value.oneCell']) (by omega) (by decide) (Nat.le_trans W0.out.size (by simp)) ?_; intro q2 w7 hr7 ho7 hw7; go_must (have R7 := Lib.hid hr7; have A7 : Hid (Only (fun g => bl q g) V0 w7) := Lib.hid (Only.next ((Only.refl (fun g => bl q g) V0).alloc (.cells #[.int .i64 t, .int .u32 0] 65)) ho7 (fun k _ h => h)); have W7 := Lib.hid (W0.out.trans (A7.out.below W0.out.size (fun g hg => by have := (R0.out.lt hg).1; omega)))); clear hr7 ho7 hw7)
    have e7 : flatP (List.replicate j (t, 0)) ++ [.int .i64 t, .int .u32 0] = flatP (List.replicate (j + 1) (t, 0)) := by
      rw [List.replicate_succ', flatP_snoc]; rfl
    have R8 := R7.out
    rw [e7] at R8
    have R9 := Lib.hid R8
    clear e7 R8
    go_wp2
    go_roundw
    case rel => exact ⟨j + 1, q2, rfl, by go_num, hlt, R9.out, W7.out⟩
    case measure => simp [intOf]; omega
  · obtain rfl : j = n := by omega
    go_wp2
    go_ret
    exact ⟨q, rfl, R0.out, W0.out⟩
theorem picked_40 (w : World) : Calls Try.prog 22 #[.int .i64 0, .int .i64 40] w fun e w' => ∃ q : Sl, e = .returned (.slice q.A q.n q.c) ∧ Row w' w.heap.size 65 2 q 40 (flatP (List.replicate 40 (0, 0))) ∧ Below w.heap.size w w' :=
  picked_c w 0 40 (by omega) (by omega) (by omega)
def a40 : RS := runM (docZ 2 1 1 2) [[(6, 0), (8, 1), (7, 0), (3, 0), (3, 0), (3, 0)]] (RS.first (newM 2 1 1 2) 1) (List.replicate 40 (0, 0))
theorem a40_calls : a40.calls = [⟨0, 6, 0, 0, 2, 0, 0⟩, ⟨0, 8, 1, 3, 6, 0, 0⟩, ⟨0, 7, 0, 7, 7, 0, 0⟩, ⟨0, 3, 0, 8, 12, 0, 0⟩, ⟨0, 3, 0, 13, 22, 0, 0⟩, ⟨0, 3, 0, 23, 27, 0, 0⟩] := by kernel_rfl
theorem a40_e : a40.m.e = 3 := by kernel_rfl
theorem a40_f : a40.m.f = 4294967298 := by kernel_rfl
theorem a40_lk : a40.m.lk = [0, 4294967296] := by kernel_rfl
def k40 : List Value := flatK [⟨0, 6, 0, 0, 2, 0, 0⟩, ⟨0, 8, 1, 3, 6, 0, 0⟩, ⟨0, 7, 0, 7, 7, 0, 0⟩, ⟨0, 3, 0, 8, 12, 0, 0⟩, ⟨0, 3, 0, 13, 22, 0, 0⟩, ⟨0, 3, 0, 23, 27, 0, 0⟩]
/-- what the program comes to -/
def Run40 (V : World) (e : Ending) (w' : World) : Prop :=
  ∃ (r : R) (sS : Sl) (gK cK gL cL : Nat), e = .returned (.tuple #[.agg #[.slice sS.A sS.n sS.c, .slice (some ⟨gK, 0, none⟩) 6 cK, .int .u64 3, .int .u64 4294967298, .slice r.L.A r.L.n r.L.c, .slice r.P.A r.P.n r.P.c, .int .u64 r.h, .int .u64 r.t, .slice (some ⟨gL, 0, none⟩) 2 cL, .slice r.X.A r.X.n r.X.c, .slice r.S.A r.S.n r.S.c], .int .i64 0]) ∧ (∃ b1, Row w' b1 55 7 ⟨some ⟨gK, 0, none⟩, 6, cK⟩ 6 k40) ∧ (∃ b2, Row w' b2 30 1 ⟨some ⟨gL, 0, none⟩, 2, cL⟩ 2 [.int .u64 0, .int .u64 4294967296]) ∧ Below V.heap.size V w'
theorem run_40 (V : World) (g2 g3 : Nat) (q : Sl) (base : Nat) (h2 : Blk V g2 63 #[.int .i64 6, .int .u32 0, .int .i64 8, .int .u32 1, .int .i64 7, .int .u32 0, .int .i64 3, .int .u32 0, .int .i64 3, .int .u32 0, .int .i64 3, .int .u32 0]) (h3 : Blk V g3 61 #[.slice (some ⟨g2, 0, none⟩) 6 6]) (hq : Row V base 65 2 q 40 (flatP (List.replicate 40 (0, 0)))) :
    Calls Try.prog 23 #[.agg #[.int .i64 2, .int .i64 1, .int .i64 1, .int .i64 2], .slice (some ⟨g3, 0, none⟩) 1 1, .slice q.A q.n q.c] V (Run40 V) := by
  have ho : RdO V V.heap.size ⟨some ⟨g2, 0, none⟩, 6, 6⟩ [(6, 0), (8, 1), (7, 0), (3, 0), (3, 0), (3, 0)] := blk_rdo (l := [(6, 0), (8, 1), (7, 0), (3, 0), (3, 0), (3, 0)]) h2 (by unfold maxLen; decide)
  have hp : RdP V V.heap.size q (List.replicate 40 (0, 0)) := row_rdp hq (by intro x hx; rw [(List.mem_replicate.1 hx).2]; decide)
  obtain ⟨qA, qn, qc⟩ := q
  refine (erun_c V 2 1 1 2 g3 0 1 qA qn qc [[(6, 0), (8, 1), (7, 0), (3, 0), (3, 0), (3, 0)]] (List.replicate 40 (0, 0)) (by omega) (by omega) (by omega) (by omega) (by omega) (by omega) (by omega) (by omega) ?_ ?_ hp (by simp) ?_ ?_).mono ?_
  · refine ⟨rfl, Nat.le_refl _, by show 1 ≤ maxLen; unfold maxLen; omega, fun _ => ⟨g3, 0, rfl, h3.lt, fun i x hx => ?_⟩⟩
    match i, hx with
    | 0, hx => injection hx with hx; subst hx; exact ⟨⟨some ⟨g2, 0, none⟩, 6, 6⟩, h3.cell 0, ho⟩
  · intro x hx
    rw [List.mem_singleton.1 hx]
    decide
  · intro x hx
    rw [List.mem_singleton.1 hx]
    decide
  · intro x hx o ho
    rw [List.mem_singleton.1 hx] at ho
    simp only [List.mem_cons, List.not_mem_nil, or_false] at ho
    rcases ho with rfl | rfl | rfl | rfl | rfl | rfl
    all_goals decide
  · rintro e w' ⟨r, sS, sK, base', he, hS, hK, hE, hF⟩
    change Row w' base' 55 7 sK a40.calls.length (flatK a40.calls) at hK
    change Endw w' base' r a40.m at hE
    rw [a40_calls] at hK
    obtain ⟨gK, hgK, _, hlK, hcK, _⟩ := hK.at_ (by decide)
    have hnK := hK.n_.1
    have he3 : r.e = 3 := hE.1.1.trans a40_e
    have hf3 : r.f = 4294967298 := hE.1.2.1.trans a40_f
    have hl0 := (hE.2.2 7 (.inr (.inr (.inl rfl)))).2
    have hl1 : Row w' base' 30 1 r.K a40.m.lk.length (a40.m.lk.map (Value.int .u64)) := hl0
    rw [a40_lk] at hl1
    obtain ⟨gL, hgL, _, hlL, hcL, _⟩ := hl1.at_ (by decide)
    have hnL := hl1.n_.1
    obtain ⟨sKA, sKn, sKc⟩ := sK
    obtain ⟨re, rf, rL, rP, rh, rt, ⟨rKA, rKn, rKc⟩, rX, rS⟩ := r
    simp only at hgK hnK he3 hf3 hgL hnL
    subst hgK hnK he3 hf3 hgL hnL
    exact ⟨⟨3, 4294967298, rL, rP, rh, rt, ⟨some ⟨gL, 0, none⟩, 2, rKc⟩, rX, rS⟩, sS, gK, sKc, gL, rKc, he, ⟨_, hK⟩, ⟨_, hl1⟩, hF⟩
end Go.Proofs.Ytffppdcpiieapaa.Machc

namespace Go.Proofs.Ytffppdcpiieapaa.Machc
open Go.RowKit Go.Proofs.Ytffppdcpiieapaa.Memc Go.Proofs.Ytffppdcpiieapaa.Newc Go.Proofs.Ytffppdcpiieapaa.Drivec Go.Proofs.Ytffppdcpiieapaa.Procc Go.Proofs.Ytffppdcpiieapaa.Arenac
set_option linter.unusedVariables false
set_option maxRecDepth 100000

/-- one of three may come up now -/
theorem zthree {P : Program} {ops : Array Oper} {Q : Exit → Act → World → Prop} {md : Region.Mode} {S : World → Prop} {zs : List Nat} (i j k : Nat) {o o' o'' : Oper} {n : Nat} {listed : Array Bool} {a : Act} {w : World} (hr : Region.ready md ops listed = [i, j, k]) (hi : ops[i]? = some o) (hj : ops[j]? = some o') (hk : ops[k]? = some o'') (hg : o.guard = none) (hg' : o'.guard = none) (hg'' : o''.guard = none)
    (h : ∀ K : Act → World → Prop, Hid (∀ b v, (Zreg.past zs (listed.setIfInBounds i true) = true ∨ S v) → ((Zreg.past zs (listed.setIfInBounds i true) = true ∨ S v) → Zreg.After P md ops Q S zs n (listed.setIfInBounds i true) b v) → K b v) → Oper.wp P o a w K Q)
    (h' : ∀ K : Act → World → Prop, Hid (∀ b v, (Zreg.past zs (listed.setIfInBounds j true) = true ∨ S v) → ((Zreg.past zs (listed.setIfInBounds j true) = true ∨ S v) → Zreg.After P md ops Q S zs n (listed.setIfInBounds j true) b v) → K b v) → Oper.wp P o' a w K Q)
    (h'' : ∀ K : Act → World → Prop, Hid (∀ b v, (Zreg.past zs (listed.setIfInBounds k true) = true ∨ S v) → ((Zreg.past zs (listed.setIfInBounds k true) = true ∨ S v) → Zreg.After P md ops Q S zs n (listed.setIfInBounds k true) b v) → K b v) → Oper.wp P o'' a w K Q) : Zreg.After P md ops Q S zs (n + 1) listed a w := by
  refine ⟨(fun h0 => (by rw [h0] at hr; cases hr)), fun m hm => ?_⟩
  rw [hr] at hm
  have hm' : m = i ∨ m = j ∨ m = k := by simpa using hm
  rcases hm' with hm' | hm' | hm'
  · subst hm'
    unfold wpOp
    rw [hi]
    have hw : Region.wanted o (yielded ops a.tmps) = true := by simp [Region.wanted, hg]
    simp only [hw, if_true]
    exact .inl (h _ (Lib.hid fun b v hS hh => ⟨hS, hh hS⟩))
  · subst hm'
    unfold wpOp
    rw [hj]
    have hw : Region.wanted o' (yielded ops a.tmps) = true := by simp [Region.wanted, hg']
    simp only [hw, if_true]
    exact .inl (h' _ (Lib.hid fun b v hS hh => ⟨hS, hh hS⟩))
  · subst hm'
    unfold wpOp
    rw [hk]
    have hw : Region.wanted o'' (yielded ops a.tmps) = true := by simp [Region.wanted, hg'']
    simp only [hw, if_true]
    exact .inl (h'' _ (Lib.hid fun b v hS hh => ⟨hS, hh hS⟩))
/-- how far the first line is -/
structure AwS (w : World) (a : Nat) (b c d : Bool) (V : World) (g2 g3 gA : Nat) (q : Sl) (r : R) (sS : Sl) (gK cK gL cL : Nat) : Prop where
  C : Blk V w.heap.size 23 #[.int .i64 2, .int .i64 1, .int .i64 1, .int .i64 2]
  O : Blk V (w.heap.size + 1) 63 #[.int .i64 3, .int .u32 0]
  W : Below w.heap.size w V
  B : 1 ≤ a → Blk V g2 63 #[.int .i64 6, .int .u32 0, .int .i64 8, .int .u32 1, .int .i64 7, .int .u32 0, .int .i64 3, .int .u32 0, .int .i64 3, .int .u32 0, .int .i64 3, .int .u32 0]
  L : 2 ≤ a → Blk V g3 61 #[.slice (some ⟨g2, 0, none⟩) 6 6]
  Q : b = true → ∃ base, Row V base 65 2 q 40 (flatP (List.replicate 40 (0, 0)))
  T : c = true → Blk V gA 35 #[.slice none 0 0, .slice none 0 0, .int .u64 0, .int .u64 0, .slice none 0 0, .slice none 0 0, .int .u64 0, .int .u64 0, .slice none 0 0, .slice none 0 0, .slice none 0 0] ∧ w.heap.size ≤ gA
  K : d = true → ∃ b1, Row V b1 55 7 ⟨some ⟨gK, 0, none⟩, 6, cK⟩ 6 k40
  X : d = true → ∃ b2, Row V b2 30 1 ⟨some ⟨gL, 0, none⟩, 2, cL⟩ 2 [.int .u64 0, .int .u64 4294967296]
section
variable {w V V' : World} {a : Nat} {b c d : Bool} {g2 g3 gA : Nat} {q : Sl} {r : R} {sS : Sl} {gK cK gL cL : Nat}
theorem AwS.alloc (h : AwS w a b c d V g2 g3 gA q r sS gK cK gL cL) (o : Obj) : AwS w a b c d (V.alloc o) g2 g3 gA q r sS gK cK gL cL :=
  ⟨h.C.alloc o, h.O.alloc o, h.W.alloc h.W.size o, fun x => (h.B x).alloc o, fun x => (h.L x).alloc o, fun x => (h.Q x).imp fun _ y => Row.alloc y o, fun x => ⟨(h.T x).1.alloc o, (h.T x).2⟩, fun x => (h.K x).imp fun _ y => Row.alloc y o, fun x => (h.X x).imp fun _ y => Row.alloc y o⟩
theorem AwS.below (h : AwS w a b c d V g2 g3 gA q r sS gK cK gL cL) (o : Below V.heap.size V V') : AwS w a b c d V' g2 g3 gA q r sS gK cK gL cL :=
  ⟨h.C.below o h.C.lt, h.O.below o h.O.lt, h.W.trans (o.mono h.W.size), fun x => (h.B x).below o (h.B x).lt, fun x => (h.L x).below o (h.L x).lt, fun x => (h.Q x).imp fun _ y => y.below o (Nat.le_refl _), fun x => ⟨(h.T x).1.below o (h.T x).1.lt, (h.T x).2⟩, fun x => (h.K x).imp fun _ y => y.below o (Nat.le_refl _), fun x => (h.X x).imp fun _ y => y.below o (Nat.le_refl _)⟩
theorem AwS.a7 (h : AwS w 0 b c d V g2 g3 gA q r sS gK cK gL cL) : AwS w 1 b c d (V.alloc (.cells #[.int .i64 6, .int .u32 0, .int .i64 8, .int .u32 1, .int .i64 7, .int .u32 0, .int .i64 3, .int .u32 0, .int .i64 3, .int .u32 0, .int .i64 3, .int .u32 0] 63)) V.heap.size g3 gA q r sS gK cK gL cL :=
  have h' := h.alloc (.cells #[.int .i64 6, .int .u32 0, .int .i64 8, .int .u32 1, .int .i64 7, .int .u32 0, .int .i64 3, .int .u32 0, .int .i64 3, .int .u32 0, .int .i64 3, .int .u32 0] 63)
  ⟨h'.C, h'.O, h'.W, fun _ => Blk.new _ _ _, fun x => absurd x (by omega), h'.Q, h'.T, h'.K, h'.X⟩
theorem AwS.a8 (h : AwS w 1 b c d V g2 g3 gA q r sS gK cK gL cL) : AwS w 2 b c d (V.alloc (.cells #[.slice (some ⟨g2, 0, none⟩) 6 6] 61)) g2 V.heap.size gA q r sS gK cK gL cL :=
  have h' := h.alloc (.cells #[.slice (some ⟨g2, 0, none⟩) 6 6] 61)
  ⟨h'.C, h'.O, h'.W, fun _ => h'.B (by omega), fun _ => Blk.new _ _ _, h'.Q, h'.T, h'.K, h'.X⟩
theorem AwS.c9 {base : Nat} {q' : Sl} (h : AwS w a false c d V g2 g3 gA q r sS gK cK gL cL) (hr : Row V' base 65 2 q' 40 (flatP (List.replicate 40 (0, 0)))) (o : Below V.heap.size V V') : AwS w a true c d V' g2 g3 gA q' r sS gK cK gL cL :=
  have h' := h.below o
  ⟨h'.C, h'.O, h'.W, h'.B, h'.L, fun _ => ⟨_, hr⟩, h'.T, h'.K, h'.X⟩
theorem AwS.t14 (h : AwS w a b false d V g2 g3 gA q r sS gK cK gL cL) : AwS w a b true d (V.alloc (.cells #[.slice none 0 0, .slice none 0 0, .int .u64 0, .int .u64 0, .slice none 0 0, .slice none 0 0, .int .u64 0, .int .u64 0, .slice none 0 0, .slice none 0 0, .slice none 0 0] 35)) g2 g3 V.heap.size q r sS gK cK gL cL :=
  have h' := h.alloc (.cells #[.slice none 0 0, .slice none 0 0, .int .u64 0, .int .u64 0, .slice none 0 0, .slice none 0 0, .int .u64 0, .int .u64 0, .slice none 0 0, .slice none 0 0, .slice none 0 0] 35)
  ⟨h'.C, h'.O, h'.W, h'.B, h'.L, h'.Q, fun _ => ⟨Blk.new _ _ _, h.W.size⟩, h'.K, h'.X⟩
theorem AwS.r10 {r' : R} {sS' : Sl} {gK' cK' gL' cL' : Nat} (h : AwS w a b c false V g2 g3 gA q r sS gK cK gL cL) (hk : ∃ b1, Row V' b1 55 7 ⟨some ⟨gK', 0, none⟩, 6, cK'⟩ 6 k40) (hx : ∃ b2, Row V' b2 30 1 ⟨some ⟨gL', 0, none⟩, 2, cL'⟩ 2 [.int .u64 0, .int .u64 4294967296]) (o : Below V.heap.size V V') : AwS w a b c true V' g2 g3 gA q r' sS' gK' cK' gL' cL' :=
  have h' := h.below o
  ⟨h'.C, h'.O, h'.W, h'.B, h'.L, h'.Q, h'.T, fun _ => hk, fun _ => hx⟩
end
structure AwI where
  V : World
  g2 : Nat
  g3 : Nat
  gA : Nat
  q : Sl
  r : R
  sS : Sl
  gK : Nat
  cK : Nat
  gL : Nat
  cL : Nat
theorem zkey {P : Program} {md : Region.Mode} {ops : Array Oper} {Q : Exit → Act → World → Prop} {S : World → Prop} {zs : List Nat} {n : Nat} {listed : Array Bool} {a : Act} {v : World} (w : World) (x : Nat) (b c d : Bool) (m : Nat) (l2 : Array Bool) (A : AwI → Array Value)
    (hE : ∀ i : AwI, AwS w x b c d i.V i.g2 i.g3 i.gA i.q i.r i.sS i.gK i.cK i.gL i.cL → Zreg.After P md ops Q S zs m l2 ⟨A i, []⟩ i.V)
    (h : (∀ (V : World) (g2 g3 gA : Nat) (q : Sl) (r : R) (sS : Sl) (gK cK gL cL : Nat), AwS w x b c d V g2 g3 gA q r sS gK cK gL cL → Zreg.After P md ops Q S zs m l2 ⟨A ⟨V, g2, g3, gA, q, r, sS, gK, cK, gL, cL⟩, []⟩ V) → Zreg.After P md ops Q S zs n listed a v) : Zreg.After P md ops Q S zs n listed a v :=
  h (fun V g2 g3 gA q r sS gK cK gL cL hs => hE ⟨V, g2, g3, gA, q, r, sS, gK, cK, gL, cL⟩ hs)
/-- what the first line leaves -/
def Cut40 (w : World) (gA : Nat) (wx : World) : Prop := ∃ (r : R) (sS : Sl) (gK cK gL cL : Nat), Blk wx gA 35 #[.slice sS.A sS.n sS.c, .slice (some ⟨gK, 0, none⟩) 6 cK, .int .u64 3, .int .u64 4294967298, .slice r.L.A r.L.n r.L.c, .slice r.P.A r.P.n r.P.c, .int .u64 r.h, .int .u64 r.t, .slice (some ⟨gL, 0, none⟩) 2 cL, .slice r.X.A r.X.n r.X.c, .slice r.S.A r.S.n r.S.c] ∧ (∃ b1, Row wx b1 55 7 ⟨some ⟨gK, 0, none⟩, 6, cK⟩ 6 k40) ∧ (∃ b2, Row wx b2 30 1 ⟨some ⟨gL, 0, none⟩, 2, cL⟩ 2 [.int .u64 0, .int .u64 4294967296]) ∧ Below w.heap.size w wx
set_option maxHeartbeats 8000000 in
theorem awake5_c (w : World) : Calls Try.prog 21 #[] w fun e w' => e = .returned (.bool true) ∧ Below w.heap.size w w' := by
  have C0 : Hid (Blk ((w.alloc (.cells #[.int .i64 2, .int .i64 1, .int .i64 1, .int .i64 2] 23)).alloc (.cells #[.int .i64 3, .int .u32 0] 63)) w.heap.size 23 #[.int .i64 2, .int .i64 1, .int .i64 1, .int .i64 2]) := Lib.hid ((Blk.new _ _ _).alloc _)
  have O0 : Hid (Blk ((w.alloc (.cells #[.int .i64 2, .int .i64 1, .int .i64 1, .int .i64 2] 23)).alloc (.cells #[.int .i64 3, .int .u32 0] 63)) (w.heap.size + 1) 63 #[.int .i64 3, .int .u32 0]) := Lib.hid (Arenac.blk_at2 _ _ _ _ (by simp))
  have W0 : Hid (Below w.heap.size w ((w.alloc (.cells #[.int .i64 2, .int .i64 1, .int .i64 1, .int .i64 2] 23)).alloc (.cells #[.int .i64 3, .int .u32 0] 63))) := Lib.hid (((Below.refl _ _).alloc (Nat.le_refl _) _).alloc (by simp) _)
  go_enter Try.func21, Try.ntmps21
  go_upto_region 3 with fail
  generalize ((w.alloc (.cells #[.int .i64 2, .int .i64 1, .int .i64 1, .int .i64 2] 23)).alloc (.cells #[.int .i64 3, .int .u32 0] 63)) = V0 at C0 O0 W0 ⊢
  go_cut [3, 4] (fun x y wx => ∃ gA : Nat, x = .pointer (some ⟨gA, 0, none⟩) ∧ y = .int .i64 0 ∧ Cut40 w gA wx)
  case first =>
    refine Zreg.begin_ (S := (fun w' => (∀ j, w'.cell? ⟨w.heap.size, j, none⟩ = (#[.int .i64 2, .int .i64 1, .int .i64 1, .int .i64 2] : Array Value)[j]?) ∧ (∀ j, w'.cell? ⟨w.heap.size + 1, j, none⟩ = (#[.int .i64 3, .int .u32 0] : Array Value)[j]?))) (zs := [15]) (by kernel_rfl) ?_
    show Zreg.After _ _ _ _ _ _ 17 #[false, false, false, false, false, false, false, false, false, false, false, false, false, false, false, false, false] _ _
    refine Zreg.takeS 0 8 (x := ?xa_0) rfl rfl (by kernel_rfl) (by kernel_rfl) (by kernel_rfl) (by kernel_rfl) (by kernel_rfl) (by kernel_rfl) (fun _ _ _ h => h) (.inr ⟨C0.out.drew.cell, O0.out.drew.cell⟩) (Or.inl ⟨by rfl, ?ya_0⟩) ?ra_0
    case ya_0 => (intro w hSw; (try dsimp only at hSw); go_simp <;> with_reducible rfl)
    simp only [List.setIfInBounds_toArray, List.set_cons_zero, List.set_cons_succ]
    refine Zreg.takeP 1 9 (x := ?xa_1) rfl rfl (by kernel_rfl) (by kernel_rfl) (by kernel_rfl) (by kernel_rfl) (fun _ _ _ h => h) (.inr ⟨C0.out.drew.cell, O0.out.drew.cell⟩) (Or.inl ⟨by rfl, ?ya_1⟩) ?ra_1
    case ya_1 => (intro w _; go_simp <;> with_reducible rfl)
    simp only [List.setIfInBounds_toArray, List.set_cons_zero, List.set_cons_succ]
    refine Zreg.takeP 2 10 (x := ?xa_2) rfl rfl (by kernel_rfl) (by kernel_rfl) (by kernel_rfl) (by kernel_rfl) (fun _ _ _ h => h) (.inr ⟨C0.out.drew.cell, O0.out.drew.cell⟩) (Or.inl ⟨by rfl, ?ya_2⟩) ?ra_2
    case ya_2 => (intro w _; go_simp <;> with_reducible rfl)
    simp only [List.setIfInBounds_toArray, List.set_cons_zero, List.set_cons_succ]
    refine Zreg.takeP 3 11 (x := ?xa_3) rfl rfl (by kernel_rfl) (by kernel_rfl) (by kernel_rfl) (by kernel_rfl) (fun _ _ _ h => h) (.inr ⟨C0.out.drew.cell, O0.out.drew.cell⟩) (Or.inl ⟨by rfl, ?ya_3⟩) ?ra_3
    case ya_3 => (intro w _; go_simp <;> with_reducible rfl)
    simp only [List.setIfInBounds_toArray, List.set_cons_zero, List.set_cons_succ]
    refine Zreg.takeS 4 12 (x := ?xa_4) rfl rfl (by kernel_rfl) (by kernel_rfl) (by kernel_rfl) (by kernel_rfl) (by kernel_rfl) (by kernel_rfl) (fun _ _ _ h => h) (.inr ⟨C0.out.drew.cell, O0.out.drew.cell⟩) (Or.inl ⟨by rfl, ?ya_4⟩) ?ra_4
    case ya_4 => (intro w hSw; (try dsimp only at hSw); go_simp <;> with_reducible rfl)
    simp only [List.setIfInBounds_toArray, List.set_cons_zero, List.set_cons_succ]
    refine Zreg.takeS 5 13 (x := ?xa_5) rfl rfl (by kernel_rfl) (by kernel_rfl) (by kernel_rfl) (by kernel_rfl) (by kernel_rfl) (by kernel_rfl) (fun _ _ _ h => h) (.inr ⟨C0.out.drew.cell, O0.out.drew.cell⟩) (Or.inl ⟨by rfl, ?ya_5⟩) ?ra_5
    case ya_5 => (intro w hSw; (try dsimp only at hSw); go_simp <;> with_reducible rfl)
    simp only [List.setIfInBounds_toArray, List.set_cons_zero, List.set_cons_succ]
    refine Zreg.takeS 6 14 (x := ?xa_6) rfl rfl (by kernel_rfl) (by kernel_rfl) (by kernel_rfl) (by kernel_rfl) (by kernel_rfl) (by kernel_rfl) (fun _ _ _ h => h) (.inr ⟨C0.out.drew.cell, O0.out.drew.cell⟩) (Or.inl ⟨by rfl, ?ya_6⟩) ?ra_6
    case ya_6 => (intro w hSw; (try dsimp only at hSw); go_simp <;> with_reducible rfl)
    simp only [List.setIfInBounds_toArray, List.set_cons_zero, List.set_cons_succ]
    have h : AwS w 0 false false false V0.drew 0 0 0 nilS ⟨0, 0, nilS, nilS, 0, 0, nilS, nilS, nilS⟩ nilS 0 0 0 0 := ⟨C0.out.drew, O0.out.drew, W0.out.drew, fun h => absurd h (by omega), fun h => absurd h (by omega), (fun h => by cases h), (fun h => by cases h), (fun h => by cases h), (fun h => by cases h)⟩
    clear C0 O0 W0
    obtain ⟨g2, g3, gA, q, r, sS, gK, cK, gL, cL, h⟩ : ∃ g2 g3 gA q r sS gK cK gL cL, AwS w 0 false false false V0.drew g2 g3 gA q r sS gK cK gL cL := ⟨_, _, _, _, _, _, _, _, _, _, h⟩
    generalize V0.drew = V at h ⊢
    refine zkey w 2 true true true 2 #[true, true, true, true, true, true, true, true, true, true, true, true, true, true, true, false, false] (fun i => #[.bool false, .pointer (some ⟨w.heap.size, 0, none⟩), .pointer (some ⟨w.heap.size + 1, 0, none⟩), .pointer (some ⟨i.gA, 0, none⟩), undef, .agg #[.int .i64 2, .int .i64 1, .int .i64 1, .int .i64 2], .agg #[.int .i64 3, .int .u32 0], .tuple #[.agg #[.slice i.sS.A i.sS.n i.sS.c, .slice (some ⟨i.gK, 0, none⟩) 6 i.cK, .int .u64 3, .int .u64 4294967298, .slice i.r.L.A i.r.L.n i.r.L.c, .slice i.r.P.A i.r.P.n i.r.P.c, .int .u64 i.r.h, .int .u64 i.r.t, .slice (some ⟨i.gL, 0, none⟩) 2 i.cL, .slice i.r.X.A i.r.X.n i.r.X.c, .slice i.r.S.A i.r.S.n i.r.S.c], .int .i64 0], .agg #[.int .i64 2, .int .i64 1, .int .i64 1, .int .i64 2], .agg #[.int .i64 6, .int .u32 0], .agg #[.int .i64 8, .int .u32 1], .agg #[.int .i64 7, .int .u32 0], .agg #[.int .i64 3, .int .u32 0], .agg #[.int .i64 3, .int .u32 0], .agg #[.int .i64 3, .int .u32 0], .slice (some ⟨i.g2, 0, none⟩) 6 6, .slice (some ⟨i.g3, 0, none⟩) 1 1, .slice i.q.A i.q.n i.q.c, .tuple #[.agg #[.slice i.sS.A i.sS.n i.sS.c, .slice (some ⟨i.gK, 0, none⟩) 6 i.cK, .int .u64 3, .int .u64 4294967298, .slice i.r.L.A i.r.L.n i.r.L.c, .slice i.r.P.A i.r.P.n i.r.P.c, .int .u64 i.r.h, .int .u64 i.r.t, .slice (some ⟨i.gL, 0, none⟩) 2 i.cL, .slice i.r.X.A i.r.X.n i.r.X.c, .slice i.r.S.A i.r.S.n i.r.S.c], .int .i64 0], .agg #[.slice i.sS.A i.sS.n i.sS.c, .slice (some ⟨i.gK, 0, none⟩) 6 i.cK, .int .u64 3, .int .u64 4294967298, .slice i.r.L.A i.r.L.n i.r.L.c, .slice i.r.P.A i.r.P.n i.r.P.c, .int .u64 i.r.h, .int .u64 i.r.t, .slice (some ⟨i.gL, 0, none⟩) 2 i.cL, .slice i.r.X.A i.r.X.n i.r.X.c, .slice i.r.S.A i.r.S.n i.r.S.c], .int .i64 0, undef, undef, undef, undef, undef, undef, undef, undef, undef, undef, undef, undef, undef, undef, undef, undef, undef, undef, undef, undef, undef, undef, undef, undef, undef, undef, undef, undef, undef, undef, undef, undef, undef, undef, undef, undef, undef]) ?_ (fun EF => ?_)
    · rintro ⟨V, g2, g3, gA, q, r, sS, gK, cK, gL, cL⟩ h
      dsimp only at h ⊢
      obtain ⟨hT, hA⟩ := h.T rfl
      obtain ⟨b1, hk⟩ := h.K rfl
      obtain ⟨b2, hx⟩ := h.X rfl
      have hW := h.W
      have TE : Hid (Blk (((((((((((V.setCell ⟨gA, 0, none⟩ (.slice sS.A sS.n sS.c)).setCell ⟨gA, 1, none⟩ (.slice (some ⟨gK, 0, none⟩) 6 cK)).setCell ⟨gA, 2, none⟩ (.int .u64 3)).setCell ⟨gA, 3, none⟩ (.int .u64 4294967298)).setCell ⟨gA, 4, none⟩ (.slice r.L.A r.L.n r.L.c)).setCell ⟨gA, 5, none⟩ (.slice r.P.A r.P.n r.P.c)).setCell ⟨gA, 6, none⟩ (.int .u64 r.h)).setCell ⟨gA, 7, none⟩ (.int .u64 r.t)).setCell ⟨gA, 8, none⟩ (.slice (some ⟨gL, 0, none⟩) 2 cL)).setCell ⟨gA, 9, none⟩ (.slice r.X.A r.X.n r.X.c)).setCell ⟨gA, 10, none⟩ (.slice r.S.A r.S.n r.S.c)) gA 35 #[.slice sS.A sS.n sS.c, .slice (some ⟨gK, 0, none⟩) 6 cK, .int .u64 3, .int .u64 4294967298, .slice r.L.A r.L.n r.L.c, .slice r.P.A r.P.n r.P.c, .int .u64 r.h, .int .u64 r.t, .slice (some ⟨gL, 0, none⟩) 2 cL, .slice r.X.A r.X.n r.X.c, .slice r.S.A r.S.n r.S.c]) := Lib.hid (by have h_ := (Blk.set_ (Blk.set_ (Blk.set_ (Blk.set_ (Blk.set_ (Blk.set_ (Blk.set_ (Blk.set_ (Blk.set_ (Blk.set_ (Blk.set_ hT 0 (.slice sS.A sS.n sS.c)) 1 (.slice (some ⟨gK, 0, none⟩) 6 cK)) 2 (.int .u64 3)) 3 (.int .u64 4294967298)) 4 (.slice r.L.A r.L.n r.L.c)) 5 (.slice r.P.A r.P.n r.P.c)) 6 (.int .u64 r.h)) 7 (.int .u64 r.t)) 8 (.slice (some ⟨gL, 0, none⟩) 2 cL)) 9 (.slice r.X.A r.X.n r.X.c)) 10 (.slice r.S.A r.S.n r.S.c)); simpa only [List.setIfInBounds_toArray, List.set_cons_zero, List.set_cons_succ] using h_)
      have OE : Hid (Only (fun g => g = gA) V (((((((((((V.setCell ⟨gA, 0, none⟩ (.slice sS.A sS.n sS.c)).setCell ⟨gA, 1, none⟩ (.slice (some ⟨gK, 0, none⟩) 6 cK)).setCell ⟨gA, 2, none⟩ (.int .u64 3)).setCell ⟨gA, 3, none⟩ (.int .u64 4294967298)).setCell ⟨gA, 4, none⟩ (.slice r.L.A r.L.n r.L.c)).setCell ⟨gA, 5, none⟩ (.slice r.P.A r.P.n r.P.c)).setCell ⟨gA, 6, none⟩ (.int .u64 r.h)).setCell ⟨gA, 7, none⟩ (.int .u64 r.t)).setCell ⟨gA, 8, none⟩ (.slice (some ⟨gL, 0, none⟩) 2 cL)).setCell ⟨gA, 9, none⟩ (.slice r.X.A r.X.n r.X.c)).setCell ⟨gA, 10, none⟩ (.slice r.S.A r.S.n r.S.c))) := Lib.hid ((Only.set_ (Only.set_ (Only.set_ (Only.set_ (Only.set_ (Only.set_ (Only.set_ (Only.set_ (Only.set_ (Only.set_ (Only.set_ (Only.refl (fun g => g = gA) V) ⟨gA, 0, none⟩ (.inl rfl) (.slice sS.A sS.n sS.c)) ⟨gA, 1, none⟩ (.inl rfl) (.slice (some ⟨gK, 0, none⟩) 6 cK)) ⟨gA, 2, none⟩ (.inl rfl) (.int .u64 3)) ⟨gA, 3, none⟩ (.inl rfl) (.int .u64 4294967298)) ⟨gA, 4, none⟩ (.inl rfl) (.slice r.L.A r.L.n r.L.c)) ⟨gA, 5, none⟩ (.inl rfl) (.slice r.P.A r.P.n r.P.c)) ⟨gA, 6, none⟩ (.inl rfl) (.int .u64 r.h)) ⟨gA, 7, none⟩ (.inl rfl) (.int .u64 r.t)) ⟨gA, 8, none⟩ (.inl rfl) (.slice (some ⟨gL, 0, none⟩) 2 cL)) ⟨gA, 9, none⟩ (.inl rfl) (.slice r.X.A r.X.n r.X.c)) ⟨gA, 10, none⟩ (.inl rfl) (.slice r.S.A r.S.n r.S.c)))
      have KE := Lib.hid (hk.only OE.out (hk.ne hT (by decide)))
      have XE := Lib.hid (hx.only OE.out (hx.ne hT (by decide)))
      have WE := Lib.hid (hW.trans (OE.out.below hW.size (fun g hg => by rw [hg]; exact hA)))
      have hf := hT.frozen
      have hc := hT.cell
      clear hT hk hx hW hA h
      refine Zreg.one 15 (by kernel_rfl) rfl rfl fun K_ hK => ?_
      go_simp
      refine hK.out _ _ (.inl (by kernel_rfl)) fun _ => ?_
      clear hK hf hc
      generalize (((((((((((V.setCell ⟨gA, 0, none⟩ (.slice sS.A sS.n sS.c)).setCell ⟨gA, 1, none⟩ (.slice (some ⟨gK, 0, none⟩) 6 cK)).setCell ⟨gA, 2, none⟩ (.int .u64 3)).setCell ⟨gA, 3, none⟩ (.int .u64 4294967298)).setCell ⟨gA, 4, none⟩ (.slice r.L.A r.L.n r.L.c)).setCell ⟨gA, 5, none⟩ (.slice r.P.A r.P.n r.P.c)).setCell ⟨gA, 6, none⟩ (.int .u64 r.h)).setCell ⟨gA, 7, none⟩ (.int .u64 r.t)).setCell ⟨gA, 8, none⟩ (.slice (some ⟨gL, 0, none⟩) 2 cL)).setCell ⟨gA, 9, none⟩ (.slice r.X.A r.X.n r.X.c)).setCell ⟨gA, 10, none⟩ (.slice r.S.A r.S.n r.S.c)) = V9 at TE OE KE XE WE ⊢
      simp only [List.setIfInBounds_toArray, List.set_cons_zero, List.set_cons_succ]
      refine Zreg.takeP 16 4 (x := ?xz_16) rfl rfl (by kernel_rfl) (by kernel_rfl) (by kernel_rfl) (by kernel_rfl) (fun _ _ _ h => h) (.inl (by kernel_rfl)) (Or.inl ⟨by rfl, ?yz_16⟩) ?rz_16
      case yz_16 => (intro w _; go_simp <;> with_reducible rfl)
      simp only [List.setIfInBounds_toArray, List.set_cons_zero, List.set_cons_succ]
      refine Zreg.done (by kernel_rfl) ?_ _
      go_wp2_with fail
      go_meet
      exact ⟨gA, rfl, rfl, r, sS, gK, cK, gL, cL, TE.out, ⟨_, KE.out⟩, ⟨_, XE.out⟩, WE.out⟩
    refine zkey w 2 true true true 5 #[true, true, true, true, true, true, true, true, true, true, true, false, false, false, true, false, false] (fun i => #[.bool false, .pointer (some ⟨w.heap.size, 0, none⟩), .pointer (some ⟨w.heap.size + 1, 0, none⟩), .pointer (some ⟨i.gA, 0, none⟩), undef, .agg #[.int .i64 2, .int .i64 1, .int .i64 1, .int .i64 2], .agg #[.int .i64 3, .int .u32 0], undef, .agg #[.int .i64 2, .int .i64 1, .int .i64 1, .int .i64 2], .agg #[.int .i64 6, .int .u32 0], .agg #[.int .i64 8, .int .u32 1], .agg #[.int .i64 7, .int .u32 0], .agg #[.int .i64 3, .int .u32 0], .agg #[.int .i64 3, .int .u32 0], .agg #[.int .i64 3, .int .u32 0], .slice (some ⟨i.g2, 0, none⟩) 6 6, .slice (some ⟨i.g3, 0, none⟩) 1 1, .slice i.q.A i.q.n i.q.c, .tuple #[.agg #[.slice i.sS.A i.sS.n i.sS.c, .slice (some ⟨i.gK, 0, none⟩) 6 i.cK, .int .u64 3, .int .u64 4294967298, .slice i.r.L.A i.r.L.n i.r.L.c, .slice i.r.P.A i.r.P.n i.r.P.c, .int .u64 i.r.h, .int .u64 i.r.t, .slice (some ⟨i.gL, 0, none⟩) 2 i.cL, .slice i.r.X.A i.r.X.n i.r.X.c, .slice i.r.S.A i.r.S.n i.r.S.c], .int .i64 0], undef, undef, undef, undef, undef, undef, undef, undef, undef, undef, undef, undef, undef, undef, undef, undef, undef, undef, undef, undef, undef, undef, undef, undef, undef, undef, undef, undef, undef, undef, undef, undef, undef, undef, undef, undef, undef, undef, undef]) ?_ (fun E2111 => ?_)
    · rintro ⟨V, g2, g3, gA, q, r, sS, gK, cK, gL, cL⟩ h
      dsimp only at h ⊢
      refine Zreg.takeP 11 7 (x := ?xf_11) rfl rfl (by kernel_rfl) (by kernel_rfl) (by kernel_rfl) (by kernel_rfl) (fun _ _ _ h => h) ((.inr ⟨h.C.cell, h.O.cell⟩)) (Or.inl ⟨by rfl, ?yf_11⟩) ?rf_11
      case yf_11 => (intro w _; go_simp <;> with_reducible rfl)
      simp only [List.setIfInBounds_toArray, List.set_cons_zero, List.set_cons_succ]
      refine Zreg.takeP 12 19 (x := ?xf_12) rfl rfl (by kernel_rfl) (by kernel_rfl) (by kernel_rfl) (by kernel_rfl) (fun _ _ _ h => h) ((.inr ⟨h.C.cell, h.O.cell⟩)) (Or.inl ⟨by rfl, ?yf_12⟩) ?rf_12
      case yf_12 => (intro w _; go_simp <;> with_reducible rfl)
      simp only [List.setIfInBounds_toArray, List.set_cons_zero, List.set_cons_succ]
      refine Zreg.takeP 13 20 (x := ?xf_13) rfl rfl (by kernel_rfl) (by kernel_rfl) (by kernel_rfl) (by kernel_rfl) (fun _ _ _ h => h) ((.inr ⟨h.C.cell, h.O.cell⟩)) (Or.inl ⟨by rfl, ?yf_13⟩) ?rf_13
      case yf_13 => (intro w _; go_simp <;> with_reducible rfl)
      simp only [List.setIfInBounds_toArray, List.set_cons_zero, List.set_cons_succ]
      exact EF _ g2 g3 gA q r sS gK cK gL cL h
    refine zkey w 2 true false true 6 #[true, true, true, true, true, true, true, true, true, true, true, false, false, false, false, false, false] (fun i => #[.bool false, .pointer (some ⟨w.heap.size, 0, none⟩), .pointer (some ⟨w.heap.size + 1, 0, none⟩), undef, undef, .agg #[.int .i64 2, .int .i64 1, .int .i64 1, .int .i64 2], .agg #[.int .i64 3, .int .u32 0], undef, .agg #[.int .i64 2, .int .i64 1, .int .i64 1, .int .i64 2], .agg #[.int .i64 6, .int .u32 0], .agg #[.int .i64 8, .int .u32 1], .agg #[.int .i64 7, .int .u32 0], .agg #[.int .i64 3, .int .u32 0], .agg #[.int .i64 3, .int .u32 0], .agg #[.int .i64 3, .int .u32 0], .slice (some ⟨i.g2, 0, none⟩) 6 6, .slice (some ⟨i.g3, 0, none⟩) 1 1, .slice i.q.A i.q.n i.q.c, .tuple #[.agg #[.slice i.sS.A i.sS.n i.sS.c, .slice (some ⟨i.gK, 0, none⟩) 6 i.cK, .int .u64 3, .int .u64 4294967298, .slice i.r.L.A i.r.L.n i.r.L.c, .slice i.r.P.A i.r.P.n i.r.P.c, .int .u64 i.r.h, .int .u64 i.r.t, .slice (some ⟨i.gL, 0, none⟩) 2 i.cL, .slice i.r.X.A i.r.X.n i.r.X.c, .slice i.r.S.A i.r.S.n i.r.S.c], .int .i64 0], undef, undef, undef, undef, undef, undef, undef, undef, undef, undef, undef, undef, undef, undef, undef, undef, undef, undef, undef, undef, undef, undef, undef, undef, undef, undef, undef, undef, undef, undef, undef, undef, undef, undef, undef, undef, undef, undef, undef]) ?_ (fun E2101 => ?_)
    · rintro ⟨V, g2, g3, gA, q, r, sS, gK, cK, gL, cL⟩ h
      dsimp only at h ⊢
      refine Zreg.takeP 11 7 (x := ?xg_11) rfl rfl (by kernel_rfl) (by kernel_rfl) (by kernel_rfl) (by kernel_rfl) (fun _ _ _ h => h) ((.inr ⟨h.C.cell, h.O.cell⟩)) (Or.inl ⟨by rfl, ?yg_11⟩) ?rg_11
      case yg_11 => (intro w _; go_simp <;> with_reducible rfl)
      simp only [List.setIfInBounds_toArray, List.set_cons_zero, List.set_cons_succ]
      refine Zreg.takeP 12 19 (x := ?xg_12) rfl rfl (by kernel_rfl) (by kernel_rfl) (by kernel_rfl) (by kernel_rfl) (fun _ _ _ h => h) ((.inr ⟨h.C.cell, h.O.cell⟩)) (Or.inl ⟨by rfl, ?yg_12⟩) ?rg_12
      case yg_12 => (intro w _; go_simp <;> with_reducible rfl)
      simp only [List.setIfInBounds_toArray, List.set_cons_zero, List.set_cons_succ]
      refine Zreg.takeP 13 20 (x := ?xg_13) rfl rfl (by kernel_rfl) (by kernel_rfl) (by kernel_rfl) (by kernel_rfl) (fun _ _ _ h => h) ((.inr ⟨h.C.cell, h.O.cell⟩)) (Or.inl ⟨by rfl, ?yg_13⟩) ?rg_13
      case yg_13 => (intro w _; go_simp <;> with_reducible rfl)
      simp only [List.setIfInBounds_toArray, List.set_cons_zero, List.set_cons_succ]
      refine Zreg.one 14 (by kernel_rfl) rfl rfl fun K_ hK => ?_
      go_simp
      have h := h.t14
      refine hK.out _ _ (.inr ⟨h.C.cell, h.O.cell⟩) fun _ => ?_
      simp only [List.setIfInBounds_toArray, List.set_cons_zero, List.set_cons_succ]
      exact EF _ g2 g3 _ q r sS gK cK gL cL h
    refine zkey w 2 true true false 6 #[true, true, true, true, true, true, true, true, true, true, false, false, false, false, true, false, false] (fun i => #[.bool false, .pointer (some ⟨w.heap.size, 0, none⟩), .pointer (some ⟨w.heap.size + 1, 0, none⟩), .pointer (some ⟨i.gA, 0, none⟩), undef, .agg #[.int .i64 2, .int .i64 1, .int .i64 1, .int .i64 2], .agg #[.int .i64 3, .int .u32 0], undef, .agg #[.int .i64 2, .int .i64 1, .int .i64 1, .int .i64 2], .agg #[.int .i64 6, .int .u32 0], .agg #[.int .i64 8, .int .u32 1], .agg #[.int .i64 7, .int .u32 0], .agg #[.int .i64 3, .int .u32 0], .agg #[.int .i64 3, .int .u32 0], .agg #[.int .i64 3, .int .u32 0], .slice (some ⟨i.g2, 0, none⟩) 6 6, .slice (some ⟨i.g3, 0, none⟩) 1 1, .slice i.q.A i.q.n i.q.c, undef, undef, undef, undef, undef, undef, undef, undef, undef, undef, undef, undef, undef, undef, undef, undef, undef, undef, undef, undef, undef, undef, undef, undef, undef, undef, undef, undef, undef, undef, undef, undef, undef, undef, undef, undef, undef, undef, undef, undef]) ?_ (fun E2110 => ?_)
    · rintro ⟨V, g2, g3, gA, q, r, sS, gK, cK, gL, cL⟩ h
      dsimp only at h ⊢
      refine Zreg.one 10 (by kernel_rfl) rfl rfl fun K_ hK => ?_
      go_simp
      go_at_call 23
      obtain ⟨base, hq⟩ := h.Q rfl
      refine (run_40 _ g2 g3 q _ (h.B (by omega)) (h.L (by omega)) hq).mono ?_
      rintro e V' ⟨r', sS', gK', cK', gL', cL', rfl, hk, hx, hb⟩
      have h := h.r10 (r' := r') (sS' := sS') hk hx hb
      clear hk hx hb hq
      refine hK.out _ _ (.inr ⟨h.C.cell, h.O.cell⟩) fun _ => ?_
      simp only [List.setIfInBounds_toArray, List.set_cons_zero, List.set_cons_succ]
      exact E2111 _ g2 g3 gA q r' sS' gK' cK' gL' cL' h
    refine zkey w 1 true true false 7 #[true, true, true, true, true, true, true, true, false, true, false, false, false, false, true, false, false] (fun i => #[.bool false, .pointer (some ⟨w.heap.size, 0, none⟩), .pointer (some ⟨w.heap.size + 1, 0, none⟩), .pointer (some ⟨i.gA, 0, none⟩), undef, .agg #[.int .i64 2, .int .i64 1, .int .i64 1, .int .i64 2], .agg #[.int .i64 3, .int .u32 0], undef, .agg #[.int .i64 2, .int .i64 1, .int .i64 1, .int .i64 2], .agg #[.int .i64 6, .int .u32 0], .agg #[.int .i64 8, .int .u32 1], .agg #[.int .i64 7, .int .u32 0], .agg #[.int .i64 3, .int .u32 0], .agg #[.int .i64 3, .int .u32 0], .agg #[.int .i64 3, .int .u32 0], .slice (some ⟨i.g2, 0, none⟩) 6 6, undef, .slice i.q.A i.q.n i.q.c, undef, undef, undef, undef, undef, undef, undef, undef, undef, undef, undef, undef, undef, undef, undef, undef, undef, undef, undef, undef, undef, undef, undef, undef, undef, undef, undef, undef, undef, undef, undef, undef, undef, undef, undef, undef, undef, undef, undef, undef]) ?_ (fun E1110 => ?_)
    · rintro ⟨V, g2, g3, gA, q, r, sS, gK, cK, gL, cL⟩ h
      dsimp only at h ⊢
      refine Zreg.one 8 (by kernel_rfl) rfl rfl fun K_ hK => ?_
      go_simp
      have h := h.a8
      refine hK.out _ _ (.inr ⟨h.C.cell, h.O.cell⟩) fun _ => ?_
      simp only [List.setIfInBounds_toArray, List.set_cons_zero, List.set_cons_succ]
      exact E2110 _ g2 _ gA q r sS gK cK gL cL h
    refine zkey w 2 false true false 7 #[true, true, true, true, true, true, true, true, true, false, false, false, false, false, true, false, false] (fun i => #[.bool false, .pointer (some ⟨w.heap.size, 0, none⟩), .pointer (some ⟨w.heap.size + 1, 0, none⟩), .pointer (some ⟨i.gA, 0, none⟩), undef, .agg #[.int .i64 2, .int .i64 1, .int .i64 1, .int .i64 2], .agg #[.int .i64 3, .int .u32 0], undef, .agg #[.int .i64 2, .int .i64 1, .int .i64 1, .int .i64 2], .agg #[.int .i64 6, .int .u32 0], .agg #[.int .i64 8, .int .u32 1], .agg #[.int .i64 7, .int .u32 0], .agg #[.int .i64 3, .int .u32 0], .agg #[.int .i64 3, .int .u32 0], .agg #[.int .i64 3, .int .u32 0], .slice (some ⟨i.g2, 0, none⟩) 6 6, .slice (some ⟨i.g3, 0, none⟩) 1 1, undef, undef, undef, undef, undef, undef, undef, undef, undef, undef, undef, undef, undef, undef, undef, undef, undef, undef, undef, undef, undef, undef, undef, undef, undef, undef, undef, undef, undef, undef, undef, undef, undef, undef, undef, undef, undef, undef, undef, undef, undef]) ?_ (fun E2010 => ?_)
    · rintro ⟨V, g2, g3, gA, q, r, sS, gK, cK, gL, cL⟩ h
      dsimp only at h ⊢
      refine Zreg.one 9 (by kernel_rfl) rfl rfl fun K_ hK => ?_
      go_simp
      go_at_call 22
      (with_reducible refine (picked_40 _).mono ?_)
      rintro e V' ⟨q', rfl, hr, hb⟩
      have h := h.c9 hr hb
      clear hr hb
      refine hK.out _ _ (.inr ⟨h.C.cell, h.O.cell⟩) fun _ => ?_
      simp only [List.setIfInBounds_toArray, List.set_cons_zero, List.set_cons_succ]
      exact E2110 _ g2 g3 gA q' r sS gK cK gL cL h
    refine zkey w 2 true false false 7 #[true, true, true, true, true, true, true, true, true, true, false, false, false, false, false, false, false] (fun i => #[.bool false, .pointer (some ⟨w.heap.size, 0, none⟩), .pointer (some ⟨w.heap.size + 1, 0, none⟩), undef, undef, .agg #[.int .i64 2, .int .i64 1, .int .i64 1, .int .i64 2], .agg #[.int .i64 3, .int .u32 0], undef, .agg #[.int .i64 2, .int .i64 1, .int .i64 1, .int .i64 2], .agg #[.int .i64 6, .int .u32 0], .agg #[.int .i64 8, .int .u32 1], .agg #[.int .i64 7, .int .u32 0], .agg #[.int .i64 3, .int .u32 0], .agg #[.int .i64 3, .int .u32 0], .agg #[.int .i64 3, .int .u32 0], .slice (some ⟨i.g2, 0, none⟩) 6 6, .slice (some ⟨i.g3, 0, none⟩) 1 1, .slice i.q.A i.q.n i.q.c, undef, undef, undef, undef, undef, undef, undef, undef, undef, undef, undef, undef, undef, undef, undef, undef, undef, undef, undef, undef, undef, undef, undef, undef, undef, undef, undef, undef, undef, undef, undef, undef, undef, undef, undef, undef, undef, undef, undef, undef]) ?_ (fun E2100 => ?_)
    · rintro ⟨V, g2, g3, gA, q, r, sS, gK, cK, gL, cL⟩ h
      dsimp only at h ⊢
      refine Zreg.two 10 14 (by kernel_rfl) rfl rfl rfl rfl (fun K_ hK => ?_) (fun K_ hK => ?_)
      · go_simp
        go_at_call 23
        obtain ⟨base, hq⟩ := h.Q rfl
        refine (run_40 _ g2 g3 q _ (h.B (by omega)) (h.L (by omega)) hq).mono ?_
        rintro e V' ⟨r', sS', gK', cK', gL', cL', rfl, hk, hx, hb⟩
        have h := h.r10 (r' := r') (sS' := sS') hk hx hb
        clear hk hx hb hq
        refine hK.out _ _ (.inr ⟨h.C.cell, h.O.cell⟩) fun _ => ?_
        simp only [List.setIfInBounds_toArray, List.set_cons_zero, List.set_cons_succ]
        exact E2101 _ g2 g3 gA q r' sS' gK' cK' gL' cL' h
      · go_simp
        have h := h.t14
        refine hK.out _ _ (.inr ⟨h.C.cell, h.O.cell⟩) fun _ => ?_
        simp only [List.setIfInBounds_toArray, List.set_cons_zero, List.set_cons_succ]
        exact E2110 _ g2 g3 _ q r sS gK cK gL cL h
    refine zkey w 0 true true false 8 #[true, true, true, true, true, true, true, false, false, true, false, false, false, false, true, false, false] (fun i => #[.bool false, .pointer (some ⟨w.heap.size, 0, none⟩), .pointer (some ⟨w.heap.size + 1, 0, none⟩), .pointer (some ⟨i.gA, 0, none⟩), undef, .agg #[.int .i64 2, .int .i64 1, .int .i64 1, .int .i64 2], .agg #[.int .i64 3, .int .u32 0], undef, .agg #[.int .i64 2, .int .i64 1, .int .i64 1, .int .i64 2], .agg #[.int .i64 6, .int .u32 0], .agg #[.int .i64 8, .int .u32 1], .agg #[.int .i64 7, .int .u32 0], .agg #[.int .i64 3, .int .u32 0], .agg #[.int .i64 3, .int .u32 0], .agg #[.int .i64 3, .int .u32 0], undef, undef, .slice i.q.A i.q.n i.q.c, undef, undef, undef, undef, undef, undef, undef, undef, undef, undef, undef, undef, undef, undef, undef, undef, undef, undef, undef, undef, undef, undef, undef, undef, undef, undef, undef, undef, undef, undef, undef, undef, undef, undef, undef, undef, undef, undef, undef, undef]) ?_ (fun E0110 => ?_)
    · rintro ⟨V, g2, g3, gA, q, r, sS, gK, cK, gL, cL⟩ h
      dsimp only at h ⊢
      refine Zreg.one 7 (by kernel_rfl) rfl rfl fun K_ hK => ?_
      go_simp
      have h := h.a7
      refine hK.out _ _ (.inr ⟨h.C.cell, h.O.cell⟩) fun _ => ?_
      simp only [List.setIfInBounds_toArray, List.set_cons_zero, List.set_cons_succ]
      exact E1110 _ _ g3 gA q r sS gK cK gL cL h
    refine zkey w 1 false true false 8 #[true, true, true, true, true, true, true, true, false, false, false, false, false, false, true, false, false] (fun i => #[.bool false, .pointer (some ⟨w.heap.size, 0, none⟩), .pointer (some ⟨w.heap.size + 1, 0, none⟩), .pointer (some ⟨i.gA, 0, none⟩), undef, .agg #[.int .i64 2, .int .i64 1, .int .i64 1, .int .i64 2], .agg #[.int .i64 3, .int .u32 0], undef, .agg #[.int .i64 2, .int .i64 1, .int .i64 1, .int .i64 2], .agg #[.int .i64 6, .int .u32 0], .agg #[.int .i64 8, .int .u32 1], .agg #[.int .i64 7, .int .u32 0], .agg #[.int .i64 3, .int .u32 0], .agg #[.int .i64 3, .int .u32 0], .agg #[.int .i64 3, .int .u32 0], .slice (some ⟨i.g2, 0, none⟩) 6 6, undef, undef, undef, undef, undef, undef, undef, undef, undef, undef, undef, undef, undef, undef, undef, undef, undef, undef, undef, undef, undef, undef, undef, undef, undef, undef, undef, undef, undef, undef, undef, undef, undef, undef, undef, undef, undef, undef, undef, undef, undef, undef]) ?_ (fun E1010 => ?_)
    · rintro ⟨V, g2, g3, gA, q, r, sS, gK, cK, gL, cL⟩ h
      dsimp only at h ⊢
      refine Zreg.two 8 9 (by kernel_rfl) rfl rfl rfl rfl (fun K_ hK => ?_) (fun K_ hK => ?_)
      · go_simp
        have h := h.a8
        refine hK.out _ _ (.inr ⟨h.C.cell, h.O.cell⟩) fun _ => ?_
        simp only [List.setIfInBounds_toArray, List.set_cons_zero, List.set_cons_succ]
        exact E2010 _ g2 _ gA q r sS gK cK gL cL h
      · go_simp
        go_at_call 22
        (with_reducible refine (picked_40 _).mono ?_)
        rintro e V' ⟨q', rfl, hr, hb⟩
        have h := h.c9 hr hb
        clear hr hb
        refine hK.out _ _ (.inr ⟨h.C.cell, h.O.cell⟩) fun _ => ?_
        simp only [List.setIfInBounds_toArray, List.set_cons_zero, List.set_cons_succ]
        exact E1110 _ g2 g3 gA q' r sS gK cK gL cL h
    refine zkey w 1 true false false 8 #[true, true, true, true, true, true, true, true, false, true, false, false, false, false, false, false, false] (fun i => #[.bool false, .pointer (some ⟨w.heap.size, 0, none⟩), .pointer (some ⟨w.heap.size + 1, 0, none⟩), undef, undef, .agg #[.int .i64 2, .int .i64 1, .int .i64 1, .int .i64 2], .agg #[.int .i64 3, .int .u32 0], undef, .agg #[.int .i64 2, .int .i64 1, .int .i64 1, .int .i64 2], .agg #[.int .i64 6, .int .u32 0], .agg #[.int .i64 8, .int .u32 1], .agg #[.int .i64 7, .int .u32 0], .agg #[.int .i64 3, .int .u32 0], .agg #[.int .i64 3, .int .u32 0], .agg #[.int .i64 3, .int .u32 0], .slice (some ⟨i.g2, 0, none⟩) 6 6, undef, .slice i.q.A i.q.n i.q.c, undef, undef, undef, undef, undef, undef, undef, undef, undef, undef, undef, undef, undef, undef, undef, undef, undef, undef, undef, undef, undef, undef, undef, undef, undef, undef, undef, undef, undef, undef, undef, undef, undef, undef, undef, undef, undef, undef, undef, undef]) ?_ (fun E1100 => ?_)
    · rintro ⟨V, g2, g3, gA, q, r, sS, gK, cK, gL, cL⟩ h
      dsimp only at h ⊢
      refine Zreg.two 8 14 (by kernel_rfl) rfl rfl rfl rfl (fun K_ hK => ?_) (fun K_ hK => ?_)
      · go_simp
        have h := h.a8
        refine hK.out _ _ (.inr ⟨h.C.cell, h.O.cell⟩) fun _ => ?_
        simp only [List.setIfInBounds_toArray, List.set_cons_zero, List.set_cons_succ]
        exact E2100 _ g2 _ gA q r sS gK cK gL cL h
      · go_simp
        have h := h.t14
        refine hK.out _ _ (.inr ⟨h.C.cell, h.O.cell⟩) fun _ => ?_
        simp only [List.setIfInBounds_toArray, List.set_cons_zero, List.set_cons_succ]
        exact E1110 _ g2 g3 _ q r sS gK cK gL cL h
    refine zkey w 2 false false false 8 #[true, true, true, true, true, true, true, true, true, false, false, false, false, false, false, false, false] (fun i => #[.bool false, .pointer (some ⟨w.heap.size, 0, none⟩), .pointer (some ⟨w.heap.size + 1, 0, none⟩), undef, undef, .agg #[.int .i64 2, .int .i64 1, .int .i64 1, .int .i64 2], .agg #[.int .i64 3, .int .u32 0], undef, .agg #[.int .i64 2, .int .i64 1, .int .i64 1, .int .i64 2], .agg #[.int .i64 6, .int .u32 0], .agg #[.int .i64 8, .int .u32 1], .agg #[.int .i64 7, .int .u32 0], .agg #[.int .i64 3, .int .u32 0], .agg #[.int .i64 3, .int .u32 0], .agg #[.int .i64 3, .int .u32 0], .slice (some ⟨i.g2, 0, none⟩) 6 6, .slice (some ⟨i.g3, 0, none⟩) 1 1, undef, undef, undef, undef, undef, undef, undef, undef, undef, undef, undef, undef, undef, undef, undef, undef, undef, undef, undef, undef, undef, undef, undef, undef, undef, undef, undef, undef, undef, undef, undef, undef, undef, undef, undef, undef, undef, undef, undef, undef, undef]) ?_ (fun E2000 => ?_)
    · rintro ⟨V, g2, g3, gA, q, r, sS, gK, cK, gL, cL⟩ h
      dsimp only at h ⊢
      refine Zreg.two 9 14 (by kernel_rfl) rfl rfl rfl rfl (fun K_ hK => ?_) (fun K_ hK => ?_)
      · go_simp
        go_at_call 22
        (with_reducible refine (picked_40 _).mono ?_)
        rintro e V' ⟨q', rfl, hr, hb⟩
        have h := h.c9 hr hb
        clear hr hb
        refine hK.out _ _ (.inr ⟨h.C.cell, h.O.cell⟩) fun _ => ?_
        simp only [List.setIfInBounds_toArray, List.set_cons_zero, List.set_cons_succ]
        exact E2100 _ g2 g3 gA q' r sS gK cK gL cL h
      · go_simp
        have h := h.t14
        refine hK.out _ _ (.inr ⟨h.C.cell, h.O.cell⟩) fun _ => ?_
        simp only [List.setIfInBounds_toArray, List.set_cons_zero, List.set_cons_succ]
        exact E2010 _ g2 g3 _ q r sS gK cK gL cL h
    refine zkey w 0 false true false 9 #[true, true, true, true, true, true, true, false, false, false, false, false, false, false, true, false, false] (fun i => #[.bool false, .pointer (some ⟨w.heap.size, 0, none⟩), .pointer (some ⟨w.heap.size + 1, 0, none⟩), .pointer (some ⟨i.gA, 0, none⟩), undef, .agg #[.int .i64 2, .int .i64 1, .int .i64 1, .int .i64 2], .agg #[.int .i64 3, .int .u32 0], undef, .agg #[.int .i64 2, .int .i64 1, .int .i64 1, .int .i64 2], .agg #[.int .i64 6, .int .u32 0], .agg #[.int .i64 8, .int .u32 1], .agg #[.int .i64 7, .int .u32 0], .agg #[.int .i64 3, .int .u32 0], .agg #[.int .i64 3, .int .u32 0], .agg #[.int .i64 3, .int .u32 0], undef, undef, undef, undef, undef, undef, undef, undef, undef, undef, undef, undef, undef, undef, undef, undef, undef, undef, undef, undef, undef, undef, undef, undef, undef, undef, undef, undef, undef, undef, undef, undef, undef, undef, undef, undef, undef, undef, undef, undef, undef, undef, undef]) ?_ (fun E0010 => ?_)
    · rintro ⟨V, g2, g3, gA, q, r, sS, gK, cK, gL, cL⟩ h
      dsimp only at h ⊢
      refine Zreg.two 7 9 (by kernel_rfl) rfl rfl rfl rfl (fun K_ hK => ?_) (fun K_ hK => ?_)
      · go_simp
        have h := h.a7
        refine hK.out _ _ (.inr ⟨h.C.cell, h.O.cell⟩) fun _ => ?_
        simp only [List.setIfInBounds_toArray, List.set_cons_zero, List.set_cons_succ]
        exact E1010 _ _ g3 gA q r sS gK cK gL cL h
      · go_simp
        go_at_call 22
        (with_reducible refine (picked_40 _).mono ?_)
        rintro e V' ⟨q', rfl, hr, hb⟩
        have h := h.c9 hr hb
        clear hr hb
        refine hK.out _ _ (.inr ⟨h.C.cell, h.O.cell⟩) fun _ => ?_
        simp only [List.setIfInBounds_toArray, List.set_cons_zero, List.set_cons_succ]
        exact E0110 _ g2 g3 gA q' r sS gK cK gL cL h
    refine zkey w 0 true false false 9 #[true, true, true, true, true, true, true, false, false, true, false, false, false, false, false, false, false] (fun i => #[.bool false, .pointer (some ⟨w.heap.size, 0, none⟩), .pointer (some ⟨w.heap.size + 1, 0, none⟩), undef, undef, .agg #[.int .i64 2, .int .i64 1, .int .i64 1, .int .i64 2], .agg #[.int .i64 3, .int .u32 0], undef, .agg #[.int .i64 2, .int .i64 1, .int .i64 1, .int .i64 2], .agg #[.int .i64 6, .int .u32 0], .agg #[.int .i64 8, .int .u32 1], .agg #[.int .i64 7, .int .u32 0], .agg #[.int .i64 3, .int .u32 0], .agg #[.int .i64 3, .int .u32 0], .agg #[.int .i64 3, .int .u32 0], undef, undef, .slice i.q.A i.q.n i.q.c, undef, undef, undef, undef, undef, undef, undef, undef, undef, undef, undef, undef, undef, undef, undef, undef, undef, undef, undef, undef, undef, undef, undef, undef, undef, undef, undef, undef, undef, undef, undef, undef, undef, undef, undef, undef, undef, undef, undef, undef]) ?_ (fun E0100 => ?_)
    · rintro ⟨V, g2, g3, gA, q, r, sS, gK, cK, gL, cL⟩ h
      dsimp only at h ⊢
      refine Zreg.two 7 14 (by kernel_rfl) rfl rfl rfl rfl (fun K_ hK => ?_) (fun K_ hK => ?_)
      · go_simp
        have h := h.a7
        refine hK.out _ _ (.inr ⟨h.C.cell, h.O.cell⟩) fun _ => ?_
        simp only [List.setIfInBounds_toArray, List.set_cons_zero, List.set_cons_succ]
        exact E1100 _ _ g3 gA q r sS gK cK gL cL h
      · go_simp
        have h := h.t14
        refine hK.out _ _ (.inr ⟨h.C.cell, h.O.cell⟩) fun _ => ?_
        simp only [List.setIfInBounds_toArray, List.set_cons_zero, List.set_cons_succ]
        exact E0110 _ g2 g3 _ q r sS gK cK gL cL h
    refine zkey w 1 false false false 9 #[true, true, true, true, true, true, true, true, false, false, false, false, false, false, false, false, false] (fun i => #[.bool false, .pointer (some ⟨w.heap.size, 0, none⟩), .pointer (some ⟨w.heap.size + 1, 0, none⟩), undef, undef, .agg #[.int .i64 2, .int .i64 1, .int .i64 1, .int .i64 2], .agg #[.int .i64 3, .int .u32 0], undef, .agg #[.int .i64 2, .int .i64 1, .int .i64 1, .int .i64 2], .agg #[.int .i64 6, .int .u32 0], .agg #[.int .i64 8, .int .u32 1], .agg #[.int .i64 7, .int .u32 0], .agg #[.int .i64 3, .int .u32 0], .agg #[.int .i64 3, .int .u32 0], .agg #[.int .i64 3, .int .u32 0], .slice (some ⟨i.g2, 0, none⟩) 6 6, undef, undef, undef, undef, undef, undef, undef, undef, undef, undef, undef, undef, undef, undef, undef, undef, undef, undef, undef, undef, undef, undef, undef, undef, undef, undef, undef, undef, undef, undef, undef, undef, undef, undef, undef, undef, undef, undef, undef, undef, undef, undef]) ?_ (fun E1000 => ?_)
    · rintro ⟨V, g2, g3, gA, q, r, sS, gK, cK, gL, cL⟩ h
      dsimp only at h ⊢
      refine zthree 8 9 14 (by kernel_rfl) rfl rfl rfl rfl rfl rfl (fun K_ hK => ?_) (fun K_ hK => ?_) (fun K_ hK => ?_)
      · go_simp
        have h := h.a8
        refine hK.out _ _ (.inr ⟨h.C.cell, h.O.cell⟩) fun _ => ?_
        simp only [List.setIfInBounds_toArray, List.set_cons_zero, List.set_cons_succ]
        exact E2000 _ g2 _ gA q r sS gK cK gL cL h
      · go_simp
        go_at_call 22
        (with_reducible refine (picked_40 _).mono ?_)
        rintro e V' ⟨q', rfl, hr, hb⟩
        have h := h.c9 hr hb
        clear hr hb
        refine hK.out _ _ (.inr ⟨h.C.cell, h.O.cell⟩) fun _ => ?_
        simp only [List.setIfInBounds_toArray, List.set_cons_zero, List.set_cons_succ]
        exact E1100 _ g2 g3 gA q' r sS gK cK gL cL h
      · go_simp
        have h := h.t14
        refine hK.out _ _ (.inr ⟨h.C.cell, h.O.cell⟩) fun _ => ?_
        simp only [List.setIfInBounds_toArray, List.set_cons_zero, List.set_cons_succ]
        exact E1010 _ g2 g3 _ q r sS gK cK gL cL h
    refine zthree 7 9 14 (by kernel_rfl) rfl rfl rfl rfl rfl rfl (fun K_ hK => ?_) (fun K_ hK => ?_) (fun K_ hK => ?_)
    · go_simp
      have h := h.a7
      refine hK.out _ _ (.inr ⟨h.C.cell, h.O.cell⟩) fun _ => ?_
      simp only [List.setIfInBounds_toArray, List.set_cons_zero, List.set_cons_succ]
      exact E1000 _ _ g3 gA q r sS gK cK gL cL h
    · go_simp
      go_at_call 22
      (with_reducible refine (picked_40 _).mono ?_)
      rintro e V' ⟨q', rfl, hr, hb⟩
      have h := h.c9 hr hb
      clear hr hb
      refine hK.out _ _ (.inr ⟨h.C.cell, h.O.cell⟩) fun _ => ?_
      simp only [List.setIfInBounds_toArray, List.set_cons_zero, List.set_cons_succ]
      exact E0100 _ g2 g3 gA q' r sS gK cK gL cL h
    · go_simp
      have h := h.t14
      refine hK.out _ _ (.inr ⟨h.C.cell, h.O.cell⟩) fun _ => ?_
      simp only [List.setIfInBounds_toArray, List.set_cons_zero, List.set_cons_succ]
      exact E0010 _ g2 g3 _ q r sS gK cK gL cL h
  case rest =>
    obtain ⟨gA, rfl, rfl, r, sS, gK, cK, gL, cL, ht, ⟨b1, hk⟩, ⟨b2, hx⟩, hb⟩ := hcut
    have hct := ht.cell
    have hkc : wc.cell? ⟨gK, 39, none⟩ = some (.int .i64 27) := by
      obtain ⟨g, hg, _, _, hc, _⟩ := hk.at_ (by decide)
      injection hg with hg
      injection hg with hg
      rw [hg]
      exact hc 39 (by decide)
    have hxc : wc.cell? ⟨gL, 1, none⟩ = some (.int .u64 4294967296) := by
      obtain ⟨g, hg, _, _, hc, _⟩ := hx.at_ (by decide)
      injection hg with hg
      injection hg with hg
      rw [hg]
      exact hc 1 (by decide)
    have HB := Lib.hid hb
    clear ht hk hx hb
    go_wp2
    go_ret
    exact ⟨rfl, HB.out⟩
end Go.Proofs.Ytffppdcpiieapaa.Machc

namespace Go.Proofs.Ytffppdcpiieapaa.Machc
open Go.RowKit Go.Proofs.Ytffppdcpiieapaa.Memc Go.Proofs.Ytffppdcpiieapaa.Newc Go.Proofs.Ytffppdcpiieapaa.Refc Go.Proofs.Ytffppdcpiieapaa.Drivec Go.Proofs.Ytffppdcpiieapaa.Procc Go.Proofs.Ytffppdcpiieapaa.Wordc Go.Proofs.Ytffppdcpiieapaa.Arenac
set_option linter.unusedVariables false
set_option maxRecDepth 100000

end Go.Proofs.Ytffppdcpiieapaa.Machc

namespace Go.Proofs.Ytffppdcpiieapaa.Machc
open Go.RowKit Go.Proofs.Ytffppdcpiieapaa.Memc Go.Proofs.Ytffppdcpiieapaa.Newc Go.Proofs.Ytffppdcpiieapaa.Refc Go.Proofs.Ytffppdcpiieapaa.Drivec Go.Proofs.Ytffppdcpiieapaa.Procc Go.Proofs.Ytffppdcpiieapaa.Wordc Go.Proofs.Ytffppdcpiieapaa.Arenac
set_option linter.unusedVariables false
set_option maxRecDepth 100000

end Go.Proofs.Ytffppdcpiieapaa.Machc

namespace Go.Proofs.Ytffppdcpiieapaa.Machc
open Go.RowKit Go.Proofs.Ytffppdcpiieapaa.Memc Go.Proofs.Ytffppdcpiieapaa.Newc Go.Proofs.Ytffppdcpiieapaa.Refc Go.Proofs.Ytffppdcpiieapaa.Drivec Go.Proofs.Ytffppdcpiieapaa.Procc Go.Proofs.Ytffppdcpiieapaa.Wordc Go.Proofs.Ytffppdcpiieapaa.Arenac
set_option linter.unusedVariables false
set_option maxRecDepth 100000

end Go.Proofs.Ytffppdcpiieapaa.Machc

namespace Go.Proofs.Ytffppdcpiieapaa.Machc
open Go.RowKit Go.Proofs.Ytffppdcpiieapaa.Memc Go.Proofs.Ytffppdcpiieapaa.Newc Go.Proofs.Ytffppdcpiieapaa.Refc Go.Proofs.Ytffppdcpiieapaa.Drivec Go.Proofs.Ytffppdcpiieapaa.Procc Go.Proofs.Ytffppdcpiieapaa.Wordc Go.Proofs.Ytffppdcpiieapaa.Arenac
set_option linter.unusedVariables false
set_option maxRecDepth 100000

end Go.Proofs.Ytffppdcpiieapaa.Machc

namespace Go.Proofs.Ytffppdcpiieapaa.Machc
open Go.RowKit Go.Proofs.Ytffppdcpiieapaa.Memc Go.Proofs.Ytffppdcpiieapaa.Newc Go.Proofs.Ytffppdcpiieapaa.Refc Go.Proofs.Ytffppdcpiieapaa.Drivec Go.Proofs.Ytffppdcpiieapaa.Procc Go.Proofs.Ytffppdcpiieapaa.Wordc Go.Proofs.Ytffppdcpiieapaa.Arenac
set_option linter.unusedVariables false
set_option maxRecDepth 100000

end Go.Proofs.Ytffppdcpiieapaa.Machc

namespace Go.Proofs.Ytffppdcpiieapaa.Machc
open Go.RowKit Go.Proofs.Ytffppdcpiieapaa.Memc Go.Proofs.Ytffppdcpiieapaa.Newc Go.Proofs.Ytffppdcpiieapaa.Refc Go.Proofs.Ytffppdcpiieapaa.Drivec Go.Proofs.Ytffppdcpiieapaa.Procc Go.Proofs.Ytffppdcpiieapaa.Wordc Go.Proofs.Ytffppdcpiieapaa.Arenac
set_option linter.unusedVariables false
set_option maxRecDepth 100000

end Go.Proofs.Ytffppdcpiieapaa.Machc
