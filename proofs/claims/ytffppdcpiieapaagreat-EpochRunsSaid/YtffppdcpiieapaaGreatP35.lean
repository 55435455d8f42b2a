/- Any threads' calls of Hold, Drop, Retire and Collect, in any order that is picked, come to the trace that the document says, access by access; or are refused (P5.1, P5.2). No condition. -/
import Derived.Test.YtffppdcpiieapaaGreatP32
import Derived.Test.YtffppdcpiieapaaGreatP33
import Derived.Test.YtffppdcpiieapaaGreatP34
namespace Go.Proofs.YtffppdcpiieapaaGreat.Machc
open Go.RowKit Memc Newc Drivec Procc Refc Arenac
set_option linter.unusedVariables false
set_option maxRecDepth 100000

def NoP (w : World) (e : Ending) (w' : World) : Prop := e = .returned (.tuple #[.agg #[.slice none 0 0, .slice none 0 0, .int .u64 0, .int .u64 0, .slice none 0 0, .slice none 0 0, .int .u64 0, .int .u64 0, .slice none 0 0, .slice none 0 0, .slice none 0 0], .int .i64 1]) /\ Below w.heap.size w w'
set_option maxHeartbeats 4000000 in
theorem aruns_no (w : World) (k K T M : Int) (sA : Option Addr) (sn sc : Nat) (pA : Option Addr) (pn pc : Nat) (ns : List Nat) (h : Lens w ⟨sA, sn, sc⟩ ns) (hps : pn <= maxLen)
   (hA : ∀ W, Below w.heap.size w W -> Calls Tryz.prog 6 #[.agg #[.int .i64 k, .int .i64 K, .int .i64 T, .int .i64 M], .slice sA sn sc, .slice pA pn pc] W (NoP W)) (hR : ∀ W, Below w.heap.size w W -> Calls Tryz.prog 7 #[.agg #[.int .i64 k, .int .i64 K, .int .i64 T, .int .i64 M], .slice sA sn sc, .slice pA pn pc] W (No4 W)) :
   Calls Tryz.prog 3 #[.agg #[.int .i64 k, .int .i64 K, .int .i64 T, .int .i64 M], .slice sA sn sc, .slice pA pn pc] w fun e w' => e = .returned (.bool true) /\ Below w.heap.size w w' := by
 have HLN := lh h
 have HPL := lh hps
 have HA := lh hA
 have HR := lh hR
 clear h hps hA hR
 have W0 : Hid (Below w.heap.size w (w.alloc (.cells #[.int .i64 k, .int .i64 K, .int .i64 T, .int .i64 M] 23))) := lh ((Below.refl _ _).alloc (Nat.le_refl _) _)
 have C0 : Hid (Blk (w.alloc (.cells #[.int .i64 k, .int .i64 K, .int .i64 T, .int .i64 M] 23)) w.heap.size 23 #[.int .i64 k, .int .i64 K, .int .i64 T, .int .i64 M]) := lh (Blk.new _ _ _)
 go_enter Tryz.func3, Tryz.ntmps3
 go_upto_region 3 with (go_at_call 4; refine (awake5_c _).mono ?_; rintro e w1 ⟨rfl, hb1⟩; go_must (have C1 := lh (C0.out.below hb1 C0.out.lt); have W1 := lh (W0.out.trans (hb1.mono W0.out.size))); clear hb1)
 clear C0 W0
 obtain ⟨z, hz⟩ : ∃ z : Bool, Calls Tryz.prog 5 #[.slice sA sn sc, .slice pA pn pc, .int .i64 1000] w1 fun e w' => e = .returned (.bool z) /\ w1 = w' := ⟨fewB ns sn pn, few_c w1 sA sn sc pA pn pc ns (HLN.out.below W1.out) HPL.out⟩
 have HFZ := lh hz
 clear hz
 cases z
 case false =>
   go_wp2_with (go_at_call 5; refine HFZ.out.mono ?_; rintro e w2 ⟨rfl, rfl⟩)
   go_ret
   exact ⟨rfl, W1.out⟩
 case true =>
   have hcc := C1.out.cell
   go_upto_region 6 with (first
     | (go_at_call 5; refine HFZ.out.mono ?_; rintro e w2 ⟨rfl, rfl⟩)
     | (go_at_call 6; (with_reducible refine (HA.out _ W1.out).mono ?_); rintro e w2 ⟨rfl, hb⟩; go_must (have W2 := lh (W1.out.trans (hb.mono W1.out.size)); have C2 := lh (C1.out.below hb C1.out.lt)); clear hb hcc))
   have X3 : Hid (Blk (w2.alloc (.cells zT 35)) w2.heap.size 35 #[.slice none 0 0, .slice none 0 0, .int .u64 0, .int .u64 0, .slice none 0 0, .slice none 0 0, .int .u64 0, .int .u64 0, .slice none 0 0, .slice none 0 0, .slice none 0 0]) := lh (Blk.new _ _ _)
   have W3 := lh (W2.out.alloc W2.out.size (.cells zT 35))
   have C3 := lh (C2.out.alloc (.cells zT 35))
   clear W2 C2
   generalize w2.heap.size = gA at X3 ⊢
   generalize w2.alloc (.cells zT 35) = V3 at X3 W3 C3 ⊢
   have hcc := C3.out.cell
   go_wp2_with (first | (go_at_call 7; (with_reducible refine (HR.out _ W3.out).mono ?_); rintro e w4 ⟨rfl, hb⟩; go_must (have W4 := lh (W3.out.trans (hb.mono W3.out.size)); have X4 := lh (X3.out.below hb X3.out.lt)); have hx4 := X4.out.cell; have hx4l := X4.out.lt; clear hb hcc) | (go_at_call 8; refine (Go.Proofs.YtffppdcpiieapaaGreat.Samez.same_zz _).mono ?_; rintro e w5 ⟨rfl, hb⟩; go_must (have W5 := lh ((W4.out.alloc W4.out.size (.cells zT 35)).trans (hb.mono (W4.out.alloc W4.out.size (.cells zT 35)).size))); clear hb))
   go_ret
   exact ⟨rfl, W5.out⟩
set_option maxHeartbeats 4000000 in
theorem aruns_yes (w : World) (k : Int) (K M : Nat) (sA : Option Addr) (sn sc : Nat) (pA : Option Addr) (pn pc : Nat) (ns : List Nat) (s : RS) (h : Lens w ⟨sA, sn, sc⟩ ns) (hps : pn <= maxLen) (hst : StepsOk s)
   (hA : ∀ W, Below w.heap.size w W -> Calls Tryz.prog 6 #[.agg #[.int .i64 k, .int .i64 K, .int .i64 sn, .int .i64 M], .slice sA sn sc, .slice pA pn pc] W (RanL W s)) (hR : ∀ W, Below w.heap.size w W -> Calls Tryz.prog 7 #[.agg #[.int .i64 k, .int .i64 K, .int .i64 sn, .int .i64 M], .slice sA sn sc, .slice pA pn pc] W (Ran4 W s)) :
   Calls Tryz.prog 3 #[.agg #[.int .i64 k, .int .i64 K, .int .i64 sn, .int .i64 M], .slice sA sn sc, .slice pA pn pc] w fun e w' => e = .returned (.bool true) /\ Below w.heap.size w w' := by
 have HLN := lh h
 have HPL := lh hps
 have HA := lh hA
 have HR := lh hR
 have HST := lh hst
 clear h hps hA hR hst
 have W0 : Hid (Below w.heap.size w (w.alloc (.cells #[.int .i64 k, .int .i64 K, .int .i64 sn, .int .i64 M] 23))) := lh ((Below.refl _ _).alloc (Nat.le_refl _) _)
 have C0 : Hid (Blk (w.alloc (.cells #[.int .i64 k, .int .i64 K, .int .i64 sn, .int .i64 M] 23)) w.heap.size 23 #[.int .i64 k, .int .i64 K, .int .i64 sn, .int .i64 M]) := lh (Blk.new _ _ _)
 go_enter Tryz.func3, Tryz.ntmps3
 go_upto_region 3 with (go_at_call 4; refine (awake5_c _).mono ?_; rintro e w1 ⟨rfl, hb1⟩; go_must (have C1 := lh (C0.out.below hb1 C0.out.lt); have W1 := lh (W0.out.trans (hb1.mono W0.out.size))); clear hb1)
 clear C0 W0
 obtain ⟨z, hz⟩ : ∃ z : Bool, Calls Tryz.prog 5 #[.slice sA sn sc, .slice pA pn pc, .int .i64 1000] w1 fun e w' => e = .returned (.bool z) /\ w1 = w' := ⟨fewB ns sn pn, few_c w1 sA sn sc pA pn pc ns (HLN.out.below W1.out) HPL.out⟩
 have HFZ := lh hz
 clear hz
 cases z
 case false =>
   go_wp2_with (go_at_call 5; refine HFZ.out.mono ?_; rintro e w2 ⟨rfl, rfl⟩)
   go_ret
   exact ⟨rfl, W1.out⟩
 case true =>
   have hcc := C1.out.cell
   go_upto_region 6 with (first
     | (go_at_call 5; refine HFZ.out.mono ?_; rintro e w2 ⟨rfl, rfl⟩)
     | (go_at_call 6; (with_reducible refine (HA.out _ W1.out).mono ?_); rintro e w2 ⟨r, sS, sK, base, rfl, hS, hK, hE, hb⟩; go_must (have W2 := lh (W1.out.trans (hb.mono W1.out.size)); have C2 := lh (C1.out.below hb C1.out.lt); have S2 := lh (row_rdT hS HST.out); have K2 := lh (row_rdK hK); have R2 := lh hE.rm); clear hb hcc hS hK hE))
   have bb : Below w2.heap.size w2 (w2.alloc (.cells #[.slice sS.A sS.n sS.c, .slice sK.A sK.n sK.c, .int .u64 r.e, .int .u64 r.f, .slice r.L.A r.L.n r.L.c, .slice r.P.A r.P.n r.P.c, .int .u64 r.h, .int .u64 r.t, .slice r.K.A r.K.n r.K.c, .slice r.X.A r.X.n r.X.c, .slice r.S.A r.S.n r.S.c] 35)) := (Below.refl _ _).alloc (Nat.le_refl _) _
   have X3 : Hid (Blk (w2.alloc (.cells #[.slice sS.A sS.n sS.c, .slice sK.A sK.n sK.c, .int .u64 r.e, .int .u64 r.f, .slice r.L.A r.L.n r.L.c, .slice r.P.A r.P.n r.P.c, .int .u64 r.h, .int .u64 r.t, .slice r.K.A r.K.n r.K.c, .slice r.X.A r.X.n r.X.c, .slice r.S.A r.S.n r.S.c] 35)) w2.heap.size 35 #[.slice sS.A sS.n sS.c, .slice sK.A sK.n sK.c, .int .u64 r.e, .int .u64 r.f, .slice r.L.A r.L.n r.L.c, .slice r.P.A r.P.n r.P.c, .int .u64 r.h, .int .u64 r.t, .slice r.K.A r.K.n r.K.c, .slice r.X.A r.X.n r.X.c, .slice r.S.A r.S.n r.S.c]) := lh (Blk.new _ _ _)
   have W3 := lh (W2.out.alloc W2.out.size (.cells #[.slice sS.A sS.n sS.c, .slice sK.A sK.n sK.c, .int .u64 r.e, .int .u64 r.f, .slice r.L.A r.L.n r.L.c, .slice r.P.A r.P.n r.P.c, .int .u64 r.h, .int .u64 r.t, .slice r.K.A r.K.n r.K.c, .slice r.X.A r.X.n r.X.c, .slice r.S.A r.S.n r.S.c] 35))
   have C3 := lh (C2.out.alloc (.cells #[.slice sS.A sS.n sS.c, .slice sK.A sK.n sK.c, .int .u64 r.e, .int .u64 r.f, .slice r.L.A r.L.n r.L.c, .slice r.P.A r.P.n r.P.c, .int .u64 r.h, .int .u64 r.t, .slice r.K.A r.K.n r.K.c, .slice r.X.A r.X.n r.X.c, .slice r.S.A r.S.n r.S.c] 35))
   have S3 := lh ((S2.out.below bb).more bb.size)
   have K3 := lh ((K2.out.below bb).more bb.size)
   have R3 := lh ((R2.out.below bb).more bb.size)
   clear W2 C2 S2 K2 R2 bb
   generalize w2.heap.size = gA at X3 ⊢
   generalize w2.alloc (.cells #[.slice sS.A sS.n sS.c, .slice sK.A sK.n sK.c, .int .u64 r.e, .int .u64 r.f, .slice r.L.A r.L.n r.L.c, .slice r.P.A r.P.n r.P.c, .int .u64 r.h, .int .u64 r.t, .slice r.K.A r.K.n r.K.c, .slice r.X.A r.X.n r.X.c, .slice r.S.A r.S.n r.S.c] 35) = V3 at X3 W3 C3 S3 K3 R3 ⊢
   have hcc := C3.out.cell
   go_upto_region 7 with (go_at_call 7; (with_reducible refine (HR.out _ W3.out).mono ?_); rintro e w4 ⟨q, qS, qK, base2, rfl, hm, hoff, hs, hk, hst2, hbase, hb⟩; go_must (have W4 := lh (W3.out.trans (hb.mono W3.out.size)); have X4 := lh (X3.out.below hb X3.out.lt); have S4 := lh ((S3.out.below hb).more hb.size); have K4 := lh ((K3.out.below hb).more hb.size); have R4 := lh ((R3.out.below hb).more hb.size); have M4 := lh hm; have QS4 := lh (row_rdT hs hst2); have QK4 := lh (row_rdK hk)); clear hb hcc hm hoff hs hk hst2 hbase)
   have bb : Below w4.heap.size w4 (w4.alloc (.cells #[.slice qS.A qS.n qS.c, .slice qK.A qK.n qK.c, .int .u64 q.e, .int .u64 q.f, .slice q.L.A q.L.n q.L.c, .slice q.P.A q.P.n q.P.c, .int .u64 q.h, .int .u64 q.t, .slice q.K.A q.K.n q.K.c, .slice q.X.A q.X.n q.X.c, .slice q.S.A q.S.n q.S.c] 35)) := (Below.refl _ _).alloc (Nat.le_refl _) _
   have Y5 : Hid (Blk (w4.alloc (.cells #[.slice qS.A qS.n qS.c, .slice qK.A qK.n qK.c, .int .u64 q.e, .int .u64 q.f, .slice q.L.A q.L.n q.L.c, .slice q.P.A q.P.n q.P.c, .int .u64 q.h, .int .u64 q.t, .slice q.K.A q.K.n q.K.c, .slice q.X.A q.X.n q.X.c, .slice q.S.A q.S.n q.S.c] 35)) w4.heap.size 35 #[.slice qS.A qS.n qS.c, .slice qK.A qK.n qK.c, .int .u64 q.e, .int .u64 q.f, .slice q.L.A q.L.n q.L.c, .slice q.P.A q.P.n q.P.c, .int .u64 q.h, .int .u64 q.t, .slice q.K.A q.K.n q.K.c, .slice q.X.A q.X.n q.X.c, .slice q.S.A q.S.n q.S.c]) := lh (Blk.new _ _ _)
   have X5 := lh (X4.out.alloc (.cells #[.slice qS.A qS.n qS.c, .slice qK.A qK.n qK.c, .int .u64 q.e, .int .u64 q.f, .slice q.L.A q.L.n q.L.c, .slice q.P.A q.P.n q.P.c, .int .u64 q.h, .int .u64 q.t, .slice q.K.A q.K.n q.K.c, .slice q.X.A q.X.n q.X.c, .slice q.S.A q.S.n q.S.c] 35))
   have W5 := lh (W4.out.alloc W4.out.size (.cells #[.slice qS.A qS.n qS.c, .slice qK.A qK.n qK.c, .int .u64 q.e, .int .u64 q.f, .slice q.L.A q.L.n q.L.c, .slice q.P.A q.P.n q.P.c, .int .u64 q.h, .int .u64 q.t, .slice q.K.A q.K.n q.K.c, .slice q.X.A q.X.n q.X.c, .slice q.S.A q.S.n q.S.c] 35))
   have S5 := lh ((S4.out.below bb).more bb.size)
   have K5 := lh ((K4.out.below bb).more bb.size)
   have R5 := lh ((R4.out.below bb).more bb.size)
   have M5 := lh ((M4.out.below bb).more bb.size)
   have QS5 := lh ((QS4.out.below bb).more bb.size)
   have QK5 := lh ((QK4.out.below bb).more bb.size)
   clear X4 W4 S4 K4 R4 M4 QS4 QK4 bb
   generalize w4.heap.size = gB at Y5 ⊢
   generalize w4.alloc (.cells #[.slice qS.A qS.n qS.c, .slice qK.A qK.n qK.c, .int .u64 q.e, .int .u64 q.f, .slice q.L.A q.L.n q.L.c, .slice q.P.A q.P.n q.P.c, .int .u64 q.h, .int .u64 q.t, .slice q.K.A q.K.n q.K.c, .slice q.X.A q.X.n q.X.c, .slice q.S.A q.S.n q.S.c] 35) = V5 at Y5 X5 W5 S5 K5 R5 M5 QS5 QK5 ⊢
   have hx5 := X5.out.cell
   have hy5 := Y5.out.cell
   go_wp2_with (go_at_call 9; (with_reducible refine (same3_yes _ r q s.m sS sK qS qK s.steps s.calls R5.out M5.out S5.out QS5.out K5.out QK5.out).mono ?_); rintro e w6 ⟨rfl, hb⟩; go_must (have W6 := lh (W5.out.trans (hb.mono W5.out.size))); clear hb)
   go_ret
   exact ⟨rfl, W6.out⟩

end Go.Proofs.YtffppdcpiieapaaGreat.Machc

namespace Go.Proofs.YtffppdcpiieapaaGreat.Opencfg
open Go.ChangeShapes Go.WideShapes Go.RowKit Memc Newc Wordc
set_option linter.unusedVariables false
set_option maxRecDepth 100000

theorem open_cfg {H : Type} {enc : TypeId × Value -> H} {w : World} {base : Nat} {spare : Nat -> Bool} {held : Bool} {r : Reach} {b0 : Nat} {v : Value} {d : DataW H} {p : List MemPlace}
   (hv : Value.okWide Tryz.prog w r b0 23 v) (h : DataW.Trod enc Tryz.prog w base spare held 23 v d p) :
   ∃ k K T M : Int, v = .agg #[.int .i64 k, .int .i64 K, .int .i64 T, .int .i64 M] /\ (-9223372036854775808 <= k /\ k <= 9223372036854775807) /\ (-9223372036854775808 <= K /\ K <= 9223372036854775807) /\ (-9223372036854775808 <= T /\ T <= 9223372036854775807) /\ (-9223372036854775808 <= M /\ M <= 9223372036854775807) := by
 obtain ⟨cs, rfl, hsz, n, hf⟩ := open_fields Tryz.underlying23 (by kernel_rfl) (by kernel_rfl) hv h
 obtain ⟨c0, y0, e0, t0⟩ := hf 0 _ rfl
 obtain ⟨c1, y1, e1, t1⟩ := hf 1 _ rfl
 obtain ⟨c2, y2, e2, t2⟩ := hf 2 _ rfl
 obtain ⟨c3, y3, e3, t3⟩ := hf 3 _ rfl
 obtain ⟨x0, rfl, w0⟩ := open_num Tryz.underlying3 t0
 obtain ⟨x1, rfl, w1⟩ := open_num Tryz.underlying3 t1
 obtain ⟨x2, rfl, w2⟩ := open_num Tryz.underlying3 t2
 obtain ⟨x3, rfl, w3⟩ := open_num Tryz.underlying3 t3
 refine ⟨x0, x1, x2, x3, ?_, fit_i64 w0, fit_i64 w1, fit_i64 w2, fit_i64 w3⟩
 have hs5 : cs.size = 4 := hsz
 congr 1
 apply Array.ext
 · simp [hs5]
 · intro i h1 h2
   have hi : i < 4 := by omega
   have hc : cs[i]? = some cs[i] := Array.getElem?_eq_getElem h1
   rcases (show i = 0 \/ i = 1 \/ i = 2 \/ i = 3 by omega) with rfl | rfl | rfl | rfl
   · exact Option.some.inj (hc.symm.trans e0)
   · exact Option.some.inj (hc.symm.trans e1)
   · exact Option.some.inj (hc.symm.trans e2)
   · exact Option.some.inj (hc.symm.trans e3)
end Go.Proofs.YtffppdcpiieapaaGreat.Opencfg

namespace Go.Proofs.YtffppdcpiieapaaGreat.epochRuns
open Go.ChangeShapes Go.WideShapes Go.ChangeAt Go.RowKit Memc Refc Newc Drivec Machc Arenac Opencfg
set_option linter.unusedVariables false
set_option maxRecDepth 100000

theorem own : ownKnob Tryz.prog.godebug = none := by kernel_rfl
theorem laidOut : laidOutB Tryz.prog = true := by kernel_rfl

theorem walk (k K T M : Int) (s p : Sl) (ls : List (List (Int × Int))) (ps : List (Int × Int)) (w : World) (hl : RdLO w w.heap.size s ls) (hv : ∀ x ∈ ls, Val32 x) (hp : RdP w w.heap.size p ps) (hpv : Val32 ps) :
   Calls Tryz.prog 3 #[.agg #[.int .i64 k, .int .i64 K, .int .i64 T, .int .i64 M], .slice s.A s.n s.c, .slice p.A p.n p.c] w fun e w' => e = .returned (.bool true) /\ Below w.heap.size w w' := by
 obtain ⟨sA, sn, sc⟩ := s
 obtain ⟨pA, pn, pc⟩ := p
 have hpm : pn <= maxLen := Nat.le_trans hp.2.1 hp.2.2.1
 have hln := Machc.RdLO.lens hl (Nat.le_refl _)
 have hup : ∀ W, Below w.heap.size w W -> RdLO W W.heap.size ⟨sA, sn, sc⟩ ls := fun W hW => Arenac.RdLO.up (hl.below hW) hW.size
 have hpup : ∀ W, Below w.heap.size w W -> RdP W W.heap.size ⟨pA, pn, pc⟩ ps := fun W hW => Arenac.RdP.up (hp.below hW) hW.size
 by_cases hk : ls.any fgnL = true
 · exact aruns_no w k K T M sA sn sc pA pn pc _ hln hpm (fun W hW => erun_no W k K T M sA sn sc ⟨pA, pn, pc⟩ ls (hup W hW) hpm (.inl hk)) (fun W hW => ref5_no W k K T M sA sn sc ⟨pA, pn, pc⟩ ls (hup W hW) hpm (.inl hk))
 · have hk' : ls.any fgnL = false := by simpa using hk
   by_cases hm : (Cfg.mk k K T M).may /\ (sn : Int) = T /\ (ls.map List.length).any (fun x => decide (1000 < x)) = false /\ pn <= 20000
   · obtain ⟨⟨⟨k1, k2⟩, ⟨a1, a2⟩, ⟨t1, t2⟩, ⟨m1, m2⟩⟩, hT, hany, hpn⟩ := hm
     simp only at k1 k2 a1 a2 t1 t2 m1 m2
     obtain ⟨K, rfl⟩ : ∃ n : Nat, K = n := ⟨K.toNat, by omega⟩
     obtain ⟨M, rfl⟩ : ∃ n : Nat, M = n := ⟨M.toNat, by omega⟩
     subst hT
     obtain ⟨b, off, hA, _⟩ := hl.2.2.2 (by show 0 < sn; omega)
     simp only at hA
     subst hA
     have hle : ∀ x ∈ ls, x.length <= 1000 := fun x hx => by
       rw [List.any_eq_false] at hany
       have := hany x.length (List.mem_map_of_mem hx)
       simpa using this
     have hpl : ps.length <= 20000 := by have := hp.1; simp only at this; omega
     have hls : ls.length = sn := hl.1.symm
     have hf : ∀ l ∈ ls, l.any fgnE = false := fun l hl' => by
       have h1 := List.any_eq_false.1 hk' l hl'
       simpa [fgnL] using h1
     have hops : ∀ q ∈ ps, OkOps okE ls q.2 := fun q _ => okE_of hls (by omega) hf hv q.2
     have hZ := ep_ok k K sn M (by omega) (by omega) (by omega) (by omega)
     have hRO : RunOk (GE sn) sn ls (runM (docZ k K sn M) ls (RS.first (newM k K sn M) sn) ps) := RunOk.run hZ hls ps _ (RunOk.first (newM_ok k K sn M (by omega)) hls) hops
     refine aruns_yes w k K M _ sn sc pA pn pc _ _ hln hpm hRO.steps (fun W hW => ?_) (fun W hW => ?_)
     · exact erun_c W k K sn M b off sc pA pn pc ls ps k1 k2 (by omega) (by omega) (by omega) (by omega) (by omega) (by omega) (hup W hW) hle (hpup W hW) hpl hf hv
     · exact ref5_yes W (docZ k K sn M) okE (GE sn) k K sn M b off sc pA pn pc ls ps k1 k2 (by omega) (by omega) (by omega) (by omega) (by omega) (by omega) (hup W hW) hle (hpup W hW) hpl hpv hZ hops (ep_docA k K sn M (by omega) (by omega) (by omega)) (ep_docT k K sn M (by omega) (by omega) (by omega) (by omega)) (ep_docB k K sn M (by omega) (by omega) (by omega) (by omega)) hf
   · exact aruns_no w k K T M sA sn sc pA pn pc _ hln hpm (fun W hW => erun_no W k K T M sA sn sc ⟨pA, pn, pc⟩ ls (hup W hW) hpm (.inr hm)) (fun W hW => ref5_no W k K T M sA sn sc ⟨pA, pn, pc⟩ ls (hup W hW) hpm (.inr hm))

/-! ### THE ROW's STEP -/
set_option maxRecDepth 100000 in
theorem lifted (os : Os) (started : os.Started) (H : Type) (enc : TypeId × Value -> H) :
   ReturnsInHanded {} Tryz.checked os 3 .any (Rows.epochRunsSpec.pre6 enc Tryz.prog Tryz.f3 Rows.epochRunsRow.domain false) (Rows.epochRunsSpec.post enc Tryz.prog Tryz.f3 false true false false) := by
 refine returnsInHanded_of_change (C := Tryz.checked) own started (by kernel_rfl) Tryz.func3
   (ChangeSpec.witness6 (enc := enc) (C := Tryz.checked) false ⟨#[], #[.agg #[.int .i64 0, .int .i64 0, .int .i64 0, .int .i64 0], .slice none 0 0, .slice none 0 0], []⟩ 8 (by kernel_rfl) (by kernel_rfl) (by kernel_rfl) (by kernel_rfl)) ?_
 intro W base args ds gs before hval0 hW hcnd _
 have hval : ∀ (j : Nat) t v, Tryz.f3.params[j]? = some t -> args[j]? = some v -> Value.okWide Tryz.prog W .any base t v := hval0
 have hW' := hW
 obtain ⟨p, q, hA0, hV, rfl, hfz, hnd⟩ := hW
 have hA : DataW.TrodAll enc Tryz.prog W 0 (fun _ => true) true Tryz.f3.params.toList args.toList ds p := hA0
 rw [Tryz.params3] at hA hval
 obtain ⟨v0, vs0, d0, ds0, p0, q0, hargs, rfl, rfl, h0, r0⟩ := trodAll_cons hA
 obtain ⟨v1, vs1, d1, ds1, p1, q1, rfl, rfl, rfl, h1, r1⟩ := trodAll_cons r0
 obtain ⟨v2, vs2, d2, ds2, p2, q2, rfl, rfl, rfl, h2, r2⟩ := trodAll_cons r1
 obtain ⟨rfl, rfl, rfl⟩ := trodAll_nil r2
 obtain rfl : args = #[v0, v1, v2] := by cases args; simp_all
 obtain ⟨rfl, rfl⟩ := trodVars_none hV
 have k0 := h0
 have lt0 : ∀ x ∈ p0, x.block < W.heap.size := by obtain ⟨m, hm⟩ := k0; exact DataW.trod_lt m _ _ _ hm
 have k1 := h1
 have lt1 : ∀ x ∈ p1, x.block < W.heap.size := by obtain ⟨m, hm⟩ := k1; exact DataW.trod_lt m _ _ _ hm
 have k2 := h2
 have lt2 : ∀ x ∈ p2, x.block < W.heap.size := by obtain ⟨m, hm⟩ := k2; exact DataW.trod_lt m _ _ _ hm
 obtain ⟨k, K, T, M, rfl, hk⟩ := open_cfg (hval 0 23 v0 rfl rfl) h0
 obtain ⟨s, ls, rfl, hl, hlv⟩ := open_ops (hval 1 24 v1 rfl rfl) h1
 obtain ⟨q, ps, rfl, hq, hqv⟩ := open_picks2 (hval 2 25 v2 rfl rfl) h2
 clear hA0 hval0
 refine (walk k K T M s q ls ps W hl hlv hq hqv).mono fun e W' ⟨he, bel⟩ => ?_
 subst he
 exact ⟨_, rfl, _, _, _, [], _, [], hW', trodAll_mk1 (shut_bool Tryz.underlying4 _), (trodAll_cons_mk (Below.trod laidOut (by kernel_rfl) (of_decide_eq_true (by kernel_rfl)) k0 bel lt0) (trodAll_cons_mk (Below.trod laidOut (by kernel_rfl) (of_decide_eq_true (by kernel_rfl)) k1 bel lt1) (trodAll_cons_mk (Below.trod laidOut (by kernel_rfl) (of_decide_eq_true (by kernel_rfl)) k2 bel lt2) trodAll_mk0))), rfl, bel.frame _, fun h => by cases h⟩

theorem over : Rows.epochRunsRow.holds Tryz.pinned (OpenSpec.ofChange Rows.epochRunsSpec) :=
 OpenClaim.holds_of_wide 3 Tryz.f3 rfl rfl rfl rfl rfl rfl rfl ⟨rfl, rfl, rfl, rfl, rfl⟩ rfl rfl rfl rfl rfl (by kernel_rfl) Tryz.func3 (by kernel_rfl)
   (of_decide_eq_true (by kernel_rfl)) (by unfold Func.isWrapper; first | (rw [if_pos (by decide +kernel)]; kernel_rfl) | (rw [if_neg (by decide +kernel)]; exact ⟨rfl, rfl⟩))
   (fun os started H enc _ => lifted os started H enc)

theorem proved : Rows.EpochRunsSaid :=
 over
end Go.Proofs.YtffppdcpiieapaaGreat.epochRuns
