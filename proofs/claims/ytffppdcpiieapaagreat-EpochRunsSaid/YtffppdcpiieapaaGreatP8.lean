/- A part of the proof. -/
import Derived.Test.YtffppdcpiieapaaGreatRows
import Derived.WalkKit
import Derived.IntWalk
import Derived.WalkSpells
import Derived.Outline
import Derived.BigQuiet
import Derived.Deep.QuietTactic
import Derived.Test.YtffppdcpiieapaaGreatP1
import Derived.Test.YtffppdcpiieapaaGreatP4
import Derived.Test.YtffppdcpiieapaaGreatP6
namespace Go.Proofs.YtffppdcpiieapaaGreat.Drivec
open Go.RowKit Memc Procc
set_option linter.unusedVariables false
set_option maxRecDepth 100000

def Begun3 (w : World) (p : Pl) (e : Ending) (w' : World) : Prop :=
 ∃ (P F : Nat) (l : List Cap1), e = .returned (.iface 82 (.pointer (some ⟨P, 0, none⟩))) /\ Blk w' P 85 #[.func (.func F) #[] (l.map Cap1.ptr).toArray, .slice none 0 0, .bool false, .bool false, .int .i64 0, .int .u32 0] /\ Kept w' l /\ SafeL l /\ Meets F l p /\ w.heap.size <= P /\ Below w.heap.size w w'
def Begins (B : Nat) (lb : List Cap1) (ok : Int -> Int -> Int -> Int -> Prop) (pl : Int -> Int -> Int -> Int -> Pl) : Prop :=
 Enters B /\ ∀ (w : World) (i kd vl d : Int), ok i kd vl d -> Kept w lb -> Calls Tryz.prog B (#[.int .i64 i, .agg #[.int .i64 kd, .int .u32 vl], .int .u32 d] ++ (lb.map Cap1.ptr).toArray) w (Begun3 w (pl i kd vl d))
def StartedG (w : World) (B : Nat) (bs : Array Value) (gC gT i o ob oo ln lcp base nK : Nat) (kd vl : Int) (p : Pl) (ct : Array Value) (a : Acc) (r : R) (th sS sK : Sl) (xs : List Value) (e : Ending) (w' : World) : Prop :=
 ∃ (P F : Nat) (cs : Array Value) (l : List Cap1) (s1 : Sl), e = .returned (.tuple #[]) /\ cs = (l.map Cap1.ptr).toArray /\ Meets F l p /\ SafeL l /\ Kept w' l /\ Blk w' P 85 #[.func (.func F) #[] cs, .slice none 0 0, .bool true, .bool false, .int .i64 0, .int .u32 0] /\
   Blk w' gC 76 #[.func (.func B) #[] bs, .slice th.A th.n th.c, .slice sS.A sS.n sS.c, .slice s1.A s1.n s1.c, .int .u64 r.e, .int .u64 r.f, .slice r.L.A r.L.n r.L.c, .slice r.P.A r.P.n r.P.c, .int .u64 r.h, .int .u64 r.t, .slice r.K.A r.K.n r.K.c, .slice r.X.A r.X.n r.X.c, .slice r.S.A r.S.n r.S.c] /\ Blk w' gT 78 (begun ct o ob oo ln lcp sK.n P a) /\
   Row w' base 50 7 s1 (nK + 1) (xs ++ [.int .i64 i, .int .i64 kd, .int .u32 vl, .int .i64 sS.n, .int .i64 (-1), .int .i64 0, .int .u32 0]) /\ Only (fun g => g = gT \/ g = gC \/ bl sK g) w w' /\ w.heap.size <= P

set_option maxHeartbeats 4000000 in
theorem startg_c (w : World) (B : Nat) (bs : Array Value) (lb : List Cap1) (ok : Int -> Int -> Int -> Int -> Prop) (pl : Int -> Int -> Int -> Int -> Pl) (gC gT i o ob oo ln lcp : Nat) (ct : Array Value) (kd vl d call : Int) (a : Acc) (r : R) (th sS sK : Sl) (nS nK base : Nat) (xs : List Value)
   (hC : Blk w gC 76 #[.func (.func B) #[] bs, .slice th.A th.n th.c, .slice sS.A sS.n sS.c, .slice sK.A sK.n sK.c, .int .u64 r.e, .int .u64 r.f, .slice r.L.A r.L.n r.L.c, .slice r.P.A r.P.n r.P.c, .int .u64 r.h, .int .u64 r.t, .slice r.K.A r.K.n r.K.c, .slice r.X.A r.X.n r.X.c, .slice r.S.A r.S.n r.S.c]) (hT : Blk w gT 78 ct)
   (e0 : ct[o]? = some (.slice (some ⟨ob, oo, none⟩) ln lcp)) (e1 : ct[o + 1]? = some .nilIface) (e2 : ct[o + 2]? = some (.int .i64 call))
   (e3 : ct[o + 3]? = some (.int .i64 0)) (e4 : ct[o + 4]? = some (.int .i64 0)) (e5 : ct[o + 5]? = some (.int .i64 0)) (e6 : ct[o + 6]? = some (.int .u64 0)) (e7 : ct[o + 7]? = some (.int .u64 0)) (e8 : ct[o + 8]? = some (.bool false))
   (hl0 : 0 < ln) (hl1 : ln <= lcp) (hl2 : lcp <= maxLen) (hob : ob < w.heap.size) (f0 : w.cell? ⟨ob, oo, none⟩ = some (.int .i64 kd)) (f1 : w.cell? ⟨ob, oo + 1, none⟩ = some (.int .u32 vl))
   (hS : sS.n = nS) (hK : Row w base 50 7 sK nK xs) (hnK : nK < 100000) (hnS : nS < 100000) (hbase : base <= w.heap.size)
   (hbs : bs = (lb.map Cap1.ptr).toArray) (hB : Begins B lb ok pl) (hkb : Kept w lb) (hsb : SafeL lb) (hok : ok i kd vl d) (hpa : pl i kd vl d [] = .ask a) :
   Calls Tryz.prog 53 #[.pointer (some ⟨gC, 0, none⟩), .pointer (some ⟨gT, o, none⟩), .agg #[.int .i64 i, .int .u32 d]] w (StartedG w B bs gC gT i o ob oo ln lcp base nK kd vl (pl i kd vl d) ct a r th sS sK xs) := by
 have c0 := (hT.cell o).trans e0
 have c1 := (hT.cell (o + 1)).trans e1
 have hfT := hT.frozen
 have hzT := hT.lt
 have n1 : (0 : Int) < ln := by omega
 have n2 : (1 : Int) <= ln := by omega
 have n3 : (ln : Int) <= lcp := by omega
 have n4 : (lcp : Int) <= 9223372036854775807 := by unfold maxLen at hl2; omega
 have n5 : ln <= lcp := by omega
 have n6 : 1 <= ln := by omega
 have n7 : 1 <= lcp := by omega
 have HC := lh hC
 have HT := lh hT
 have HK := lh hK
 have HS := lh hS
 have HBG := lh hB
 have HKB := lh hkb
 have HSB := lh hsb
 have HBS := lh hbs
 have HOK := lh hok
 have HPA := lh hpa
 have HSZ : Hid (o + 1 < ct.size) := lh (by have := (Array.getElem?_eq_some_iff.1 e8).1; omega)
 have HE2 := lh e2
 have HE3 := lh e3
 have HE4 := lh e4
 have HE5 := lh e5
 have HE6 := lh e6
 have HE7 := lh e7
 have HE8 := lh e8
 have HE1 := lh e1
 clear hC hT e0 e1 e2 e3 e4 e5 e6 e7 e8 hS hK hB hkb hsb hbs hok hpa hl2
 obtain ⟨A', hA⟩ : ∃ A', (if lcp = 1 then some (⟨ob, oo, none⟩ : Addr) else some ⟨ob, oo + 2, none⟩) = A' := ⟨_, rfl⟩
 go_enter Tryz.func53, Tryz.ntmps53
 go_wp2_with fail
 have HA := lh hA
 clear hA
 have hneT : ¬ gC = gT := Blk.ne HC.out HT.out (by decide)
 have hneT2 : ¬ gT = gC := fun e => hneT e.symm
 have hzC := HC.out.lt
 have HBT : Hid (∀ x ∈ lb, ¬ x.g = gT) := lh (fun x hx => Blk.ne (HKB.out x hx) HT.out (HSB.out x hx).2.2.2.1)
 have HBC : Hid (∀ x ∈ lb, ¬ x.g = gC) := lh (fun x hx => Blk.ne (HKB.out x hx) HC.out (HSB.out x hx).2.2.1)
 have hss : (w.setCell ⟨gT, o, none⟩ (.slice A' (ln - 1) (lcp - 1))).heap.size = w.heap.size := by simp [World.setCell]
 have P1 : Hid (Blk (((w.setCell ⟨gT, o, none⟩ (.slice A' (ln - 1) (lcp - 1))).alloc (.cells #[.int .i64 i, .int .u32 d] 70)).alloc (.cells #[.int .i64 kd, .int .u32 vl] 46)) w.heap.size 70 #[.int .i64 i, .int .u32 d]) := lh ((blk_at hss).alloc _)
 have Q1 : Hid (Blk (((w.setCell ⟨gT, o, none⟩ (.slice A' (ln - 1) (lcp - 1))).alloc (.cells #[.int .i64 i, .int .u32 d] 70)).alloc (.cells #[.int .i64 kd, .int .u32 vl] 46)) (w.heap.size + 1) 46 #[.int .i64 kd, .int .u32 vl]) := lh (blk_at (by simp [hss]))
 have C1 := lh (((HC.out.far (p := ⟨gT, o, none⟩) hneT (.slice A' (ln - 1) (lcp - 1))).alloc (.cells #[.int .i64 i, .int .u32 d] 70)).alloc (.cells #[.int .i64 kd, .int .u32 vl] 46))
 have T1 := lh (((HT.out.set_ o (.slice A' (ln - 1) (lcp - 1))).alloc (.cells #[.int .i64 i, .int .u32 d] 70)).alloc (.cells #[.int .i64 kd, .int .u32 vl] 46))
 have B1 : Hid (Kept (((w.setCell ⟨gT, o, none⟩ (.slice A' (ln - 1) (lcp - 1))).alloc (.cells #[.int .i64 i, .int .u32 d] 70)).alloc (.cells #[.int .i64 kd, .int .u32 vl] 46)) lb) := lh (fun x hx => (((HKB.out x hx).far (p := ⟨gT, o, none⟩) (HBT.out x hx) (.slice A' (ln - 1) (lcp - 1))).alloc (.cells #[.int .i64 i, .int .u32 d] 70)).alloc (.cells #[.int .i64 kd, .int .u32 vl] 46))
 have K1 : Hid (Row (((w.setCell ⟨gT, o, none⟩ (.slice A' (ln - 1) (lcp - 1))).alloc (.cells #[.int .i64 i, .int .u32 d] 70)).alloc (.cells #[.int .i64 kd, .int .u32 vl] 46)) base 50 7 sK nK xs) := lh (((HK.out.kept (w' := (w.setCell ⟨gT, o, none⟩ (.slice A' (ln - 1) (lcp - 1)))) fun g hg => Below.heap_setCell _ _ _ _ (HK.out.ne HT.out (by decide) g hg)).alloc (.cells #[.int .i64 i, .int .u32 d] 70)).alloc (.cells #[.int .i64 kd, .int .u32 vl] 46))
 have O1 : Hid (Only (fun g => g = gT \/ g = gC \/ bl sK g) w (((w.setCell ⟨gT, o, none⟩ (.slice A' (ln - 1) (lcp - 1))).alloc (.cells #[.int .i64 i, .int .u32 d] 70)).alloc (.cells #[.int .i64 kd, .int .u32 vl] 46))) := lh ((((Only.refl (fun g => g = gT \/ g = gC \/ bl sK g) w).set_ ⟨gT, o, none⟩ (.inl (.inl rfl)) _).alloc _).alloc _)
 have hs1 : w.heap.size + 1 < ((((w.setCell ⟨gT, o, none⟩ (.slice A' (ln - 1) (lcp - 1))).alloc (.cells #[.int .i64 i, .int .u32 d] 70)).alloc (.cells #[.int .i64 kd, .int .u32 vl] 46))).heap.size := by simp [World.setCell]; try omega
 generalize (((w.setCell ⟨gT, o, none⟩ (.slice A' (ln - 1) (lcp - 1))).alloc (.cells #[.int .i64 i, .int .u32 d] 70)).alloc (.cells #[.int .i64 kd, .int .u32 vl] 46)) = V at P1 Q1 C1 T1 B1 K1 O1 hs1 ⊢
 clear c0 c1 hfT f0 f1
 have E1 : Hid ((ct.setIfInBounds o (.slice A' (ln - 1) (lcp - 1)))[o + 1]? = some .nilIface) := lh (by rw [Array.getElem?_setIfInBounds_ne (by omega)]; exact HE1.out)
 have hbg2 := HBG.out.2 V.drew i kd vl d HOK.out (fun x hx => (B1.out x hx).drew)
 rw [<- HBS.out] at hbg2
 have HBG2 := lh hbg2
 clear hbg2
 have hc := C1.out.cell
 refine Zreg.begin_ (S := (fun w' => (∀ j, w'.cell? ⟨gC, j, none⟩ = (#[.func (.func B) #[] bs, .slice th.A th.n th.c, .slice sS.A sS.n sS.c, .slice sK.A sK.n sK.c, .int .u64 r.e, .int .u64 r.f, .slice r.L.A r.L.n r.L.c, .slice r.P.A r.P.n r.P.c, .int .u64 r.h, .int .u64 r.t, .slice r.K.A r.K.n r.K.c, .slice r.X.A r.X.n r.X.c, .slice r.S.A r.S.n r.S.c] : Array Value)[j]?) /\ (∀ j, w'.cell? ⟨w.heap.size, j, none⟩ = (#[.int .i64 i, .int .u32 d] : Array Value)[j]?) /\ (∀ j, w'.cell? ⟨w.heap.size + 1, j, none⟩ = (#[.int .i64 kd, .int .u32 vl] : Array Value)[j]?))) (zs := [13]) (by kernel_rfl) ?_
 show Zreg.After _ _ _ _ _ _ 14 #[false, false, false, false, false, false, false, false, false, false, false, false, false, false] _ _
 refine Zreg.tP 0 21 (x := ?xb_0) rfl rfl (by kernel_rfl) (fun _ _ _ h => h) (.inr ⟨C1.out.drew.cell, P1.out.drew.cell, Q1.out.drew.cell⟩) (Or.inl ⟨by rfl, ?yb_0⟩) ?rb_0
 case yb_0 => (intro w _; go_simp <;> with_reducible rfl)
 simp only [sA, sZ, sC]
 refine Zreg.tP 1 22 (x := ?xb_1) rfl rfl (by kernel_rfl) (fun _ _ _ h => h) (.inr ⟨C1.out.drew.cell, P1.out.drew.cell, Q1.out.drew.cell⟩) (Or.inl ⟨by rfl, ?yb_1⟩) ?rb_1
 case yb_1 => (intro w _; go_simp <;> with_reducible rfl)
 simp only [sA, sZ, sC]
 refine Zreg.tP 2 23 (x := ?xb_2) rfl rfl (by kernel_rfl) (fun _ _ _ h => h) (.inr ⟨C1.out.drew.cell, P1.out.drew.cell, Q1.out.drew.cell⟩) (Or.inl ⟨by rfl, ?yb_2⟩) ?rb_2
 case yb_2 => (intro w _; go_simp <;> with_reducible rfl)
 simp only [sA, sZ, sC]
 refine Zreg.tP 3 24 (x := ?xb_3) rfl rfl (by kernel_rfl) (fun _ _ _ h => h) (.inr ⟨C1.out.drew.cell, P1.out.drew.cell, Q1.out.drew.cell⟩) (Or.inl ⟨by rfl, ?yb_3⟩) ?rb_3
 case yb_3 => (intro w _; go_simp <;> with_reducible rfl)
 simp only [sA, sZ, sC]
 refine Zreg.tS 4 25 (x := ?xb_4) rfl rfl (by kernel_rfl) (fun _ _ _ h => h) (.inr ⟨C1.out.drew.cell, P1.out.drew.cell, Q1.out.drew.cell⟩) (Or.inl ⟨by rfl, ?yb_4⟩) ?rb_4
 case yb_4 => (intro w hSw; (try dsimp only at hSw); go_simp <;> with_reducible rfl)
 simp only [sA, sZ, sC]
 refine Zreg.tP 5 26 (x := ?xb_5) rfl rfl (by kernel_rfl) (fun _ _ _ h => h) (.inr ⟨C1.out.drew.cell, P1.out.drew.cell, Q1.out.drew.cell⟩) (Or.inl ⟨by rfl, ?yb_5⟩) ?rb_5
 case yb_5 => (intro w _; go_simp <;> with_reducible rfl)
 simp only [sA, sZ, sC]
 refine Zreg.tS 6 27 (x := ?xb_6) rfl rfl (by kernel_rfl) (fun _ _ _ h => h) (.inr ⟨C1.out.drew.cell, P1.out.drew.cell, Q1.out.drew.cell⟩) (Or.inl ⟨by rfl, ?yb_6⟩) ?rb_6
 case yb_6 => (intro w hSw; (try dsimp only at hSw); go_simp <;> with_reducible rfl)
 simp only [sA, sZ, sC]
 refine Zreg.tS 7 28 (x := ?xb_7) rfl rfl (by kernel_rfl) (fun _ _ _ h => h) (.inr ⟨C1.out.drew.cell, P1.out.drew.cell, Q1.out.drew.cell⟩) (Or.inl ⟨by rfl, ?yb_7⟩) ?rb_7
 case yb_7 => (intro w hSw; (try dsimp only at hSw); go_simp <;> with_reducible rfl)
 simp only [sA, sZ, sC]
 refine Zreg.tP 8 29 (x := ?xb_8) rfl rfl (by kernel_rfl) (fun _ _ _ h => h) (.inr ⟨C1.out.drew.cell, P1.out.drew.cell, Q1.out.drew.cell⟩) (Or.inl ⟨by rfl, ?yb_8⟩) ?rb_8
 case yb_8 => (intro w _; go_simp <;> with_reducible rfl)
 simp only [sA, sZ, sC]
 refine Zreg.tS 9 30 (x := ?xb_9) rfl rfl (by kernel_rfl) (fun _ _ _ h => h) (.inr ⟨C1.out.drew.cell, P1.out.drew.cell, Q1.out.drew.cell⟩) (Or.inl ⟨by rfl, ?yb_9⟩) ?rb_9
 case yb_9 => (intro w hSw; (try dsimp only at hSw); go_simp <;> with_reducible rfl)
 simp only [sA, sZ, sC]
 refine Zreg.one 10 (by kernel_rfl) rfl rfl fun K hK => ?_
 go_simp
 refine upon_func HBG.out.1 HBG2.out ?_
 rintro e w3 ⟨P, F, l, rfl, hq3, hk3, hs3, hme3, hP3, hb3⟩
 obtain ⟨cs, hcs⟩ : ∃ cs, cs = (l.map Cap1.ptr).toArray := ⟨_, rfl⟩
 rw [<- hcs] at hq3
 have HCS := lh hcs
 have HME := lh hme3
 have HSF := lh hs3
 have Z1 := lh hq3
 have L1 := lh hk3
 have HP3 : Hid (V.heap.size <= P) := lh hP3
 have P1_ := lh (P1.out.drew.below hb3 P1.out.lt)
 have Q1_ := lh (Q1.out.drew.below hb3 Q1.out.lt)
 have C1_ := lh (C1.out.drew.below hb3 C1.out.lt)
 have T1_ := lh (T1.out.drew.below hb3 T1.out.lt)
 have K1_ := lh (K1.out.drew.below hb3 (Nat.le_refl _))
 have B1_ : Hid (Kept w3 lb) := lh (fun x hx => (B1.out x hx).drew.below hb3 (B1.out x hx).lt)
 have O1_ := lh (O1.out.drew.next (Only.of_below (P := fun _ => False) hb3 (Nat.le_refl _)) (fun k _ h => h.elim))
 clear hcs hme3 hs3 hq3 hk3 hP3 hb3 hc P1 Q1 C1 T1 K1 B1 O1
 have P1 := lh P1_.out
 have Q1 := lh Q1_.out
 have C1 := lh C1_.out
 have T1 := lh T1_.out
 have K1 := lh K1_.out
 have B1 := lh B1_.out
 have O1 := lh O1_.out
 clear P1_ Q1_ C1_ T1_ K1_ B1_ O1_
 have hto := (T1.out.cell (o + 1)).trans E1.out
 have hft := T1.out.frozen
 refine hK.out _ _ (.inr ⟨C1.out.cell, P1.out.cell, Q1.out.cell⟩) fun _ => ?_
 clear hK
 simp only [sA, sZ, sC]
 refine Zreg.tP 11 32 (x := ?xb_11) rfl rfl (by kernel_rfl) (fun _ _ _ h => h) (.inr ⟨C1.out.cell, P1.out.cell, Q1.out.cell⟩) (Or.inl ⟨by rfl, ?yb_11⟩) ?rb_11
 case yb_11 => (intro w _; go_simp <;> with_reducible rfl)
 simp only [sA, sZ, sC]
 refine Zreg.tP 12 33 (x := ?xb_12) rfl rfl (by kernel_rfl) (fun _ _ _ h => h) (.inr ⟨C1.out.cell, P1.out.cell, Q1.out.cell⟩) (Or.inl ⟨by rfl, ?yb_12⟩) ?rb_12
 case yb_12 => (intro w _; go_simp <;> with_reducible rfl)
 simp only [sA, sZ, sC]
 refine Zreg.one 13 (by kernel_rfl) rfl rfl fun K hK => ?_
 go_simp
 refine hK.out _ _ (.inl (by kernel_rfl)) fun _ => ?_
 clear hK
 simp only [sA, sZ, sC]
 refine Zreg.done (by kernel_rfl) ?_ _
 have hP0 : Hid (w.heap.size <= P) := lh (by have := HP3.out; omega)
 have hPT : ¬ P = gT := Blk.ne Z1.out T1.out (by decide)
 have HLT : Hid (∀ x ∈ l, ¬ x.g = gT) := lh (fun x hx => Blk.ne (L1.out x hx) T1.out (HSF.out x hx).2.2.2.1)
 have HKT := lh (Row.ne K1.out T1.out (by decide))
 clear hto hft
 have P1_ := lh (Blk.far P1.out (p := ⟨gT, (o + 1), none⟩) (show ¬ w.heap.size = gT by omega) (.iface 82 (.pointer (some ⟨P, 0, none⟩))))
 have Q1_ := lh (Blk.far Q1.out (p := ⟨gT, (o + 1), none⟩) (show ¬ w.heap.size + 1 = gT by omega) (.iface 82 (.pointer (some ⟨P, 0, none⟩))))
 have C1_ := lh (Blk.far C1.out (p := ⟨gT, (o + 1), none⟩) hneT (.iface 82 (.pointer (some ⟨P, 0, none⟩))))
 have T1_ := lh (Blk.set_ T1.out (o + 1) (.iface 82 (.pointer (some ⟨P, 0, none⟩))))
 have K1_ := lh (Row.kept (w' := (w3.setCell ⟨gT, (o + 1), none⟩ (.iface 82 (.pointer (some ⟨P, 0, none⟩))))) K1.out (fun g_ hg_ => Below.heap_setCell _ _ _ _ (HKT.out g_ hg_)))
 have Z1_ := lh (Blk.far Z1.out (p := ⟨gT, (o + 1), none⟩) hPT (.iface 82 (.pointer (some ⟨P, 0, none⟩))))
 have L1_ := lh (show Kept (w3.setCell ⟨gT, (o + 1), none⟩ (.iface 82 (.pointer (some ⟨P, 0, none⟩)))) l from fun x_ hx_ => (Blk.far (L1.out x_ hx_) (p := ⟨gT, (o + 1), none⟩) (HLT.out x_ hx_) (.iface 82 (.pointer (some ⟨P, 0, none⟩)))))
 have B1_ := lh (show Kept (w3.setCell ⟨gT, (o + 1), none⟩ (.iface 82 (.pointer (some ⟨P, 0, none⟩)))) lb from fun x_ hx_ => (Blk.far (B1.out x_ hx_) (p := ⟨gT, (o + 1), none⟩) (HBT.out x_ hx_) (.iface 82 (.pointer (some ⟨P, 0, none⟩)))))
 have O1_ := lh (Only.set_ O1.out ⟨gT, (o + 1), none⟩ (.inl (.inl rfl)) (.iface 82 (.pointer (some ⟨P, 0, none⟩))))
 clear P1 Q1 C1 T1 K1 Z1 L1 B1 O1
 have P1 := lh P1_.out
 have Q1 := lh Q1_.out
 have C1 := lh C1_.out
 have T1 := lh T1_.out
 have K1 := lh K1_.out
 have Z1 := lh Z1_.out
 have L1 := lh L1_.out
 have B1 := lh B1_.out
 have O1 := lh O1_.out
 clear P1_ Q1_ C1_ T1_ K1_ Z1_ L1_ B1_ O1_
 generalize (w3.setCell ⟨gT, (o + 1), none⟩ (.iface 82 (.pointer (some ⟨P, 0, none⟩)))) = V2 at P1 Q1 C1 T1 K1 Z1 L1 B1 O1 ⊢
 have hto : V2.cell? ⟨gT, o + 2, none⟩ = some (.int .i64 call) := (T1.out.cell (o + 2)).trans (by repeat rw [Array.getElem?_setIfInBounds_ne (by omega)]
                                                                                                  exact HE2.out)
 have hft := T1.out.frozen
 have hc := C1.out.cell
 have hp := P1.out.cell
 have hq := Q1.out.cell
 have hsK := K1.out.n_.1
 have hsK2 : (sK.n : Int) <= 9223372036854775807 := by omega
 have HSK := lh hsK
 clear hsK
 go_wp2_with fail
 have P1_ := lh (Blk.far P1.out (p := ⟨gT, (o + 2), none⟩) (show ¬ w.heap.size = gT by omega) (.int .i64 sK.n))
 have Q1_ := lh (Blk.far Q1.out (p := ⟨gT, (o + 2), none⟩) (show ¬ w.heap.size + 1 = gT by omega) (.int .i64 sK.n))
 have C1_ := lh (Blk.far C1.out (p := ⟨gT, (o + 2), none⟩) hneT (.int .i64 sK.n))
 have T1_ := lh (Blk.set_ T1.out (o + 2) (.int .i64 sK.n))
 have K1_ := lh (Row.kept (w' := (V2.setCell ⟨gT, (o + 2), none⟩ (.int .i64 sK.n))) K1.out (fun g_ hg_ => Below.heap_setCell _ _ _ _ (HKT.out g_ hg_)))
 have Z1_ := lh (Blk.far Z1.out (p := ⟨gT, (o + 2), none⟩) hPT (.int .i64 sK.n))
 have L1_ := lh (show Kept (V2.setCell ⟨gT, (o + 2), none⟩ (.int .i64 sK.n)) l from fun x_ hx_ => (Blk.far (L1.out x_ hx_) (p := ⟨gT, (o + 2), none⟩) (HLT.out x_ hx_) (.int .i64 sK.n)))
 have B1_ := lh (show Kept (V2.setCell ⟨gT, (o + 2), none⟩ (.int .i64 sK.n)) lb from fun x_ hx_ => (Blk.far (B1.out x_ hx_) (p := ⟨gT, (o + 2), none⟩) (HBT.out x_ hx_) (.int .i64 sK.n)))
 have O1_ := lh (Only.set_ O1.out ⟨gT, (o + 2), none⟩ (.inl (.inl rfl)) (.int .i64 sK.n))
 clear P1 Q1 C1 T1 K1 Z1 L1 B1 O1
 have P1 := lh P1_.out
 have Q1 := lh Q1_.out
 have C1 := lh C1_.out
 have T1 := lh T1_.out
 have K1 := lh K1_.out
 have Z1 := lh Z1_.out
 have L1 := lh L1_.out
 have B1 := lh B1_.out
 have O1 := lh O1_.out
 clear P1_ Q1_ C1_ T1_ K1_ Z1_ L1_ B1_ O1_
 generalize (V2.setCell ⟨gT, (o + 2), none⟩ (.int .i64 sK.n)) = V3 at P1 Q1 C1 T1 K1 Z1 L1 B1 O1 ⊢
 clear hto hft hc hp hq
 have hc := C1.out.cell
 have hcf := C1.out.frozen
 have hp := P1.out.cell
 have hq := Q1.out.cell
 have hbV : base <= V3.heap.size := Nat.le_trans hbase O1.out.size
 have ki := info_parts call_cell
 obtain ⟨i0, hi0, hz0, hz1, hz2⟩ := ki
 have KR := lh (And.intro hi0 (And.intro hz0 (And.intro hz1 hz2)))
 clear hi0 hz0 hz1 hz2
 refine Zreg.begin_ (S := (fun w' => (∀ j, w'.cell? ⟨w.heap.size, j, none⟩ = (#[.int .i64 i, .int .u32 d] : Array Value)[j]?) /\ (∀ j, w'.cell? ⟨w.heap.size + 1, j, none⟩ = (#[.int .i64 kd, .int .u32 vl] : Array Value)[j]?) /\ (∀ j, w'.cell? ⟨gC, j, none⟩ = (#[.func (.func B) #[] bs, .slice th.A th.n th.c, .slice sS.A sS.n sS.c, .slice sK.A sK.n sK.c, .int .u64 r.e, .int .u64 r.f, .slice r.L.A r.L.n r.L.c, .slice r.P.A r.P.n r.P.c, .int .u64 r.h, .int .u64 r.t, .slice r.K.A r.K.n r.K.c, .slice r.X.A r.X.n r.X.c, .slice r.S.A r.S.n r.S.c] : Array Value)[j]?))) (zs := [24]) (by kernel_rfl) ?_
 show Zreg.After _ _ _ _ _ _ 25 #[false, false, false, false, false, false, false, false, false, false, false, false, false, false, false, false, false, false, false, false, false, false, false, false, false] _ _
 refine Zreg.tP 0 43 (x := ?xa_0) rfl rfl (by kernel_rfl) (fun _ _ _ h => h) (.inr ⟨P1.out.cell, Q1.out.cell, C1.out.cell⟩) (Or.inl ⟨by rfl, ?ya_0⟩) ?ra_0
 case ya_0 => (intro w _; go_simp <;> with_reducible rfl)
 simp only [sA, sZ, sC]
 refine Zreg.tP 1 44 (x := ?xa_1) rfl rfl (by kernel_rfl) (fun _ _ _ h => h) (.inr ⟨P1.out.cell, Q1.out.cell, C1.out.cell⟩) (Or.inl ⟨by rfl, ?ya_1⟩) ?ra_1
 case ya_1 => (intro w _; go_simp <;> with_reducible rfl)
 simp only [sA, sZ, sC]
 refine Zreg.tP 2 45 (x := ?xa_2) rfl rfl (by kernel_rfl) (fun _ _ _ h => h) (.inr ⟨P1.out.cell, Q1.out.cell, C1.out.cell⟩) (Or.inl ⟨by rfl, ?ya_2⟩) ?ra_2
 case ya_2 => (intro w _; go_simp <;> with_reducible rfl)
 simp only [sA, sZ, sC]
 refine Zreg.tP 3 46 (x := ?xa_3) rfl rfl (by kernel_rfl) (fun _ _ _ h => h) (.inr ⟨P1.out.cell, Q1.out.cell, C1.out.cell⟩) (Or.inl ⟨by rfl, ?ya_3⟩) ?ra_3
 case ya_3 => (intro w _; go_simp <;> with_reducible rfl)
 simp only [sA, sZ, sC]
 refine Zreg.tP 4 47 (x := ?xa_4) rfl rfl (by kernel_rfl) (fun _ _ _ h => h) (.inr ⟨P1.out.cell, Q1.out.cell, C1.out.cell⟩) (Or.inl ⟨by rfl, ?ya_4⟩) ?ra_4
 case ya_4 => (intro w _; go_simp <;> with_reducible rfl)
 simp only [sA, sZ, sC]
 refine Zreg.tS 5 48 (x := ?xa_5) rfl rfl (by kernel_rfl) (fun _ _ _ h => h) (.inr ⟨P1.out.cell, Q1.out.cell, C1.out.cell⟩) (Or.inl ⟨by rfl, ?ya_5⟩) ?ra_5
 case ya_5 => (intro w hSw; (try dsimp only at hSw); go_simp <;> with_reducible rfl)
 simp only [sA, sZ, sC]
 refine Zreg.tP 6 49 (x := ?xa_6) rfl rfl (by kernel_rfl) (fun _ _ _ h => h) (.inr ⟨P1.out.cell, Q1.out.cell, C1.out.cell⟩) (Or.inl ⟨by rfl, ?ya_6⟩) ?ra_6
 case ya_6 => (intro w _; go_simp <;> with_reducible rfl)
 simp only [sA, sZ, sC]
 refine Zreg.tS 7 50 (x := ?xa_7) rfl rfl (by kernel_rfl) (fun _ _ _ h => h) (.inr ⟨P1.out.cell, Q1.out.cell, C1.out.cell⟩) (Or.inl ⟨by rfl, ?ya_7⟩) ?ra_7
 case ya_7 => (intro w hSw; (try dsimp only at hSw); go_simp <;> with_reducible rfl)
 simp only [sA, sZ, sC]
 refine Zreg.tP 8 51 (x := ?xa_8) rfl rfl (by kernel_rfl) (fun _ _ _ h => h) (.inr ⟨P1.out.cell, Q1.out.cell, C1.out.cell⟩) (Or.inl ⟨by rfl, ?ya_8⟩) ?ra_8
 case ya_8 => (intro w _; go_simp <;> with_reducible rfl)
 simp only [sA, sZ, sC]
 refine Zreg.tS 9 52 (x := ?xa_9) rfl rfl (by kernel_rfl) (fun _ _ _ h => h) (.inr ⟨P1.out.cell, Q1.out.cell, C1.out.cell⟩) (Or.inl ⟨by rfl, ?ya_9⟩) ?ra_9
 case ya_9 => (intro w hSw; (try dsimp only at hSw); go_simp <;> with_reducible rfl)
 simp only [sA, sZ, sC]
 refine Zreg.tP 10 53 (x := ?xa_10) rfl rfl (by kernel_rfl) (fun _ _ _ h => h) (.inr ⟨P1.out.cell, Q1.out.cell, C1.out.cell⟩) (Or.inl ⟨by rfl, ?ya_10⟩) ?ra_10
 case ya_10 => (intro w _; go_simp <;> with_reducible rfl)
 simp only [sA, sZ, sC]
 refine Zreg.tS 11 54 (x := ?xa_11) rfl rfl (by kernel_rfl) (fun _ _ _ h => h) (.inr ⟨P1.out.cell, Q1.out.cell, C1.out.cell⟩) (Or.inl ⟨by rfl, ?ya_11⟩) ?ra_11
 case ya_11 => (intro w hSw; (try dsimp only at hSw); go_simp <;> with_reducible rfl)
 simp only [sA, sZ, sC]
 refine Zreg.tP 12 55 (x := ?xa_12) rfl rfl (by kernel_rfl) (fun _ _ _ h => h) (.inr ⟨P1.out.cell, Q1.out.cell, C1.out.cell⟩) (Or.inl ⟨by rfl, ?ya_12⟩) ?ra_12
 case ya_12 => (intro w _; go_simp <;> with_reducible rfl)
 simp only [sA, sZ, sC]
 refine Zreg.tP 13 56 (x := ?xa_13) rfl rfl (by kernel_rfl) (fun _ _ _ h => h) (.inr ⟨P1.out.cell, Q1.out.cell, C1.out.cell⟩) (Or.inl ⟨by rfl, ?ya_13⟩) ?ra_13
 case ya_13 => (intro w _; go_simp <;> with_reducible rfl)
 simp only [sA, sZ, sC]
 refine Zreg.tP 14 57 (x := ?xa_14) rfl rfl (by kernel_rfl) (fun _ _ _ h => h) (.inr ⟨P1.out.cell, Q1.out.cell, C1.out.cell⟩) (Or.inl ⟨by rfl, ?ya_14⟩) ?ra_14
 case ya_14 => (intro w _; go_simp <;> with_reducible rfl)
 simp only [sA, sZ, sC]
 refine Zreg.tP 15 58 (x := ?xa_15) rfl rfl (by kernel_rfl) (fun _ _ _ h => h) (.inr ⟨P1.out.cell, Q1.out.cell, C1.out.cell⟩) (Or.inl ⟨by rfl, ?ya_15⟩) ?ra_15
 case ya_15 => (intro w _; go_simp <;> with_reducible rfl)
 simp only [sA, sZ, sC]
 refine Zreg.tS 16 59 (x := ?xa_16) rfl rfl (by kernel_rfl) (fun _ _ _ h => h) (.inr ⟨P1.out.cell, Q1.out.cell, C1.out.cell⟩) (Or.inl ⟨by rfl, ?ya_16⟩) ?ra_16
 case ya_16 => (intro w hSw; (try dsimp only at hSw); go_simp <;> with_reducible rfl)
 simp only [sA, sZ, sC]
 refine Zreg.tP 17 60 (x := ?xa_17) rfl rfl (by kernel_rfl) (fun _ _ _ h => h) (.inr ⟨P1.out.cell, Q1.out.cell, C1.out.cell⟩) (Or.inl ⟨by rfl, ?ya_17⟩) ?ra_17
 case ya_17 => (intro w _; go_simp <;> with_reducible rfl)
 simp only [sA, sZ, sC]
 refine Zreg.tP 18 61 (x := ?xa_18) rfl rfl (by kernel_rfl) (fun _ _ _ h => h) (.inr ⟨P1.out.cell, Q1.out.cell, C1.out.cell⟩) (Or.inl ⟨by rfl, ?ya_18⟩) ?ra_18
 case ya_18 => (intro w _; go_simp <;> with_reducible rfl)
 simp only [sA, sZ, sC]
 refine Zreg.one 19 (by kernel_rfl) rfl rfl fun K hK => ?_
 go_simp
 refine hK.out _ _ (.inr ⟨(P1.out.alloc _).cell, (Q1.out.alloc _).cell, (C1.out.alloc _).cell⟩) fun _ => ?_
 clear hK
 simp only [sA, sZ, sC]
 refine Zreg.one 20 (by kernel_rfl) rfl rfl fun K hK => ?_
 refine wp_app1 (.tmp 48) (.tmp 62) 29 rfl base 50 i0 _ 7 56 Tryz.underlying29 KR.out.1 KR.out.2.1 KR.out.2.2.1 KR.out.2.2.2 rfl (by decide) sK nK xs (by simp [Act.eval]) (Row.alloc K1.out _) V3.heap.size [.int .i64 i, .int .i64 kd, .int .u32 vl, .int .i64 sS.n, .int .i64 (-1), .int .i64 0, .int .u32 0] (by simp [Act.eval]) rfl (fun j u hj => (Blk.cell (blk_at rfl) j).trans (by simpa using hj)) (by simp [Value.oneCell']) (by omega) (by decide) (by simp; omega) ?_
 intro s1 w5 hr5 ho5
 clear hc hcf hp hq
 have P1_ := lh (Blk.only (P1.out.alloc (.cells #[.int .i64 i, .int .i64 kd, .int .u32 vl, .int .i64 sS.n, .int .i64 (-1), .int .i64 0, .int .u32 0] 50)).drew ho5 (fun hg => Row.ne K1.out P1.out (by decide) _ hg rfl))
 have Q1_ := lh (Blk.only (Q1.out.alloc (.cells #[.int .i64 i, .int .i64 kd, .int .u32 vl, .int .i64 sS.n, .int .i64 (-1), .int .i64 0, .int .u32 0] 50)).drew ho5 (fun hg => Row.ne K1.out Q1.out (by decide) _ hg rfl))
 have C1_ := lh (Blk.only (C1.out.alloc (.cells #[.int .i64 i, .int .i64 kd, .int .u32 vl, .int .i64 sS.n, .int .i64 (-1), .int .i64 0, .int .u32 0] 50)).drew ho5 (fun hg => Row.ne K1.out C1.out (by decide) _ hg rfl))
 have T1_ := lh (Blk.only (T1.out.alloc (.cells #[.int .i64 i, .int .i64 kd, .int .u32 vl, .int .i64 sS.n, .int .i64 (-1), .int .i64 0, .int .u32 0] 50)).drew ho5 (fun hg => Row.ne K1.out T1.out (by decide) _ hg rfl))
 have Z1_ := lh (Blk.only (Z1.out.alloc (.cells #[.int .i64 i, .int .i64 kd, .int .u32 vl, .int .i64 sS.n, .int .i64 (-1), .int .i64 0, .int .u32 0] 50)).drew ho5 (fun hg => Row.ne K1.out Z1.out (by decide) _ hg rfl))
 have L1_ : Hid (Kept w5 l) := lh (fun x hx => Blk.only ((L1.out x hx).alloc (.cells #[.int .i64 i, .int .i64 kd, .int .u32 vl, .int .i64 sS.n, .int .i64 (-1), .int .i64 0, .int .u32 0] 50)).drew ho5 (fun hg => Row.ne K1.out (L1.out x hx) (Ne.symm (HSF.out x hx).2.2.2.2.2.1) _ hg rfl))
 have B1_ : Hid (Kept w5 lb) := lh (fun x hx => Blk.only ((B1.out x hx).alloc (.cells #[.int .i64 i, .int .i64 kd, .int .u32 vl, .int .i64 sS.n, .int .i64 (-1), .int .i64 0, .int .u32 0] 50)).drew ho5 (fun hg => Row.ne K1.out (B1.out x hx) (Ne.symm (HSB.out x hx).2.2.2.2.2.1) _ hg rfl))
 have O1_ := lh ((O1.out.alloc (.cells #[.int .i64 i, .int .i64 kd, .int .u32 vl, .int .i64 sS.n, .int .i64 (-1), .int .i64 0, .int .u32 0] 50)).drew.next ho5 (fun k _ h => .inr (.inr h)))
 have K1_ := lh hr5
 clear hr5 ho5 P1 Q1 C1 T1 Z1 L1 B1 O1 K1
 have P1 := lh P1_.out
 have Q1 := lh Q1_.out
 have C1 := lh C1_.out
 have T1 := lh T1_.out
 have Z1 := lh Z1_.out
 have L1 := lh L1_.out
 have B1 := lh B1_.out
 have O1 := lh O1_.out
 have K1 := lh K1_.out
 clear P1_ Q1_ C1_ T1_ Z1_ L1_ B1_ O1_ K1_
 have hc5 := C1.out.cell
 have hcf5 := C1.out.frozen
 refine hK.out _ _ (.inr ⟨P1.out.cell, Q1.out.cell, C1.out.cell⟩) fun _ => ?_
 clear hK
 try simp only [Act.put, List.setIfInBounds_toArray, List.set_cons_zero, List.set_cons_succ]
 refine Zreg.tP 21 64 (x := ?xa_21) rfl rfl (by kernel_rfl) (fun _ _ _ h => h) (.inr ⟨P1.out.cell, Q1.out.cell, C1.out.cell⟩) (Or.inl ⟨by rfl, ?ya_21⟩) ?ra_21
 case ya_21 => (intro w _; go_simp <;> with_reducible rfl)
 simp only [sA, sZ, sC]
 refine Zreg.tP 22 65 (x := ?xa_22) rfl rfl (by kernel_rfl) (fun _ _ _ h => h) (.inr ⟨P1.out.cell, Q1.out.cell, C1.out.cell⟩) (Or.inl ⟨by rfl, ?ya_22⟩) ?ra_22
 case ya_22 => (intro w _; go_simp <;> with_reducible rfl)
 simp only [sA, sZ, sC]
 refine Zreg.tP 23 66 (x := ?xa_23) rfl rfl (by kernel_rfl) (fun _ _ _ h => h) (.inr ⟨P1.out.cell, Q1.out.cell, C1.out.cell⟩) (Or.inl ⟨by rfl, ?ya_23⟩) ?ra_23
 case ya_23 => (intro w _; go_simp <;> with_reducible rfl)
 simp only [sA, sZ, sC]
 refine Zreg.one 24 (by kernel_rfl) rfl rfl fun K hK => ?_
 go_simp
 refine hK.out _ _ (.inl (by kernel_rfl)) fun _ => ?_
 clear hK
 simp only [sA, sZ, sC]
 refine Zreg.done (by kernel_rfl) ?_ _
 have HKC := lh (Row.ne K1.out C1.out (by decide))
 have hPC : ¬ P = gC := Blk.ne Z1.out C1.out (by decide)
 have HLC : Hid (∀ x ∈ l, ¬ x.g = gC) := lh (fun x hx => Blk.ne (L1.out x hx) C1.out (HSF.out x hx).2.2.1)
 clear hc5 hcf5
 have C1_ : Hid (Blk (w5.setCell ⟨gC, 3, none⟩ (.slice s1.A s1.n s1.c)) gC 76 #[.func (.func B) #[] bs, .slice th.A th.n th.c, .slice sS.A sS.n sS.c, .slice s1.A s1.n s1.c, .int .u64 r.e, .int .u64 r.f, .slice r.L.A r.L.n r.L.c, .slice r.P.A r.P.n r.P.c, .int .u64 r.h, .int .u64 r.t, .slice r.K.A r.K.n r.K.c, .slice r.X.A r.X.n r.X.c, .slice r.S.A r.S.n r.S.c]) := lh (by have h_ := (Blk.set_ C1.out 3 (.slice s1.A s1.n s1.c)); simpa only [sA, sZ, sC] using h_)
 have T1_ := lh (Blk.far T1.out (p := ⟨gC, 3, none⟩) hneT2 (.slice s1.A s1.n s1.c))
 have K1_ := lh (Row.kept (w' := (w5.setCell ⟨gC, 3, none⟩ (.slice s1.A s1.n s1.c))) K1.out (fun g_ hg_ => Below.heap_setCell _ _ _ _ (HKC.out g_ hg_)))
 have Z1_ := lh (Blk.far Z1.out (p := ⟨gC, 3, none⟩) hPC (.slice s1.A s1.n s1.c))
 have L1_ := lh (show Kept (w5.setCell ⟨gC, 3, none⟩ (.slice s1.A s1.n s1.c)) l from fun x_ hx_ => (Blk.far (L1.out x_ hx_) (p := ⟨gC, 3, none⟩) (HLC.out x_ hx_) (.slice s1.A s1.n s1.c)))
 have B1_ := lh (show Kept (w5.setCell ⟨gC, 3, none⟩ (.slice s1.A s1.n s1.c)) lb from fun x_ hx_ => (Blk.far (B1.out x_ hx_) (p := ⟨gC, 3, none⟩) (HBC.out x_ hx_) (.slice s1.A s1.n s1.c)))
 have O1_ := lh (Only.set_ O1.out ⟨gC, 3, none⟩ (.inl (.inr (.inl rfl))) (.slice s1.A s1.n s1.c))
 clear C1 T1 K1 Z1 L1 B1 O1
 have C1 := lh C1_.out
 have T1 := lh T1_.out
 have K1 := lh K1_.out
 have Z1 := lh Z1_.out
 have L1 := lh L1_.out
 have B1 := lh B1_.out
 have O1 := lh O1_.out
 clear C1_ T1_ K1_ Z1_ L1_ B1_ O1_
 generalize (w5.setCell ⟨gC, 3, none⟩ (.slice s1.A s1.n s1.c)) = V5 at C1 T1 K1 Z1 L1 B1 O1 ⊢
 have HKT1 := lh (Row.ne K1.out T1.out (by decide))
 have hto : V5.cell? ⟨gT, o + 1, none⟩ = some (.iface 82 (.pointer (some ⟨P, 0, none⟩))) := (T1.out.cell (o + 1)).trans (by rw [Array.getElem?_setIfInBounds_ne (by omega), Array.getElem?_setIfInBounds_self_of_lt (by rw [Array.size_setIfInBounds]; exact HSZ.out)])
 have hm := method_next ⟨P, 0, none⟩
 go_wp2_with (go_at_call 116; go_must (refine (nextg_first _ base P F cs l (pl i kd vl d) a HCS.out HME.out Z1.out L1.out HSF.out HPA.out).mono ?_); rintro e w6 ⟨rfl, hz6, ho6⟩; go_must (have C1_ := lh (Blk.only C1.out ho6 (fun e => hPC e.symm)); have T1_ := lh (Blk.only T1.out ho6 (fun e => hPT e.symm)); have K1_ := lh (K1.out.only ho6 (K1.out.ne Z1.out (by decide))); have L1_ : Hid (Kept w6 l) := lh (fun x hx => Blk.only (L1.out x hx) ho6 (Blk.ne (L1.out x hx) Z1.out (HSF.out x hx).1)); have B1_ : Hid (Kept w6 lb) := lh (fun x hx => Blk.only (B1.out x hx) ho6 (Blk.ne (B1.out x hx) Z1.out (HSB.out x hx).1)); have O1_ := lh (O1.out.next ho6 (fun k hk hg => (by have := hP0.out; omega)))); have Z1_ := lh hz6; clear hz6 ho6 hto C1 T1 K1 Z1 L1 B1 O1; have C1 := lh C1_.out; have T1 := lh T1_.out; have K1 := lh K1_.out; have Z1 := lh Z1_.out; have L1 := lh L1_.out; have B1 := lh B1_.out; have O1 := lh O1_.out; clear C1_ T1_ K1_ Z1_ L1_ B1_ O1_; have hft := T1.out.frozen; have ht3 := (T1.out.cell (o + 3)).trans ((Array.getElem?_setIfInBounds_ne (by omega)).trans ((Array.getElem?_setIfInBounds_ne (by omega)).trans ((Array.getElem?_setIfInBounds_ne (by omega)).trans HE3.out))); have ht4 := (T1.out.cell (o + 4)).trans ((Array.getElem?_setIfInBounds_ne (by omega)).trans ((Array.getElem?_setIfInBounds_ne (by omega)).trans ((Array.getElem?_setIfInBounds_ne (by omega)).trans HE4.out))); have ht5 := (T1.out.cell (o + 5)).trans ((Array.getElem?_setIfInBounds_ne (by omega)).trans ((Array.getElem?_setIfInBounds_ne (by omega)).trans ((Array.getElem?_setIfInBounds_ne (by omega)).trans HE5.out))); have ht6 := (T1.out.cell (o + 6)).trans ((Array.getElem?_setIfInBounds_ne (by omega)).trans ((Array.getElem?_setIfInBounds_ne (by omega)).trans ((Array.getElem?_setIfInBounds_ne (by omega)).trans HE6.out))); have ht7 := (T1.out.cell (o + 7)).trans ((Array.getElem?_setIfInBounds_ne (by omega)).trans ((Array.getElem?_setIfInBounds_ne (by omega)).trans ((Array.getElem?_setIfInBounds_ne (by omega)).trans HE7.out))); have ht8 := (T1.out.cell (o + 8)).trans ((Array.getElem?_setIfInBounds_ne (by omega)).trans ((Array.getElem?_setIfInBounds_ne (by omega)).trans ((Array.getElem?_setIfInBounds_ne (by omega)).trans HE8.out))))
 go_end0
 clear hft ht3 ht4 ht5 ht6 ht7 ht8
 have C1_ := lh (Blk.far (Blk.far (Blk.far (Blk.far (Blk.far (Blk.far C1.out (p := ⟨gT, (o + 3), none⟩) hneT (.int .i64 a.d)) (p := ⟨gT, (o + 4), none⟩) hneT (.int .i64 a.ar)) (p := ⟨gT, (o + 5), none⟩) hneT (.int .i64 a.at_)) (p := ⟨gT, (o + 6), none⟩) hneT (.int .u64 a.old)) (p := ⟨gT, (o + 7), none⟩) hneT (.int .u64 a.new)) (p := ⟨gT, (o + 8), none⟩) hneT (.bool true))
 have T1_ := lh (Blk.set_ (Blk.set_ (Blk.set_ (Blk.set_ (Blk.set_ (Blk.set_ T1.out (o + 3) (.int .i64 a.d)) (o + 4) (.int .i64 a.ar)) (o + 5) (.int .i64 a.at_)) (o + 6) (.int .u64 a.old)) (o + 7) (.int .u64 a.new)) (o + 8) (.bool true))
 have K1_ := lh (Row.kept (w' := ((((((w6.setCell ⟨gT, (o + 3), none⟩ (.int .i64 a.d)).setCell ⟨gT, (o + 4), none⟩ (.int .i64 a.ar)).setCell ⟨gT, (o + 5), none⟩ (.int .i64 a.at_)).setCell ⟨gT, (o + 6), none⟩ (.int .u64 a.old)).setCell ⟨gT, (o + 7), none⟩ (.int .u64 a.new)).setCell ⟨gT, (o + 8), none⟩ (.bool true))) (Row.kept (w' := (((((w6.setCell ⟨gT, (o + 3), none⟩ (.int .i64 a.d)).setCell ⟨gT, (o + 4), none⟩ (.int .i64 a.ar)).setCell ⟨gT, (o + 5), none⟩ (.int .i64 a.at_)).setCell ⟨gT, (o + 6), none⟩ (.int .u64 a.old)).setCell ⟨gT, (o + 7), none⟩ (.int .u64 a.new))) (Row.kept (w' := ((((w6.setCell ⟨gT, (o + 3), none⟩ (.int .i64 a.d)).setCell ⟨gT, (o + 4), none⟩ (.int .i64 a.ar)).setCell ⟨gT, (o + 5), none⟩ (.int .i64 a.at_)).setCell ⟨gT, (o + 6), none⟩ (.int .u64 a.old))) (Row.kept (w' := (((w6.setCell ⟨gT, (o + 3), none⟩ (.int .i64 a.d)).setCell ⟨gT, (o + 4), none⟩ (.int .i64 a.ar)).setCell ⟨gT, (o + 5), none⟩ (.int .i64 a.at_))) (Row.kept (w' := ((w6.setCell ⟨gT, (o + 3), none⟩ (.int .i64 a.d)).setCell ⟨gT, (o + 4), none⟩ (.int .i64 a.ar))) (Row.kept (w' := (w6.setCell ⟨gT, (o + 3), none⟩ (.int .i64 a.d))) K1.out (fun g_ hg_ => Below.heap_setCell _ _ _ _ (HKT1.out g_ hg_))) (fun g_ hg_ => Below.heap_setCell _ _ _ _ (HKT1.out g_ hg_))) (fun g_ hg_ => Below.heap_setCell _ _ _ _ (HKT1.out g_ hg_))) (fun g_ hg_ => Below.heap_setCell _ _ _ _ (HKT1.out g_ hg_))) (fun g_ hg_ => Below.heap_setCell _ _ _ _ (HKT1.out g_ hg_))) (fun g_ hg_ => Below.heap_setCell _ _ _ _ (HKT1.out g_ hg_)))
 have Z1_ := lh (Blk.far (Blk.far (Blk.far (Blk.far (Blk.far (Blk.far Z1.out (p := ⟨gT, (o + 3), none⟩) hPT (.int .i64 a.d)) (p := ⟨gT, (o + 4), none⟩) hPT (.int .i64 a.ar)) (p := ⟨gT, (o + 5), none⟩) hPT (.int .i64 a.at_)) (p := ⟨gT, (o + 6), none⟩) hPT (.int .u64 a.old)) (p := ⟨gT, (o + 7), none⟩) hPT (.int .u64 a.new)) (p := ⟨gT, (o + 8), none⟩) hPT (.bool true))
 have L1_ := lh (show Kept ((((((w6.setCell ⟨gT, (o + 3), none⟩ (.int .i64 a.d)).setCell ⟨gT, (o + 4), none⟩ (.int .i64 a.ar)).setCell ⟨gT, (o + 5), none⟩ (.int .i64 a.at_)).setCell ⟨gT, (o + 6), none⟩ (.int .u64 a.old)).setCell ⟨gT, (o + 7), none⟩ (.int .u64 a.new)).setCell ⟨gT, (o + 8), none⟩ (.bool true)) l from fun x_ hx_ => (Blk.far (Blk.far (Blk.far (Blk.far (Blk.far (Blk.far (L1.out x_ hx_) (p := ⟨gT, (o + 3), none⟩) (HLT.out x_ hx_) (.int .i64 a.d)) (p := ⟨gT, (o + 4), none⟩) (HLT.out x_ hx_) (.int .i64 a.ar)) (p := ⟨gT, (o + 5), none⟩) (HLT.out x_ hx_) (.int .i64 a.at_)) (p := ⟨gT, (o + 6), none⟩) (HLT.out x_ hx_) (.int .u64 a.old)) (p := ⟨gT, (o + 7), none⟩) (HLT.out x_ hx_) (.int .u64 a.new)) (p := ⟨gT, (o + 8), none⟩) (HLT.out x_ hx_) (.bool true)))
 have B1_ := lh (show Kept ((((((w6.setCell ⟨gT, (o + 3), none⟩ (.int .i64 a.d)).setCell ⟨gT, (o + 4), none⟩ (.int .i64 a.ar)).setCell ⟨gT, (o + 5), none⟩ (.int .i64 a.at_)).setCell ⟨gT, (o + 6), none⟩ (.int .u64 a.old)).setCell ⟨gT, (o + 7), none⟩ (.int .u64 a.new)).setCell ⟨gT, (o + 8), none⟩ (.bool true)) lb from fun x_ hx_ => (Blk.far (Blk.far (Blk.far (Blk.far (Blk.far (Blk.far (B1.out x_ hx_) (p := ⟨gT, (o + 3), none⟩) (HBT.out x_ hx_) (.int .i64 a.d)) (p := ⟨gT, (o + 4), none⟩) (HBT.out x_ hx_) (.int .i64 a.ar)) (p := ⟨gT, (o + 5), none⟩) (HBT.out x_ hx_) (.int .i64 a.at_)) (p := ⟨gT, (o + 6), none⟩) (HBT.out x_ hx_) (.int .u64 a.old)) (p := ⟨gT, (o + 7), none⟩) (HBT.out x_ hx_) (.int .u64 a.new)) (p := ⟨gT, (o + 8), none⟩) (HBT.out x_ hx_) (.bool true)))
 have O1_ := lh (Only.set_ (Only.set_ (Only.set_ (Only.set_ (Only.set_ (Only.set_ O1.out ⟨gT, (o + 3), none⟩ (.inl (.inl rfl)) (.int .i64 a.d)) ⟨gT, (o + 4), none⟩ (.inl (.inl rfl)) (.int .i64 a.ar)) ⟨gT, (o + 5), none⟩ (.inl (.inl rfl)) (.int .i64 a.at_)) ⟨gT, (o + 6), none⟩ (.inl (.inl rfl)) (.int .u64 a.old)) ⟨gT, (o + 7), none⟩ (.inl (.inl rfl)) (.int .u64 a.new)) ⟨gT, (o + 8), none⟩ (.inl (.inl rfl)) (.bool true))
 clear C1 T1 K1 Z1 L1 B1 O1
 have C1 := lh C1_.out
 have T1 := lh T1_.out
 have K1 := lh K1_.out
 have Z1 := lh Z1_.out
 have L1 := lh L1_.out
 have B1 := lh B1_.out
 have O1 := lh O1_.out
 clear C1_ T1_ K1_ Z1_ L1_ B1_ O1_
 have hA := HA.out
 subst hA
 exact ⟨P, F, cs, l, s1, rfl, HCS.out, HME.out, HSF.out, L1.out, Z1.out, C1.out, T1.out, K1.out, O1.out, hP0.out⟩
end Go.Proofs.YtffppdcpiieapaaGreat.Drivec

namespace Go.Proofs.YtffppdcpiieapaaGreat.Refc
open Go.RowKit Memc
set_option linter.unusedVariables false
set_option maxRecDepth 100000

def Tells (w : World) (b : Bool) (e : Ending) (w' : World) : Prop := e = .returned (.bool b) /\ Below w.heap.size w w'

theorem below_drewN {B : Nat} (w : World) (n : Nat) : Below B w (w.drewN n) := ⟨rfl, rfl, rfl, Nat.le_refl _, fun _ _ => rfl⟩

theorem same_len (w : World) (s t : Sl) (hs : s.n <= maxLen) (ht : t.n <= maxLen) (h : s.n ≠ t.n) :
   Calls Tryz.prog 23 #[.slice s.A s.n s.c, .slice t.A t.n t.c] w (Tells w false) := by
 have hne : ((s.n : Int) != (t.n : Int)) = true := by simp; omega
 clear h
 go_enter Tryz.func23, Tryz.ntmps23
 go_wp2
 go_ret
 exact ⟨rfl, Below.refl _ _⟩

theorem same_zero (w : World) (s t : Sl) (hs : s.n = 0) (ht : t.n = 0) :
   Calls Tryz.prog 23 #[.slice s.A s.n s.c, .slice t.A t.n t.c] w (Tells w true) := by
 rw [hs, ht]
 clear hs ht
 go_enter Tryz.func23, Tryz.ntmps23
 go_wp2
 refine wp_loop_rounds 1 ?_; rw [rounds_succ]
 go_wp2
 go_ret
 exact ⟨rfl, Below.refl _ _⟩

def Alike (xs ys : List Int) (k : Nat) : Prop := ∀ j, j < k -> xs.getD j 0 = ys.getD j 0

theorem alike_all {xs ys : List Int} (hl : xs.length = ys.length) (h : Alike xs ys xs.length) : xs = ys := by
 refine List.ext_getElem hl fun i h1 h2 => ?_
 have := h i h1
 simpa [List.getD_eq_getElem?_getD, h1, h2] using this

set_option maxHeartbeats 1000000 in
theorem same_pos (w : World) (a b : Addr) (n c c' : Nat) (xs ys : List Int) (hm : n <= maxLen) (hx : xs.length = n) (hy : ys.length = n)
   (ha : ∀ j, j < n -> w.cell? (a.add j) = some (.int .u64 (xs.getD j 0))) (hb : ∀ j, j < n -> w.cell? (b.add j) = some (.int .u64 (ys.getD j 0))) :
   Calls Tryz.prog 23 #[.slice (some a) n c, .slice (some b) n c'] w (Tells w (decide (xs = ys))) := by
 unfold maxLen at hm
 have HX := lh hx
 have HY := lh hy
 have HA := lh ha
 have HB := lh hb
 clear hx hy ha hb
 go_enter Tryz.func23, Tryz.ntmps23
 go_wp2
 go_loopw [5] (fun i wr => ∃ k d : Nat, i = .int .i64 k /\ k <= n /\ Alike xs ys k /\ wr = w.drewN d) (fun i _ => n - (intOf i).toNat)
 case atStart => exact ⟨0, 0, rfl, Nat.zero_le _, fun j hj => absurd hj (by omega), rfl⟩
 case round =>
   obtain ⟨k, d, rfl, hk, hal, rfl⟩ := hrel
   have HL := lh hal
   clear hal
   by_cases hlt : k < n
   · have ca : w.cell? (a.add k) = some (.int .u64 (xs.getD k 0)) := HA.out k hlt
     have cb : w.cell? (b.add k) = some (.int .u64 (ys.getD k 0)) := HB.out k hlt
     have i0 : (0 : Int) <= (k : Int) := by omega
     have i1 : (k : Int) < (n : Int) := by omega
     obtain ⟨x, hxx⟩ : ∃ x, x = xs.getD k 0 := ⟨_, rfl⟩
     obtain ⟨y, hyy⟩ : ∃ y, y = ys.getD k 0 := ⟨_, rfl⟩
     rw [<- hxx] at ca
     rw [<- hyy] at cb
     have HXX := lh hxx
     have HYY := lh hyy
     clear hxx hyy
     by_cases he : x = y
     · subst he
       have hq : (x != x) = false := by simp
       go_wp2
       go_quiet (fail)
       go_wp2
       go_roundw
       case rel =>
         refine ⟨k + 1, _, by go_num, by omega, fun j hj => ?_, rfl⟩
         rcases Nat.lt_or_ge j k with h1 | h1
         · exact HL.out j h1
         · obtain rfl : j = k := by omega
           rw [<- HXX.out, <- HYY.out]
       case measure => simp [intOf]; omega
     · have hq : (x != y) = true := by simp [he]
       have HE := lh he
       clear he
       go_wp2
       go_quiet (fail)
       go_wp2
       go_ret
       refine ⟨?_, (below_drewN _ _).trans (below_drewN _ _)⟩
       have : ¬ xs = ys := fun h => HE.out (by rw [HXX.out, HYY.out, h])
       simp [this]
   · obtain rfl : k = n := by omega
     go_wp2
     go_ret
     have : xs = ys := alike_all (by rw [HX.out, HY.out]) (by rw [HX.out]; exact HL.out)
     exact ⟨by simp [this], below_drewN _ _⟩

theorem same_c (w : World) (B B' : Nat) (s t : Sl) (xs ys : List Int) (hs : Rd w B s xs) (ht : Rd w B' t ys) :
   Calls Tryz.prog 23 #[.slice s.A s.n s.c, .slice t.A t.n t.c] w (Tells w (decide (xs = ys))) := by
 by_cases hn : s.n = t.n
 · by_cases h0 : s.n = 0
   · have h1 : xs = [] := List.eq_nil_of_length_eq_zero (by have := hs.1; omega)
     have h2 : ys = [] := List.eq_nil_of_length_eq_zero (by have := ht.1; omega)
     subst h1
     subst h2
     exact same_zero w s t h0 (by omega)
   · obtain ⟨a, ea, _, ca⟩ := hs.2.2.2.2.2 (by omega)
     obtain ⟨b, eb, _, cb⟩ := ht.2.2.2.2.2 (by omega)
     have hm : s.n <= maxLen := Nat.le_trans hs.2.1 hs.2.2.1
     rw [ea, eb, <- hn]
     refine same_pos w a b s.n s.c t.c xs ys hm hs.1.symm (by have := ht.1; omega) (fun j hj => ?_) (fun j hj => ?_)
     · have hj' : j < xs.length := by have := hs.1; omega
       exact ca j _ (by rw [List.getD_eq_getElem?_getD, List.getElem?_eq_getElem hj']; rfl)
     · have hj' : j < ys.length := by have := ht.1; omega
       exact cb j _ (by rw [List.getD_eq_getElem?_getD, List.getElem?_eq_getElem hj']; rfl)
 · have hne : ¬ xs = ys := fun h => hn (by rw [hs.1, ht.1, h])
   have : decide (xs = ys) = false := by simp [hne]
   rw [this]
   exact same_len w s t (Nat.le_trans hs.2.1 hs.2.2.1) (Nat.le_trans ht.2.1 ht.2.2.1) hn
end Go.Proofs.YtffppdcpiieapaaGreat.Refc

namespace Go.Proofs.YtffppdcpiieapaaGreat.Refc
open Go.RowKit Memc
set_option linter.unusedVariables false
set_option maxRecDepth 100000

def Lists (w : World) (xs : List Int) (e : Ending) (w' : World) : Prop :=
 ∃ s : Sl, e = .returned (.slice s.A s.n s.c) /\ Rd w' w'.heap.size s xs /\ Below w.heap.size w w'

theorem lists_one {w w' : World} {g : Nat} {x : Int} (hx : 0 <= x /\ x <= 18446744073709551615) (h : Blk w' g 30 #[.int .u64 x]) (hb : Below w.heap.size w w') :
   Lists w [x] (.returned (.slice (some ⟨g, 0, none⟩) 1 1)) w' :=
 ⟨⟨some ⟨g, 0, none⟩, 1, 1⟩, rfl, ⟨rfl, Nat.le_refl _, by show 1 <= maxLen; unfold maxLen; omega, fun y hy => (by rw [List.mem_singleton.1 hy]; exact hx), fun h => (by cases h), fun _ => ⟨_, rfl, h.lt, fun j y hj => by
   rcases j with _ | j
   · simp only [List.getElem?_cons_zero, Option.some.injEq] at hj
     subst hj
     exact h.cell 0
   · simp at hj⟩⟩, hb⟩
theorem lists_old {w w' : World} {B : Nat} {s : Sl} {xs : List Int} (h : Rd w B s xs) (hB : B <= w.heap.size) (hb : Below w.heap.size w w') : Lists w xs (.returned (.slice s.A s.n s.c)) w' :=
 ⟨s, rfl, ((h.more hB).below hb).more hb.size, hb⟩

set_option maxHeartbeats 1000000 in
theorem area_c1 (w : World) (B : Nat) (r : R) (m : M) (h : Rm w B r m) (hB : B <= w.heap.size) :
   Calls Tryz.prog 24 #[.agg #[.int .u64 r.e, .int .u64 r.f, .slice r.L.A r.L.n r.L.c, .slice r.P.A r.P.n r.P.c, .int .u64 r.h, .int .u64 r.t, .slice r.K.A r.K.n r.K.c, .slice r.X.A r.X.n r.X.c, .slice r.S.A r.S.n r.S.c], .int .i64 1] w (Lists w (m.area 1)) := by
 have HK : Hid (0 <= r.e /\ r.e <= 18446744073709551615) := by rw [h.1]; exact h.2.2.2.2.1 1 _ (by rw [area_1]; exact List.mem_singleton.2 rfl)
 have HE : Hid (m.area 1 = [r.e]) := lh (by rw [area_1, h.1])
 clear h
 go_enter Tryz.func24, Tryz.ntmps24
 go_wp2
 go_ret
 rw [HE.out]
 exact lists_one HK.out (blk_at (by simp)) (((Below.refl _ _).alloc (Nat.le_refl _) _).alloc (by simp) _)

set_option maxHeartbeats 1000000 in
theorem area_c2 (w : World) (B : Nat) (r : R) (m : M) (h : Rm w B r m) (hB : B <= w.heap.size) :
   Calls Tryz.prog 24 #[.agg #[.int .u64 r.e, .int .u64 r.f, .slice r.L.A r.L.n r.L.c, .slice r.P.A r.P.n r.P.c, .int .u64 r.h, .int .u64 r.t, .slice r.K.A r.K.n r.K.c, .slice r.X.A r.X.n r.X.c, .slice r.S.A r.S.n r.S.c], .int .i64 2] w (Lists w (m.area 2)) := by
 have HK : Hid (0 <= r.f /\ r.f <= 18446744073709551615) := by rw [h.2.1]; exact h.2.2.2.2.1 2 _ (by rw [area_2]; exact List.mem_singleton.2 rfl)
 have HE : Hid (m.area 2 = [r.f]) := lh (by rw [area_2, h.2.1])
 clear h
 go_enter Tryz.func24, Tryz.ntmps24
 go_wp2
 go_ret
 rw [HE.out]
 exact lists_one HK.out (blk_at (by simp)) (((Below.refl _ _).alloc (Nat.le_refl _) _).alloc (by simp) _)

set_option maxHeartbeats 1000000 in
theorem area_c5 (w : World) (B : Nat) (r : R) (m : M) (h : Rm w B r m) (hB : B <= w.heap.size) :
   Calls Tryz.prog 24 #[.agg #[.int .u64 r.e, .int .u64 r.f, .slice r.L.A r.L.n r.L.c, .slice r.P.A r.P.n r.P.c, .int .u64 r.h, .int .u64 r.t, .slice r.K.A r.K.n r.K.c, .slice r.X.A r.X.n r.X.c, .slice r.S.A r.S.n r.S.c], .int .i64 5] w (Lists w (m.area 5)) := by
 have HK : Hid (0 <= r.h /\ r.h <= 18446744073709551615) := by rw [h.2.2.1]; exact h.2.2.2.2.1 5 _ (by rw [area_5]; exact List.mem_singleton.2 rfl)
 have HE : Hid (m.area 5 = [r.h]) := lh (by rw [area_5, h.2.2.1])
 clear h
 go_enter Tryz.func24, Tryz.ntmps24
 go_wp2
 go_ret
 rw [HE.out]
 exact lists_one HK.out (blk_at (by simp)) (((Below.refl _ _).alloc (Nat.le_refl _) _).alloc (by simp) _)

set_option maxHeartbeats 1000000 in
theorem area_c6 (w : World) (B : Nat) (r : R) (m : M) (h : Rm w B r m) (hB : B <= w.heap.size) :
   Calls Tryz.prog 24 #[.agg #[.int .u64 r.e, .int .u64 r.f, .slice r.L.A r.L.n r.L.c, .slice r.P.A r.P.n r.P.c, .int .u64 r.h, .int .u64 r.t, .slice r.K.A r.K.n r.K.c, .slice r.X.A r.X.n r.X.c, .slice r.S.A r.S.n r.S.c], .int .i64 6] w (Lists w (m.area 6)) := by
 have HK : Hid (0 <= r.t /\ r.t <= 18446744073709551615) := by rw [h.2.2.2.1]; exact h.2.2.2.2.1 6 _ (by rw [area_6]; exact List.mem_singleton.2 rfl)
 have HE : Hid (m.area 6 = [r.t]) := lh (by rw [area_6, h.2.2.2.1])
 clear h
 go_enter Tryz.func24, Tryz.ntmps24
 go_wp2
 go_ret
 rw [HE.out]
 exact lists_one HK.out (blk_at (by simp)) (((Below.refl _ _).alloc (Nat.le_refl _) _).alloc (by simp) _)

set_option maxHeartbeats 1000000 in
theorem area_c3 (w : World) (B : Nat) (r : R) (m : M) (h : Rm w B r m) (hB : B <= w.heap.size) :
   Calls Tryz.prog 24 #[.agg #[.int .u64 r.e, .int .u64 r.f, .slice r.L.A r.L.n r.L.c, .slice r.P.A r.P.n r.P.c, .int .u64 r.h, .int .u64 r.t, .slice r.K.A r.K.n r.K.c, .slice r.X.A r.X.n r.X.c, .slice r.S.A r.S.n r.S.c], .int .i64 3] w (Lists w (m.area 3)) := by
 have HR : Hid (Rd w B r.L m.li) := h.2.2.2.2.2.1
 have HB := lh hB
 clear h hB
 go_enter Tryz.func24, Tryz.ntmps24
 go_wp2
 go_ret
 exact lists_old HR.out HB.out ((Below.refl _ _).alloc (Nat.le_refl _) _)

set_option maxHeartbeats 1000000 in
theorem area_c4 (w : World) (B : Nat) (r : R) (m : M) (h : Rm w B r m) (hB : B <= w.heap.size) :
   Calls Tryz.prog 24 #[.agg #[.int .u64 r.e, .int .u64 r.f, .slice r.L.A r.L.n r.L.c, .slice r.P.A r.P.n r.P.c, .int .u64 r.h, .int .u64 r.t, .slice r.K.A r.K.n r.K.c, .slice r.X.A r.X.n r.X.c, .slice r.S.A r.S.n r.S.c], .int .i64 4] w (Lists w (m.area 4)) := by
 have HR : Hid (Rd w B r.P m.pi) := h.2.2.2.2.2.2.1
 have HB := lh hB
 clear h hB
 go_enter Tryz.func24, Tryz.ntmps24
 go_wp2
 go_ret
 exact lists_old HR.out HB.out ((Below.refl _ _).alloc (Nat.le_refl _) _)

set_option maxHeartbeats 1000000 in
theorem area_c7 (w : World) (B : Nat) (r : R) (m : M) (h : Rm w B r m) (hB : B <= w.heap.size) :
   Calls Tryz.prog 24 #[.agg #[.int .u64 r.e, .int .u64 r.f, .slice r.L.A r.L.n r.L.c, .slice r.P.A r.P.n r.P.c, .int .u64 r.h, .int .u64 r.t, .slice r.K.A r.K.n r.K.c, .slice r.X.A r.X.n r.X.c, .slice r.S.A r.S.n r.S.c], .int .i64 7] w (Lists w (m.area 7)) := by
 have HR : Hid (Rd w B r.K m.lk) := h.2.2.2.2.2.2.2.1
 have HB := lh hB
 clear h hB
 go_enter Tryz.func24, Tryz.ntmps24
 go_wp2
 go_ret
 exact lists_old HR.out HB.out ((Below.refl _ _).alloc (Nat.le_refl _) _)

set_option maxHeartbeats 1000000 in
theorem area_c8 (w : World) (B : Nat) (r : R) (m : M) (h : Rm w B r m) (hB : B <= w.heap.size) :
   Calls Tryz.prog 24 #[.agg #[.int .u64 r.e, .int .u64 r.f, .slice r.L.A r.L.n r.L.c, .slice r.P.A r.P.n r.P.c, .int .u64 r.h, .int .u64 r.t, .slice r.K.A r.K.n r.K.c, .slice r.X.A r.X.n r.X.c, .slice r.S.A r.S.n r.S.c], .int .i64 8] w (Lists w (m.area 8)) := by
 have HR : Hid (Rd w B r.X m.nx) := h.2.2.2.2.2.2.2.2.1
 have HB := lh hB
 clear h hB
 go_enter Tryz.func24, Tryz.ntmps24
 go_wp2
 go_ret
 exact lists_old HR.out HB.out ((Below.refl _ _).alloc (Nat.le_refl _) _)

set_option maxHeartbeats 1000000 in
theorem area_c9 (w : World) (B : Nat) (r : R) (m : M) (h : Rm w B r m) (hB : B <= w.heap.size) :
   Calls Tryz.prog 24 #[.agg #[.int .u64 r.e, .int .u64 r.f, .slice r.L.A r.L.n r.L.c, .slice r.P.A r.P.n r.P.c, .int .u64 r.h, .int .u64 r.t, .slice r.K.A r.K.n r.K.c, .slice r.X.A r.X.n r.X.c, .slice r.S.A r.S.n r.S.c], .int .i64 9] w (Lists w (m.area 9)) := by
 have HR : Hid (Rd w B r.S m.sl) := h.2.2.2.2.2.2.2.2.2
 have HB := lh hB
 clear h hB
 go_enter Tryz.func24, Tryz.ntmps24
 go_wp2
 go_ret
 exact lists_old HR.out HB.out ((Below.refl _ _).alloc (Nat.le_refl _) _)

set_option maxHeartbeats 1000000 in
theorem area_out (w : World) (r : R) (m : M) (a : Int) (ha : -9223372036854775808 <= a) (ha' : a <= 9223372036854775807) (h : a < 1 \/ 9 < a) :
   Calls Tryz.prog 24 #[.agg #[.int .u64 r.e, .int .u64 r.f, .slice r.L.A r.L.n r.L.c, .slice r.P.A r.P.n r.P.c, .int .u64 r.h, .int .u64 r.t, .slice r.K.A r.K.n r.K.c, .slice r.X.A r.X.n r.X.c, .slice r.S.A r.S.n r.S.c], .int .i64 a] w (Lists w (m.area a)) := by
 have HE : Hid (m.area a = []) := area_no m a h
 rcases h with h | h
 all_goals
   go_enter Tryz.func24, Tryz.ntmps24
   go_wp2
   go_ret
   rw [HE.out]
   exact lists_old (s := ⟨none, 0, 0⟩) (Rd.nil w 0 none) (Nat.zero_le _) ((Below.refl _ _).alloc (Nat.le_refl _) _)

theorem area_c (w : World) (B : Nat) (r : R) (m : M) (a : Int) (h : Rm w B r m) (hB : B <= w.heap.size) (ha : -9223372036854775808 <= a) (ha' : a <= 9223372036854775807) :
   Calls Tryz.prog 24 #[.agg #[.int .u64 r.e, .int .u64 r.f, .slice r.L.A r.L.n r.L.c, .slice r.P.A r.P.n r.P.c, .int .u64 r.h, .int .u64 r.t, .slice r.K.A r.K.n r.K.c, .slice r.X.A r.X.n r.X.c, .slice r.S.A r.S.n r.S.c], .int .i64 a] w (Lists w (m.area a)) := by
 by_cases ho : a < 1 \/ 9 < a
 · exact area_out w r m a ha ha' ho
 · rcases nine ho with rfl | rfl | rfl | rfl | rfl | rfl | rfl | rfl | rfl
   · exact area_c1 w B r m h hB
   · exact area_c2 w B r m h hB
   · exact area_c3 w B r m h hB
   · exact area_c4 w B r m h hB
   · exact area_c5 w B r m h hB
   · exact area_c6 w B r m h hB
   · exact area_c7 w B r m h hB
   · exact area_c8 w B r m h hB
   · exact area_c9 w B r m h hB
end Go.Proofs.YtffppdcpiieapaaGreat.Refc
