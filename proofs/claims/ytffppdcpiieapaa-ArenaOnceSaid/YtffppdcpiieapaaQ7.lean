/- A thread's next call is begun, by contract, whatever begins it. · The document's answer for the store, its small functions by their contracts: comparing two lists of words. · The document's answer for the store: the words of an area, by its contract. · The document's answer for the store: the words with those of an area being others, by its contract. · The document's answer for the store: whether words are few, and whether they are the same, by their contracts. · Whether two traces are the same, by the document's answer: those that tell the same are. · The words at first, by the document's answer. · Appending a list of 64-bit words, nil or not, to a row of the call's own: at an operation, in a plain list of operations, and at a step of a region that draws its order. · Rows of words apart from a block: what a store into that block leaves. · The document's answer for the store: an access, by its contract. · The document's answer for the store: an access to a word that is there, by its contract. · Words that are few stay few; those that are made are. · Calls that are on, by the document's answer: as mathematics, and what a run of them is. · A run by the document's answer, as it is held in memory. · A run by the document's answer, in memory: what is written to it. · A step of a thread that has no call on and begins none: nothing happens. -/
import Derived.Test.YtffppdcpiieapaaRows
import Derived.WalkKit
import Derived.IntWalk
import Derived.WalkSpells
import Derived.Outline
import Derived.BigQuiet
import Derived.Deep.QuietTactic
import Derived.Deep.RegionHeld3
import Derived.Deep.DrawnRows
import Derived.RegionTactic
import Derived.Deep.RegionLaw
import Derived.Deep.MidRow
import Derived.Test.YtffppdcpiieapaaQ1
import Derived.Test.YtffppdcpiieapaaQ2
import Derived.Test.YtffppdcpiieapaaQ3
import Derived.Test.YtffppdcpiieapaaQ5
namespace Go.Proofs.Ytffppdcpiieapaa.Drivec
open Go.RowKit Go.Proofs.Ytffppdcpiieapaa.Memc Go.Proofs.Ytffppdcpiieapaa.Procc
set_option linter.unusedVariables false
set_option maxRecDepth 100000

/-- what beginning a call comes to: a machine that does what p tells -/
def Begun3 (w : World) (p : Pl) (e : Ending) (w' : World) : Prop :=
  ∃ (P F : Nat) (l : List Cap1), e = .returned (.iface 123 (.pointer (some ⟨P, 0, none⟩))) ∧ Blk w' P 126 #[.func (.func F) #[] (l.map Cap1.ptr).toArray, .slice none 0 0, .bool false, .bool false, .int .i64 0, .int .u32 0] ∧ Kept w' l ∧ SafeL l ∧ Meets F l p ∧ w.heap.size ≤ P ∧ Below w.heap.size w w'
/-- the closure B, with the blocks lb caught, begins calls that do what pl tells -/
def Begins (B : Nat) (lb : List Cap1) (ok : Int → Int → Int → Int → Prop) (pl : Int → Int → Int → Int → Pl) : Prop :=
  Enters B ∧ ∀ (w : World) (i kd vl d : Int), ok i kd vl d → Kept w lb → Calls Try.prog B (#[.int .i64 i, .agg #[.int .i64 kd, .int .u32 vl], .int .u32 d] ++ (lb.map Cap1.ptr).toArray) w (Begun3 w (pl i kd vl d))
/-- what beginning a thread's next call comes to -/
def StartedG (w : World) (B : Nat) (bs : Array Value) (gC gT i o ob oo ln lcp base nK : Nat) (kd vl : Int) (p : Pl) (ct : Array Value) (a : Acc) (r : R) (th sS sK : Sl) (xs : List Value) (e : Ending) (w' : World) : Prop :=
  ∃ (P F : Nat) (cs : Array Value) (l : List Cap1) (s1 : Sl), e = .returned (.tuple #[]) ∧ cs = (l.map Cap1.ptr).toArray ∧ Meets F l p ∧ SafeL l ∧ Kept w' l ∧ Blk w' P 126 #[.func (.func F) #[] cs, .slice none 0 0, .bool true, .bool false, .int .i64 0, .int .u32 0] ∧
    Blk w' gC 102 #[.func (.func B) #[] bs, .slice th.A th.n th.c, .slice sS.A sS.n sS.c, .slice s1.A s1.n s1.c, .int .u64 r.e, .int .u64 r.f, .slice r.L.A r.L.n r.L.c, .slice r.P.A r.P.n r.P.c, .int .u64 r.h, .int .u64 r.t, .slice r.K.A r.K.n r.K.c, .slice r.X.A r.X.n r.X.c, .slice r.S.A r.S.n r.S.c] ∧ Blk w' gT 104 (begun ct o ob oo ln lcp sK.n P a) ∧
    Row w' base 55 7 s1 (nK + 1) (xs ++ [.int .i64 i, .int .i64 kd, .int .u32 vl, .int .i64 sS.n, .int .i64 (-1), .int .i64 0, .int .u32 0]) ∧ Only (fun g => g = gT ∨ g = gC ∨ bl sK g) w w' ∧ w.heap.size ≤ P

set_option maxHeartbeats 4000000 in
theorem startg_c (w : World) (B : Nat) (bs : Array Value) (lb : List Cap1) (ok : Int → Int → Int → Int → Prop) (pl : Int → Int → Int → Int → Pl) (gC gT i o ob oo ln lcp : Nat) (ct : Array Value) (kd vl d call : Int) (a : Acc) (r : R) (th sS sK : Sl) (nS nK base : Nat) (xs : List Value)
    (hC : Blk w gC 102 #[.func (.func B) #[] bs, .slice th.A th.n th.c, .slice sS.A sS.n sS.c, .slice sK.A sK.n sK.c, .int .u64 r.e, .int .u64 r.f, .slice r.L.A r.L.n r.L.c, .slice r.P.A r.P.n r.P.c, .int .u64 r.h, .int .u64 r.t, .slice r.K.A r.K.n r.K.c, .slice r.X.A r.X.n r.X.c, .slice r.S.A r.S.n r.S.c]) (hT : Blk w gT 104 ct)
    (e0 : ct[o]? = some (.slice (some ⟨ob, oo, none⟩) ln lcp)) (e1 : ct[o + 1]? = some .nilIface) (e2 : ct[o + 2]? = some (.int .i64 call))
    (e3 : ct[o + 3]? = some (.int .i64 0)) (e4 : ct[o + 4]? = some (.int .i64 0)) (e5 : ct[o + 5]? = some (.int .i64 0)) (e6 : ct[o + 6]? = some (.int .u64 0)) (e7 : ct[o + 7]? = some (.int .u64 0)) (e8 : ct[o + 8]? = some (.bool false))
    (hl0 : 0 < ln) (hl1 : ln ≤ lcp) (hl2 : lcp ≤ maxLen) (hob : ob < w.heap.size) (f0 : w.cell? ⟨ob, oo, none⟩ = some (.int .i64 kd)) (f1 : w.cell? ⟨ob, oo + 1, none⟩ = some (.int .u32 vl))
    (hS : sS.n = nS) (hK : Row w base 55 7 sK nK xs) (hnK : nK < 100000) (hnS : nS < 100000) (hbase : base ≤ w.heap.size)
    (hbs : bs = (lb.map Cap1.ptr).toArray) (hB : Begins B lb ok pl) (hkb : Kept w lb) (hsb : SafeL lb) (hok : ok i kd vl d) (hpa : pl i kd vl d [] = .ask a) :
    Calls Try.prog 87 #[.pointer (some ⟨gC, 0, none⟩), .pointer (some ⟨gT, o, none⟩), .agg #[.int .i64 i, .int .u32 d]] w (StartedG w B bs gC gT i o ob oo ln lcp base nK kd vl (pl i kd vl d) ct a r th sS sK xs) := by
  have c0 := (hT.cell o).trans e0
  have c1 := (hT.cell (o + 1)).trans e1
  have hfT := hT.frozen
  have hzT := hT.lt
  have n1 : (0 : Int) < ln := by omega
  have n2 : (1 : Int) ≤ ln := by omega
  have n3 : (ln : Int) ≤ lcp := by omega
  have n4 : (lcp : Int) ≤ 9223372036854775807 := by unfold maxLen at hl2; omega
  have n5 : ln ≤ lcp := by omega
  have n6 : 1 ≤ ln := by omega
  have n7 : 1 ≤ lcp := by omega
  have HC := Lib.hid hC
  have HT := Lib.hid hT
  have HK := Lib.hid hK
  have HS := Lib.hid hS
  have HBG := Lib.hid hB
  have HKB := Lib.hid hkb
  have HSB := Lib.hid hsb
  have HBS := Lib.hid hbs
  have HOK := Lib.hid hok
  have HPA := Lib.hid hpa
  have HSZ : Hid (o + 1 < ct.size) := Lib.hid (by have := (Array.getElem?_eq_some_iff.1 e8).1; omega)
  have HE2 := Lib.hid e2
  have HE3 := Lib.hid e3
  have HE4 := Lib.hid e4
  have HE5 := Lib.hid e5
  have HE6 := Lib.hid e6
  have HE7 := Lib.hid e7
  have HE8 := Lib.hid e8
  have HE1 := Lib.hid e1
  clear hC hT e0 e1 e2 e3 e4 e5 e6 e7 e8 hS hK hB hkb hsb hbs hok hpa hl2
  obtain ⟨A', hA⟩ : ∃ A', (if lcp = 1 then some (⟨ob, oo, none⟩ : Addr) else some ⟨ob, oo + 2, none⟩) = A' := ⟨_, rfl⟩
  go_enter Try.func87, Try.ntmps87
  go_wp2_with fail
  have HA := Lib.hid hA
  clear hA
  have hneT : ¬ gC = gT := Blk.ne HC.out HT.out (by decide)
  have hneT2 : ¬ gT = gC := fun e => hneT e.symm
  have hzC := HC.out.lt
  have HBT : Hid (∀ x ∈ lb, ¬ x.g = gT) := Lib.hid (fun x hx => Blk.ne (HKB.out x hx) HT.out (HSB.out x hx).2.2.2.1)
  have HBC : Hid (∀ x ∈ lb, ¬ x.g = gC) := Lib.hid (fun x hx => Blk.ne (HKB.out x hx) HC.out (HSB.out x hx).2.2.1)
  have hss : (w.setCell ⟨gT, o, none⟩ (.slice A' (ln - 1) (lcp - 1))).heap.size = w.heap.size := by simp [World.setCell]
  have P1 : Hid (Blk (((w.setCell ⟨gT, o, none⟩ (.slice A' (ln - 1) (lcp - 1))).alloc (.cells #[.int .i64 i, .int .u32 d] 65)).alloc (.cells #[.int .i64 kd, .int .u32 vl] 63)) w.heap.size 65 #[.int .i64 i, .int .u32 d]) := Lib.hid ((blk_at hss).alloc _)
  have Q1 : Hid (Blk (((w.setCell ⟨gT, o, none⟩ (.slice A' (ln - 1) (lcp - 1))).alloc (.cells #[.int .i64 i, .int .u32 d] 65)).alloc (.cells #[.int .i64 kd, .int .u32 vl] 63)) (w.heap.size + 1) 63 #[.int .i64 kd, .int .u32 vl]) := Lib.hid (blk_at (by simp [hss]))
  have C1 := Lib.hid (((HC.out.far (p := ⟨gT, o, none⟩) hneT (.slice A' (ln - 1) (lcp - 1))).alloc (.cells #[.int .i64 i, .int .u32 d] 65)).alloc (.cells #[.int .i64 kd, .int .u32 vl] 63))
  have T1 := Lib.hid (((HT.out.set_ o (.slice A' (ln - 1) (lcp - 1))).alloc (.cells #[.int .i64 i, .int .u32 d] 65)).alloc (.cells #[.int .i64 kd, .int .u32 vl] 63))
  have B1 : Hid (Kept (((w.setCell ⟨gT, o, none⟩ (.slice A' (ln - 1) (lcp - 1))).alloc (.cells #[.int .i64 i, .int .u32 d] 65)).alloc (.cells #[.int .i64 kd, .int .u32 vl] 63)) lb) := Lib.hid (fun x hx => (((HKB.out x hx).far (p := ⟨gT, o, none⟩) (HBT.out x hx) (.slice A' (ln - 1) (lcp - 1))).alloc (.cells #[.int .i64 i, .int .u32 d] 65)).alloc (.cells #[.int .i64 kd, .int .u32 vl] 63))
  have K1 : Hid (Row (((w.setCell ⟨gT, o, none⟩ (.slice A' (ln - 1) (lcp - 1))).alloc (.cells #[.int .i64 i, .int .u32 d] 65)).alloc (.cells #[.int .i64 kd, .int .u32 vl] 63)) base 55 7 sK nK xs) := Lib.hid (((HK.out.kept (w' := (w.setCell ⟨gT, o, none⟩ (.slice A' (ln - 1) (lcp - 1)))) fun g hg => Below.heap_setCell _ _ _ _ (HK.out.ne HT.out (by decide) g hg)).alloc (.cells #[.int .i64 i, .int .u32 d] 65)).alloc (.cells #[.int .i64 kd, .int .u32 vl] 63))
  have O1 : Hid (Only (fun g => g = gT ∨ g = gC ∨ bl sK g) w (((w.setCell ⟨gT, o, none⟩ (.slice A' (ln - 1) (lcp - 1))).alloc (.cells #[.int .i64 i, .int .u32 d] 65)).alloc (.cells #[.int .i64 kd, .int .u32 vl] 63))) := Lib.hid ((((Only.refl (fun g => g = gT ∨ g = gC ∨ bl sK g) w).set_ ⟨gT, o, none⟩ (.inl (.inl rfl)) _).alloc _).alloc _)
  have hs1 : w.heap.size + 1 < ((((w.setCell ⟨gT, o, none⟩ (.slice A' (ln - 1) (lcp - 1))).alloc (.cells #[.int .i64 i, .int .u32 d] 65)).alloc (.cells #[.int .i64 kd, .int .u32 vl] 63))).heap.size := by simp [World.setCell]; try omega
  generalize (((w.setCell ⟨gT, o, none⟩ (.slice A' (ln - 1) (lcp - 1))).alloc (.cells #[.int .i64 i, .int .u32 d] 65)).alloc (.cells #[.int .i64 kd, .int .u32 vl] 63)) = V at P1 Q1 C1 T1 B1 K1 O1 hs1 ⊢
  clear c0 c1 hfT f0 f1
  have E1 : Hid ((ct.setIfInBounds o (.slice A' (ln - 1) (lcp - 1)))[o + 1]? = some .nilIface) := Lib.hid (by rw [Array.getElem?_setIfInBounds_ne (by omega)]; exact HE1.out)
  have hbg2 := HBG.out.2 V.drew i kd vl d HOK.out (fun x hx => (B1.out x hx).drew)
  rw [← HBS.out] at hbg2
  have HBG2 := Lib.hid hbg2
  clear hbg2
  have hc := C1.out.cell
  refine Zreg.begin_ (S := (fun w' => (∀ j, w'.cell? ⟨gC, j, none⟩ = (#[.func (.func B) #[] bs, .slice th.A th.n th.c, .slice sS.A sS.n sS.c, .slice sK.A sK.n sK.c, .int .u64 r.e, .int .u64 r.f, .slice r.L.A r.L.n r.L.c, .slice r.P.A r.P.n r.P.c, .int .u64 r.h, .int .u64 r.t, .slice r.K.A r.K.n r.K.c, .slice r.X.A r.X.n r.X.c, .slice r.S.A r.S.n r.S.c] : Array Value)[j]?) ∧ (∀ j, w'.cell? ⟨w.heap.size, j, none⟩ = (#[.int .i64 i, .int .u32 d] : Array Value)[j]?) ∧ (∀ j, w'.cell? ⟨w.heap.size + 1, j, none⟩ = (#[.int .i64 kd, .int .u32 vl] : Array Value)[j]?))) (zs := [13]) (by kernel_rfl) ?_
  show Zreg.After _ _ _ _ _ _ 14 #[false, false, false, false, false, false, false, false, false, false, false, false, false, false] _ _
  refine Zreg.takeP 0 21 (x := ?xb_0) rfl rfl (by kernel_rfl) (by kernel_rfl) (by kernel_rfl) (by kernel_rfl) (fun _ _ _ h => h) (.inr ⟨C1.out.drew.cell, P1.out.drew.cell, Q1.out.drew.cell⟩) (Or.inl ⟨by rfl, ?yb_0⟩) ?rb_0
  case yb_0 => (intro w _; go_simp <;> with_reducible rfl)
  simp only [List.setIfInBounds_toArray, List.set_cons_zero, List.set_cons_succ]
  refine Zreg.takeP 1 22 (x := ?xb_1) rfl rfl (by kernel_rfl) (by kernel_rfl) (by kernel_rfl) (by kernel_rfl) (fun _ _ _ h => h) (.inr ⟨C1.out.drew.cell, P1.out.drew.cell, Q1.out.drew.cell⟩) (Or.inl ⟨by rfl, ?yb_1⟩) ?rb_1
  case yb_1 => (intro w _; go_simp <;> with_reducible rfl)
  simp only [List.setIfInBounds_toArray, List.set_cons_zero, List.set_cons_succ]
  refine Zreg.takeP 2 23 (x := ?xb_2) rfl rfl (by kernel_rfl) (by kernel_rfl) (by kernel_rfl) (by kernel_rfl) (fun _ _ _ h => h) (.inr ⟨C1.out.drew.cell, P1.out.drew.cell, Q1.out.drew.cell⟩) (Or.inl ⟨by rfl, ?yb_2⟩) ?rb_2
  case yb_2 => (intro w _; go_simp <;> with_reducible rfl)
  simp only [List.setIfInBounds_toArray, List.set_cons_zero, List.set_cons_succ]
  refine Zreg.takeP 3 24 (x := ?xb_3) rfl rfl (by kernel_rfl) (by kernel_rfl) (by kernel_rfl) (by kernel_rfl) (fun _ _ _ h => h) (.inr ⟨C1.out.drew.cell, P1.out.drew.cell, Q1.out.drew.cell⟩) (Or.inl ⟨by rfl, ?yb_3⟩) ?rb_3
  case yb_3 => (intro w _; go_simp <;> with_reducible rfl)
  simp only [List.setIfInBounds_toArray, List.set_cons_zero, List.set_cons_succ]
  refine Zreg.takeS 4 25 (x := ?xb_4) rfl rfl (by kernel_rfl) (by kernel_rfl) (by kernel_rfl) (by kernel_rfl) (by kernel_rfl) (by kernel_rfl) (fun _ _ _ h => h) (.inr ⟨C1.out.drew.cell, P1.out.drew.cell, Q1.out.drew.cell⟩) (Or.inl ⟨by rfl, ?yb_4⟩) ?rb_4
  case yb_4 => (intro w hSw; (try dsimp only at hSw); go_simp <;> with_reducible rfl)
  simp only [List.setIfInBounds_toArray, List.set_cons_zero, List.set_cons_succ]
  refine Zreg.takeP 5 26 (x := ?xb_5) rfl rfl (by kernel_rfl) (by kernel_rfl) (by kernel_rfl) (by kernel_rfl) (fun _ _ _ h => h) (.inr ⟨C1.out.drew.cell, P1.out.drew.cell, Q1.out.drew.cell⟩) (Or.inl ⟨by rfl, ?yb_5⟩) ?rb_5
  case yb_5 => (intro w _; go_simp <;> with_reducible rfl)
  simp only [List.setIfInBounds_toArray, List.set_cons_zero, List.set_cons_succ]
  refine Zreg.takeS 6 27 (x := ?xb_6) rfl rfl (by kernel_rfl) (by kernel_rfl) (by kernel_rfl) (by kernel_rfl) (by kernel_rfl) (by kernel_rfl) (fun _ _ _ h => h) (.inr ⟨C1.out.drew.cell, P1.out.drew.cell, Q1.out.drew.cell⟩) (Or.inl ⟨by rfl, ?yb_6⟩) ?rb_6
  case yb_6 => (intro w hSw; (try dsimp only at hSw); go_simp <;> with_reducible rfl)
  simp only [List.setIfInBounds_toArray, List.set_cons_zero, List.set_cons_succ]
  refine Zreg.takeS 7 28 (x := ?xb_7) rfl rfl (by kernel_rfl) (by kernel_rfl) (by kernel_rfl) (by kernel_rfl) (by kernel_rfl) (by kernel_rfl) (fun _ _ _ h => h) (.inr ⟨C1.out.drew.cell, P1.out.drew.cell, Q1.out.drew.cell⟩) (Or.inl ⟨by rfl, ?yb_7⟩) ?rb_7
  case yb_7 => (intro w hSw; (try dsimp only at hSw); go_simp <;> with_reducible rfl)
  simp only [List.setIfInBounds_toArray, List.set_cons_zero, List.set_cons_succ]
  refine Zreg.takeP 8 29 (x := ?xb_8) rfl rfl (by kernel_rfl) (by kernel_rfl) (by kernel_rfl) (by kernel_rfl) (fun _ _ _ h => h) (.inr ⟨C1.out.drew.cell, P1.out.drew.cell, Q1.out.drew.cell⟩) (Or.inl ⟨by rfl, ?yb_8⟩) ?rb_8
  case yb_8 => (intro w _; go_simp <;> with_reducible rfl)
  simp only [List.setIfInBounds_toArray, List.set_cons_zero, List.set_cons_succ]
  refine Zreg.takeS 9 30 (x := ?xb_9) rfl rfl (by kernel_rfl) (by kernel_rfl) (by kernel_rfl) (by kernel_rfl) (by kernel_rfl) (by kernel_rfl) (fun _ _ _ h => h) (.inr ⟨C1.out.drew.cell, P1.out.drew.cell, Q1.out.drew.cell⟩) (Or.inl ⟨by rfl, ?yb_9⟩) ?rb_9
  case yb_9 => (intro w hSw; (try dsimp only at hSw); go_simp <;> with_reducible rfl)
  simp only [List.setIfInBounds_toArray, List.set_cons_zero, List.set_cons_succ]
  refine Zreg.one 10 (by kernel_rfl) rfl rfl fun K hK => ?_
  go_simp
  refine upon_func HBG.out.1 HBG2.out ?_
  rintro e w3 ⟨P, F, l, rfl, hq3, hk3, hs3, hme3, hP3, hb3⟩
  obtain ⟨cs, hcs⟩ : ∃ cs, cs = (l.map Cap1.ptr).toArray := ⟨_, rfl⟩
  rw [← hcs] at hq3
  have HCS := Lib.hid hcs
  have HME := Lib.hid hme3
  have HSF := Lib.hid hs3
  have Z1 := Lib.hid hq3
  have L1 := Lib.hid hk3
  have HP3 : Hid (V.heap.size ≤ P) := Lib.hid hP3
  have P1_ := Lib.hid (P1.out.drew.below hb3 P1.out.lt)
  have Q1_ := Lib.hid (Q1.out.drew.below hb3 Q1.out.lt)
  have C1_ := Lib.hid (C1.out.drew.below hb3 C1.out.lt)
  have T1_ := Lib.hid (T1.out.drew.below hb3 T1.out.lt)
  have K1_ := Lib.hid (K1.out.drew.below hb3 (Nat.le_refl _))
  have B1_ : Hid (Kept w3 lb) := Lib.hid (fun x hx => (B1.out x hx).drew.below hb3 (B1.out x hx).lt)
  have O1_ := Lib.hid (O1.out.drew.next (Only.of_below (P := fun _ => False) hb3 (Nat.le_refl _)) (fun k _ h => h.elim))
  clear hcs hme3 hs3 hq3 hk3 hP3 hb3 hc P1 Q1 C1 T1 K1 B1 O1
  have P1 := Lib.hid P1_.out
  have Q1 := Lib.hid Q1_.out
  have C1 := Lib.hid C1_.out
  have T1 := Lib.hid T1_.out
  have K1 := Lib.hid K1_.out
  have B1 := Lib.hid B1_.out
  have O1 := Lib.hid O1_.out
  clear P1_ Q1_ C1_ T1_ K1_ B1_ O1_
  have hto := (T1.out.cell (o + 1)).trans E1.out
  have hft := T1.out.frozen
  refine hK.out _ _ (.inr ⟨C1.out.cell, P1.out.cell, Q1.out.cell⟩) fun _ => ?_
  clear hK
  simp only [List.setIfInBounds_toArray, List.set_cons_zero, List.set_cons_succ]
  refine Zreg.takeP 11 32 (x := ?xb_11) rfl rfl (by kernel_rfl) (by kernel_rfl) (by kernel_rfl) (by kernel_rfl) (fun _ _ _ h => h) (.inr ⟨C1.out.cell, P1.out.cell, Q1.out.cell⟩) (Or.inl ⟨by rfl, ?yb_11⟩) ?rb_11
  case yb_11 => (intro w _; go_simp <;> with_reducible rfl)
  simp only [List.setIfInBounds_toArray, List.set_cons_zero, List.set_cons_succ]
  refine Zreg.takeP 12 33 (x := ?xb_12) rfl rfl (by kernel_rfl) (by kernel_rfl) (by kernel_rfl) (by kernel_rfl) (fun _ _ _ h => h) (.inr ⟨C1.out.cell, P1.out.cell, Q1.out.cell⟩) (Or.inl ⟨by rfl, ?yb_12⟩) ?rb_12
  case yb_12 => (intro w _; go_simp <;> with_reducible rfl)
  simp only [List.setIfInBounds_toArray, List.set_cons_zero, List.set_cons_succ]
  refine Zreg.one 13 (by kernel_rfl) rfl rfl fun K hK => ?_
  go_simp
  refine hK.out _ _ (.inl (by kernel_rfl)) fun _ => ?_
  clear hK
  simp only [List.setIfInBounds_toArray, List.set_cons_zero, List.set_cons_succ]
  refine Zreg.done (by kernel_rfl) ?_ _
  have hP0 : Hid (w.heap.size ≤ P) := Lib.hid (by have := HP3.out; omega)
  have hPT : ¬ P = gT := Blk.ne Z1.out T1.out (by decide)
  have HLT : Hid (∀ x ∈ l, ¬ x.g = gT) := Lib.hid (fun x hx => Blk.ne (L1.out x hx) T1.out (HSF.out x hx).2.2.2.1)
  have HKT := Lib.hid (Row.ne K1.out T1.out (by decide))
  clear hto hft
  have P1_ := Lib.hid (Blk.far P1.out (p := ⟨gT, (o + 1), none⟩) (show ¬ w.heap.size = gT by omega) (.iface 123 (.pointer (some ⟨P, 0, none⟩))))
  have Q1_ := Lib.hid (Blk.far Q1.out (p := ⟨gT, (o + 1), none⟩) (show ¬ w.heap.size + 1 = gT by omega) (.iface 123 (.pointer (some ⟨P, 0, none⟩))))
  have C1_ := Lib.hid (Blk.far C1.out (p := ⟨gT, (o + 1), none⟩) hneT (.iface 123 (.pointer (some ⟨P, 0, none⟩))))
  have T1_ := Lib.hid (Blk.set_ T1.out (o + 1) (.iface 123 (.pointer (some ⟨P, 0, none⟩))))
  have K1_ := Lib.hid (Row.kept (w' := (w3.setCell ⟨gT, (o + 1), none⟩ (.iface 123 (.pointer (some ⟨P, 0, none⟩))))) K1.out (fun g_ hg_ => Below.heap_setCell _ _ _ _ (HKT.out g_ hg_)))
  have Z1_ := Lib.hid (Blk.far Z1.out (p := ⟨gT, (o + 1), none⟩) hPT (.iface 123 (.pointer (some ⟨P, 0, none⟩))))
  have L1_ := Lib.hid (show Kept (w3.setCell ⟨gT, (o + 1), none⟩ (.iface 123 (.pointer (some ⟨P, 0, none⟩)))) l from fun x_ hx_ => (Blk.far (L1.out x_ hx_) (p := ⟨gT, (o + 1), none⟩) (HLT.out x_ hx_) (.iface 123 (.pointer (some ⟨P, 0, none⟩)))))
  have B1_ := Lib.hid (show Kept (w3.setCell ⟨gT, (o + 1), none⟩ (.iface 123 (.pointer (some ⟨P, 0, none⟩)))) lb from fun x_ hx_ => (Blk.far (B1.out x_ hx_) (p := ⟨gT, (o + 1), none⟩) (HBT.out x_ hx_) (.iface 123 (.pointer (some ⟨P, 0, none⟩)))))
  have O1_ := Lib.hid (Only.set_ O1.out ⟨gT, (o + 1), none⟩ (.inl (.inl rfl)) (.iface 123 (.pointer (some ⟨P, 0, none⟩))))
  clear P1 Q1 C1 T1 K1 Z1 L1 B1 O1
  have P1 := Lib.hid P1_.out
  have Q1 := Lib.hid Q1_.out
  have C1 := Lib.hid C1_.out
  have T1 := Lib.hid T1_.out
  have K1 := Lib.hid K1_.out
  have Z1 := Lib.hid Z1_.out
  have L1 := Lib.hid L1_.out
  have B1 := Lib.hid B1_.out
  have O1 := Lib.hid O1_.out
  clear P1_ Q1_ C1_ T1_ K1_ Z1_ L1_ B1_ O1_
  generalize (w3.setCell ⟨gT, (o + 1), none⟩ (.iface 123 (.pointer (some ⟨P, 0, none⟩)))) = V2 at P1 Q1 C1 T1 K1 Z1 L1 B1 O1 ⊢
  have hto : V2.cell? ⟨gT, o + 2, none⟩ = some (.int .i64 call) := (T1.out.cell (o + 2)).trans (by repeat rw [Array.getElem?_setIfInBounds_ne (by omega)]
                                                                                                   exact HE2.out)
  have hft := T1.out.frozen
  have hc := C1.out.cell
  have hp := P1.out.cell
  have hq := Q1.out.cell
  have hsK := K1.out.n_.1
  have hsK2 : (sK.n : Int) ≤ 9223372036854775807 := by omega
  have HSK := Lib.hid hsK
  clear hsK
  go_wp2_with fail
  have P1_ := Lib.hid (Blk.far P1.out (p := ⟨gT, (o + 2), none⟩) (show ¬ w.heap.size = gT by omega) (.int .i64 sK.n))
  have Q1_ := Lib.hid (Blk.far Q1.out (p := ⟨gT, (o + 2), none⟩) (show ¬ w.heap.size + 1 = gT by omega) (.int .i64 sK.n))
  have C1_ := Lib.hid (Blk.far C1.out (p := ⟨gT, (o + 2), none⟩) hneT (.int .i64 sK.n))
  have T1_ := Lib.hid (Blk.set_ T1.out (o + 2) (.int .i64 sK.n))
  have K1_ := Lib.hid (Row.kept (w' := (V2.setCell ⟨gT, (o + 2), none⟩ (.int .i64 sK.n))) K1.out (fun g_ hg_ => Below.heap_setCell _ _ _ _ (HKT.out g_ hg_)))
  have Z1_ := Lib.hid (Blk.far Z1.out (p := ⟨gT, (o + 2), none⟩) hPT (.int .i64 sK.n))
  have L1_ := Lib.hid (show Kept (V2.setCell ⟨gT, (o + 2), none⟩ (.int .i64 sK.n)) l from fun x_ hx_ => (Blk.far (L1.out x_ hx_) (p := ⟨gT, (o + 2), none⟩) (HLT.out x_ hx_) (.int .i64 sK.n)))
  have B1_ := Lib.hid (show Kept (V2.setCell ⟨gT, (o + 2), none⟩ (.int .i64 sK.n)) lb from fun x_ hx_ => (Blk.far (B1.out x_ hx_) (p := ⟨gT, (o + 2), none⟩) (HBT.out x_ hx_) (.int .i64 sK.n)))
  have O1_ := Lib.hid (Only.set_ O1.out ⟨gT, (o + 2), none⟩ (.inl (.inl rfl)) (.int .i64 sK.n))
  clear P1 Q1 C1 T1 K1 Z1 L1 B1 O1
  have P1 := Lib.hid P1_.out
  have Q1 := Lib.hid Q1_.out
  have C1 := Lib.hid C1_.out
  have T1 := Lib.hid T1_.out
  have K1 := Lib.hid K1_.out
  have Z1 := Lib.hid Z1_.out
  have L1 := Lib.hid L1_.out
  have B1 := Lib.hid B1_.out
  have O1 := Lib.hid O1_.out
  clear P1_ Q1_ C1_ T1_ K1_ Z1_ L1_ B1_ O1_
  generalize (V2.setCell ⟨gT, (o + 2), none⟩ (.int .i64 sK.n)) = V3 at P1 Q1 C1 T1 K1 Z1 L1 B1 O1 ⊢
  clear hto hft hc hp hq
  have hc := C1.out.cell
  have hcf := C1.out.frozen
  have hp := P1.out.cell
  have hq := Q1.out.cell
  have hbV : base ≤ V3.heap.size := Nat.le_trans hbase O1.out.size
  have ki := info_parts call_cell
  obtain ⟨i0, hi0, hz0, hz1, hz2⟩ := ki
  have KR := Lib.hid (And.intro hi0 (And.intro hz0 (And.intro hz1 hz2)))
  clear hi0 hz0 hz1 hz2
  refine Zreg.begin_ (S := (fun w' => (∀ j, w'.cell? ⟨w.heap.size, j, none⟩ = (#[.int .i64 i, .int .u32 d] : Array Value)[j]?) ∧ (∀ j, w'.cell? ⟨w.heap.size + 1, j, none⟩ = (#[.int .i64 kd, .int .u32 vl] : Array Value)[j]?) ∧ (∀ j, w'.cell? ⟨gC, j, none⟩ = (#[.func (.func B) #[] bs, .slice th.A th.n th.c, .slice sS.A sS.n sS.c, .slice sK.A sK.n sK.c, .int .u64 r.e, .int .u64 r.f, .slice r.L.A r.L.n r.L.c, .slice r.P.A r.P.n r.P.c, .int .u64 r.h, .int .u64 r.t, .slice r.K.A r.K.n r.K.c, .slice r.X.A r.X.n r.X.c, .slice r.S.A r.S.n r.S.c] : Array Value)[j]?))) (zs := [24]) (by kernel_rfl) ?_
  show Zreg.After _ _ _ _ _ _ 25 #[false, false, false, false, false, false, false, false, false, false, false, false, false, false, false, false, false, false, false, false, false, false, false, false, false] _ _
  refine Zreg.takeP 0 43 (x := ?xa_0) rfl rfl (by kernel_rfl) (by kernel_rfl) (by kernel_rfl) (by kernel_rfl) (fun _ _ _ h => h) (.inr ⟨P1.out.cell, Q1.out.cell, C1.out.cell⟩) (Or.inl ⟨by rfl, ?ya_0⟩) ?ra_0
  case ya_0 => (intro w _; go_simp <;> with_reducible rfl)
  simp only [List.setIfInBounds_toArray, List.set_cons_zero, List.set_cons_succ]
  refine Zreg.takeP 1 44 (x := ?xa_1) rfl rfl (by kernel_rfl) (by kernel_rfl) (by kernel_rfl) (by kernel_rfl) (fun _ _ _ h => h) (.inr ⟨P1.out.cell, Q1.out.cell, C1.out.cell⟩) (Or.inl ⟨by rfl, ?ya_1⟩) ?ra_1
  case ya_1 => (intro w _; go_simp <;> with_reducible rfl)
  simp only [List.setIfInBounds_toArray, List.set_cons_zero, List.set_cons_succ]
  refine Zreg.takeP 2 45 (x := ?xa_2) rfl rfl (by kernel_rfl) (by kernel_rfl) (by kernel_rfl) (by kernel_rfl) (fun _ _ _ h => h) (.inr ⟨P1.out.cell, Q1.out.cell, C1.out.cell⟩) (Or.inl ⟨by rfl, ?ya_2⟩) ?ra_2
  case ya_2 => (intro w _; go_simp <;> with_reducible rfl)
  simp only [List.setIfInBounds_toArray, List.set_cons_zero, List.set_cons_succ]
  refine Zreg.takeP 3 46 (x := ?xa_3) rfl rfl (by kernel_rfl) (by kernel_rfl) (by kernel_rfl) (by kernel_rfl) (fun _ _ _ h => h) (.inr ⟨P1.out.cell, Q1.out.cell, C1.out.cell⟩) (Or.inl ⟨by rfl, ?ya_3⟩) ?ra_3
  case ya_3 => (intro w _; go_simp <;> with_reducible rfl)
  simp only [List.setIfInBounds_toArray, List.set_cons_zero, List.set_cons_succ]
  refine Zreg.takeP 4 47 (x := ?xa_4) rfl rfl (by kernel_rfl) (by kernel_rfl) (by kernel_rfl) (by kernel_rfl) (fun _ _ _ h => h) (.inr ⟨P1.out.cell, Q1.out.cell, C1.out.cell⟩) (Or.inl ⟨by rfl, ?ya_4⟩) ?ra_4
  case ya_4 => (intro w _; go_simp <;> with_reducible rfl)
  simp only [List.setIfInBounds_toArray, List.set_cons_zero, List.set_cons_succ]
  refine Zreg.takeS 5 48 (x := ?xa_5) rfl rfl (by kernel_rfl) (by kernel_rfl) (by kernel_rfl) (by kernel_rfl) (by kernel_rfl) (by kernel_rfl) (fun _ _ _ h => h) (.inr ⟨P1.out.cell, Q1.out.cell, C1.out.cell⟩) (Or.inl ⟨by rfl, ?ya_5⟩) ?ra_5
  case ya_5 => (intro w hSw; (try dsimp only at hSw); go_simp <;> with_reducible rfl)
  simp only [List.setIfInBounds_toArray, List.set_cons_zero, List.set_cons_succ]
  refine Zreg.takeP 6 49 (x := ?xa_6) rfl rfl (by kernel_rfl) (by kernel_rfl) (by kernel_rfl) (by kernel_rfl) (fun _ _ _ h => h) (.inr ⟨P1.out.cell, Q1.out.cell, C1.out.cell⟩) (Or.inl ⟨by rfl, ?ya_6⟩) ?ra_6
  case ya_6 => (intro w _; go_simp <;> with_reducible rfl)
  simp only [List.setIfInBounds_toArray, List.set_cons_zero, List.set_cons_succ]
  refine Zreg.takeS 7 50 (x := ?xa_7) rfl rfl (by kernel_rfl) (by kernel_rfl) (by kernel_rfl) (by kernel_rfl) (by kernel_rfl) (by kernel_rfl) (fun _ _ _ h => h) (.inr ⟨P1.out.cell, Q1.out.cell, C1.out.cell⟩) (Or.inl ⟨by rfl, ?ya_7⟩) ?ra_7
  case ya_7 => (intro w hSw; (try dsimp only at hSw); go_simp <;> with_reducible rfl)
  simp only [List.setIfInBounds_toArray, List.set_cons_zero, List.set_cons_succ]
  refine Zreg.takeP 8 51 (x := ?xa_8) rfl rfl (by kernel_rfl) (by kernel_rfl) (by kernel_rfl) (by kernel_rfl) (fun _ _ _ h => h) (.inr ⟨P1.out.cell, Q1.out.cell, C1.out.cell⟩) (Or.inl ⟨by rfl, ?ya_8⟩) ?ra_8
  case ya_8 => (intro w _; go_simp <;> with_reducible rfl)
  simp only [List.setIfInBounds_toArray, List.set_cons_zero, List.set_cons_succ]
  refine Zreg.takeS 9 52 (x := ?xa_9) rfl rfl (by kernel_rfl) (by kernel_rfl) (by kernel_rfl) (by kernel_rfl) (by kernel_rfl) (by kernel_rfl) (fun _ _ _ h => h) (.inr ⟨P1.out.cell, Q1.out.cell, C1.out.cell⟩) (Or.inl ⟨by rfl, ?ya_9⟩) ?ra_9
  case ya_9 => (intro w hSw; (try dsimp only at hSw); go_simp <;> with_reducible rfl)
  simp only [List.setIfInBounds_toArray, List.set_cons_zero, List.set_cons_succ]
  refine Zreg.takeP 10 53 (x := ?xa_10) rfl rfl (by kernel_rfl) (by kernel_rfl) (by kernel_rfl) (by kernel_rfl) (fun _ _ _ h => h) (.inr ⟨P1.out.cell, Q1.out.cell, C1.out.cell⟩) (Or.inl ⟨by rfl, ?ya_10⟩) ?ra_10
  case ya_10 => (intro w _; go_simp <;> with_reducible rfl)
  simp only [List.setIfInBounds_toArray, List.set_cons_zero, List.set_cons_succ]
  refine Zreg.takeS 11 54 (x := ?xa_11) rfl rfl (by kernel_rfl) (by kernel_rfl) (by kernel_rfl) (by kernel_rfl) (by kernel_rfl) (by kernel_rfl) (fun _ _ _ h => h) (.inr ⟨P1.out.cell, Q1.out.cell, C1.out.cell⟩) (Or.inl ⟨by rfl, ?ya_11⟩) ?ra_11
  case ya_11 => (intro w hSw; (try dsimp only at hSw); go_simp <;> with_reducible rfl)
  simp only [List.setIfInBounds_toArray, List.set_cons_zero, List.set_cons_succ]
  refine Zreg.takeP 12 55 (x := ?xa_12) rfl rfl (by kernel_rfl) (by kernel_rfl) (by kernel_rfl) (by kernel_rfl) (fun _ _ _ h => h) (.inr ⟨P1.out.cell, Q1.out.cell, C1.out.cell⟩) (Or.inl ⟨by rfl, ?ya_12⟩) ?ra_12
  case ya_12 => (intro w _; go_simp <;> with_reducible rfl)
  simp only [List.setIfInBounds_toArray, List.set_cons_zero, List.set_cons_succ]
  refine Zreg.takeP 13 56 (x := ?xa_13) rfl rfl (by kernel_rfl) (by kernel_rfl) (by kernel_rfl) (by kernel_rfl) (fun _ _ _ h => h) (.inr ⟨P1.out.cell, Q1.out.cell, C1.out.cell⟩) (Or.inl ⟨by rfl, ?ya_13⟩) ?ra_13
  case ya_13 => (intro w _; go_simp <;> with_reducible rfl)
  simp only [List.setIfInBounds_toArray, List.set_cons_zero, List.set_cons_succ]
  refine Zreg.takeP 14 57 (x := ?xa_14) rfl rfl (by kernel_rfl) (by kernel_rfl) (by kernel_rfl) (by kernel_rfl) (fun _ _ _ h => h) (.inr ⟨P1.out.cell, Q1.out.cell, C1.out.cell⟩) (Or.inl ⟨by rfl, ?ya_14⟩) ?ra_14
  case ya_14 => (intro w _; go_simp <;> with_reducible rfl)
  simp only [List.setIfInBounds_toArray, List.set_cons_zero, List.set_cons_succ]
  refine Zreg.takeP 15 58 (x := ?xa_15) rfl rfl (by kernel_rfl) (by kernel_rfl) (by kernel_rfl) (by kernel_rfl) (fun _ _ _ h => h) (.inr ⟨P1.out.cell, Q1.out.cell, C1.out.cell⟩) (Or.inl ⟨by rfl, ?ya_15⟩) ?ra_15
  case ya_15 => (intro w _; go_simp <;> with_reducible rfl)
  simp only [List.setIfInBounds_toArray, List.set_cons_zero, List.set_cons_succ]
  refine Zreg.takeS 16 59 (x := ?xa_16) rfl rfl (by kernel_rfl) (by kernel_rfl) (by kernel_rfl) (by kernel_rfl) (by kernel_rfl) (by kernel_rfl) (fun _ _ _ h => h) (.inr ⟨P1.out.cell, Q1.out.cell, C1.out.cell⟩) (Or.inl ⟨by rfl, ?ya_16⟩) ?ra_16
  case ya_16 => (intro w hSw; (try dsimp only at hSw); go_simp <;> with_reducible rfl)
  simp only [List.setIfInBounds_toArray, List.set_cons_zero, List.set_cons_succ]
  refine Zreg.takeP 17 60 (x := ?xa_17) rfl rfl (by kernel_rfl) (by kernel_rfl) (by kernel_rfl) (by kernel_rfl) (fun _ _ _ h => h) (.inr ⟨P1.out.cell, Q1.out.cell, C1.out.cell⟩) (Or.inl ⟨by rfl, ?ya_17⟩) ?ra_17
  case ya_17 => (intro w _; go_simp <;> with_reducible rfl)
  simp only [List.setIfInBounds_toArray, List.set_cons_zero, List.set_cons_succ]
  refine Zreg.takeP 18 61 (x := ?xa_18) rfl rfl (by kernel_rfl) (by kernel_rfl) (by kernel_rfl) (by kernel_rfl) (fun _ _ _ h => h) (.inr ⟨P1.out.cell, Q1.out.cell, C1.out.cell⟩) (Or.inl ⟨by rfl, ?ya_18⟩) ?ra_18
  case ya_18 => (intro w _; go_simp <;> with_reducible rfl)
  simp only [List.setIfInBounds_toArray, List.set_cons_zero, List.set_cons_succ]
  refine Zreg.one 19 (by kernel_rfl) rfl rfl fun K hK => ?_
  go_simp
  refine hK.out _ _ (.inr ⟨(P1.out.alloc _).cell, (Q1.out.alloc _).cell, (C1.out.alloc _).cell⟩) fun _ => ?_
  clear hK
  simp only [List.setIfInBounds_toArray, List.set_cons_zero, List.set_cons_succ]
  refine Zreg.one 20 (by kernel_rfl) rfl rfl fun K hK => ?_
  refine wp_app1 (.tmp 48) (.tmp 62) 29 rfl base 55 i0 _ 7 56 Try.underlying29 KR.out.1 KR.out.2.1 KR.out.2.2.1 KR.out.2.2.2 rfl (by decide) sK nK xs (by simp [Act.eval]) (Row.alloc K1.out _) V3.heap.size [.int .i64 i, .int .i64 kd, .int .u32 vl, .int .i64 sS.n, .int .i64 (-1), .int .i64 0, .int .u32 0] (by simp [Act.eval]) rfl (fun j u hj => (Blk.cell (blk_at rfl) j).trans (by simpa using hj)) (by simp [Value.oneCell']) (by omega) (by decide) (by simp; omega) ?_
  intro s1 w5 hr5 ho5
  clear hc hcf hp hq
  have P1_ := Lib.hid (Blk.only (P1.out.alloc (.cells #[.int .i64 i, .int .i64 kd, .int .u32 vl, .int .i64 sS.n, .int .i64 (-1), .int .i64 0, .int .u32 0] 55)).drew ho5 (fun hg => Row.ne K1.out P1.out (by decide) _ hg rfl))
  have Q1_ := Lib.hid (Blk.only (Q1.out.alloc (.cells #[.int .i64 i, .int .i64 kd, .int .u32 vl, .int .i64 sS.n, .int .i64 (-1), .int .i64 0, .int .u32 0] 55)).drew ho5 (fun hg => Row.ne K1.out Q1.out (by decide) _ hg rfl))
  have C1_ := Lib.hid (Blk.only (C1.out.alloc (.cells #[.int .i64 i, .int .i64 kd, .int .u32 vl, .int .i64 sS.n, .int .i64 (-1), .int .i64 0, .int .u32 0] 55)).drew ho5 (fun hg => Row.ne K1.out C1.out (by decide) _ hg rfl))
  have T1_ := Lib.hid (Blk.only (T1.out.alloc (.cells #[.int .i64 i, .int .i64 kd, .int .u32 vl, .int .i64 sS.n, .int .i64 (-1), .int .i64 0, .int .u32 0] 55)).drew ho5 (fun hg => Row.ne K1.out T1.out (by decide) _ hg rfl))
  have Z1_ := Lib.hid (Blk.only (Z1.out.alloc (.cells #[.int .i64 i, .int .i64 kd, .int .u32 vl, .int .i64 sS.n, .int .i64 (-1), .int .i64 0, .int .u32 0] 55)).drew ho5 (fun hg => Row.ne K1.out Z1.out (by decide) _ hg rfl))
  have L1_ : Hid (Kept w5 l) := Lib.hid (fun x hx => Blk.only ((L1.out x hx).alloc (.cells #[.int .i64 i, .int .i64 kd, .int .u32 vl, .int .i64 sS.n, .int .i64 (-1), .int .i64 0, .int .u32 0] 55)).drew ho5 (fun hg => Row.ne K1.out (L1.out x hx) (Ne.symm (HSF.out x hx).2.2.2.2.2.1) _ hg rfl))
  have B1_ : Hid (Kept w5 lb) := Lib.hid (fun x hx => Blk.only ((B1.out x hx).alloc (.cells #[.int .i64 i, .int .i64 kd, .int .u32 vl, .int .i64 sS.n, .int .i64 (-1), .int .i64 0, .int .u32 0] 55)).drew ho5 (fun hg => Row.ne K1.out (B1.out x hx) (Ne.symm (HSB.out x hx).2.2.2.2.2.1) _ hg rfl))
  have O1_ := Lib.hid ((O1.out.alloc (.cells #[.int .i64 i, .int .i64 kd, .int .u32 vl, .int .i64 sS.n, .int .i64 (-1), .int .i64 0, .int .u32 0] 55)).drew.next ho5 (fun k _ h => .inr (.inr h)))
  have K1_ := Lib.hid hr5
  clear hr5 ho5 P1 Q1 C1 T1 Z1 L1 B1 O1 K1
  have P1 := Lib.hid P1_.out
  have Q1 := Lib.hid Q1_.out
  have C1 := Lib.hid C1_.out
  have T1 := Lib.hid T1_.out
  have Z1 := Lib.hid Z1_.out
  have L1 := Lib.hid L1_.out
  have B1 := Lib.hid B1_.out
  have O1 := Lib.hid O1_.out
  have K1 := Lib.hid K1_.out
  clear P1_ Q1_ C1_ T1_ Z1_ L1_ B1_ O1_ K1_
  have hc5 := C1.out.cell
  have hcf5 := C1.out.frozen
  refine hK.out _ _ (.inr ⟨P1.out.cell, Q1.out.cell, C1.out.cell⟩) fun _ => ?_
  clear hK
  try simp only [Act.put, List.setIfInBounds_toArray, List.set_cons_zero, List.set_cons_succ]
  refine Zreg.takeP 21 64 (x := ?xa_21) rfl rfl (by kernel_rfl) (by kernel_rfl) (by kernel_rfl) (by kernel_rfl) (fun _ _ _ h => h) (.inr ⟨P1.out.cell, Q1.out.cell, C1.out.cell⟩) (Or.inl ⟨by rfl, ?ya_21⟩) ?ra_21
  case ya_21 => (intro w _; go_simp <;> with_reducible rfl)
  simp only [List.setIfInBounds_toArray, List.set_cons_zero, List.set_cons_succ]
  refine Zreg.takeP 22 65 (x := ?xa_22) rfl rfl (by kernel_rfl) (by kernel_rfl) (by kernel_rfl) (by kernel_rfl) (fun _ _ _ h => h) (.inr ⟨P1.out.cell, Q1.out.cell, C1.out.cell⟩) (Or.inl ⟨by rfl, ?ya_22⟩) ?ra_22
  case ya_22 => (intro w _; go_simp <;> with_reducible rfl)
  simp only [List.setIfInBounds_toArray, List.set_cons_zero, List.set_cons_succ]
  refine Zreg.takeP 23 66 (x := ?xa_23) rfl rfl (by kernel_rfl) (by kernel_rfl) (by kernel_rfl) (by kernel_rfl) (fun _ _ _ h => h) (.inr ⟨P1.out.cell, Q1.out.cell, C1.out.cell⟩) (Or.inl ⟨by rfl, ?ya_23⟩) ?ra_23
  case ya_23 => (intro w _; go_simp <;> with_reducible rfl)
  simp only [List.setIfInBounds_toArray, List.set_cons_zero, List.set_cons_succ]
  refine Zreg.one 24 (by kernel_rfl) rfl rfl fun K hK => ?_
  go_simp
  refine hK.out _ _ (.inl (by kernel_rfl)) fun _ => ?_
  clear hK
  simp only [List.setIfInBounds_toArray, List.set_cons_zero, List.set_cons_succ]
  refine Zreg.done (by kernel_rfl) ?_ _
  have HKC := Lib.hid (Row.ne K1.out C1.out (by decide))
  have hPC : ¬ P = gC := Blk.ne Z1.out C1.out (by decide)
  have HLC : Hid (∀ x ∈ l, ¬ x.g = gC) := Lib.hid (fun x hx => Blk.ne (L1.out x hx) C1.out (HSF.out x hx).2.2.1)
  clear hc5 hcf5
  have C1_ : Hid (Blk (w5.setCell ⟨gC, 3, none⟩ (.slice s1.A s1.n s1.c)) gC 102 #[.func (.func B) #[] bs, .slice th.A th.n th.c, .slice sS.A sS.n sS.c, .slice s1.A s1.n s1.c, .int .u64 r.e, .int .u64 r.f, .slice r.L.A r.L.n r.L.c, .slice r.P.A r.P.n r.P.c, .int .u64 r.h, .int .u64 r.t, .slice r.K.A r.K.n r.K.c, .slice r.X.A r.X.n r.X.c, .slice r.S.A r.S.n r.S.c]) := Lib.hid (by have h_ := (Blk.set_ C1.out 3 (.slice s1.A s1.n s1.c)); simpa only [List.setIfInBounds_toArray, List.set_cons_zero, List.set_cons_succ] using h_)
  have T1_ := Lib.hid (Blk.far T1.out (p := ⟨gC, 3, none⟩) hneT2 (.slice s1.A s1.n s1.c))
  have K1_ := Lib.hid (Row.kept (w' := (w5.setCell ⟨gC, 3, none⟩ (.slice s1.A s1.n s1.c))) K1.out (fun g_ hg_ => Below.heap_setCell _ _ _ _ (HKC.out g_ hg_)))
  have Z1_ := Lib.hid (Blk.far Z1.out (p := ⟨gC, 3, none⟩) hPC (.slice s1.A s1.n s1.c))
  have L1_ := Lib.hid (show Kept (w5.setCell ⟨gC, 3, none⟩ (.slice s1.A s1.n s1.c)) l from fun x_ hx_ => (Blk.far (L1.out x_ hx_) (p := ⟨gC, 3, none⟩) (HLC.out x_ hx_) (.slice s1.A s1.n s1.c)))
  have B1_ := Lib.hid (show Kept (w5.setCell ⟨gC, 3, none⟩ (.slice s1.A s1.n s1.c)) lb from fun x_ hx_ => (Blk.far (B1.out x_ hx_) (p := ⟨gC, 3, none⟩) (HBC.out x_ hx_) (.slice s1.A s1.n s1.c)))
  have O1_ := Lib.hid (Only.set_ O1.out ⟨gC, 3, none⟩ (.inl (.inr (.inl rfl))) (.slice s1.A s1.n s1.c))
  clear C1 T1 K1 Z1 L1 B1 O1
  have C1 := Lib.hid C1_.out
  have T1 := Lib.hid T1_.out
  have K1 := Lib.hid K1_.out
  have Z1 := Lib.hid Z1_.out
  have L1 := Lib.hid L1_.out
  have B1 := Lib.hid B1_.out
  have O1 := Lib.hid O1_.out
  clear C1_ T1_ K1_ Z1_ L1_ B1_ O1_
  generalize (w5.setCell ⟨gC, 3, none⟩ (.slice s1.A s1.n s1.c)) = V5 at C1 T1 K1 Z1 L1 B1 O1 ⊢
  have HKT1 := Lib.hid (Row.ne K1.out T1.out (by decide))
  have hto : V5.cell? ⟨gT, o + 1, none⟩ = some (.iface 123 (.pointer (some ⟨P, 0, none⟩))) := (T1.out.cell (o + 1)).trans (by rw [Array.getElem?_setIfInBounds_ne (by omega), Array.getElem?_setIfInBounds_self_of_lt (by rw [Array.size_setIfInBounds]; exact HSZ.out)])
  have hm := method_next ⟨P, 0, none⟩
  go_wp2_with (go_at_call 143; go_must (refine (nextg_first _ base P F cs l (pl i kd vl d) a HCS.out HME.out Z1.out L1.out HSF.out HPA.out).mono ?_); rintro e w6 ⟨rfl, hz6, ho6⟩; go_must (have C1_ := Lib.hid (Blk.only C1.out ho6 (fun e => hPC e.symm)); have T1_ := Lib.hid (Blk.only T1.out ho6 (fun e => hPT e.symm)); have K1_ := Lib.hid (K1.out.only ho6 (K1.out.ne Z1.out (by decide))); have L1_ : Hid (Kept w6 l) := Lib.hid (fun x hx => Blk.only (L1.out x hx) ho6 (Blk.ne (L1.out x hx) Z1.out (HSF.out x hx).1)); have B1_ : Hid (Kept w6 lb) := Lib.hid (fun x hx => Blk.only (B1.out x hx) ho6 (Blk.ne (B1.out x hx) Z1.out (HSB.out x hx).1)); have O1_ := Lib.hid (O1.out.next ho6 (fun k hk hg => (by have := hP0.out; omega)))); have Z1_ := Lib.hid hz6; clear hz6 ho6 hto C1 T1 K1 Z1 L1 B1 O1; have C1 := Lib.hid C1_.out; have T1 := Lib.hid T1_.out; have K1 := Lib.hid K1_.out; have Z1 := Lib.hid Z1_.out; have L1 := Lib.hid L1_.out; have B1 := Lib.hid B1_.out; have O1 := Lib.hid O1_.out; clear C1_ T1_ K1_ Z1_ L1_ B1_ O1_; have hft := T1.out.frozen; have ht3 := (T1.out.cell (o + 3)).trans ((Array.getElem?_setIfInBounds_ne (by omega)).trans ((Array.getElem?_setIfInBounds_ne (by omega)).trans ((Array.getElem?_setIfInBounds_ne (by omega)).trans HE3.out))); have ht4 := (T1.out.cell (o + 4)).trans ((Array.getElem?_setIfInBounds_ne (by omega)).trans ((Array.getElem?_setIfInBounds_ne (by omega)).trans ((Array.getElem?_setIfInBounds_ne (by omega)).trans HE4.out))); have ht5 := (T1.out.cell (o + 5)).trans ((Array.getElem?_setIfInBounds_ne (by omega)).trans ((Array.getElem?_setIfInBounds_ne (by omega)).trans ((Array.getElem?_setIfInBounds_ne (by omega)).trans HE5.out))); have ht6 := (T1.out.cell (o + 6)).trans ((Array.getElem?_setIfInBounds_ne (by omega)).trans ((Array.getElem?_setIfInBounds_ne (by omega)).trans ((Array.getElem?_setIfInBounds_ne (by omega)).trans HE6.out))); have ht7 := (T1.out.cell (o + 7)).trans ((Array.getElem?_setIfInBounds_ne (by omega)).trans ((Array.getElem?_setIfInBounds_ne (by omega)).trans ((Array.getElem?_setIfInBounds_ne (by omega)).trans HE7.out))); have ht8 := (T1.out.cell (o + 8)).trans ((Array.getElem?_setIfInBounds_ne (by omega)).trans ((Array.getElem?_setIfInBounds_ne (by omega)).trans ((Array.getElem?_setIfInBounds_ne (by omega)).trans HE8.out))))
  go_end0
  clear hft ht3 ht4 ht5 ht6 ht7 ht8
  have C1_ := Lib.hid (Blk.far (Blk.far (Blk.far (Blk.far (Blk.far (Blk.far C1.out (p := ⟨gT, (o + 3), none⟩) hneT (.int .i64 a.d)) (p := ⟨gT, (o + 4), none⟩) hneT (.int .i64 a.ar)) (p := ⟨gT, (o + 5), none⟩) hneT (.int .i64 a.at_)) (p := ⟨gT, (o + 6), none⟩) hneT (.int .u64 a.old)) (p := ⟨gT, (o + 7), none⟩) hneT (.int .u64 a.new)) (p := ⟨gT, (o + 8), none⟩) hneT (.bool true))
  have T1_ := Lib.hid (Blk.set_ (Blk.set_ (Blk.set_ (Blk.set_ (Blk.set_ (Blk.set_ T1.out (o + 3) (.int .i64 a.d)) (o + 4) (.int .i64 a.ar)) (o + 5) (.int .i64 a.at_)) (o + 6) (.int .u64 a.old)) (o + 7) (.int .u64 a.new)) (o + 8) (.bool true))
  have K1_ := Lib.hid (Row.kept (w' := ((((((w6.setCell ⟨gT, (o + 3), none⟩ (.int .i64 a.d)).setCell ⟨gT, (o + 4), none⟩ (.int .i64 a.ar)).setCell ⟨gT, (o + 5), none⟩ (.int .i64 a.at_)).setCell ⟨gT, (o + 6), none⟩ (.int .u64 a.old)).setCell ⟨gT, (o + 7), none⟩ (.int .u64 a.new)).setCell ⟨gT, (o + 8), none⟩ (.bool true))) (Row.kept (w' := (((((w6.setCell ⟨gT, (o + 3), none⟩ (.int .i64 a.d)).setCell ⟨gT, (o + 4), none⟩ (.int .i64 a.ar)).setCell ⟨gT, (o + 5), none⟩ (.int .i64 a.at_)).setCell ⟨gT, (o + 6), none⟩ (.int .u64 a.old)).setCell ⟨gT, (o + 7), none⟩ (.int .u64 a.new))) (Row.kept (w' := ((((w6.setCell ⟨gT, (o + 3), none⟩ (.int .i64 a.d)).setCell ⟨gT, (o + 4), none⟩ (.int .i64 a.ar)).setCell ⟨gT, (o + 5), none⟩ (.int .i64 a.at_)).setCell ⟨gT, (o + 6), none⟩ (.int .u64 a.old))) (Row.kept (w' := (((w6.setCell ⟨gT, (o + 3), none⟩ (.int .i64 a.d)).setCell ⟨gT, (o + 4), none⟩ (.int .i64 a.ar)).setCell ⟨gT, (o + 5), none⟩ (.int .i64 a.at_))) (Row.kept (w' := ((w6.setCell ⟨gT, (o + 3), none⟩ (.int .i64 a.d)).setCell ⟨gT, (o + 4), none⟩ (.int .i64 a.ar))) (Row.kept (w' := (w6.setCell ⟨gT, (o + 3), none⟩ (.int .i64 a.d))) K1.out (fun g_ hg_ => Below.heap_setCell _ _ _ _ (HKT1.out g_ hg_))) (fun g_ hg_ => Below.heap_setCell _ _ _ _ (HKT1.out g_ hg_))) (fun g_ hg_ => Below.heap_setCell _ _ _ _ (HKT1.out g_ hg_))) (fun g_ hg_ => Below.heap_setCell _ _ _ _ (HKT1.out g_ hg_))) (fun g_ hg_ => Below.heap_setCell _ _ _ _ (HKT1.out g_ hg_))) (fun g_ hg_ => Below.heap_setCell _ _ _ _ (HKT1.out g_ hg_)))
  have Z1_ := Lib.hid (Blk.far (Blk.far (Blk.far (Blk.far (Blk.far (Blk.far Z1.out (p := ⟨gT, (o + 3), none⟩) hPT (.int .i64 a.d)) (p := ⟨gT, (o + 4), none⟩) hPT (.int .i64 a.ar)) (p := ⟨gT, (o + 5), none⟩) hPT (.int .i64 a.at_)) (p := ⟨gT, (o + 6), none⟩) hPT (.int .u64 a.old)) (p := ⟨gT, (o + 7), none⟩) hPT (.int .u64 a.new)) (p := ⟨gT, (o + 8), none⟩) hPT (.bool true))
  have L1_ := Lib.hid (show Kept ((((((w6.setCell ⟨gT, (o + 3), none⟩ (.int .i64 a.d)).setCell ⟨gT, (o + 4), none⟩ (.int .i64 a.ar)).setCell ⟨gT, (o + 5), none⟩ (.int .i64 a.at_)).setCell ⟨gT, (o + 6), none⟩ (.int .u64 a.old)).setCell ⟨gT, (o + 7), none⟩ (.int .u64 a.new)).setCell ⟨gT, (o + 8), none⟩ (.bool true)) l from fun x_ hx_ => (Blk.far (Blk.far (Blk.far (Blk.far (Blk.far (Blk.far (L1.out x_ hx_) (p := ⟨gT, (o + 3), none⟩) (HLT.out x_ hx_) (.int .i64 a.d)) (p := ⟨gT, (o + 4), none⟩) (HLT.out x_ hx_) (.int .i64 a.ar)) (p := ⟨gT, (o + 5), none⟩) (HLT.out x_ hx_) (.int .i64 a.at_)) (p := ⟨gT, (o + 6), none⟩) (HLT.out x_ hx_) (.int .u64 a.old)) (p := ⟨gT, (o + 7), none⟩) (HLT.out x_ hx_) (.int .u64 a.new)) (p := ⟨gT, (o + 8), none⟩) (HLT.out x_ hx_) (.bool true)))
  have B1_ := Lib.hid (show Kept ((((((w6.setCell ⟨gT, (o + 3), none⟩ (.int .i64 a.d)).setCell ⟨gT, (o + 4), none⟩ (.int .i64 a.ar)).setCell ⟨gT, (o + 5), none⟩ (.int .i64 a.at_)).setCell ⟨gT, (o + 6), none⟩ (.int .u64 a.old)).setCell ⟨gT, (o + 7), none⟩ (.int .u64 a.new)).setCell ⟨gT, (o + 8), none⟩ (.bool true)) lb from fun x_ hx_ => (Blk.far (Blk.far (Blk.far (Blk.far (Blk.far (Blk.far (B1.out x_ hx_) (p := ⟨gT, (o + 3), none⟩) (HBT.out x_ hx_) (.int .i64 a.d)) (p := ⟨gT, (o + 4), none⟩) (HBT.out x_ hx_) (.int .i64 a.ar)) (p := ⟨gT, (o + 5), none⟩) (HBT.out x_ hx_) (.int .i64 a.at_)) (p := ⟨gT, (o + 6), none⟩) (HBT.out x_ hx_) (.int .u64 a.old)) (p := ⟨gT, (o + 7), none⟩) (HBT.out x_ hx_) (.int .u64 a.new)) (p := ⟨gT, (o + 8), none⟩) (HBT.out x_ hx_) (.bool true)))
  have O1_ := Lib.hid (Only.set_ (Only.set_ (Only.set_ (Only.set_ (Only.set_ (Only.set_ O1.out ⟨gT, (o + 3), none⟩ (.inl (.inl rfl)) (.int .i64 a.d)) ⟨gT, (o + 4), none⟩ (.inl (.inl rfl)) (.int .i64 a.ar)) ⟨gT, (o + 5), none⟩ (.inl (.inl rfl)) (.int .i64 a.at_)) ⟨gT, (o + 6), none⟩ (.inl (.inl rfl)) (.int .u64 a.old)) ⟨gT, (o + 7), none⟩ (.inl (.inl rfl)) (.int .u64 a.new)) ⟨gT, (o + 8), none⟩ (.inl (.inl rfl)) (.bool true))
  clear C1 T1 K1 Z1 L1 B1 O1
  have C1 := Lib.hid C1_.out
  have T1 := Lib.hid T1_.out
  have K1 := Lib.hid K1_.out
  have Z1 := Lib.hid Z1_.out
  have L1 := Lib.hid L1_.out
  have B1 := Lib.hid B1_.out
  have O1 := Lib.hid O1_.out
  clear C1_ T1_ K1_ Z1_ L1_ B1_ O1_
  have hA := HA.out
  subst hA
  exact ⟨P, F, cs, l, s1, rfl, HCS.out, HME.out, HSF.out, L1.out, Z1.out, C1.out, T1.out, K1.out, O1.out, hP0.out⟩
end Go.Proofs.Ytffppdcpiieapaa.Drivec

namespace Go.Proofs.Ytffppdcpiieapaa.Refc
open Go.RowKit Go.Proofs.Ytffppdcpiieapaa.Memc
set_option linter.unusedVariables false
set_option maxRecDepth 100000

/-- an answer of true or false -/
def Tells (w : World) (b : Bool) (e : Ending) (w' : World) : Prop := e = .returned (.bool b) ∧ Below w.heap.size w w'

/-- two lists, as far as they were compared -/
def Alike (xs ys : List Int) (k : Nat) : Prop := ∀ j, j < k → xs.getD j 0 = ys.getD j 0

end Go.Proofs.Ytffppdcpiieapaa.Refc

namespace Go.Proofs.Ytffppdcpiieapaa.Refc
open Go.RowKit Go.Proofs.Ytffppdcpiieapaa.Memc
set_option linter.unusedVariables false
set_option maxRecDepth 100000

/-- a list of words, old or new -/
def Lists (w : World) (xs : List Int) (e : Ending) (w' : World) : Prop :=
  ∃ s : Sl, e = .returned (.slice s.A s.n s.c) ∧ Rd w' w'.heap.size s xs ∧ Below w.heap.size w w'

end Go.Proofs.Ytffppdcpiieapaa.Refc

namespace Go.Proofs.Ytffppdcpiieapaa.Refc
open Go.RowKit Go.Proofs.Ytffppdcpiieapaa.Memc
set_option linter.unusedVariables false
set_option maxRecDepth 100000

/-- an answer of words -/
def Gives (w : World) (m : M) (e : Ending) (w' : World) : Prop :=
  ∃ r : R, e = .returned (.agg #[.int .u64 r.e, .int .u64 r.f, .slice r.L.A r.L.n r.L.c, .slice r.P.A r.P.n r.P.c, .int .u64 r.h, .int .u64 r.t, .slice r.K.A r.K.n r.K.c, .slice r.X.A r.X.n r.X.c, .slice r.S.A r.S.n r.S.c]) ∧ Rm w' w'.heap.size r m ∧ Below w.heap.size w w'

/-- an answer of words, each of whose rows is one of q's or s -/
def Puts (w : World) (q : R) (s : Sl) (m : M) (e : Ending) (w' : World) : Prop :=
  ∃ r : R, e = .returned (.agg #[.int .u64 r.e, .int .u64 r.f, .slice r.L.A r.L.n r.L.c, .slice r.P.A r.P.n r.P.c, .int .u64 r.h, .int .u64 r.t, .slice r.K.A r.K.n r.K.c, .slice r.X.A r.X.n r.X.c, .slice r.S.A r.S.n r.S.c]) ∧ Rm w' w'.heap.size r m ∧ Below w.heap.size w w' ∧ ∀ b, la b → r.sl b = q.sl b ∨ r.sl b = s

end Go.Proofs.Ytffppdcpiieapaa.Refc

namespace Go.Proofs.Ytffppdcpiieapaa.Refc
open Go.RowKit Go.Proofs.Ytffppdcpiieapaa.Memc
set_option linter.unusedVariables false
set_option maxRecDepth 100000
attribute [local go_sem ↓] Go.wp_at_zero Go.wp_at_succ

/-- words that are few -/
def Few (m : M) : Prop := ∀ a : Int, 1 ≤ a → a ≤ 9 → (m.area a).length ≤ 5000

theorem few_area {m : M} (h : Few m) (a : Int) : (m.area a).length ≤ 1000000 := by
  by_cases ho : a < 1 ∨ 9 < a
  · rw [area_no _ _ ho]; exact Nat.zero_le _
  · have := h a (by omega) (by omega); omega

/-- how far the areas were looked at -/
def Upto (m : M) (k : Nat) : Prop := ∀ a : Int, 1 ≤ a → a < (k : Int) → (m.area a).length ≤ 5000

end Go.Proofs.Ytffppdcpiieapaa.Refc

namespace Go.Proofs.Ytffppdcpiieapaa.Machc
open Go.RowKit Go.Proofs.Ytffppdcpiieapaa.Memc Go.Proofs.Ytffppdcpiieapaa.Refc
set_option linter.unusedVariables false
set_option maxRecDepth 100000

/-- a call of a trace -/
structure Ck where
  th : Int
  kd : Int
  vl : Int
  fr : Int
  to : Int
  cd : Int
  ou : Int
def Ck.cells (c : Ck) : List Value := [.int .i64 c.th, .int .i64 c.kd, .int .u32 c.vl, .int .i64 c.fr, .int .i64 c.to, .int .i64 c.cd, .int .u32 c.ou]
/-- the slice reads as the calls l, in memory below B -/
def RdK (w : World) (B : Nat) (s : Sl) (l : List Ck) : Prop :=
  s.n = l.length ∧ s.n ≤ s.c ∧ s.c ≤ maxLen ∧
  (0 < s.n → ∃ b off, s.A = some ⟨b, off, none⟩ ∧ b < B ∧ ∀ (i : Nat) (x : Ck), l[i]? = some x → ∀ (j : Nat) (v : Value), x.cells[j]? = some v → w.cell? ⟨b, off + i * 7 + j, none⟩ = some v)
end Go.Proofs.Ytffppdcpiieapaa.Machc

namespace Go.Proofs.Ytffppdcpiieapaa.Newc
open Go.RowKit Go.Proofs.Ytffppdcpiieapaa.Memc Go.Proofs.Ytffppdcpiieapaa.Wordc
set_option linter.unusedVariables false
set_option maxRecDepth 100000
attribute [local go_sem ↓] Go.wp_at_zero Go.wp_at_succ

end Go.Proofs.Ytffppdcpiieapaa.Newc

namespace Go.Proofs.Ytffppdcpiieapaa.Memc
open Go.RowKit
set_option linter.unusedVariables false
set_option maxRecDepth 100000

end Go.Proofs.Ytffppdcpiieapaa.Memc

namespace Go.Proofs.Ytffppdcpiieapaa.Refc
open Go.RowKit Go.Proofs.Ytffppdcpiieapaa.Memc
set_option linter.unusedVariables false
set_option maxRecDepth 100000

/-- no row of r lies in block b -/
def Off (r : R) (b : Nat) : Prop := ∀ a, la a → ∀ ad, 0 < (r.sl a).n → (r.sl a).A = some ad → ad.block ≠ b

end Go.Proofs.Ytffppdcpiieapaa.Refc

namespace Go.Proofs.Ytffppdcpiieapaa.Refc
open Go.RowKit Go.Proofs.Ytffppdcpiieapaa.Memc
set_option linter.unusedVariables false
set_option maxRecDepth 100000

/-- what Do comes to -/
def Did (w : World) (q : R) (m : M) (c : Acc) (e : Ending) (w' : World) : Prop :=
  ∃ r : R, e = .returned (.tuple #[.agg #[.int .u64 r.e, .int .u64 r.f, .slice r.L.A r.L.n r.L.c, .slice r.P.A r.P.n r.P.c, .int .u64 r.h, .int .u64 r.t, .slice r.K.A r.K.n r.K.c, .slice r.X.A r.X.n r.X.c, .slice r.S.A r.S.n r.S.c], .int .u64 (acc m c).2.1, .bool (acc m c).2.2]) ∧ Rm w' w'.heap.size r (acc m c).1 ∧ Below w.heap.size w w' ∧ ∀ b, b < w.heap.size → Off q b → Off r b

end Go.Proofs.Ytffppdcpiieapaa.Refc

namespace Go.Proofs.Ytffppdcpiieapaa.Refc
open Go.RowKit Go.Proofs.Ytffppdcpiieapaa.Memc
set_option linter.unusedVariables false
set_option maxRecDepth 100000

end Go.Proofs.Ytffppdcpiieapaa.Refc

namespace Go.Proofs.Ytffppdcpiieapaa.Replr
open Go.RowKit Go.Proofs.Ytffppdcpiieapaa.Memc Go.Proofs.Ytffppdcpiieapaa.Newc Go.Proofs.Ytffppdcpiieapaa.Refc
set_option linter.unusedVariables false
attribute [local go_sem ↓] Go.wp_at_zero Go.wp_at_succ

theorem newM_few (k : Int) (K T M : Nat) (a2 : K ≤ 64) (t2 : T ≤ 8) (m2 : M ≤ 64) : Few (newM k K T M) := by
  intro a h1 h2
  have hm : M * K ≤ 4096 := Nat.le_trans (Nat.mul_le_mul m2 a2) (by omega)
  rcases nine (show ¬ (a < 1 ∨ 9 < a) by omega) with rfl | rfl | rfl | rfl | rfl | rfl | rfl | rfl | rfl
  · show 1 ≤ 5000; omega
  · show 1 ≤ 5000; omega
  · show (List.replicate 3 (0 : Int)).length ≤ 5000; simp
  · show (List.replicate T (0 : Int)).length ≤ 5000; simp; omega
  · show 1 ≤ 5000; omega
  · show 1 ≤ 5000; omega
  · show (Newc.linked _ M M).length ≤ 5000; rw [Newc.linked_len]; omega
  · show (List.replicate M (0 : Int)).length ≤ 5000; simp; omega
  · show (List.replicate (M * K) (0 : Int)).length ≤ 5000; simp; omega

end Go.Proofs.Ytffppdcpiieapaa.Replr

namespace Go.Proofs.Ytffppdcpiieapaa.Machc
open Go.RowKit Go.Proofs.Ytffppdcpiieapaa.Memc Go.Proofs.Ytffppdcpiieapaa.Refc
set_option linter.unusedVariables false
set_option maxRecDepth 100000

/-- a call that is on -/
structure FS where
  kd : Int
  vl : Int
  t : Int
  d : Int
  pc : Int
  s : Int
  w : Int
  l : Int
  g : Int
  pos : Int
  seen : List Int
  second : Bool
  hold : Int
  give : Int
  back : Int
  chain : Int
  behind : Int
  raw : Acc
  code : Int
  out : Int
def FS.none : FS := ⟨0, 0, 0, 0, 0, 0, 0, 0, 0, 0, [], false, 0, 0, 0, 0, 0, ⟨0, 0, 0, 0, 0⟩, 0, 0⟩
instance : Inhabited FS := ⟨FS.none⟩
def FS.v (f : FS) (q : Sl) : List Value := [.int .i64 f.kd, .int .u32 f.vl, .int .i64 f.t, .int .i64 f.d, .int .i64 f.pc, .int .u64 f.s, .int .u64 f.w, .int .u64 f.l, .int .u64 f.g, .int .i64 f.pos, .slice q.A q.n q.c, .bool f.second, .int .u64 f.hold, .int .u64 f.give, .int .i64 f.back, .int .u32 f.chain, .int .i64 f.behind, .int .i64 f.raw.d, .int .i64 f.raw.ar, .int .i64 f.raw.at_, .int .u64 f.raw.old, .int .u64 f.raw.new, .int .i64 f.code, .int .u32 f.out]
/-- a run: the words, the calls that are on, the number of each, how many each thread began, and the trace -/
structure RS where
  m : M
  on : List FS
  call : List Int
  at_ : List Int
  steps : List St
  calls : List Ck
def begR (s : RS) (t : Nat) (next : FS) (kd vl : Int) : RS :=
  { s with at_ := s.at_.set t (s.at_.getD t 0 + 1), on := s.on.set t next, call := s.call.set t s.calls.length, calls := s.calls ++ [⟨t, kd, vl, s.steps.length, -1, 0, 0⟩] }
def endK (c : Ck) (to : Int) (f : FS) : Ck := ⟨c.th, c.kd, c.vl, c.fr, to, f.code, f.out⟩
def goR (ask : FS → Acc) (tell : FS → Int → Bool → FS) (s : RS) (t : Nat) : RS :=
  let f := s.on.getD t FS.none
  let x := acc s.m (ask f)
  let f' := tell f x.2.1 x.2.2
  let k := (s.call.getD t 0).toNat
  ⟨x.1, s.on.set t f', if f'.pc = 0 then s.call.set t (-1) else s.call, s.at_, s.steps ++ [⟨t, ask f, x.2.1, x.2.2⟩], if f'.pc = 0 then s.calls.set k (endK (s.calls.getD k ⟨0, 0, 0, 0, 0, 0, 0⟩) s.steps.length f') else s.calls⟩

/-! ### cells that are written one behind the other -/
def setsA (c : Array Value) (o : Nat) : List Value → Array Value
  | [] => c
  | v :: vs => setsA (c.setIfInBounds o v) (o + 1) vs
/-! ### in memory -/
def OffQ (q : Sl) (b : Nat) : Prop := ∀ ad, 0 < q.n → q.A = some ad → ad.block ≠ b
def Mine (gR gO gC gA : Nat) (sS sK : Sl) (b : Nat) : Prop := b = gR ∨ b = gO ∨ b = gC ∨ b = gA ∨ bl sS b ∨ bl sK b
def flatK (l : List Ck) : List Value := (l.map Ck.cells).flatten
def flatT (l : List St) : List Value := (l.map St.cells).flatten
theorem flatK_snoc (l : List Ck) (x : Ck) : flatK (l ++ [x]) = flatK l ++ x.cells := by simp [flatK]
theorem flatT_snoc (l : List St) (x : St) : flatT (l ++ [x]) = flatT l ++ x.cells := by simp [flatT]
theorem flatK_get : ∀ (l : List Ck) (i : Nat) (x : Ck) (j : Nat) (v : Value), l[i]? = some x → x.cells[j]? = some v → (flatK l)[i * 7 + j]? = some v
  | [], i, x, j, v, h, _ => by simp at h
  | y :: l, 0, x, j, v, h, hv => by
    injection h with h
    subst h
    have hj : j < y.cells.length := (List.getElem?_eq_some_iff.1 hv).1
    show (y.cells ++ flatK l)[0 * 7 + j]? = some v
    rw [Nat.zero_mul, Nat.zero_add, List.getElem?_append_left hj]
    exact hv
  | y :: l, i + 1, x, j, v, h, hv => by
    have := flatK_get l i x j v h hv
    show (y.cells ++ flatK l)[(i + 1) * 7 + j]? = some v
    have h7 : y.cells.length = 7 := rfl
    rw [List.getElem?_append_right (by omega), h7, show (i + 1) * 7 + j - 7 = i * 7 + j by omega]
    exact this
/-- a call that is over: its last three cells -/
theorem flatK_end : ∀ (l : List Ck) (i : Nat) (x : Ck) (to : Int) (f : FS), l[i]? = some x → (((flatK l).set (i * 7 + 4) (.int .i64 to)).set (i * 7 + 5) (.int .i64 f.code)).set (i * 7 + 6) (.int .u32 f.out) = flatK (l.set i (endK x to f))
  | [], i, x, to, f, h => by simp at h
  | y :: l, 0, x, to, f, h => by
    injection h with h
    subst h
    rfl
  | y :: l, i + 1, x, to, f, h => by
    have := flatK_end l i x to f (by simpa using h)
    have h7 : y.cells.length = 7 := rfl
    show (((y.cells ++ flatK l).set _ _).set _ _).set _ _ = y.cells ++ flatK (l.set i _)
    rw [List.set_append_right _ _ (by omega), List.set_append_right _ _ (by omega), List.set_append_right _ _ (by omega), h7,
      show (i + 1) * 7 + 4 - 7 = i * 7 + 4 by omega, show (i + 1) * 7 + 5 - 7 = i * 7 + 5 by omega, show (i + 1) * 7 + 6 - 7 = i * 7 + 6 by omega, this]

end Go.Proofs.Ytffppdcpiieapaa.Machc

namespace Go.Proofs.Ytffppdcpiieapaa.Machc
open Go.RowKit Go.Proofs.Ytffppdcpiieapaa.Memc Go.Proofs.Ytffppdcpiieapaa.Refc
set_option linter.unusedVariables false
set_option maxRecDepth 100000

/-- a run, as it is held in memory -/
structure Ir (w : World) (base gR gO gC gA co cc ca : Nat) (k : Int) (K T M : Nat) (r : R) (sS sK : Sl) (cO cC cA : Array Value) (qs : List Sl) (s : RS) : Prop where
  hR : Blk w gR 80 #[.int .i64 k, .int .i64 K, .int .i64 T, .int .i64 M, .int .u64 r.e, .int .u64 r.f, .slice r.L.A r.L.n r.L.c, .slice r.P.A r.P.n r.P.c, .int .u64 r.h, .int .u64 r.t, .slice r.K.A r.K.n r.K.c, .slice r.X.A r.X.n r.X.c, .slice r.S.A r.S.n r.S.c, .slice (some ⟨gO, 0, none⟩) T co, .slice (some ⟨gC, 0, none⟩) T cc, .slice (some ⟨gA, 0, none⟩) T ca, .slice sS.A sS.n sS.c, .slice sK.A sK.n sK.c, .int .u64 0, .int .u64 0, .slice none 0 0, .slice none 0 0, .int .u64 0, .int .u64 0, .slice none 0 0, .slice none 0 0, .slice none 0 0]
  hO : Blk w gO 83 cO
  hC : Blk w gC 3 cC
  hA : Blk w gA 3 cA
  hm : Rm w w.heap.size r s.m
  hS : Row w base 59 8 sS s.steps.length (flatT s.steps)
  hK : Row w base 55 7 sK s.calls.length (flatK s.calls)
  on : ∀ (i : Nat) (f : FS) (q : Sl), s.on[i]? = some f → qs[i]? = some q → ∀ (j : Nat) (v : Value), (f.v q)[j]? = some v → cO[i * 24 + j]? = some v
  call : ∀ (i : Nat) (x : Int), s.call[i]? = some x → cC[i]? = some (.int .i64 x)
  at_ : ∀ (i : Nat) (x : Int), s.at_[i]? = some x → cA[i]? = some (.int .i64 x)
  offm : ∀ b, Mine gR gO gC gA sS sK b → Off r b
  offb : ∀ b, b < base → Off r b
  seen : ∀ (i : Nat) (f : FS) (q : Sl), s.on[i]? = some f → qs[i]? = some q → Rd w w.heap.size q f.seen ∧ ∀ b, Mine gR gO gC gA sS sK b → OffQ q b
  len : s.on.length = T ∧ s.call.length = T ∧ s.at_.length = T ∧ qs.length = T ∧ T * 24 ≤ cO.size
  cap : 1 ≤ T ∧ T ≤ 8 ∧ T ≤ co ∧ co ≤ maxLen ∧ T ≤ cc ∧ cc ≤ maxLen ∧ T ≤ ca ∧ ca ≤ maxLen
  ne : gC ≠ gA
  few : Few s.m ∧ s.steps.length ≤ 50000 ∧ s.calls.length ≤ 50000
  low : base ≤ w.heap.size ∧ base ≤ gR ∧ base ≤ gO ∧ base ≤ gC ∧ base ≤ gA
end Go.Proofs.Ytffppdcpiieapaa.Machc

namespace Go.Proofs.Ytffppdcpiieapaa.Machc
open Go.RowKit Go.Proofs.Ytffppdcpiieapaa.Memc Go.Proofs.Ytffppdcpiieapaa.Refc
set_option linter.unusedVariables false
set_option maxRecDepth 100000

end Go.Proofs.Ytffppdcpiieapaa.Machc

namespace Go.Proofs.Ytffppdcpiieapaa.Machc
open Go.RowKit Go.Proofs.Ytffppdcpiieapaa.Memc Go.Proofs.Ytffppdcpiieapaa.Refc
set_option linter.unusedVariables false
set_option maxRecDepth 100000

end Go.Proofs.Ytffppdcpiieapaa.Machc
