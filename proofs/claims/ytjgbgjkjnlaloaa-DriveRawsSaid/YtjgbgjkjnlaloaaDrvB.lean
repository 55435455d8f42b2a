/- A thread's next call is begun, by contract. -/
import Derived.Test.YtjgbgjkjnlaloaaDrvA
import Derived.Test.YtjgbgjkjnlaloaaHeldZ
import Derived.Deep.RegionHeld3
import Derived.StillTailTactics
namespace Go.Proofs.Ytjgbgjkjnlaloaa.Drivec
open Go.RowKit Go.Proofs.Ytjgbgjkjnlaloaa.Memc Go.Proofs.Ytjgbgjkjnlaloaa.Procc
set_option linter.unusedVariables false
set_option maxRecDepth 100000

theorem call_cell : (Try.prog.info? 67).map (fun i => (i.zero, i.size, i.bytes)) = some (some (.agg #[.int .i64 0, .int .i64 0, .int .u32 0, .int .i64 0, .int .i64 0, .int .i64 0, .int .u32 0]), 7, 56) := by kernel_rfl
theorem method_next (p : Addr) (w : World) : (method 308 145 (.pointer (some p)) "Next").run Try.prog w = .ok (153, .pointer (some p)) w := by kernel_rfl
theorem method_result (p : Addr) (w : World) : (method 308 145 (.pointer (some p)) "Result").run Try.prog w = .ok (154, .pointer (some p)) w := by kernel_rfl

/-- the rest of a thread's calls -/
def tailO (b off c : Nat) : Option Addr := if c = 1 then some ⟨b, off, none⟩ else some ⟨b, off + 2, none⟩

/-- a thread's cells behind the beginning of a call -/
def begun (ct : Array Value) (o ob oo ln lcp sn P : Nat) (a : Acc) : Array Value :=
  ((((((((ct.setIfInBounds o (.slice (tailO ob oo lcp) (ln - 1) (lcp - 1))).setIfInBounds (o + 1) (.iface 145 (.pointer (some ⟨P, 0, none⟩)))).setIfInBounds (o + 2) (.int .i64 sn)).setIfInBounds (o + 3) (.int .i64 a.d)).setIfInBounds (o + 4) (.int .i64 a.ar)).setIfInBounds (o + 5) (.int .i64 a.at_)).setIfInBounds (o + 6) (.int .u64 a.old)).setIfInBounds (o + 7) (.int .u64 a.new)).setIfInBounds (o + 8) (.bool true)
/-- what beginning a thread's next call comes to -/
def Started (w : World) (gC gT gL gLL T lc i b off n c o ob oo ln lcp base nK : Nat) (cs ct : Array Value) (a : Acc) (r : R) (th sS sK : Sl) (xs : List Value) (e : Ending) (w' : World) : Prop :=
  ∃ (P ga : Nat) (s1 : Sl), e = .returned (.tuple #[]) ∧ Blk w' gC 132 #[.func (.func 52) #[] #[.pointer (some ⟨gL, 0, none⟩)], .slice th.A th.n th.c, .slice sS.A sS.n sS.c, .slice s1.A s1.n s1.c, .int .u64 r.e, .int .u64 r.f, .slice r.L.A r.L.n r.L.c, .slice r.P.A r.P.n r.P.c, .int .u64 r.h, .int .u64 r.t, .slice r.K.A r.K.n r.K.c, .slice r.X.A r.X.n r.X.c, .slice r.S.A r.S.n r.S.c] ∧ Blk w' gT 134 (begun ct o ob oo ln lcp sK.n P a) ∧ Waits w' P ga a ∧
    Row w' base 67 7 s1 (nK + 1) (xs ++ [.int .i64 i, .int .i64 0, .int .u32 0, .int .i64 sS.n, .int .i64 (-1), .int .i64 0, .int .u32 0]) ∧
    Blk w' gL 49 #[.slice (some ⟨gLL, 0, none⟩) T lc] ∧ Blk w' gLL 51 (cs.setIfInBounds i (.slice (tailA b off c) (n - 1) (c - 1))) ∧
    Only (fun g => (g = gT ∨ g = gLL) ∨ g = gC ∨ bl sK g) w w' ∧ w.heap.size ≤ P ∧ w.heap.size ≤ ga

set_option maxHeartbeats 4000000 in
theorem start_c (w : World) (gC gT gL gLL T lc i b off n c o ob oo ln lcp : Nat) (cs ct : Array Value) (d call : Int) (a : Acc) (r : R) (th sS sK : Sl) (nS nK base : Nat) (xs : List Value)
    (hC : Blk w gC 132 #[.func (.func 52) #[] #[.pointer (some ⟨gL, 0, none⟩)], .slice th.A th.n th.c, .slice sS.A sS.n sS.c, .slice sK.A sK.n sK.c, .int .u64 r.e, .int .u64 r.f, .slice r.L.A r.L.n r.L.c, .slice r.P.A r.P.n r.P.c, .int .u64 r.h, .int .u64 r.t, .slice r.K.A r.K.n r.K.c, .slice r.X.A r.X.n r.X.c, .slice r.S.A r.S.n r.S.c]) (hT : Blk w gT 134 ct)
    (e0 : ct[o]? = some (.slice (some ⟨ob, oo, none⟩) ln lcp)) (e1 : ct[o + 1]? = some .nilIface) (e2 : ct[o + 2]? = some (.int .i64 call))
    (e3 : ct[o + 3]? = some (.int .i64 0)) (e4 : ct[o + 4]? = some (.int .i64 0)) (e5 : ct[o + 5]? = some (.int .i64 0)) (e6 : ct[o + 6]? = some (.int .u64 0)) (e7 : ct[o + 7]? = some (.int .u64 0)) (e8 : ct[o + 8]? = some (.bool false))
    (hl0 : 0 < ln) (hl1 : ln ≤ lcp) (hl2 : lcp ≤ maxLen) {co : Array Value} (hO : Blk w ob 81 co) (f0 : co[oo]? = some (.int .i64 0)) (f1 : co[oo + 1]? = some (.int .u32 0))
    (hS : sS.n = nS) (hK : Row w base 67 7 sK nK xs) (hnK : nK < 100000) (hnS : nS < 100000) (hbase : base ≤ w.heap.size)
    (hl : Blk w gL 49 #[.slice (some ⟨gLL, 0, none⟩) T lc]) (hll : Blk w gLL 51 cs) (hi : i < T) (hT8 : T ≤ 8)
    (hc : cs[i]? = some (.slice (some ⟨b, off, none⟩) n c)) (hn : 0 < n) (hnc : n ≤ c) (hcm : c ≤ maxLen) (hbz : b < w.heap.size) (hbT : ¬ b = gT) (hbl : ¬ b = gLL)
    (h0 : w.cell? ⟨b, off, none⟩ = some (.int .i64 a.d)) (h1 : w.cell? ⟨b, off + 1, none⟩ = some (.int .i64 a.ar)) (h2 : w.cell? ⟨b, off + 2, none⟩ = some (.int .i64 a.at_)) (h3 : w.cell? ⟨b, off + 3, none⟩ = some (.int .u64 a.old)) (h4 : w.cell? ⟨b, off + 4, none⟩ = some (.int .u64 a.new)) :
    Calls Try.prog 109 #[.pointer (some ⟨gC, 0, none⟩), .pointer (some ⟨gT, o, none⟩), .agg #[.int .i64 i, .int .u32 d]] w (Started w gC gT gL gLL T lc i b off n c o ob oo ln lcp base nK cs ct a r th sS sK xs) := by
  have c0 := (hT.cell o).trans e0
  have c1 := (hT.cell (o + 1)).trans e1
  have hfT := hT.frozen
  have o0 := (hO.cell oo).trans f0
  have o1 := (hO.cell (oo + 1)).trans f1
  have hzT := hT.lt
  have hzO := hO.lt
  have n1 : (0 : Int) < ln := by omega
  have n2 : (1 : Int) ≤ ln := by omega
  have n3 : (ln : Int) ≤ lcp := by omega
  have n4 : (lcp : Int) ≤ 9223372036854775807 := by unfold maxLen at hl2; omega
  have n5 : ln ≤ lcp := by omega
  have n6 : 1 ≤ ln := by omega
  have n7 : 1 ≤ lcp := by omega
  have HC := Lib.hid hC
  have HT := Lib.hid hT
  have HK := Lib.hid hK
  have HS := Lib.hid hS
  have HL := Lib.hid hl
  have HLL := Lib.hid hll
  have HCI := Lib.hid hc
  have H0 := Lib.hid h0
  have H1 := Lib.hid h1
  have H2 := Lib.hid h2
  have H3 := Lib.hid h3
  have H4 := Lib.hid h4
  have HCM := Lib.hid hcm
  have HSZ : Hid (o + 1 < ct.size) := Lib.hid (by have := (Array.getElem?_eq_some_iff.1 e8).1; omega)
  have HE2 := Lib.hid e2
  have HE3 := Lib.hid e3
  have HE4 := Lib.hid e4
  have HE5 := Lib.hid e5
  have HE6 := Lib.hid e6
  have HE7 := Lib.hid e7
  have HE8 := Lib.hid e8
  have HE1 := Lib.hid e1
  clear hC hT e0 e1 e2 e3 e4 e5 e6 e7 e8 hO f0 f1 hS hK hl hll hc h0 h1 h2 h3 h4 hcm hl2
  obtain ⟨A', hA⟩ : ∃ A', (if lcp = 1 then some (⟨ob, oo, none⟩ : Addr) else some ⟨ob, oo + 2, none⟩) = A' := ⟨_, rfl⟩
  go_enter Try.func109, Try.ntmps109
  go_wp2_with fail
  have HA := Lib.hid hA
  clear hA
  have hneT : ¬ gC = gT := Blk.ne HC.out HT.out (by decide)
  have hneTL : ¬ gL = gT := Blk.ne HL.out HT.out (by decide)
  have hneTLL : ¬ gLL = gT := Blk.ne HLL.out HT.out (by decide)
  have hzC := HC.out.lt
  have hss : (w.setCell ⟨gT, o, none⟩ (.slice A' (ln - 1) (lcp - 1))).heap.size = w.heap.size := by simp [World.setCell]
  have P1 : Hid (Blk (((w.setCell ⟨gT, o, none⟩ (.slice A' (ln - 1) (lcp - 1))).alloc (.cells #[.int .i64 i, .int .u32 d] 63)).alloc (.cells #[.int .i64 0, .int .u32 0] 81)) w.heap.size 63 #[.int .i64 i, .int .u32 d]) := Lib.hid ((blk_at hss).alloc _)
  have Q1 : Hid (Blk (((w.setCell ⟨gT, o, none⟩ (.slice A' (ln - 1) (lcp - 1))).alloc (.cells #[.int .i64 i, .int .u32 d] 63)).alloc (.cells #[.int .i64 0, .int .u32 0] 81)) (w.heap.size + 1) 81 #[.int .i64 0, .int .u32 0]) := Lib.hid (blk_at (by simp [hss]))
  have C1 := Lib.hid (((HC.out.far (p := ⟨gT, o, none⟩) hneT (.slice A' (ln - 1) (lcp - 1))).alloc (.cells #[.int .i64 i, .int .u32 d] 63)).alloc (.cells #[.int .i64 0, .int .u32 0] 81))
  have T1 := Lib.hid (((HT.out.set_ o (.slice A' (ln - 1) (lcp - 1))).alloc (.cells #[.int .i64 i, .int .u32 d] 63)).alloc (.cells #[.int .i64 0, .int .u32 0] 81))
  have L1 := Lib.hid (((HL.out.far (p := ⟨gT, o, none⟩) hneTL (.slice A' (ln - 1) (lcp - 1))).alloc (.cells #[.int .i64 i, .int .u32 d] 63)).alloc (.cells #[.int .i64 0, .int .u32 0] 81))
  have LL1 := Lib.hid (((HLL.out.far (p := ⟨gT, o, none⟩) hneTLL (.slice A' (ln - 1) (lcp - 1))).alloc (.cells #[.int .i64 i, .int .u32 d] 63)).alloc (.cells #[.int .i64 0, .int .u32 0] 81))
  have K1 : Hid (Row (((w.setCell ⟨gT, o, none⟩ (.slice A' (ln - 1) (lcp - 1))).alloc (.cells #[.int .i64 i, .int .u32 d] 63)).alloc (.cells #[.int .i64 0, .int .u32 0] 81)) base 67 7 sK nK xs) := Lib.hid (((HK.out.kept (w' := (w.setCell ⟨gT, o, none⟩ (.slice A' (ln - 1) (lcp - 1)))) fun g hg => Below.heap_setCell _ _ _ _ (HK.out.ne HT.out (by decide) g hg)).alloc (.cells #[.int .i64 i, .int .u32 d] 63)).alloc (.cells #[.int .i64 0, .int .u32 0] 81))
  have O1 : Hid (Only (fun g => g = gT) w (((w.setCell ⟨gT, o, none⟩ (.slice A' (ln - 1) (lcp - 1))).alloc (.cells #[.int .i64 i, .int .u32 d] 63)).alloc (.cells #[.int .i64 0, .int .u32 0] 81))) := Lib.hid ((((Only.refl (fun g => g = gT) w).set_ ⟨gT, o, none⟩ (.inl rfl) _).alloc _).alloc _)
  have hs1 : w.heap.size + 1 < ((((w.setCell ⟨gT, o, none⟩ (.slice A' (ln - 1) (lcp - 1))).alloc (.cells #[.int .i64 i, .int .u32 d] 63)).alloc (.cells #[.int .i64 0, .int .u32 0] 81))).heap.size := by simp [World.setCell]; try omega
  generalize (((w.setCell ⟨gT, o, none⟩ (.slice A' (ln - 1) (lcp - 1))).alloc (.cells #[.int .i64 i, .int .u32 d] 63)).alloc (.cells #[.int .i64 0, .int .u32 0] 81)) = V at P1 Q1 C1 T1 L1 LL1 K1 O1 hs1 ⊢
  clear c0 c1 hfT o0 o1
  have E1 : Hid ((ct.setIfInBounds o (.slice A' (ln - 1) (lcp - 1)))[o + 1]? = some .nilIface) := Lib.hid (by rw [Array.getElem?_setIfInBounds_ne (by omega)]; exact HE1.out)
  have P1 := Lib.hid P1.out.drew
  have Q1 := Lib.hid Q1.out.drew
  have C1 := Lib.hid C1.out.drew
  have T1 := Lib.hid T1.out.drew
  have L1 := Lib.hid L1.out.drew
  have LL1 := Lib.hid LL1.out.drew
  have K1 := Lib.hid K1.out.drew
  have O1 := Lib.hid O1.out.drew
  have hp := P1.out.cell
  have hq := Q1.out.cell
  have hc := C1.out.cell
  go_region_held3 (fun w' => (∀ i, w'.cell? ⟨gC, i, none⟩ = (#[.func (.func 52) #[] #[.pointer (some ⟨gL, 0, none⟩)], .slice th.A th.n th.c, .slice sS.A sS.n sS.c, .slice sK.A sK.n sK.c, .int .u64 r.e, .int .u64 r.f, .slice r.L.A r.L.n r.L.c, .slice r.P.A r.P.n r.P.c, .int .u64 r.h, .int .u64 r.t, .slice r.K.A r.K.n r.K.c, .slice r.X.A r.X.n r.X.c, .slice r.S.A r.S.n r.S.c] : Array Value)[i]?) ∧ (∀ j, w'.cell? ⟨w.heap.size, j, none⟩ = (#[.int .i64 i, .int .u32 d] : Array Value)[j]?) ∧ (∀ j, w'.cell? ⟨w.heap.size + 1, j, none⟩ = (#[.int .i64 0, .int .u32 0] : Array Value)[j]?))
    (first | exact ⟨C1.out.cell, P1.out.cell, Q1.out.cell⟩ | exact ⟨(Blk.far C1.out (p := ⟨gT, o + 1, none⟩) hneT _).cell, (Blk.far P1.out (p := ⟨gT, o + 1, none⟩) (show ¬ w.heap.size = gT by omega) _).cell, (Blk.far Q1.out (p := ⟨gT, o + 1, none⟩) (show ¬ w.heap.size + 1 = gT by omega) _).cell⟩)
    (first | (go_at_call 52; go_must (refine (begin_c _ gL gLL T lc i b off n c cs 0 0 d a L1.out LL1.out hi hT8 HCI.out hn hnc HCM.out (Nat.lt_of_lt_of_le hbz O1.out.size) hbl ((Only.cell O1.out hbz hbT).trans H0.out) ((Only.cell O1.out hbz hbT).trans H1.out) ((Only.cell O1.out hbz hbT).trans H2.out) ((Only.cell O1.out hbz hbT).trans H3.out) ((Only.cell O1.out hbz hbT).trans H4.out)).mono ?_); rintro e w3 hw3; obtain ⟨P, ga, rfl, hfr, hP, hga, hLL3, ho3⟩ := hw3; go_must (have M3 := Lib.hid hfr; have P1_ := Lib.hid (P1.out.only ho3 (Blk.ne P1.out LL1.out (by decide))); have Q1_ := Lib.hid (Q1.out.only ho3 (Blk.ne Q1.out LL1.out (by decide))); have C1_ := Lib.hid (C1.out.only ho3 (Blk.ne C1.out LL1.out (by decide))); have T1_ := Lib.hid (T1.out.only ho3 (Blk.ne T1.out LL1.out (by decide))); have K1_ := Lib.hid (K1.out.only ho3 (K1.out.ne LL1.out (by decide))); have L1_ := Lib.hid (L1.out.only ho3 (Blk.ne L1.out LL1.out (by decide))); have O1_ := Lib.hid ((O1.out.mono (Q := fun g => g = gT ∨ g = gLL) (fun k h => .inl h)).next ho3 (fun k _ h => .inr h)); have LL1_ := Lib.hid hLL3); clear hfr hLL3 ho3 P1 Q1 C1 T1 K1 L1 O1 LL1; have P1 := Lib.hid P1_.out; have Q1 := Lib.hid Q1_.out; have C1 := Lib.hid C1_.out; have T1 := Lib.hid T1_.out; have K1 := Lib.hid K1_.out; have L1 := Lib.hid L1_.out; have O1 := Lib.hid O1_.out; have LL1 := Lib.hid LL1_.out; clear P1_ Q1_ C1_ T1_ K1_ L1_ O1_ LL1_; have hto := (T1.out.cell (o + 1)).trans E1.out; have hft := T1.out.frozen))
  have hP0 : Hid (w.heap.size ≤ P) := Lib.hid (by have := O1.out.size; have hvw : w.heap.size ≤ V.heap.size := Nat.le_of_lt (by omega); exact Nat.le_trans hvw hP)
  have hga0 : Hid (w.heap.size ≤ ga) := Lib.hid (by have hvw : w.heap.size ≤ V.heap.size := Nat.le_of_lt (by omega); exact Nat.le_trans hvw hga)
  have hPT : ¬ P = gT := Blk.ne M3.out.1 T1.out (by decide)
  have hgaT : ¬ ga = gT := Blk.ne M3.out.2 T1.out (by decide)
  have P1_ := Lib.hid (Blk.far P1.out (p := ⟨gT, (o + 1), none⟩) (show ¬ w.heap.size = gT by omega) (.iface 145 (.pointer (some ⟨P, 0, none⟩))))
  have Q1_ := Lib.hid (Blk.far Q1.out (p := ⟨gT, (o + 1), none⟩) (show ¬ w.heap.size + 1 = gT by omega) (.iface 145 (.pointer (some ⟨P, 0, none⟩))))
  have C1_ := Lib.hid (Blk.far C1.out (p := ⟨gT, (o + 1), none⟩) hneT (.iface 145 (.pointer (some ⟨P, 0, none⟩))))
  have T1_ := Lib.hid (Blk.set_ T1.out (o + 1) (.iface 145 (.pointer (some ⟨P, 0, none⟩))))
  have L1_ := Lib.hid (Blk.far L1.out (p := ⟨gT, (o + 1), none⟩) hneTL (.iface 145 (.pointer (some ⟨P, 0, none⟩))))
  have LL1_ := Lib.hid (Blk.far LL1.out (p := ⟨gT, (o + 1), none⟩) hneTLL (.iface 145 (.pointer (some ⟨P, 0, none⟩))))
  have K1_ := Lib.hid (Row.kept (w' := (w3.setCell ⟨gT, (o + 1), none⟩ (.iface 145 (.pointer (some ⟨P, 0, none⟩))))) K1.out (fun g hg => Below.heap_setCell _ _ _ _ (Row.ne K1.out T1.out (by decide) g hg)))
  have O1_ := Lib.hid (Only.set_ O1.out ⟨gT, (o + 1), none⟩ (.inl (.inl rfl)) (.iface 145 (.pointer (some ⟨P, 0, none⟩))))
  have M3_ := Lib.hid (show Fresh ((w3.setCell ⟨gT, (o + 1), none⟩ (.iface 145 (.pointer (some ⟨P, 0, none⟩))))) P ga a from ⟨(Blk.far M3.out.1 (p := ⟨gT, (o + 1), none⟩) hPT (.iface 145 (.pointer (some ⟨P, 0, none⟩)))), (Blk.far M3.out.2 (p := ⟨gT, (o + 1), none⟩) hgaT (.iface 145 (.pointer (some ⟨P, 0, none⟩))))⟩)
  clear P1 Q1 C1 T1 L1 LL1 K1 O1 M3
  have P1 := Lib.hid P1_.out
  have Q1 := Lib.hid Q1_.out
  have C1 := Lib.hid C1_.out
  have T1 := Lib.hid T1_.out
  have L1 := Lib.hid L1_.out
  have LL1 := Lib.hid LL1_.out
  have K1 := Lib.hid K1_.out
  have O1 := Lib.hid O1_.out
  have M3 := Lib.hid M3_.out
  clear P1_ Q1_ C1_ T1_ L1_ LL1_ K1_ O1_ M3_
  generalize (w3.setCell ⟨gT, (o + 1), none⟩ (.iface 145 (.pointer (some ⟨P, 0, none⟩)))) = V2 at P1 Q1 C1 T1 L1 LL1 K1 O1 M3 ⊢
  clear hp hq hc hto hft
  have hto : V2.cell? ⟨gT, o + 2, none⟩ = some (.int .i64 call) := (T1.out.cell (o + 2)).trans (by repeat rw [Array.getElem?_setIfInBounds_ne (by omega)]
                                                                                                   exact HE2.out)
  have hft := T1.out.frozen
  have hc := C1.out.cell
  have hp := P1.out.cell
  have hq := Q1.out.cell
  have hsK := K1.out.n_.1
  have hsK2 : (sK.n : Int) ≤ 9223372036854775807 := by omega
  have HSK := Lib.hid hsK
  clear hsK
  go_wp2_with fail
  have P1_ := Lib.hid (Blk.far P1.out (p := ⟨gT, (o + 2), none⟩) (show ¬ w.heap.size = gT by omega) (.int .i64 sK.n))
  have Q1_ := Lib.hid (Blk.far Q1.out (p := ⟨gT, (o + 2), none⟩) (show ¬ w.heap.size + 1 = gT by omega) (.int .i64 sK.n))
  have C1_ := Lib.hid (Blk.far C1.out (p := ⟨gT, (o + 2), none⟩) hneT (.int .i64 sK.n))
  have T1_ := Lib.hid (Blk.set_ T1.out (o + 2) (.int .i64 sK.n))
  have L1_ := Lib.hid (Blk.far L1.out (p := ⟨gT, (o + 2), none⟩) hneTL (.int .i64 sK.n))
  have LL1_ := Lib.hid (Blk.far LL1.out (p := ⟨gT, (o + 2), none⟩) hneTLL (.int .i64 sK.n))
  have K1_ := Lib.hid (Row.kept (w' := (V2.setCell ⟨gT, (o + 2), none⟩ (.int .i64 sK.n))) K1.out (fun g hg => Below.heap_setCell _ _ _ _ (Row.ne K1.out T1.out (by decide) g hg)))
  have O1_ := Lib.hid (Only.set_ O1.out ⟨gT, (o + 2), none⟩ (.inl (.inl rfl)) (.int .i64 sK.n))
  have M3_ := Lib.hid (show Fresh ((V2.setCell ⟨gT, (o + 2), none⟩ (.int .i64 sK.n))) P ga a from ⟨(Blk.far M3.out.1 (p := ⟨gT, (o + 2), none⟩) hPT (.int .i64 sK.n)), (Blk.far M3.out.2 (p := ⟨gT, (o + 2), none⟩) hgaT (.int .i64 sK.n))⟩)
  clear P1 Q1 C1 T1 L1 LL1 K1 O1 M3
  have P1 := Lib.hid P1_.out
  have Q1 := Lib.hid Q1_.out
  have C1 := Lib.hid C1_.out
  have T1 := Lib.hid T1_.out
  have L1 := Lib.hid L1_.out
  have LL1 := Lib.hid LL1_.out
  have K1 := Lib.hid K1_.out
  have O1 := Lib.hid O1_.out
  have M3 := Lib.hid M3_.out
  clear P1_ Q1_ C1_ T1_ L1_ LL1_ K1_ O1_ M3_
  generalize (V2.setCell ⟨gT, (o + 2), none⟩ (.int .i64 sK.n)) = V3 at P1 Q1 C1 T1 L1 LL1 K1 O1 M3 ⊢
  clear hto hft hc hp hq
  have hc := C1.out.cell
  have hcf := C1.out.frozen
  have hp := P1.out.cell
  have hq := Q1.out.cell
  have hbV : base ≤ V3.heap.size := Nat.le_trans hbase O1.out.size
  have ki := info_parts call_cell
  obtain ⟨i0, hi0, hz0, hz1, hz2⟩ := ki
  have KR := Lib.hid (And.intro hi0 (And.intro hz0 (And.intro hz1 hz2)))
  clear hi0 hz0 hz1 hz2
  refine Zreg.begin_ (S := (fun w' => (∀ j, w'.cell? ⟨w.heap.size, j, none⟩ = (#[.int .i64 i, .int .u32 d] : Array Value)[j]?) ∧ (∀ j, w'.cell? ⟨w.heap.size + 1, j, none⟩ = (#[.int .i64 0, .int .u32 0] : Array Value)[j]?) ∧ (∀ j, w'.cell? ⟨gC, j, none⟩ = (#[.func (.func 52) #[] #[.pointer (some ⟨gL, 0, none⟩)], .slice th.A th.n th.c, .slice sS.A sS.n sS.c, .slice sK.A sK.n sK.c, .int .u64 r.e, .int .u64 r.f, .slice r.L.A r.L.n r.L.c, .slice r.P.A r.P.n r.P.c, .int .u64 r.h, .int .u64 r.t, .slice r.K.A r.K.n r.K.c, .slice r.X.A r.X.n r.X.c, .slice r.S.A r.S.n r.S.c] : Array Value)[j]?))) (zs := [24]) (by kernel_rfl) ?_
  show Zreg.After _ _ _ _ _ _ 25 #[false, false, false, false, false, false, false, false, false, false, false, false, false, false, false, false, false, false, false, false, false, false, false, false, false] _ _
  refine Zreg.takeP 0 43 (x := ?xa_0) rfl rfl (by kernel_rfl) (by kernel_rfl) (by kernel_rfl) (by kernel_rfl) (fun _ _ _ h => h) (.inr ⟨P1.out.cell, Q1.out.cell, C1.out.cell⟩) (Or.inl ⟨by rfl, ?ya_0⟩) ?ra_0
  case ya_0 => (intro w _; go_simp <;> with_reducible rfl)
  simp only [List.setIfInBounds_toArray, List.set_cons_zero, List.set_cons_succ]
  refine Zreg.takeP 1 44 (x := ?xa_1) rfl rfl (by kernel_rfl) (by kernel_rfl) (by kernel_rfl) (by kernel_rfl) (fun _ _ _ h => h) (.inr ⟨P1.out.cell, Q1.out.cell, C1.out.cell⟩) (Or.inl ⟨by rfl, ?ya_1⟩) ?ra_1
  case ya_1 => (intro w _; go_simp <;> with_reducible rfl)
  simp only [List.setIfInBounds_toArray, List.set_cons_zero, List.set_cons_succ]
  refine Zreg.takeP 2 45 (x := ?xa_2) rfl rfl (by kernel_rfl) (by kernel_rfl) (by kernel_rfl) (by kernel_rfl) (fun _ _ _ h => h) (.inr ⟨P1.out.cell, Q1.out.cell, C1.out.cell⟩) (Or.inl ⟨by rfl, ?ya_2⟩) ?ra_2
  case ya_2 => (intro w _; go_simp <;> with_reducible rfl)
  simp only [List.setIfInBounds_toArray, List.set_cons_zero, List.set_cons_succ]
  refine Zreg.takeP 3 46 (x := ?xa_3) rfl rfl (by kernel_rfl) (by kernel_rfl) (by kernel_rfl) (by kernel_rfl) (fun _ _ _ h => h) (.inr ⟨P1.out.cell, Q1.out.cell, C1.out.cell⟩) (Or.inl ⟨by rfl, ?ya_3⟩) ?ra_3
  case ya_3 => (intro w _; go_simp <;> with_reducible rfl)
  simp only [List.setIfInBounds_toArray, List.set_cons_zero, List.set_cons_succ]
  refine Zreg.takeP 4 47 (x := ?xa_4) rfl rfl (by kernel_rfl) (by kernel_rfl) (by kernel_rfl) (by kernel_rfl) (fun _ _ _ h => h) (.inr ⟨P1.out.cell, Q1.out.cell, C1.out.cell⟩) (Or.inl ⟨by rfl, ?ya_4⟩) ?ra_4
  case ya_4 => (intro w _; go_simp <;> with_reducible rfl)
  simp only [List.setIfInBounds_toArray, List.set_cons_zero, List.set_cons_succ]
  refine Zreg.takeS 5 48 (x := ?xa_5) rfl rfl (by kernel_rfl) (by kernel_rfl) (by kernel_rfl) (by kernel_rfl) (by kernel_rfl) (by kernel_rfl) (fun _ _ _ h => h) (.inr ⟨P1.out.cell, Q1.out.cell, C1.out.cell⟩) (Or.inl ⟨by rfl, ?ya_5⟩) ?ra_5
  case ya_5 => (intro w hSw; (try dsimp only at hSw); go_simp <;> with_reducible rfl)
  simp only [List.setIfInBounds_toArray, List.set_cons_zero, List.set_cons_succ]
  refine Zreg.takeP 6 49 (x := ?xa_6) rfl rfl (by kernel_rfl) (by kernel_rfl) (by kernel_rfl) (by kernel_rfl) (fun _ _ _ h => h) (.inr ⟨P1.out.cell, Q1.out.cell, C1.out.cell⟩) (Or.inl ⟨by rfl, ?ya_6⟩) ?ra_6
  case ya_6 => (intro w _; go_simp <;> with_reducible rfl)
  simp only [List.setIfInBounds_toArray, List.set_cons_zero, List.set_cons_succ]
  refine Zreg.takeS 7 50 (x := ?xa_7) rfl rfl (by kernel_rfl) (by kernel_rfl) (by kernel_rfl) (by kernel_rfl) (by kernel_rfl) (by kernel_rfl) (fun _ _ _ h => h) (.inr ⟨P1.out.cell, Q1.out.cell, C1.out.cell⟩) (Or.inl ⟨by rfl, ?ya_7⟩) ?ra_7
  case ya_7 => (intro w hSw; (try dsimp only at hSw); go_simp <;> with_reducible rfl)
  simp only [List.setIfInBounds_toArray, List.set_cons_zero, List.set_cons_succ]
  refine Zreg.takeP 8 51 (x := ?xa_8) rfl rfl (by kernel_rfl) (by kernel_rfl) (by kernel_rfl) (by kernel_rfl) (fun _ _ _ h => h) (.inr ⟨P1.out.cell, Q1.out.cell, C1.out.cell⟩) (Or.inl ⟨by rfl, ?ya_8⟩) ?ra_8
  case ya_8 => (intro w _; go_simp <;> with_reducible rfl)
  simp only [List.setIfInBounds_toArray, List.set_cons_zero, List.set_cons_succ]
  refine Zreg.takeS 9 52 (x := ?xa_9) rfl rfl (by kernel_rfl) (by kernel_rfl) (by kernel_rfl) (by kernel_rfl) (by kernel_rfl) (by kernel_rfl) (fun _ _ _ h => h) (.inr ⟨P1.out.cell, Q1.out.cell, C1.out.cell⟩) (Or.inl ⟨by rfl, ?ya_9⟩) ?ra_9
  case ya_9 => (intro w hSw; (try dsimp only at hSw); go_simp <;> with_reducible rfl)
  simp only [List.setIfInBounds_toArray, List.set_cons_zero, List.set_cons_succ]
  refine Zreg.takeP 10 53 (x := ?xa_10) rfl rfl (by kernel_rfl) (by kernel_rfl) (by kernel_rfl) (by kernel_rfl) (fun _ _ _ h => h) (.inr ⟨P1.out.cell, Q1.out.cell, C1.out.cell⟩) (Or.inl ⟨by rfl, ?ya_10⟩) ?ra_10
  case ya_10 => (intro w _; go_simp <;> with_reducible rfl)
  simp only [List.setIfInBounds_toArray, List.set_cons_zero, List.set_cons_succ]
  refine Zreg.takeS 11 54 (x := ?xa_11) rfl rfl (by kernel_rfl) (by kernel_rfl) (by kernel_rfl) (by kernel_rfl) (by kernel_rfl) (by kernel_rfl) (fun _ _ _ h => h) (.inr ⟨P1.out.cell, Q1.out.cell, C1.out.cell⟩) (Or.inl ⟨by rfl, ?ya_11⟩) ?ra_11
  case ya_11 => (intro w hSw; (try dsimp only at hSw); go_simp <;> with_reducible rfl)
  simp only [List.setIfInBounds_toArray, List.set_cons_zero, List.set_cons_succ]
  refine Zreg.takeP 12 55 (x := ?xa_12) rfl rfl (by kernel_rfl) (by kernel_rfl) (by kernel_rfl) (by kernel_rfl) (fun _ _ _ h => h) (.inr ⟨P1.out.cell, Q1.out.cell, C1.out.cell⟩) (Or.inl ⟨by rfl, ?ya_12⟩) ?ra_12
  case ya_12 => (intro w _; go_simp <;> with_reducible rfl)
  simp only [List.setIfInBounds_toArray, List.set_cons_zero, List.set_cons_succ]
  refine Zreg.takeP 13 56 (x := ?xa_13) rfl rfl (by kernel_rfl) (by kernel_rfl) (by kernel_rfl) (by kernel_rfl) (fun _ _ _ h => h) (.inr ⟨P1.out.cell, Q1.out.cell, C1.out.cell⟩) (Or.inl ⟨by rfl, ?ya_13⟩) ?ra_13
  case ya_13 => (intro w _; go_simp <;> with_reducible rfl)
  simp only [List.setIfInBounds_toArray, List.set_cons_zero, List.set_cons_succ]
  refine Zreg.takeP 14 57 (x := ?xa_14) rfl rfl (by kernel_rfl) (by kernel_rfl) (by kernel_rfl) (by kernel_rfl) (fun _ _ _ h => h) (.inr ⟨P1.out.cell, Q1.out.cell, C1.out.cell⟩) (Or.inl ⟨by rfl, ?ya_14⟩) ?ra_14
  case ya_14 => (intro w _; go_simp <;> with_reducible rfl)
  simp only [List.setIfInBounds_toArray, List.set_cons_zero, List.set_cons_succ]
  refine Zreg.takeP 15 58 (x := ?xa_15) rfl rfl (by kernel_rfl) (by kernel_rfl) (by kernel_rfl) (by kernel_rfl) (fun _ _ _ h => h) (.inr ⟨P1.out.cell, Q1.out.cell, C1.out.cell⟩) (Or.inl ⟨by rfl, ?ya_15⟩) ?ra_15
  case ya_15 => (intro w _; go_simp <;> with_reducible rfl)
  simp only [List.setIfInBounds_toArray, List.set_cons_zero, List.set_cons_succ]
  refine Zreg.takeS 16 59 (x := ?xa_16) rfl rfl (by kernel_rfl) (by kernel_rfl) (by kernel_rfl) (by kernel_rfl) (by kernel_rfl) (by kernel_rfl) (fun _ _ _ h => h) (.inr ⟨P1.out.cell, Q1.out.cell, C1.out.cell⟩) (Or.inl ⟨by rfl, ?ya_16⟩) ?ra_16
  case ya_16 => (intro w hSw; (try dsimp only at hSw); go_simp <;> with_reducible rfl)
  simp only [List.setIfInBounds_toArray, List.set_cons_zero, List.set_cons_succ]
  refine Zreg.takeP 17 60 (x := ?xa_17) rfl rfl (by kernel_rfl) (by kernel_rfl) (by kernel_rfl) (by kernel_rfl) (fun _ _ _ h => h) (.inr ⟨P1.out.cell, Q1.out.cell, C1.out.cell⟩) (Or.inl ⟨by rfl, ?ya_17⟩) ?ra_17
  case ya_17 => (intro w _; go_simp <;> with_reducible rfl)
  simp only [List.setIfInBounds_toArray, List.set_cons_zero, List.set_cons_succ]
  refine Zreg.takeP 18 61 (x := ?xa_18) rfl rfl (by kernel_rfl) (by kernel_rfl) (by kernel_rfl) (by kernel_rfl) (fun _ _ _ h => h) (.inr ⟨P1.out.cell, Q1.out.cell, C1.out.cell⟩) (Or.inl ⟨by rfl, ?ya_18⟩) ?ra_18
  case ya_18 => (intro w _; go_simp <;> with_reducible rfl)
  simp only [List.setIfInBounds_toArray, List.set_cons_zero, List.set_cons_succ]
  refine Zreg.one 19 (by kernel_rfl) rfl rfl fun K hK => ?_
  go_simp
  refine hK.out _ _ (.inr ⟨(P1.out.alloc _).cell, (Q1.out.alloc _).cell, (C1.out.alloc _).cell⟩) fun _ => ?_
  clear hK
  simp only [List.setIfInBounds_toArray, List.set_cons_zero, List.set_cons_succ]
  refine Zreg.one 20 (by kernel_rfl) rfl rfl fun K hK => ?_
  refine wp_app1 (.tmp 48) (.tmp 62) 52 rfl base 67 i0 _ 7 56 Try.underlying52 KR.out.1 KR.out.2.1 KR.out.2.2.1 KR.out.2.2.2 rfl (by decide) sK nK xs (by simp [Act.eval]) (Row.alloc K1.out _) V3.heap.size [.int .i64 i, .int .i64 0, .int .u32 0, .int .i64 sS.n, .int .i64 (-1), .int .i64 0, .int .u32 0] (by simp [Act.eval]) rfl (fun j u hj => (Blk.cell (blk_at rfl) j).trans (by simpa using hj)) (by simp [Value.oneCell']) (by omega) (by decide) (by simp; omega) ?_
  intro s1 w5 hr5 ho5
  clear hc hcf hp hq
  have P1_ := Lib.hid (Blk.only (P1.out.alloc (.cells #[.int .i64 i, .int .i64 0, .int .u32 0, .int .i64 sS.n, .int .i64 (-1), .int .i64 0, .int .u32 0] 67)).drew ho5 (fun hg => Row.ne K1.out P1.out (by decide) _ hg rfl))
  have Q1_ := Lib.hid (Blk.only (Q1.out.alloc (.cells #[.int .i64 i, .int .i64 0, .int .u32 0, .int .i64 sS.n, .int .i64 (-1), .int .i64 0, .int .u32 0] 67)).drew ho5 (fun hg => Row.ne K1.out Q1.out (by decide) _ hg rfl))
  have C1_ := Lib.hid (Blk.only (C1.out.alloc (.cells #[.int .i64 i, .int .i64 0, .int .u32 0, .int .i64 sS.n, .int .i64 (-1), .int .i64 0, .int .u32 0] 67)).drew ho5 (fun hg => Row.ne K1.out C1.out (by decide) _ hg rfl))
  have T1_ := Lib.hid (Blk.only (T1.out.alloc (.cells #[.int .i64 i, .int .i64 0, .int .u32 0, .int .i64 sS.n, .int .i64 (-1), .int .i64 0, .int .u32 0] 67)).drew ho5 (fun hg => Row.ne K1.out T1.out (by decide) _ hg rfl))
  have L1_ := Lib.hid (Blk.only (L1.out.alloc (.cells #[.int .i64 i, .int .i64 0, .int .u32 0, .int .i64 sS.n, .int .i64 (-1), .int .i64 0, .int .u32 0] 67)).drew ho5 (fun hg => Row.ne K1.out L1.out (by decide) _ hg rfl))
  have LL1_ := Lib.hid (Blk.only (LL1.out.alloc (.cells #[.int .i64 i, .int .i64 0, .int .u32 0, .int .i64 sS.n, .int .i64 (-1), .int .i64 0, .int .u32 0] 67)).drew ho5 (fun hg => Row.ne K1.out LL1.out (by decide) _ hg rfl))
  have M3_ : Hid (Fresh w5 P ga a) := Lib.hid ⟨Blk.only (M3.out.1.alloc (.cells #[.int .i64 i, .int .i64 0, .int .u32 0, .int .i64 sS.n, .int .i64 (-1), .int .i64 0, .int .u32 0] 67)).drew ho5 (fun hg => Row.ne K1.out M3.out.1 (by decide) _ hg rfl), Blk.only (M3.out.2.alloc (.cells #[.int .i64 i, .int .i64 0, .int .u32 0, .int .i64 sS.n, .int .i64 (-1), .int .i64 0, .int .u32 0] 67)).drew ho5 (fun hg => Row.ne K1.out M3.out.2 (by decide) _ hg rfl)⟩
  have O1_ : Hid (Only (fun g => (g = gT ∨ g = gLL) ∨ g = gC ∨ bl sK g) w w5) := Lib.hid (((((O1.out.alloc (.cells #[.int .i64 i, .int .i64 0, .int .u32 0, .int .i64 sS.n, .int .i64 (-1), .int .i64 0, .int .u32 0] 67)).drew).mono (Q := fun g => (g = gT ∨ g = gLL) ∨ g = gC ∨ bl sK g) (fun k h => .inl h))).next ho5 (fun k _ h => .inr (.inr h)))
  have K1_ := Lib.hid hr5
  have hCK := Lib.hid (Row.ne K1.out C1.out (by decide))
  clear hr5 ho5 P1 Q1 C1 T1 L1 LL1 M3 O1 K1
  have P1 := Lib.hid P1_.out
  have Q1 := Lib.hid Q1_.out
  have C1 := Lib.hid C1_.out
  have T1 := Lib.hid T1_.out
  have L1 := Lib.hid L1_.out
  have LL1 := Lib.hid LL1_.out
  have M3 := Lib.hid M3_.out
  have O1 := Lib.hid O1_.out
  have K1 := Lib.hid K1_.out
  clear P1_ Q1_ C1_ T1_ L1_ LL1_ M3_ O1_ K1_
  have hc5 := C1.out.cell
  have hcf5 := C1.out.frozen
  refine hK.out _ _ (.inr ⟨P1.out.cell, Q1.out.cell, C1.out.cell⟩) fun _ => ?_
  clear hK
  try simp only [Act.put, List.setIfInBounds_toArray, List.set_cons_zero, List.set_cons_succ]
  refine Zreg.takeP 21 64 (x := ?xa_21) rfl rfl (by kernel_rfl) (by kernel_rfl) (by kernel_rfl) (by kernel_rfl) (fun _ _ _ h => h) (.inr ⟨P1.out.cell, Q1.out.cell, C1.out.cell⟩) (Or.inl ⟨by rfl, ?ya_21⟩) ?ra_21
  case ya_21 => (intro w _; go_simp <;> with_reducible rfl)
  simp only [List.setIfInBounds_toArray, List.set_cons_zero, List.set_cons_succ]
  refine Zreg.takeP 22 65 (x := ?xa_22) rfl rfl (by kernel_rfl) (by kernel_rfl) (by kernel_rfl) (by kernel_rfl) (fun _ _ _ h => h) (.inr ⟨P1.out.cell, Q1.out.cell, C1.out.cell⟩) (Or.inl ⟨by rfl, ?ya_22⟩) ?ra_22
  case ya_22 => (intro w _; go_simp <;> with_reducible rfl)
  simp only [List.setIfInBounds_toArray, List.set_cons_zero, List.set_cons_succ]
  refine Zreg.takeP 23 66 (x := ?xa_23) rfl rfl (by kernel_rfl) (by kernel_rfl) (by kernel_rfl) (by kernel_rfl) (fun _ _ _ h => h) (.inr ⟨P1.out.cell, Q1.out.cell, C1.out.cell⟩) (Or.inl ⟨by rfl, ?ya_23⟩) ?ra_23
  case ya_23 => (intro w _; go_simp <;> with_reducible rfl)
  simp only [List.setIfInBounds_toArray, List.set_cons_zero, List.set_cons_succ]
  refine Zreg.one 24 (by kernel_rfl) rfl rfl fun K hK => ?_
  go_simp
  refine hK.out _ _ (.inl (by kernel_rfl)) fun _ => ?_
  clear hK
  simp only [List.setIfInBounds_toArray, List.set_cons_zero, List.set_cons_succ]
  refine Zreg.done (by kernel_rfl) ?_ _
  have K5 : Hid (Row (w5.setCell ⟨gC, 3, none⟩ (.slice s1.A s1.n s1.c)) base 67 7 s1 (nK + 1) (xs ++ [.int .i64 i, .int .i64 0, .int .u32 0, .int .i64 sS.n, .int .i64 (-1), .int .i64 0, .int .u32 0])) := Lib.hid (K1.out.kept fun g hg => Below.heap_setCell _ _ _ _ (K1.out.ne C1.out (by decide) g hg))
  have C5 : Hid (Blk (w5.setCell ⟨gC, 3, none⟩ (.slice s1.A s1.n s1.c)) gC 132 #[.func (.func 52) #[] #[.pointer (some ⟨gL, 0, none⟩)], .slice th.A th.n th.c, .slice sS.A sS.n sS.c, .slice s1.A s1.n s1.c, .int .u64 r.e, .int .u64 r.f, .slice r.L.A r.L.n r.L.c, .slice r.P.A r.P.n r.P.c, .int .u64 r.h, .int .u64 r.t, .slice r.K.A r.K.n r.K.c, .slice r.X.A r.X.n r.X.c, .slice r.S.A r.S.n r.S.c]) := Lib.hid (by have h_ := C1.out.set_ 3 (.slice s1.A s1.n s1.c); simpa only [List.setIfInBounds_toArray, List.set_cons_zero, List.set_cons_succ] using h_)
  have hPC : ¬ P = gC := Blk.ne M3.out.1 C1.out (by decide)
  have hgaC : ¬ ga = gC := Blk.ne M3.out.2 C1.out (by decide)
  have hneT' : ¬ gT = gC := fun e => hneT e.symm
  have T5 := Lib.hid (Blk.far T1.out (p := ⟨gC, 3, none⟩) hneT' (.slice s1.A s1.n s1.c))
  have L5 := Lib.hid (Blk.far L1.out (p := ⟨gC, 3, none⟩) (Blk.ne HL.out HC.out (by decide)) (.slice s1.A s1.n s1.c))
  have LL5 := Lib.hid (Blk.far LL1.out (p := ⟨gC, 3, none⟩) (Blk.ne HLL.out HC.out (by decide)) (.slice s1.A s1.n s1.c))
  have M5 : Hid (Fresh (w5.setCell ⟨gC, 3, none⟩ (.slice s1.A s1.n s1.c)) P ga a) := Lib.hid ⟨Blk.far M3.out.1 (p := ⟨gC, 3, none⟩) hPC _, Blk.far M3.out.2 (p := ⟨gC, 3, none⟩) hgaC _⟩
  have O5 := Lib.hid (Only.set_ O1.out ⟨gC, 3, none⟩ (.inl (.inr (.inl rfl))) (.slice s1.A s1.n s1.c))
  clear hc5 hcf5 C1 T1 L1 LL1 P1 Q1 M3 O1 K1
  generalize w5.setCell ⟨gC, 3, none⟩ (.slice s1.A s1.n s1.c) = V5 at K5 C5 T5 L5 LL5 M5 O5 ⊢
  have hto : V5.cell? ⟨gT, o + 1, none⟩ = some (.iface 145 (.pointer (some ⟨P, 0, none⟩))) := (T5.out.cell (o + 1)).trans (by rw [Array.getElem?_setIfInBounds_ne (by omega), Array.getElem?_setIfInBounds_self_of_lt (by rw [Array.size_setIfInBounds]; exact HSZ.out)])
  have hm := method_next ⟨P, 0, none⟩
  go_wp2_with (go_at_call 153; go_must (refine (next_ask _ P ga a M5.out).mono ?_); rintro e w6 ⟨rfl, hm6, ho6⟩; go_must (have M6 := Lib.hid hm6; have C6 := Lib.hid (Blk.only C5.out ho6 (fun e => hPC e.symm)); have T6 := Lib.hid (Blk.only T5.out ho6 (fun e => hPT e.symm)); have L6 := Lib.hid (Blk.only L5.out ho6 (Blk.ne L5.out M5.out.1 (by decide))); have LL6 := Lib.hid (Blk.only LL5.out ho6 (Blk.ne LL5.out M5.out.1 (by decide))); have K6 := Lib.hid (K5.out.only ho6 (K5.out.ne M5.out.1 (by decide))); have HKT := Lib.hid (Row.ne K5.out T5.out (by decide)); have O6 := Lib.hid (O5.out.next ho6 (fun k hk hg => (by have := hP0.out; omega))); clear hm6 ho6 hto; have hft := T6.out.frozen; have ht3 := (T6.out.cell (o + 3)).trans ((Array.getElem?_setIfInBounds_ne (by omega)).trans ((Array.getElem?_setIfInBounds_ne (by omega)).trans ((Array.getElem?_setIfInBounds_ne (by omega)).trans HE3.out))); have ht4 := (T6.out.cell (o + 4)).trans ((Array.getElem?_setIfInBounds_ne (by omega)).trans ((Array.getElem?_setIfInBounds_ne (by omega)).trans ((Array.getElem?_setIfInBounds_ne (by omega)).trans HE4.out))); have ht5 := (T6.out.cell (o + 5)).trans ((Array.getElem?_setIfInBounds_ne (by omega)).trans ((Array.getElem?_setIfInBounds_ne (by omega)).trans ((Array.getElem?_setIfInBounds_ne (by omega)).trans HE5.out))); have ht6 := (T6.out.cell (o + 6)).trans ((Array.getElem?_setIfInBounds_ne (by omega)).trans ((Array.getElem?_setIfInBounds_ne (by omega)).trans ((Array.getElem?_setIfInBounds_ne (by omega)).trans HE6.out))); have ht7 := (T6.out.cell (o + 7)).trans ((Array.getElem?_setIfInBounds_ne (by omega)).trans ((Array.getElem?_setIfInBounds_ne (by omega)).trans ((Array.getElem?_setIfInBounds_ne (by omega)).trans HE7.out))); have ht8 := (T6.out.cell (o + 8)).trans ((Array.getElem?_setIfInBounds_ne (by omega)).trans ((Array.getElem?_setIfInBounds_ne (by omega)).trans ((Array.getElem?_setIfInBounds_ne (by omega)).trans HE8.out)))))
  go_end0
  have K7 : Hid (Row ((((((w6.setCell ⟨gT, (o + 3), none⟩ (.int .i64 a.d)).setCell ⟨gT, (o + 4), none⟩ (.int .i64 a.ar)).setCell ⟨gT, (o + 5), none⟩ (.int .i64 a.at_)).setCell ⟨gT, (o + 6), none⟩ (.int .u64 a.old)).setCell ⟨gT, (o + 7), none⟩ (.int .u64 a.new)).setCell ⟨gT, (o + 8), none⟩ (.bool true)) base 67 7 s1 (nK + 1) (xs ++ [.int .i64 i, .int .i64 0, .int .u32 0, .int .i64 sS.n, .int .i64 (-1), .int .i64 0, .int .u32 0])) := Lib.hid ((Row.kept (w' := ((((((w6.setCell ⟨gT, (o + 3), none⟩ (.int .i64 a.d)).setCell ⟨gT, (o + 4), none⟩ (.int .i64 a.ar)).setCell ⟨gT, (o + 5), none⟩ (.int .i64 a.at_)).setCell ⟨gT, (o + 6), none⟩ (.int .u64 a.old)).setCell ⟨gT, (o + 7), none⟩ (.int .u64 a.new)).setCell ⟨gT, (o + 8), none⟩ (.bool true))) (Row.kept (w' := (((((w6.setCell ⟨gT, (o + 3), none⟩ (.int .i64 a.d)).setCell ⟨gT, (o + 4), none⟩ (.int .i64 a.ar)).setCell ⟨gT, (o + 5), none⟩ (.int .i64 a.at_)).setCell ⟨gT, (o + 6), none⟩ (.int .u64 a.old)).setCell ⟨gT, (o + 7), none⟩ (.int .u64 a.new))) (Row.kept (w' := ((((w6.setCell ⟨gT, (o + 3), none⟩ (.int .i64 a.d)).setCell ⟨gT, (o + 4), none⟩ (.int .i64 a.ar)).setCell ⟨gT, (o + 5), none⟩ (.int .i64 a.at_)).setCell ⟨gT, (o + 6), none⟩ (.int .u64 a.old))) (Row.kept (w' := (((w6.setCell ⟨gT, (o + 3), none⟩ (.int .i64 a.d)).setCell ⟨gT, (o + 4), none⟩ (.int .i64 a.ar)).setCell ⟨gT, (o + 5), none⟩ (.int .i64 a.at_))) (Row.kept (w' := ((w6.setCell ⟨gT, (o + 3), none⟩ (.int .i64 a.d)).setCell ⟨gT, (o + 4), none⟩ (.int .i64 a.ar))) (Row.kept (w' := (w6.setCell ⟨gT, (o + 3), none⟩ (.int .i64 a.d))) K6.out (fun g hg => Below.heap_setCell _ _ _ _ (HKT.out g hg))) (fun g hg => Below.heap_setCell _ _ _ _ (HKT.out g hg))) (fun g hg => Below.heap_setCell _ _ _ _ (HKT.out g hg))) (fun g hg => Below.heap_setCell _ _ _ _ (HKT.out g hg))) (fun g hg => Below.heap_setCell _ _ _ _ (HKT.out g hg))) (fun g hg => Below.heap_setCell _ _ _ _ (HKT.out g hg))))
  have C7 : Hid (Blk ((((((w6.setCell ⟨gT, (o + 3), none⟩ (.int .i64 a.d)).setCell ⟨gT, (o + 4), none⟩ (.int .i64 a.ar)).setCell ⟨gT, (o + 5), none⟩ (.int .i64 a.at_)).setCell ⟨gT, (o + 6), none⟩ (.int .u64 a.old)).setCell ⟨gT, (o + 7), none⟩ (.int .u64 a.new)).setCell ⟨gT, (o + 8), none⟩ (.bool true)) gC 132 #[.func (.func 52) #[] #[.pointer (some ⟨gL, 0, none⟩)], .slice th.A th.n th.c, .slice sS.A sS.n sS.c, .slice s1.A s1.n s1.c, .int .u64 r.e, .int .u64 r.f, .slice r.L.A r.L.n r.L.c, .slice r.P.A r.P.n r.P.c, .int .u64 r.h, .int .u64 r.t, .slice r.K.A r.K.n r.K.c, .slice r.X.A r.X.n r.X.c, .slice r.S.A r.S.n r.S.c]) := Lib.hid ((Blk.far (Blk.far (Blk.far (Blk.far (Blk.far (Blk.far C6.out (p := ⟨gT, (o + 3), none⟩) hneT (.int .i64 a.d)) (p := ⟨gT, (o + 4), none⟩) hneT (.int .i64 a.ar)) (p := ⟨gT, (o + 5), none⟩) hneT (.int .i64 a.at_)) (p := ⟨gT, (o + 6), none⟩) hneT (.int .u64 a.old)) (p := ⟨gT, (o + 7), none⟩) hneT (.int .u64 a.new)) (p := ⟨gT, (o + 8), none⟩) hneT (.bool true)))
  have L7 := Lib.hid ((Blk.far (Blk.far (Blk.far (Blk.far (Blk.far (Blk.far L6.out (p := ⟨gT, (o + 3), none⟩) hneTL (.int .i64 a.d)) (p := ⟨gT, (o + 4), none⟩) hneTL (.int .i64 a.ar)) (p := ⟨gT, (o + 5), none⟩) hneTL (.int .i64 a.at_)) (p := ⟨gT, (o + 6), none⟩) hneTL (.int .u64 a.old)) (p := ⟨gT, (o + 7), none⟩) hneTL (.int .u64 a.new)) (p := ⟨gT, (o + 8), none⟩) hneTL (.bool true)))
  have LL7 := Lib.hid ((Blk.far (Blk.far (Blk.far (Blk.far (Blk.far (Blk.far LL6.out (p := ⟨gT, (o + 3), none⟩) hneTLL (.int .i64 a.d)) (p := ⟨gT, (o + 4), none⟩) hneTLL (.int .i64 a.ar)) (p := ⟨gT, (o + 5), none⟩) hneTLL (.int .i64 a.at_)) (p := ⟨gT, (o + 6), none⟩) hneTLL (.int .u64 a.old)) (p := ⟨gT, (o + 7), none⟩) hneTLL (.int .u64 a.new)) (p := ⟨gT, (o + 8), none⟩) hneTLL (.bool true)))
  have M7 : Hid (Waits ((((((w6.setCell ⟨gT, (o + 3), none⟩ (.int .i64 a.d)).setCell ⟨gT, (o + 4), none⟩ (.int .i64 a.ar)).setCell ⟨gT, (o + 5), none⟩ (.int .i64 a.at_)).setCell ⟨gT, (o + 6), none⟩ (.int .u64 a.old)).setCell ⟨gT, (o + 7), none⟩ (.int .u64 a.new)).setCell ⟨gT, (o + 8), none⟩ (.bool true)) P ga a) := Lib.hid ⟨(Blk.far (Blk.far (Blk.far (Blk.far (Blk.far (Blk.far M6.out.1 (p := ⟨gT, (o + 3), none⟩) hPT (.int .i64 a.d)) (p := ⟨gT, (o + 4), none⟩) hPT (.int .i64 a.ar)) (p := ⟨gT, (o + 5), none⟩) hPT (.int .i64 a.at_)) (p := ⟨gT, (o + 6), none⟩) hPT (.int .u64 a.old)) (p := ⟨gT, (o + 7), none⟩) hPT (.int .u64 a.new)) (p := ⟨gT, (o + 8), none⟩) hPT (.bool true)), (Blk.far (Blk.far (Blk.far (Blk.far (Blk.far (Blk.far M6.out.2 (p := ⟨gT, (o + 3), none⟩) hgaT (.int .i64 a.d)) (p := ⟨gT, (o + 4), none⟩) hgaT (.int .i64 a.ar)) (p := ⟨gT, (o + 5), none⟩) hgaT (.int .i64 a.at_)) (p := ⟨gT, (o + 6), none⟩) hgaT (.int .u64 a.old)) (p := ⟨gT, (o + 7), none⟩) hgaT (.int .u64 a.new)) (p := ⟨gT, (o + 8), none⟩) hgaT (.bool true))⟩
  have T7 := Lib.hid ((Blk.set_ (Blk.set_ (Blk.set_ (Blk.set_ (Blk.set_ (Blk.set_ T6.out (o + 3) (.int .i64 a.d)) (o + 4) (.int .i64 a.ar)) (o + 5) (.int .i64 a.at_)) (o + 6) (.int .u64 a.old)) (o + 7) (.int .u64 a.new)) (o + 8) (.bool true)))
  have O7 := Lib.hid ((Only.set_ (Only.set_ (Only.set_ (Only.set_ (Only.set_ (Only.set_ O6.out ⟨gT, (o + 3), none⟩ (.inl (.inl (.inl rfl))) (.int .i64 a.d)) ⟨gT, (o + 4), none⟩ (.inl (.inl (.inl rfl))) (.int .i64 a.ar)) ⟨gT, (o + 5), none⟩ (.inl (.inl (.inl rfl))) (.int .i64 a.at_)) ⟨gT, (o + 6), none⟩ (.inl (.inl (.inl rfl))) (.int .u64 a.old)) ⟨gT, (o + 7), none⟩ (.inl (.inl (.inl rfl))) (.int .u64 a.new)) ⟨gT, (o + 8), none⟩ (.inl (.inl (.inl rfl))) (.bool true)))
  have hA := HA.out
  subst hA
  exact ⟨P, ga, s1, rfl, C7.out, T7.out, M7.out, K7.out, L7.out, LL7.out, O7.out, hP0.out, hga0.out⟩
end Go.Proofs.Ytjgbgjkjnlaloaa.Drivec
