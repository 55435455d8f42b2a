/- A part of the proof. -/
import Derived.StillTailTactics
import Derived.Deep.QuietTactic
import Derived.BigQuiet
import Derived.Deep.DeepCutAuto
import Derived.Test.YtffppdcpiieapaaGreatP5
import Derived.Test.YtffppdcpiieapaaGreatP14
import Derived.Test.YtffppdcpiieapaaGreatP22
import Derived.Test.YtffppdcpiieapaaGreatP32
namespace Go.Proofs.YtffppdcpiieapaaGreat.Machc
open Go.RowKit Memc Newc Drivec Procc Refc
set_option linter.unusedVariables false
set_option maxRecDepth 100000

set_option maxHeartbeats 2000000 in
theorem run3_no (w : World) (k K T M : Int) (sA : Option Addr) (sn sc : Nat) (p : Sl) (ns : List Nat) (h : Drivec.Lens w ⟨sA, sn, sc⟩ ns) (hps : p.n <= maxLen)
   (hno : ¬ ((Cfg.mk k K T M).may /\ (sn : Int) = T /\ ns.any (fun x => decide (1000 < x)) = false /\ p.n <= 20000)) :
   Calls Tryz.prog 22 #[.agg #[.int .i64 k, .int .i64 K, .int .i64 T, .int .i64 M], .slice sA sn sc, .slice p.A p.n p.c] w fun e w' => e = .returned (.tuple #[.agg #[.slice none 0 0, .slice none 0 0, .int .u64 0, .int .u64 0, .slice none 0 0, .slice none 0 0, .int .u64 0, .int .u64 0, .slice none 0 0, .slice none 0 0, .slice none 0 0], .bool false]) /\ Below w.heap.size w w' := by
 have W0 : Hid (Below w.heap.size w ((w.alloc (.cells #[.int .i64 k, .int .i64 K, .int .i64 T, .int .i64 M] 23)).alloc (.cells zT 35))) := lh (((Below.refl _ _).alloc (Nat.le_refl _) _).alloc (by simp) _)
 have C0 : Hid (Blk ((w.alloc (.cells #[.int .i64 k, .int .i64 K, .int .i64 T, .int .i64 M] 23)).alloc (.cells zT 35)) w.heap.size 23 #[.int .i64 k, .int .i64 K, .int .i64 T, .int .i64 M]) := lh ((Blk.new _ _ _).alloc _)
 have Y0 : Hid (Blk ((w.alloc (.cells #[.int .i64 k, .int .i64 K, .int .i64 T, .int .i64 M] 23)).alloc (.cells zT 35)) (w.heap.size + 1) 35 #[.slice none 0 0, .slice none 0 0, .int .u64 0, .int .u64 0, .slice none 0 0, .slice none 0 0, .int .u64 0, .int .u64 0, .slice none 0 0, .slice none 0 0, .slice none 0 0]) := lh (blk_at (by simp))
 have HLN := lh h
 obtain ⟨m, hmm, hml⟩ : ∃ m : Nat, (m <= 1000 ↔ ∀ y ∈ ns, y <= 1000) /\ ∀ W, Below w.heap.size w W -> Calls Tryz.prog 45 #[.slice sA sn sc] W fun e w' => e = .returned (.int .i64 m) /\ W = w' := ⟨mostN ns 0, by rw [most_le]; simp, fun W hW => longest_c W _ _ _ _ (HLN.out.below hW)⟩
 have HML := lh hml
 have HN2 : Hid (¬ ((Cfg.mk k K T M).may /\ (sn : Int) = T /\ (m : Int) <= 1000 /\ p.n <= 20000)) := lh (fun hx => hno ⟨hx.1, hx.2.1, any_all.2 (hmm.1 (by have := hx.2.2.1; omega)), hx.2.2.2⟩)
 have hsc := h.2.1
 have hscm := h.2.2.1
 simp only at hsc hscm
 have hsn2 : (sn : Int) <= 9223372036854775807 := by unfold maxLen at hscm; omega
 have hp2 : (p.n : Int) <= 9223372036854775807 := by unfold maxLen at hps; omega
 clear h hno hps hsc hscm hml hmm
 go_enter Tryz.func22, Tryz.ntmps22
 go_upto_region 1 with fail
 generalize ((w.alloc (.cells #[.int .i64 k, .int .i64 K, .int .i64 T, .int .i64 M] 23)).alloc (.cells zT 35)) = V at W0 C0 Y0 ⊢
 have hcc := C0.out.cell
 refine wp_region_still_tail 6 (by kernel_rfl) (by kernel_rfl) ?_
 simp only [List.take_succ_cons, List.take_zero, List.drop_succ_cons, List.drop_zero]
 repeat (first
   | still_step
   | (refine wpStill_step (fun K hK => ?_); go_simp; refine ⟨_, still_of (HML.out _ (below_drawn W0.out 1)), hK _ ?_⟩; clear hK K))
 refine wpStill_nil ?_
 change wpList _ _ _ _ _ V.drew
 have W0 : Hid (Below w.heap.size w V.drew) := lh (below_drawn W0.out 1)
 have Y0 := lh Y0.out.drew
 clear hcc C0
 generalize V.drew = V at W0 Y0 ⊢
 go_wp2_with (go_at_call 44; (with_reducible refine (may3_no _ k K T M sn m p HN2.out).mono ?_); rintro e w1 ⟨rfl, hb⟩; go_must (have W1 := lh (W0.out.trans (hb.mono W0.out.size)); have Y1 := lh (Y0.out.below hb Y0.out.lt)); have hy1 := Y1.out.cell; have hyf := Y1.out.frozen; clear hb)
 have Y9 := lh (blk_tr Y1.out)
 have B9 : Hid (Below w.heap.size w (((((((((((w1.setCell ⟨w.heap.size + 1, 0, none⟩ (.slice none 0 0)).setCell ⟨w.heap.size + 1, 1, none⟩ (.slice none 0 0)).setCell ⟨w.heap.size + 1, 2, none⟩ (.int .u64 0)).setCell ⟨w.heap.size + 1, 3, none⟩ (.int .u64 0)).setCell ⟨w.heap.size + 1, 4, none⟩ (.slice none 0 0)).setCell ⟨w.heap.size + 1, 5, none⟩ (.slice none 0 0)).setCell ⟨w.heap.size + 1, 6, none⟩ (.int .u64 0)).setCell ⟨w.heap.size + 1, 7, none⟩ (.int .u64 0)).setCell ⟨w.heap.size + 1, 8, none⟩ (.slice none 0 0)).setCell ⟨w.heap.size + 1, 9, none⟩ (.slice none 0 0)).setCell ⟨w.heap.size + 1, 10, none⟩ (.slice none 0 0))) := lh (Below.setCell (Below.setCell (Below.setCell (Below.setCell (Below.setCell (Below.setCell (Below.setCell (Below.setCell (Below.setCell (Below.setCell (Below.setCell W1.out (p := ⟨w.heap.size + 1, 0, none⟩) (show w.heap.size <= w.heap.size + 1 by omega) (.slice none 0 0)) (p := ⟨w.heap.size + 1, 1, none⟩) (show w.heap.size <= w.heap.size + 1 by omega) (.slice none 0 0)) (p := ⟨w.heap.size + 1, 2, none⟩) (show w.heap.size <= w.heap.size + 1 by omega) (.int .u64 0)) (p := ⟨w.heap.size + 1, 3, none⟩) (show w.heap.size <= w.heap.size + 1 by omega) (.int .u64 0)) (p := ⟨w.heap.size + 1, 4, none⟩) (show w.heap.size <= w.heap.size + 1 by omega) (.slice none 0 0)) (p := ⟨w.heap.size + 1, 5, none⟩) (show w.heap.size <= w.heap.size + 1 by omega) (.slice none 0 0)) (p := ⟨w.heap.size + 1, 6, none⟩) (show w.heap.size <= w.heap.size + 1 by omega) (.int .u64 0)) (p := ⟨w.heap.size + 1, 7, none⟩) (show w.heap.size <= w.heap.size + 1 by omega) (.int .u64 0)) (p := ⟨w.heap.size + 1, 8, none⟩) (show w.heap.size <= w.heap.size + 1 by omega) (.slice none 0 0)) (p := ⟨w.heap.size + 1, 9, none⟩) (show w.heap.size <= w.heap.size + 1 by omega) (.slice none 0 0)) (p := ⟨w.heap.size + 1, 10, none⟩) (show w.heap.size <= w.heap.size + 1 by omega) (.slice none 0 0))
 clear hy1 hyf
 generalize (((((((((((w1.setCell ⟨w.heap.size + 1, 0, none⟩ (.slice none 0 0)).setCell ⟨w.heap.size + 1, 1, none⟩ (.slice none 0 0)).setCell ⟨w.heap.size + 1, 2, none⟩ (.int .u64 0)).setCell ⟨w.heap.size + 1, 3, none⟩ (.int .u64 0)).setCell ⟨w.heap.size + 1, 4, none⟩ (.slice none 0 0)).setCell ⟨w.heap.size + 1, 5, none⟩ (.slice none 0 0)).setCell ⟨w.heap.size + 1, 6, none⟩ (.int .u64 0)).setCell ⟨w.heap.size + 1, 7, none⟩ (.int .u64 0)).setCell ⟨w.heap.size + 1, 8, none⟩ (.slice none 0 0)).setCell ⟨w.heap.size + 1, 9, none⟩ (.slice none 0 0)).setCell ⟨w.heap.size + 1, 10, none⟩ (.slice none 0 0)) = W9 at Y9 B9 ⊢
 refine bodyPost_ret (results_cell2 (a := 6) (b := 7) Tryz.results22 rfl (resTr Y9.out rfl)) rfl ?_
 exact ⟨rfl, B9.out⟩
def kindOk (a b m : Int) (o : Int × Int) : Bool := decide (a <= o.1) && decide (o.1 <= b) && decide (o.2 <= m)
def AllL (a b m : Int) (l : List (Int × Int)) (n : Nat) : Prop := ∀ (q : Nat) (x : Int × Int), q < n -> l[q]? = some x -> kindOk a b m x = true
def AllK (a b m : Int) (ls : List (List (Int × Int))) (j : Nat) : Prop := ∀ (q : Nat) (l : List (Int × Int)), q < j -> ls[q]? = some l -> l.all (kindOk a b m) = true
end Go.Proofs.YtffppdcpiieapaaGreat.Machc

namespace Go.Proofs.YtffppdcpiieapaaGreat.Machc
open Go.RowKit Memc Newc Drivec Procc Refc
set_option linter.unusedVariables false
set_option maxRecDepth 100000

def fewN : List Nat -> Int -> Int
 | [], x => x
 | n :: ns, x => if x <= 400 then fewN ns (wrap64 (x + n)) else x
theorem fewN_many : ∀ (ns : List Nat) (x : Int), ¬ x <= 400 -> fewN ns x = x
 | [], x, _ => rfl
 | n :: ns, x, h => if_neg h
theorem fewN_step {ns : List Nat} {j n : Nat} {x : Int} (hn : ns[j]? = some n) (h : x <= 400) : fewN (ns.drop j) x = fewN (ns.drop (j + 1)) (wrap64 (x + n)) := by
 rw [List.drop_eq_getElem_cons (List.getElem?_eq_some_iff.1 hn).1, (List.getElem?_eq_some_iff.1 hn).2]
 exact if_pos h
def fewB (ns : List Nat) (sn pn : Nat) : Bool := decide (fewN ns sn <= 400) && decide ((pn : Int) <= 1000)
set_option maxHeartbeats 4000000 in
theorem few_c (w : World) (sA : Option Addr) (sn sc : Nat) (pA : Option Addr) (pn pc : Nat) (ns : List Nat) (h : Lens w ⟨sA, sn, sc⟩ ns) (hp : pn <= maxLen) :
   Calls Tryz.prog 5 #[.slice sA sn sc, .slice pA pn pc, .int .i64 1000] w fun e w' => e = .returned (.bool (fewB ns sn pn)) /\ w = w' := by
 have HLN := lh h
 have hs2 : (sn : Int) <= 9223372036854775807 := by have h1 := h.2.1; have h2 := h.2.2.1; simp only at h1 h2; unfold maxLen at h2; omega
 have hp2 : (pn : Int) <= 9223372036854775807 := by unfold maxLen at hp; omega
 clear h hp
 go_enter Tryz.func5, Tryz.ntmps5
 go_wp2
 go_loopw [7, 8] (fun n i wr => ∃ (j : Nat) (x : Int), n = .int .i64 x /\ i = .int .i64 j /\ j <= sn /\ -9223372036854775808 <= x /\ x <= 9223372036854775807 /\ fewN (ns.drop j) x = fewN ns sn /\ wr = w) (fun _ i _ => sn - (intOf i).toNat)
 case atStart => exact ⟨0, sn, rfl, rfl, Nat.zero_le _, by omega, hs2, by rw [List.drop_zero], rfl⟩
 case round =>
 obtain ⟨j, x, rfl, rfl, hj, x1, x2, hfw, hw⟩ := hrel
 have HFW := lh hfw
 clear hfw
 have hw := hw.symm
 subst hw
 by_cases hlt : j < sn
 · have i1 : (j : Int) < sn := by omega
   by_cases hx4 : x <= 400
   · obtain ⟨b', off', hA, hbB, hcc⟩ := HLN.out.2.2.2.2 (by show 0 < sn; omega)
     simp only at hA
     subst hA
     obtain ⟨n, hn⟩ : ∃ n, ns[j]? = some n := ⟨_, List.getElem?_eq_getElem (by have := HLN.out.1; simp only at this; omega)⟩
     obtain ⟨q, hqn, hq1⟩ := hcc j n hn
     have i0 : (0 : Int) <= j := by omega
     have HN := lh hn
     have HQN := lh hqn
     clear hcc hn hqn
     go_wp2
     go_roundw
     case rel => exact ⟨j + 1, wrap64 (x + q.n), rfl, by go_num, by omega, by unfold wrap64; omega, by unfold wrap64; omega, (by rw [HQN.out, <- fewN_step HN.out hx4]; exact HFW.out), trivial⟩
     case measure => simp [intOf]; omega
   · have HX : Hid (fewN ns sn = x) := lh (by rw [<- HFW.out, fewN_many _ _ hx4])
     by_cases hp4 : (pn : Int) <= 1000
     all_goals
       go_wp2
       go_ret
       refine ⟨?_, rfl⟩
       unfold fewB
       rw [HX.out, decide_eq_false (show ¬ x <= 400 by omega)]
       rfl
 · have i1 : ¬ (j : Int) < sn := by omega
   have HX : Hid (fewN ns sn = x) := lh (by
     have h1 := HFW.out
     rw [List.drop_eq_nil_of_le (by have := HLN.out.1; simp only at this; omega)] at h1
     exact h1.symm)
   by_cases hx4 : x <= 400
   · by_cases hp4 : (pn : Int) <= 1000
     · go_wp2
       go_ret
       refine ⟨?_, rfl⟩
       unfold fewB
       rw [HX.out, decide_eq_true hx4, decide_eq_true hp4]
       rfl
     · go_wp2
       go_ret
       refine ⟨?_, rfl⟩
       unfold fewB
       rw [HX.out, decide_eq_true hx4, decide_eq_false (show ¬ (pn : Int) <= 1000 by omega)]
       rfl
   · by_cases hp4 : (pn : Int) <= 1000
     all_goals
       go_wp2
       go_ret
       refine ⟨?_, rfl⟩
       unfold fewB
       rw [HX.out, decide_eq_false (show ¬ x <= 400 by omega)]
       rfl
def No4 (w : World) (e : Ending) (w' : World) : Prop := e = .returned (.tuple #[.agg #[.slice none 0 0, .slice none 0 0, .int .u64 0, .int .u64 0, .slice none 0 0, .slice none 0 0, .int .u64 0, .int .u64 0, .slice none 0 0, .slice none 0 0, .slice none 0 0], .bool false]) /\ Below w.heap.size w w'
end Go.Proofs.YtffppdcpiieapaaGreat.Machc

namespace Go.Proofs.YtffppdcpiieapaaGreat.Machc
open Go.RowKit Memc Newc Drivec Procc Refc Arenac
set_option linter.unusedVariables false
set_option maxRecDepth 100000

def NoL (ls : List (List (Int × Int))) (j : Nat) : Prop := ∀ (q : Nat) (l : List (Int × Int)), q < j -> ls[q]? = some l -> fgnL l = false
def NoO (l : List (Int × Int)) (n : Nat) : Prop := ∀ (q : Nat) (x : Int × Int), q < n -> l[q]? = some x -> fgnE x = false
theorem fgnE_no {kd vl : Int} (h : fgnE (kd, vl) = false) : kd = 3 \/ (¬ kd = 3 /\ 6 <= kd /\ kd <= 8) := by
 by_cases h3 : kd = 3
 · exact .inl h3
 · refine .inr ⟨h3, ?_⟩
   by_cases h6 : kd = 6
   · omega
   · by_cases h7 : kd = 7
     · omega
     · by_cases h8 : kd = 8
       · omega
       · exfalso
         have e : fgnE (kd, vl) = true := by simp [fgnE, h3, h6, h7, h8]
         rw [e] at h
         cases h
theorem fgnE_yes {kd vl : Int} (h : fgnE (kd, vl) = true) : ¬ kd = 3 /\ (kd < 6 \/ 8 < kd) := by
 simp only [fgnE, Bool.and_eq_true, Bool.not_eq_true', beq_eq_false_iff_ne, ne_eq] at h
 omega
theorem NoO.all {l : List (Int × Int)} (h : NoO l l.length) : fgnL l = false := List.any_eq_false.2 (fun x hx => by
 obtain ⟨m, hm, rfl⟩ := List.getElem_of_mem hx
 rw [h m _ hm (List.getElem?_eq_getElem hm)]
 decide)
theorem NoL.all {ls : List (List (Int × Int))} (h : NoL ls ls.length) : ls.any fgnL = false := List.any_eq_false.2 (fun x hx => by
 obtain ⟨m, hm, rfl⟩ := List.getElem_of_mem hx
 rw [h m _ hm (List.getElem?_eq_getElem hm)]
 decide)
theorem NoO.snoc {l : List (Int × Int)} {n : Nat} {x : Int × Int} (h : NoO l n) (hx : l[n]? = some x) (hf : fgnE x = false) : NoO l (n + 1) := fun q y hq hy => by
 by_cases hqn : q = n
 · subst hqn
   rw [hx] at hy
   injection hy with hy
   rw [<- hy]
   exact hf
 · exact h q y (by omega) hy
theorem NoL.snoc {ls : List (List (Int × Int))} {n : Nat} {x : List (Int × Int)} (h : NoL ls n) (hx : ls[n]? = some x) (hf : fgnL x = false) : NoL ls (n + 1) := fun q y hq hy => by
 by_cases hqn : q = n
 · subst hqn
   rw [hx] at hy
   injection hy with hy
   rw [<- hy]
   exact hf
 · exact h q y (by omega) hy
set_option maxHeartbeats 4000000 in
theorem ref5_no (w : World) (k K T M : Int) (sA : Option Addr) (sn sc : Nat) (p : Sl) (ls : List (List (Int × Int))) (h : RdLO w w.heap.size ⟨sA, sn, sc⟩ ls) (hps : p.n <= maxLen)
   (hno : ls.any fgnL = true \/ ¬ ((Cfg.mk k K T M).may /\ (sn : Int) = T /\ (ls.map List.length).any (fun x => decide (1000 < x)) = false /\ p.n <= 20000)) :
   Calls Tryz.prog 7 #[.agg #[.int .i64 k, .int .i64 K, .int .i64 T, .int .i64 M], .slice sA sn sc, .slice p.A p.n p.c] w (No4 w) := by
 have W0 : Hid (Below w.heap.size w ((w.alloc (.cells #[.int .i64 k, .int .i64 K, .int .i64 T, .int .i64 M] 23)).alloc (.cells zT 35))) := lh (((Below.refl _ _).alloc (Nat.le_refl _) _).alloc (by simp) _)
 have C0 : Hid (Blk ((w.alloc (.cells #[.int .i64 k, .int .i64 K, .int .i64 T, .int .i64 M] 23)).alloc (.cells zT 35)) w.heap.size 23 #[.int .i64 k, .int .i64 K, .int .i64 T, .int .i64 M]) := lh ((Blk.new _ _ _).alloc _)
 have Y0 : Hid (Blk ((w.alloc (.cells #[.int .i64 k, .int .i64 K, .int .i64 T, .int .i64 M] 23)).alloc (.cells zT 35)) (w.heap.size + 1) 35 #[.slice none 0 0, .slice none 0 0, .int .u64 0, .int .u64 0, .slice none 0 0, .slice none 0 0, .int .u64 0, .int .u64 0, .slice none 0 0, .slice none 0 0, .slice none 0 0]) := lh (blk_at (by simp))
 have HL := lh h
 have HLN : Hid (Drivec.Lens w ⟨sA, sn, sc⟩ (ls.map List.length)) := lh (RdLO.lens h (Nat.le_refl _))
 have HPS := lh hps
 have HNO := lh hno
 have hls : sn = ls.length := h.1
 have hsc := h.2.1
 have hscm := h.2.2.1
 simp only at hsc hscm
 have hsn2 : (sn : Int) <= 9223372036854775807 := by unfold maxLen at hscm; omega
 have HLS := lh hls
 clear h hps hno hsc hscm hls
 go_enter Tryz.func7, Tryz.ntmps7
 go_upto_region 1 with fail
 generalize ((w.alloc (.cells #[.int .i64 k, .int .i64 K, .int .i64 T, .int .i64 M] 23)).alloc (.cells zT 35)) = w1 at W0 C0 Y0 ⊢
 have HH : Hid (RdLO w1 w.heap.size ⟨sA, sn, sc⟩ ls) := lh (HL.out.below W0.out)
 have hy1 := Y0.out.cell
 have hyf := Y0.out.frozen
 go_wp2_with fail
 go_loopw [8] (fun i wr => ∃ j : Nat, i = .int .i64 j /\ j <= sn /\ NoL ls j /\ wr = w1) (fun i _ => sn - (intOf i).toNat)
 case atStart => exact ⟨0, rfl, Nat.zero_le _, fun q l hq => absurd hq (Nat.not_lt_zero _), rfl⟩
 case round =>
 obtain ⟨j, rfl, hj, hall, hw⟩ := hrel
 have hw := hw.symm
 subst hw
 have HA := lh hall
 clear hall
 have i0 : (0 : Int) <= j := by omega
 by_cases hlt : j < sn
 · obtain ⟨b1, off1, hA, hbz, hc⟩ := HH.out.2.2.2 (by show 0 < sn; omega)
   simp only at hA
   subst hA
   obtain ⟨l, hl⟩ : ∃ l, ls[j]? = some l := ⟨_, List.getElem?_eq_getElem (by have := HLS.out; omega)⟩
   obtain ⟨⟨qA, qn, qc⟩, hq1, hq2⟩ := hc j l hl
   have hqn : qn = l.length := hq2.1
   subst hqn
   simp only at hq1
   have HQ := lh hq2
   have HLL := lh hl
   have i1 : (j : Int) < sn := by omega
   have hqb := hq2.2.1
   have hqb2 := hq2.2.2.1
   simp only at hqb hqb2
   have hln2 : (l.length : Int) <= 9223372036854775807 := by unfold maxLen at hqb2; omega
   clear hc hq2 hl hqb hqb2
   go_upto_region 5 with fail
   go_loopw [9] (fun i wr => ∃ n : Nat, i = .int .i64 n /\ n <= l.length /\ NoO l n /\ wr = w1) (fun i _ => l.length - (intOf i).toNat)
   case atStart => exact ⟨0, rfl, Nat.zero_le _, fun q x hq => absurd hq (Nat.not_lt_zero _), rfl⟩
   case round =>
   obtain ⟨n, rfl, hn, hall, hw⟩ := hrel
   have hw := hw.symm
   subst hw
   have HB := lh hall
   clear hall
   have n0 : (0 : Int) <= n := by omega
   by_cases hnl : n < l.length
   · obtain ⟨b2, off2, hA2, hbz2, hc2⟩ := HQ.out.2.2.2 (by show 0 < l.length; omega)
     simp only at hA2
     subst hA2
     obtain ⟨x, hx⟩ : ∃ x, l[n]? = some x := ⟨_, List.getElem?_eq_getElem hnl⟩
     obtain ⟨hx0, hx1⟩ := hc2 n x hx
     have HX := lh hx
     obtain ⟨kd, vl⟩ := x
     simp only at hx0 hx1
     have n1 : (n : Int) < l.length := by omega
     clear hc2 hx
     rcases hf : fgnE (kd, vl) with _ | _
     · rcases fgnE_no hf with h3 | ⟨h3, h6, h8⟩
       · have HF := lh hf
         clear hf
         have e3 : (kd != 3) = false := by rw [h3]; rfl
         go_wp2
         go_roundw
         case rel => first | exact ⟨n + 1, by go_num, by omega, HB.out.snoc HX.out HF.out, trivial⟩ | exact ⟨n + 1, by go_num, by omega, HB.out.snoc HX.out HF.out⟩
         case measure => simp [intOf]; omega
       · have HF := lh hf
         clear hf
         have e3 : (kd != 3) = true := by simpa using h3
         have e6 : ¬ kd < 6 := by omega
         have e8 : ¬ 8 < kd := by omega
         go_wp2
         go_roundw
         case rel => first | exact ⟨n + 1, by go_num, by omega, HB.out.snoc HX.out HF.out, trivial⟩ | exact ⟨n + 1, by go_num, by omega, HB.out.snoc HX.out HF.out⟩
         case measure => simp [intOf]; omega
     · have HF := lh hf
       obtain ⟨h3, h68⟩ := fgnE_yes hf
       clear hf hnl hlt
       have e3 : (kd != 3) = true := by simpa using h3
       rcases h68 with h6 | h8
       · go_wp2
         have Y1 := Y0
         have W1 := W0
         have Y9 := lh (blk_tr Y1.out)
         have B9 : Hid (Below w.heap.size w (((((((((((w1.setCell ⟨w.heap.size + 1, 0, none⟩ (.slice none 0 0)).setCell ⟨w.heap.size + 1, 1, none⟩ (.slice none 0 0)).setCell ⟨w.heap.size + 1, 2, none⟩ (.int .u64 0)).setCell ⟨w.heap.size + 1, 3, none⟩ (.int .u64 0)).setCell ⟨w.heap.size + 1, 4, none⟩ (.slice none 0 0)).setCell ⟨w.heap.size + 1, 5, none⟩ (.slice none 0 0)).setCell ⟨w.heap.size + 1, 6, none⟩ (.int .u64 0)).setCell ⟨w.heap.size + 1, 7, none⟩ (.int .u64 0)).setCell ⟨w.heap.size + 1, 8, none⟩ (.slice none 0 0)).setCell ⟨w.heap.size + 1, 9, none⟩ (.slice none 0 0)).setCell ⟨w.heap.size + 1, 10, none⟩ (.slice none 0 0))) := lh (Below.setCell (Below.setCell (Below.setCell (Below.setCell (Below.setCell (Below.setCell (Below.setCell (Below.setCell (Below.setCell (Below.setCell (Below.setCell W1.out (p := ⟨w.heap.size + 1, 0, none⟩) (show w.heap.size <= w.heap.size + 1 by omega) (.slice none 0 0)) (p := ⟨w.heap.size + 1, 1, none⟩) (show w.heap.size <= w.heap.size + 1 by omega) (.slice none 0 0)) (p := ⟨w.heap.size + 1, 2, none⟩) (show w.heap.size <= w.heap.size + 1 by omega) (.int .u64 0)) (p := ⟨w.heap.size + 1, 3, none⟩) (show w.heap.size <= w.heap.size + 1 by omega) (.int .u64 0)) (p := ⟨w.heap.size + 1, 4, none⟩) (show w.heap.size <= w.heap.size + 1 by omega) (.slice none 0 0)) (p := ⟨w.heap.size + 1, 5, none⟩) (show w.heap.size <= w.heap.size + 1 by omega) (.slice none 0 0)) (p := ⟨w.heap.size + 1, 6, none⟩) (show w.heap.size <= w.heap.size + 1 by omega) (.int .u64 0)) (p := ⟨w.heap.size + 1, 7, none⟩) (show w.heap.size <= w.heap.size + 1 by omega) (.int .u64 0)) (p := ⟨w.heap.size + 1, 8, none⟩) (show w.heap.size <= w.heap.size + 1 by omega) (.slice none 0 0)) (p := ⟨w.heap.size + 1, 9, none⟩) (show w.heap.size <= w.heap.size + 1 by omega) (.slice none 0 0)) (p := ⟨w.heap.size + 1, 10, none⟩) (show w.heap.size <= w.heap.size + 1 by omega) (.slice none 0 0))
         clear hy1 hyf
         generalize (((((((((((w1.setCell ⟨w.heap.size + 1, 0, none⟩ (.slice none 0 0)).setCell ⟨w.heap.size + 1, 1, none⟩ (.slice none 0 0)).setCell ⟨w.heap.size + 1, 2, none⟩ (.int .u64 0)).setCell ⟨w.heap.size + 1, 3, none⟩ (.int .u64 0)).setCell ⟨w.heap.size + 1, 4, none⟩ (.slice none 0 0)).setCell ⟨w.heap.size + 1, 5, none⟩ (.slice none 0 0)).setCell ⟨w.heap.size + 1, 6, none⟩ (.int .u64 0)).setCell ⟨w.heap.size + 1, 7, none⟩ (.int .u64 0)).setCell ⟨w.heap.size + 1, 8, none⟩ (.slice none 0 0)).setCell ⟨w.heap.size + 1, 9, none⟩ (.slice none 0 0)).setCell ⟨w.heap.size + 1, 10, none⟩ (.slice none 0 0)) = W9 at Y9 B9 ⊢
         refine bodyPost_ret (results_cell2 (a := 6) (b := 7) Tryz.results7 rfl (resTr Y9.out rfl)) rfl ?_
         exact ⟨rfl, B9.out⟩
       · have e6 : ¬ kd < 6 := by omega
         go_wp2
         have Y1 := Y0
         have W1 := W0
         have Y9 := lh (blk_tr Y1.out)
         have B9 : Hid (Below w.heap.size w (((((((((((w1.setCell ⟨w.heap.size + 1, 0, none⟩ (.slice none 0 0)).setCell ⟨w.heap.size + 1, 1, none⟩ (.slice none 0 0)).setCell ⟨w.heap.size + 1, 2, none⟩ (.int .u64 0)).setCell ⟨w.heap.size + 1, 3, none⟩ (.int .u64 0)).setCell ⟨w.heap.size + 1, 4, none⟩ (.slice none 0 0)).setCell ⟨w.heap.size + 1, 5, none⟩ (.slice none 0 0)).setCell ⟨w.heap.size + 1, 6, none⟩ (.int .u64 0)).setCell ⟨w.heap.size + 1, 7, none⟩ (.int .u64 0)).setCell ⟨w.heap.size + 1, 8, none⟩ (.slice none 0 0)).setCell ⟨w.heap.size + 1, 9, none⟩ (.slice none 0 0)).setCell ⟨w.heap.size + 1, 10, none⟩ (.slice none 0 0))) := lh (Below.setCell (Below.setCell (Below.setCell (Below.setCell (Below.setCell (Below.setCell (Below.setCell (Below.setCell (Below.setCell (Below.setCell (Below.setCell W1.out (p := ⟨w.heap.size + 1, 0, none⟩) (show w.heap.size <= w.heap.size + 1 by omega) (.slice none 0 0)) (p := ⟨w.heap.size + 1, 1, none⟩) (show w.heap.size <= w.heap.size + 1 by omega) (.slice none 0 0)) (p := ⟨w.heap.size + 1, 2, none⟩) (show w.heap.size <= w.heap.size + 1 by omega) (.int .u64 0)) (p := ⟨w.heap.size + 1, 3, none⟩) (show w.heap.size <= w.heap.size + 1 by omega) (.int .u64 0)) (p := ⟨w.heap.size + 1, 4, none⟩) (show w.heap.size <= w.heap.size + 1 by omega) (.slice none 0 0)) (p := ⟨w.heap.size + 1, 5, none⟩) (show w.heap.size <= w.heap.size + 1 by omega) (.slice none 0 0)) (p := ⟨w.heap.size + 1, 6, none⟩) (show w.heap.size <= w.heap.size + 1 by omega) (.int .u64 0)) (p := ⟨w.heap.size + 1, 7, none⟩) (show w.heap.size <= w.heap.size + 1 by omega) (.int .u64 0)) (p := ⟨w.heap.size + 1, 8, none⟩) (show w.heap.size <= w.heap.size + 1 by omega) (.slice none 0 0)) (p := ⟨w.heap.size + 1, 9, none⟩) (show w.heap.size <= w.heap.size + 1 by omega) (.slice none 0 0)) (p := ⟨w.heap.size + 1, 10, none⟩) (show w.heap.size <= w.heap.size + 1 by omega) (.slice none 0 0))
         clear hy1 hyf
         generalize (((((((((((w1.setCell ⟨w.heap.size + 1, 0, none⟩ (.slice none 0 0)).setCell ⟨w.heap.size + 1, 1, none⟩ (.slice none 0 0)).setCell ⟨w.heap.size + 1, 2, none⟩ (.int .u64 0)).setCell ⟨w.heap.size + 1, 3, none⟩ (.int .u64 0)).setCell ⟨w.heap.size + 1, 4, none⟩ (.slice none 0 0)).setCell ⟨w.heap.size + 1, 5, none⟩ (.slice none 0 0)).setCell ⟨w.heap.size + 1, 6, none⟩ (.int .u64 0)).setCell ⟨w.heap.size + 1, 7, none⟩ (.int .u64 0)).setCell ⟨w.heap.size + 1, 8, none⟩ (.slice none 0 0)).setCell ⟨w.heap.size + 1, 9, none⟩ (.slice none 0 0)).setCell ⟨w.heap.size + 1, 10, none⟩ (.slice none 0 0)) = W9 at Y9 B9 ⊢
         refine bodyPost_ret (results_cell2 (a := 6) (b := 7) Tryz.results7 rfl (resTr Y9.out rfl)) rfl ?_
         exact ⟨rfl, B9.out⟩
   · have hnn : n = l.length := by omega
     have n2 : ¬ (n : Int) < l.length := by omega
     have HBA : Hid (fgnL l = false) := lh (NoO.all (by rw [<- hnn]; exact HB.out))
     clear hnn hnl
     go_wp2
     go_roundw
     case rel => first | exact ⟨j + 1, by go_num, by omega, HA.out.snoc HLL.out HBA.out, trivial⟩ | exact ⟨j + 1, by go_num, by omega, HA.out.snoc HLL.out HBA.out⟩
     case measure => simp [intOf]; omega
 · have hjn : j = sn := by omega
   have i2 : ¬ (j : Int) < sn := by omega
   have HAA : Hid (ls.any fgnL = false) := lh (NoL.all (by rw [<- HLS.out, <- hjn]; exact HA.out))
   clear hjn hlt
   clear hy1 hyf
   have HN2 := lh (HNO.out.resolve_left (by rw [HAA.out]; decide))
   have hcc := C0.out.cell
   go_wp2_with (go_at_call 22; (with_reducible refine (run3_no _ k K T M sA sn sc p (ls.map List.length) (HLN.out.below W0.out) HPS.out HN2.out).mono ?_); rintro e w1 ⟨rfl, hb⟩; go_must (have Y1 := lh (Y0.out.below hb Y0.out.lt); have W1 := lh (W0.out.trans (hb.mono W0.out.size))); have hy1 := Y1.out.cell; have hyf := Y1.out.frozen; clear hb hcc)
   have Y9 := lh (blk_tr Y1.out)
   have B9 : Hid (Below w.heap.size w (((((((((((w1.setCell ⟨w.heap.size + 1, 0, none⟩ (.slice none 0 0)).setCell ⟨w.heap.size + 1, 1, none⟩ (.slice none 0 0)).setCell ⟨w.heap.size + 1, 2, none⟩ (.int .u64 0)).setCell ⟨w.heap.size + 1, 3, none⟩ (.int .u64 0)).setCell ⟨w.heap.size + 1, 4, none⟩ (.slice none 0 0)).setCell ⟨w.heap.size + 1, 5, none⟩ (.slice none 0 0)).setCell ⟨w.heap.size + 1, 6, none⟩ (.int .u64 0)).setCell ⟨w.heap.size + 1, 7, none⟩ (.int .u64 0)).setCell ⟨w.heap.size + 1, 8, none⟩ (.slice none 0 0)).setCell ⟨w.heap.size + 1, 9, none⟩ (.slice none 0 0)).setCell ⟨w.heap.size + 1, 10, none⟩ (.slice none 0 0))) := lh (Below.setCell (Below.setCell (Below.setCell (Below.setCell (Below.setCell (Below.setCell (Below.setCell (Below.setCell (Below.setCell (Below.setCell (Below.setCell W1.out (p := ⟨w.heap.size + 1, 0, none⟩) (show w.heap.size <= w.heap.size + 1 by omega) (.slice none 0 0)) (p := ⟨w.heap.size + 1, 1, none⟩) (show w.heap.size <= w.heap.size + 1 by omega) (.slice none 0 0)) (p := ⟨w.heap.size + 1, 2, none⟩) (show w.heap.size <= w.heap.size + 1 by omega) (.int .u64 0)) (p := ⟨w.heap.size + 1, 3, none⟩) (show w.heap.size <= w.heap.size + 1 by omega) (.int .u64 0)) (p := ⟨w.heap.size + 1, 4, none⟩) (show w.heap.size <= w.heap.size + 1 by omega) (.slice none 0 0)) (p := ⟨w.heap.size + 1, 5, none⟩) (show w.heap.size <= w.heap.size + 1 by omega) (.slice none 0 0)) (p := ⟨w.heap.size + 1, 6, none⟩) (show w.heap.size <= w.heap.size + 1 by omega) (.int .u64 0)) (p := ⟨w.heap.size + 1, 7, none⟩) (show w.heap.size <= w.heap.size + 1 by omega) (.int .u64 0)) (p := ⟨w.heap.size + 1, 8, none⟩) (show w.heap.size <= w.heap.size + 1 by omega) (.slice none 0 0)) (p := ⟨w.heap.size + 1, 9, none⟩) (show w.heap.size <= w.heap.size + 1 by omega) (.slice none 0 0)) (p := ⟨w.heap.size + 1, 10, none⟩) (show w.heap.size <= w.heap.size + 1 by omega) (.slice none 0 0))
   clear hy1 hyf
   generalize (((((((((((w1.setCell ⟨w.heap.size + 1, 0, none⟩ (.slice none 0 0)).setCell ⟨w.heap.size + 1, 1, none⟩ (.slice none 0 0)).setCell ⟨w.heap.size + 1, 2, none⟩ (.int .u64 0)).setCell ⟨w.heap.size + 1, 3, none⟩ (.int .u64 0)).setCell ⟨w.heap.size + 1, 4, none⟩ (.slice none 0 0)).setCell ⟨w.heap.size + 1, 5, none⟩ (.slice none 0 0)).setCell ⟨w.heap.size + 1, 6, none⟩ (.int .u64 0)).setCell ⟨w.heap.size + 1, 7, none⟩ (.int .u64 0)).setCell ⟨w.heap.size + 1, 8, none⟩ (.slice none 0 0)).setCell ⟨w.heap.size + 1, 9, none⟩ (.slice none 0 0)).setCell ⟨w.heap.size + 1, 10, none⟩ (.slice none 0 0)) = W9 at Y9 B9 ⊢
   refine bodyPost_ret (results_cell2 (a := 6) (b := 7) Tryz.results7 rfl (resTr Y9.out rfl)) rfl ?_
   exact ⟨rfl, B9.out⟩
set_option maxHeartbeats 4000000 in
theorem ref5_yes (w : World) (Z : Mac) (ok : Int -> Int -> Int -> Int -> Prop) (G : FS -> Prop) (k : Int) (K T M : Nat) (b off c : Nat) (pA : Option Addr) (pn pc : Nat) (ls : List (List (Int × Int))) (ps : List (Int × Int))
   (k1 : 1 <= k) (k2 : k <= 3) (a1 : 1 <= K) (a2 : K <= 64) (t1 : 1 <= T) (t2 : T <= 8) (m1 : 2 <= M) (m2 : M <= 64)
   (hl : RdLO w w.heap.size ⟨some ⟨b, off, none⟩, T, c⟩ ls) (hle : ∀ x ∈ ls, x.length <= 1000) (hp : RdP w w.heap.size ⟨pA, pn, pc⟩ ps) (hpn : ps.length <= 20000) (hpd : ∀ p ∈ ps, 0 <= p.2 /\ p.2 <= 4294967295)
   (hZ : MacOk Z ok G) (hops : ∀ p ∈ ps, OkOps ok ls p.2) (hA : DocA k K T M Z G) (hT : DocT k K T M Z G) (hB : DocB k K T M Z ok) (hf : ∀ l ∈ ls, l.any fgnE = false) :
   Calls Tryz.prog 7 #[.agg #[.int .i64 k, .int .i64 K, .int .i64 T, .int .i64 M], .slice (some ⟨b, off, none⟩) T c, .slice pA pn pc] w (Ran4 w (runM Z ls (RS.first (newM k K T M) T) ps)) := by
 have W0 : Hid (Below w.heap.size w ((w.alloc (.cells #[.int .i64 k, .int .i64 K, .int .i64 T, .int .i64 M] 23)).alloc (.cells zT 35))) := lh (((Below.refl _ _).alloc (Nat.le_refl _) _).alloc (by simp) _)
 have C0 : Hid (Blk ((w.alloc (.cells #[.int .i64 k, .int .i64 K, .int .i64 T, .int .i64 M] 23)).alloc (.cells zT 35)) w.heap.size 23 #[.int .i64 k, .int .i64 K, .int .i64 T, .int .i64 M]) := lh ((Blk.new _ _ _).alloc _)
 have Y0 : Hid (Blk ((w.alloc (.cells #[.int .i64 k, .int .i64 K, .int .i64 T, .int .i64 M] 23)).alloc (.cells zT 35)) (w.heap.size + 1) 35 #[.slice none 0 0, .slice none 0 0, .int .u64 0, .int .u64 0, .slice none 0 0, .slice none 0 0, .int .u64 0, .int .u64 0, .slice none 0 0, .slice none 0 0, .slice none 0 0]) := lh (blk_at (by simp))
 have HL := lh hl
 have HP := lh hp
 have HF0 := lh hf
 have HLS := lh (show T = ls.length from hl.1)
 have hsn2 : (T : Int) <= 9223372036854775807 := by omega
 have HRN := lh (fun (W : World) (h1 : RdLO W W.heap.size ⟨some ⟨b, off, none⟩, T, c⟩ ls) (h2 : RdP W W.heap.size ⟨pA, pn, pc⟩ ps) => run3_yes W Z ok G k K T M b off c pA pn pc ls ps k1 k2 a1 a2 t1 t2 m1 m2 h1 hle h2 hpn hpd hZ hops hA hT hB)
 clear hl hle hp hpn hpd hZ hops hA hT hB hf
 go_enter Tryz.func7, Tryz.ntmps7
 go_upto_region 1 with fail
 generalize ((w.alloc (.cells #[.int .i64 k, .int .i64 K, .int .i64 T, .int .i64 M] 23)).alloc (.cells zT 35)) = w1 at W0 C0 Y0 ⊢
 have HH : Hid (RdLO w1 w.heap.size ⟨some ⟨b, off, none⟩, T, c⟩ ls) := lh (HL.out.below W0.out)
 go_wp2_with fail
 go_loopw [8] (fun i wr => ∃ j : Nat, i = .int .i64 j /\ j <= T /\ NoL ls j /\ wr = w1) (fun i _ => T - (intOf i).toNat)
 case atStart => exact ⟨0, rfl, Nat.zero_le _, fun q l hq => absurd hq (Nat.not_lt_zero _), rfl⟩
 case round =>
 obtain ⟨j, rfl, hj, hall, hw⟩ := hrel
 have hw := hw.symm
 subst hw
 have HA := lh hall
 clear hall
 have i0 : (0 : Int) <= j := by omega
 by_cases hlt : j < T
 · obtain ⟨b1, off1, hA, hbz, hc⟩ := HH.out.2.2.2 (by show 0 < T; omega)
   simp only at hA
   injection hA with hA
   injection hA with hA1 hA2
   subst hA1
   subst hA2
   obtain ⟨l, hl⟩ : ∃ l, ls[j]? = some l := ⟨_, List.getElem?_eq_getElem (by have := HLS.out; omega)⟩
   obtain ⟨⟨qA, qn, qc⟩, hq1, hq2⟩ := hc j l hl
   have hqn : qn = l.length := hq2.1
   subst hqn
   simp only at hq1
   have HQ := lh hq2
   have HLL := lh hl
   have i1 : (j : Int) < T := by omega
   have hqb := hq2.2.1
   have hqb2 := hq2.2.2.1
   simp only at hqb hqb2
   have hln2 : (l.length : Int) <= 9223372036854775807 := by unfold maxLen at hqb2; omega
   clear hc hq2 hl hqb hqb2
   go_upto_region 5 with fail
   go_loopw [9] (fun i wr => ∃ n : Nat, i = .int .i64 n /\ n <= l.length /\ NoO l n /\ wr = w1) (fun i _ => l.length - (intOf i).toNat)
   case atStart => exact ⟨0, rfl, Nat.zero_le _, fun q x hq => absurd hq (Nat.not_lt_zero _), rfl⟩
   case round =>
   obtain ⟨n, rfl, hn, hall, hw⟩ := hrel
   have hw := hw.symm
   subst hw
   have HB := lh hall
   clear hall
   have n0 : (0 : Int) <= n := by omega
   by_cases hnl : n < l.length
   · obtain ⟨b2, off2, hA2, hbz2, hc2⟩ := HQ.out.2.2.2 (by show 0 < l.length; omega)
     simp only at hA2
     subst hA2
     obtain ⟨x, hx⟩ : ∃ x, l[n]? = some x := ⟨_, List.getElem?_eq_getElem hnl⟩
     obtain ⟨hx0, hx1⟩ := hc2 n x hx
     have HX := lh hx
     obtain ⟨kd, vl⟩ := x
     simp only at hx0 hx1
     have n1 : (n : Int) < l.length := by omega
     clear hc2 hx
     have hf : fgnE (kd, vl) = false := by
       have h9 := List.any_eq_false.1 (HF0.out l (List.mem_of_getElem? HLL.out)) _ (List.mem_of_getElem? HX.out)
       simpa using h9
     rcases fgnE_no hf with h3 | ⟨h3, h6, h8⟩
     · have HF := lh hf
       clear hf
       have e3 : (kd != 3) = false := by rw [h3]; rfl
       go_wp2
       go_roundw
       case rel => first | exact ⟨n + 1, by go_num, by omega, HB.out.snoc HX.out HF.out, trivial⟩ | exact ⟨n + 1, by go_num, by omega, HB.out.snoc HX.out HF.out⟩
       case measure => simp [intOf]; omega
     · have HF := lh hf
       clear hf
       have e3 : (kd != 3) = true := by simpa using h3
       have e6 : ¬ kd < 6 := by omega
       have e8 : ¬ 8 < kd := by omega
       go_wp2
       go_roundw
       case rel => first | exact ⟨n + 1, by go_num, by omega, HB.out.snoc HX.out HF.out, trivial⟩ | exact ⟨n + 1, by go_num, by omega, HB.out.snoc HX.out HF.out⟩
       case measure => simp [intOf]; omega
   · have hnn : n = l.length := by omega
     have n2 : ¬ (n : Int) < l.length := by omega
     have HBA : Hid (fgnL l = false) := lh (NoO.all (by rw [<- hnn]; exact HB.out))
     clear hnn hnl
     go_wp2
     go_roundw
     case rel => first | exact ⟨j + 1, by go_num, by omega, HA.out.snoc HLL.out HBA.out, trivial⟩ | exact ⟨j + 1, by go_num, by omega, HA.out.snoc HLL.out HBA.out⟩
     case measure => simp [intOf]; omega
 · have hjn : j = T := by omega
   have i2 : ¬ (j : Int) < T := by omega
   have HAA : Hid (ls.any fgnL = false) := lh (NoL.all (by rw [<- HLS.out, <- hjn]; exact HA.out))
   clear hjn hlt
   have hcc := C0.out.cell
   go_wp2_with (go_at_call 22; (with_reducible refine (HRN.out _ (Arenac.RdLO.up (HL.out.below W0.out) W0.out.size) (Arenac.RdP.up (HP.out.below W0.out) W0.out.size)).mono ?_); rintro e w2 ⟨r, sS, sK, base, rfl, hm, hoff, hs, hkk, hst, hbase, hb⟩; go_must (have Y1 := lh (Y0.out.below hb Y0.out.lt); have W1 := lh (W0.out.trans (hb.mono W0.out.size)); have hh := lh (And.intro hm (And.intro hoff (And.intro hs (And.intro hkk hst)))); have hlt := lh (Nat.lt_of_lt_of_le Y0.out.lt hbase)); have hy1 := Y1.out.cell; have hyf := Y1.out.frozen; clear hb hcc hm hs hkk hoff hst hbase)
   have O5 : Hid (Only (fun g => g = w.heap.size + 1) w2 (((((((((((w2.setCell ⟨w.heap.size + 1, 0, none⟩ (.slice sS.A sS.n sS.c)).setCell ⟨w.heap.size + 1, 1, none⟩ (.slice sK.A sK.n sK.c)).setCell ⟨w.heap.size + 1, 2, none⟩ (.int .u64 r.e)).setCell ⟨w.heap.size + 1, 3, none⟩ (.int .u64 r.f)).setCell ⟨w.heap.size + 1, 4, none⟩ (.slice r.L.A r.L.n r.L.c)).setCell ⟨w.heap.size + 1, 5, none⟩ (.slice r.P.A r.P.n r.P.c)).setCell ⟨w.heap.size + 1, 6, none⟩ (.int .u64 r.h)).setCell ⟨w.heap.size + 1, 7, none⟩ (.int .u64 r.t)).setCell ⟨w.heap.size + 1, 8, none⟩ (.slice r.K.A r.K.n r.K.c)).setCell ⟨w.heap.size + 1, 9, none⟩ (.slice r.X.A r.X.n r.X.c)).setCell ⟨w.heap.size + 1, 10, none⟩ (.slice r.S.A r.S.n r.S.c))) := lh (Only.set_ (Only.set_ (Only.set_ (Only.set_ (Only.set_ (Only.set_ (Only.set_ (Only.set_ (Only.set_ (Only.set_ (Only.set_ (Only.refl (fun g => g = w.heap.size + 1) w2) ⟨w.heap.size + 1, 0, none⟩ (.inl rfl) (.slice sS.A sS.n sS.c)) ⟨w.heap.size + 1, 1, none⟩ (.inl rfl) (.slice sK.A sK.n sK.c)) ⟨w.heap.size + 1, 2, none⟩ (.inl rfl) (.int .u64 r.e)) ⟨w.heap.size + 1, 3, none⟩ (.inl rfl) (.int .u64 r.f)) ⟨w.heap.size + 1, 4, none⟩ (.inl rfl) (.slice r.L.A r.L.n r.L.c)) ⟨w.heap.size + 1, 5, none⟩ (.inl rfl) (.slice r.P.A r.P.n r.P.c)) ⟨w.heap.size + 1, 6, none⟩ (.inl rfl) (.int .u64 r.h)) ⟨w.heap.size + 1, 7, none⟩ (.inl rfl) (.int .u64 r.t)) ⟨w.heap.size + 1, 8, none⟩ (.inl rfl) (.slice r.K.A r.K.n r.K.c)) ⟨w.heap.size + 1, 9, none⟩ (.inl rfl) (.slice r.X.A r.X.n r.X.c)) ⟨w.heap.size + 1, 10, none⟩ (.inl rfl) (.slice r.S.A r.S.n r.S.c))
   have Y5 : Hid (Blk (((((((((((w2.setCell ⟨w.heap.size + 1, 0, none⟩ (.slice sS.A sS.n sS.c)).setCell ⟨w.heap.size + 1, 1, none⟩ (.slice sK.A sK.n sK.c)).setCell ⟨w.heap.size + 1, 2, none⟩ (.int .u64 r.e)).setCell ⟨w.heap.size + 1, 3, none⟩ (.int .u64 r.f)).setCell ⟨w.heap.size + 1, 4, none⟩ (.slice r.L.A r.L.n r.L.c)).setCell ⟨w.heap.size + 1, 5, none⟩ (.slice r.P.A r.P.n r.P.c)).setCell ⟨w.heap.size + 1, 6, none⟩ (.int .u64 r.h)).setCell ⟨w.heap.size + 1, 7, none⟩ (.int .u64 r.t)).setCell ⟨w.heap.size + 1, 8, none⟩ (.slice r.K.A r.K.n r.K.c)).setCell ⟨w.heap.size + 1, 9, none⟩ (.slice r.X.A r.X.n r.X.c)).setCell ⟨w.heap.size + 1, 10, none⟩ (.slice r.S.A r.S.n r.S.c)) (w.heap.size + 1) 35 #[.slice sS.A sS.n sS.c, .slice sK.A sK.n sK.c, .int .u64 r.e, .int .u64 r.f, .slice r.L.A r.L.n r.L.c, .slice r.P.A r.P.n r.P.c, .int .u64 r.h, .int .u64 r.t, .slice r.K.A r.K.n r.K.c, .slice r.X.A r.X.n r.X.c, .slice r.S.A r.S.n r.S.c]) := lh (by
     have h_ := (Blk.set_ (Blk.set_ (Blk.set_ (Blk.set_ (Blk.set_ (Blk.set_ (Blk.set_ (Blk.set_ (Blk.set_ (Blk.set_ (Blk.set_ Y1.out 0 (.slice sS.A sS.n sS.c)) 1 (.slice sK.A sK.n sK.c)) 2 (.int .u64 r.e)) 3 (.int .u64 r.f)) 4 (.slice r.L.A r.L.n r.L.c)) 5 (.slice r.P.A r.P.n r.P.c)) 6 (.int .u64 r.h)) 7 (.int .u64 r.t)) 8 (.slice r.K.A r.K.n r.K.c)) 9 (.slice r.X.A r.X.n r.X.c)) 10 (.slice r.S.A r.S.n r.S.c))
     simpa only [uA, sZ, uC] using h_)
   clear hy1 hyf
   generalize (((((((((((w2.setCell ⟨w.heap.size + 1, 0, none⟩ (.slice sS.A sS.n sS.c)).setCell ⟨w.heap.size + 1, 1, none⟩ (.slice sK.A sK.n sK.c)).setCell ⟨w.heap.size + 1, 2, none⟩ (.int .u64 r.e)).setCell ⟨w.heap.size + 1, 3, none⟩ (.int .u64 r.f)).setCell ⟨w.heap.size + 1, 4, none⟩ (.slice r.L.A r.L.n r.L.c)).setCell ⟨w.heap.size + 1, 5, none⟩ (.slice r.P.A r.P.n r.P.c)).setCell ⟨w.heap.size + 1, 6, none⟩ (.int .u64 r.h)).setCell ⟨w.heap.size + 1, 7, none⟩ (.int .u64 r.t)).setCell ⟨w.heap.size + 1, 8, none⟩ (.slice r.K.A r.K.n r.K.c)).setCell ⟨w.heap.size + 1, 9, none⟩ (.slice r.X.A r.X.n r.X.c)).setCell ⟨w.heap.size + 1, 10, none⟩ (.slice r.S.A r.S.n r.S.c)) = V5 at O5 Y5 ⊢
   refine bodyPost_ret (results_cell2 (a := 6) (b := 7) Tryz.results7 rfl (resTr Y5.out rfl)) rfl ?_
   obtain ⟨hm, hoff, hs, hkk, hst⟩ := hh.out
   have hl2 := hlt.out
   exact ⟨r, sS, sK, base, rfl, Rm.only hm O5.out (Nat.le_refl _) (fun b' hb' => hoff b' (by omega)), hoff, hs.only O5.out (fun g hg e => by have := (hs.lt hg).1; omega), hkk.only O5.out (fun g hg e => by have := (hkk.lt hg).1; omega), hst, by have := W0.out.size; omega, W1.out.trans (O5.out.below W1.out.size (fun g hg => by omega))⟩
end Go.Proofs.YtffppdcpiieapaaGreat.Machc

namespace Go.Proofs.YtffppdcpiieapaaGreat.Machc
open Go.RowKit Memc Newc Drivec Procc Arenac
set_option linter.unusedVariables false
set_option maxRecDepth 100000

def flatP (l : List (Int × Int)) : List Value := (l.map Drivec.pcells).flatten
theorem flatP_snoc (l : List (Int × Int)) (x : Int × Int) : flatP (l ++ [x]) = flatP l ++ Drivec.pcells x := by simp [flatP]
theorem flatP_get : ∀ (l : List (Int × Int)) (i : Nat) (x : Int × Int) (j : Nat) (v : Value), l[i]? = some x -> (Drivec.pcells x)[j]? = some v -> (flatP l)[i * 2 + j]? = some v
 | [], i, x, j, v, h, _ => by simp at h
 | y :: l, 0, x, j, v, h, hv => by
   injection h with h
   subst h
   have hj : j < (Drivec.pcells y).length := (List.getElem?_eq_some_iff.1 hv).1
   show (Drivec.pcells y ++ flatP l)[0 * 2 + j]? = some v
   rw [Nat.zero_mul, Nat.zero_add, List.getElem?_append_left hj]
   exact hv
 | y :: l, i + 1, x, j, v, h, hv => by
   have := flatP_get l i x j v h hv
   show (Drivec.pcells y ++ flatP l)[(i + 1) * 2 + j]? = some v
   have h7 : (Drivec.pcells y).length = 2 := rfl
   rw [List.getElem?_append_right (by omega), h7, show (i + 1) * 2 + j - 2 = i * 2 + j by omega]
   exact this
theorem row_rdp {w : World} {base : Nat} {s : Sl} {l : List (Int × Int)} (h : Row w base 70 2 s l.length (flatP l)) (hb : ∀ x ∈ l, -9223372036854775808 <= x.1 /\ x.1 <= 9223372036854775807) : RdP w w.heap.size s l := by
 refine ⟨h.n_.1, h.n_.2.1, h.n_.2.2.1, hb, fun hn => ?_⟩
 obtain ⟨g, hA, _, hlt, hc, _⟩ := h.at_ (by have := h.n_.1; omega)
 refine ⟨g, 0, hA, hlt, fun i x hx => ?_⟩
 have hi : i < l.length := (List.getElem?_eq_some_iff.1 hx).1
 have h0 := hc (i * 2) (by omega)
 have h1 := hc (i * 2 + 1) (by omega)
 have e0 := flatP_get l i x 0 _ hx rfl
 rw [Nat.add_zero] at e0
 rw [e0] at h0
 rw [flatP_get l i x 1 _ hx rfl] at h1
 rw [Nat.zero_add]
 exact ⟨h0, h1⟩
theorem blk_rdo {w : World} {g : Nat} {l : List (Int × Int)} (h : Blk w g 46 (flatP l).toArray) (hl : l.length <= maxLen) : RdO w w.heap.size ⟨some ⟨g, 0, none⟩, l.length, l.length⟩ l := by
 refine ⟨rfl, Nat.le_refl _, hl, fun hn => ⟨g, 0, rfl, h.lt, fun i x hx => ?_⟩⟩
 have e0 := flatP_get l i x 0 _ hx rfl
 have e1 := flatP_get l i x 1 _ hx rfl
 rw [Nat.add_zero] at e0
 rw [Nat.zero_add]
 exact ⟨(h.cell _).trans (by simpa using e0), (h.cell _).trans (by simpa using e1)⟩
theorem pick_cell : (Tryz.prog.info? 70).map (fun i => (i.zero, i.size, i.bytes)) = some (some (.agg #[.int .i64 0, .int .u32 0]), 2, 16) := by kernel_rfl
def a6 : RS := runM (docZ 3 1 1 2) [[(4, 0), (4, 0), (4, 0)]] (RS.first (newM 3 1 1 2) 1) (List.replicate 7 (0, 0))
def Run6 (V : World) (e : Ending) (w' : World) : Prop :=
 ∃ (r : R) (sSA : Option Addr) (cS gK cK : Nat), e = .returned (.tuple #[.agg #[.slice sSA 7 cS, .slice (some ⟨gK, 0, none⟩) 3 cK, .int .u64 r.e, .int .u64 r.f, .slice r.L.A r.L.n r.L.c, .slice r.P.A r.P.n r.P.c, .int .u64 r.h, .int .u64 r.t, .slice r.K.A r.K.n r.K.c, .slice r.X.A r.X.n r.X.c, .slice r.S.A r.S.n r.S.c], .int .i64 0]) /\ gK < w'.heap.size /\ w'.cell? ⟨gK, 6, none⟩ = some (.int .u32 0) /\ w'.cell? ⟨gK, 13, none⟩ = some (.int .u32 1) /\ w'.cell? ⟨gK, 19, none⟩ = some (.int .i64 4) /\ Below V.heap.size V w'
end Go.Proofs.YtffppdcpiieapaaGreat.Machc

namespace Go.Proofs.YtffppdcpiieapaaGreat.Machc
open Go.RowKit Memc Newc Drivec Procc Arenac
set_option linter.unusedVariables false
set_option maxRecDepth 100000

set_option maxHeartbeats 1000000 in
theorem picked_c (w : World) (t : Int) (n : Nat) (t0 : -9223372036854775808 <= t) (t1 : t <= 9223372036854775807) (hn : n <= 100000) :
   Calls Tryz.prog 10 #[.int .i64 t, .int .i64 n] w fun e w' => ∃ q : Sl, e = .returned (.slice q.A q.n q.c) /\ Row w' w.heap.size 70 2 q n (flatP (List.replicate n (t, 0))) /\ Below w.heap.size w w' := by
 go_enter Tryz.func10, Tryz.ntmps10
 go_wp2_with fail
 go_loopw [5, 6] (fun p i wr => ∃ (j : Nat) (q : Sl), p = .slice q.A q.n q.c /\ i = .int .i64 j /\ j <= n /\ Row wr w.heap.size 70 2 q j (flatP (List.replicate j (t, 0))) /\ Below w.heap.size w wr) (fun _ i _ => n - (intOf i).toNat)
 case atStart => exact ⟨0, nilS, rfl, rfl, Nat.zero_le _, row_nil _ _ _ _, Below.refl _ _⟩
 case round =>
 obtain ⟨j, q, rfl, rfl, hj, hr, hb⟩ := hrel
 have R0 := lh hr
 have W0 := lh hb
 clear hr hb
 generalize wr = V0 at R0 W0 ⊢
 have i0 : (0 : Int) <= j := Int.natCast_nonneg _
 by_cases hlt : j < n
 · have i1 : (j : Int) < n := by omega
   obtain ⟨ji, hji, hjz0, hjz1, hjz2⟩ := info_parts pick_cell
   go_upto_region 4 with (at_builtin; refine wpList_app2 rfl _ _ 25 rfl w.heap.size 70 ji _ 2 16 Tryz.underlying25 hji hjz0 hjz1 hjz2 rfl (by decide) q j (flatP (List.replicate j (t, 0))) rfl (Row.alloc R0.out (.cells #[.int .i64 t, .int .u32 0] 70)) V0.heap.size [.int .i64 t, .int .u32 0] rfl rfl (fun j u hj => (Blk.cell (Arenac.blk_at2 _ _ _ _ rfl) j).trans (by simpa using hj)) (by simp [Value.oneCell']) (by omega) (by decide) (Nat.le_trans W0.out.size (by simp)) ?_; intro q2 w7 hr7 ho7 hw7; go_must (have R7 := lh hr7; have A7 : Hid (Only (fun g => bl q g) V0 w7) := lh (Only.next ((Only.refl (fun g => bl q g) V0).alloc (.cells #[.int .i64 t, .int .u32 0] 70)) ho7 (fun k _ h => h)); have W7 := lh (W0.out.trans (A7.out.below W0.out.size (fun g hg => by have := (R0.out.lt hg).1; omega)))); clear hr7 ho7 hw7)
   have e7 : flatP (List.replicate j (t, 0)) ++ [.int .i64 t, .int .u32 0] = flatP (List.replicate (j + 1) (t, 0)) := by
     rw [List.replicate_succ', flatP_snoc]; rfl
   have R8 := R7.out
   rw [e7] at R8
   have R9 := lh R8
   clear e7 R8
   go_wp2
   go_roundw
   case rel => exact ⟨j + 1, q2, rfl, by go_num, hlt, R9.out, W7.out⟩
   case measure => simp [intOf]; omega
 · obtain rfl : j = n := by omega
   go_wp2
   go_ret
   exact ⟨q, rfl, R0.out, W0.out⟩
theorem picked_40 (w : World) : Calls Tryz.prog 10 #[.int .i64 0, .int .i64 40] w fun e w' => ∃ q : Sl, e = .returned (.slice q.A q.n q.c) /\ Row w' w.heap.size 70 2 q 40 (flatP (List.replicate 40 (0, 0))) /\ Below w.heap.size w w' :=
 picked_c w 0 40 (by omega) (by omega) (by omega)
def a40 : RS := runM (docZ 2 1 1 2) [[(6, 0), (8, 1), (7, 0), (3, 0), (3, 0), (3, 0)]] (RS.first (newM 2 1 1 2) 1) (List.replicate 40 (0, 0))
theorem a40_calls : a40.calls = [⟨0, 6, 0, 0, 2, 0, 0⟩, ⟨0, 8, 1, 3, 6, 0, 0⟩, ⟨0, 7, 0, 7, 7, 0, 0⟩, ⟨0, 3, 0, 8, 12, 0, 0⟩, ⟨0, 3, 0, 13, 22, 0, 0⟩, ⟨0, 3, 0, 23, 27, 0, 0⟩] := by kernel_rfl
theorem a40_e : a40.m.e = 3 := by kernel_rfl
theorem a40_f : a40.m.f = 4294967298 := by kernel_rfl
theorem a40_lk : a40.m.lk = [0, 4294967296] := by kernel_rfl
def k40 : List Value := flatK [⟨0, 6, 0, 0, 2, 0, 0⟩, ⟨0, 8, 1, 3, 6, 0, 0⟩, ⟨0, 7, 0, 7, 7, 0, 0⟩, ⟨0, 3, 0, 8, 12, 0, 0⟩, ⟨0, 3, 0, 13, 22, 0, 0⟩, ⟨0, 3, 0, 23, 27, 0, 0⟩]
def Run40 (V : World) (e : Ending) (w' : World) : Prop :=
 ∃ (r : R) (sS : Sl) (gK cK gL cL : Nat), e = .returned (.tuple #[.agg #[.slice sS.A sS.n sS.c, .slice (some ⟨gK, 0, none⟩) 6 cK, .int .u64 3, .int .u64 4294967298, .slice r.L.A r.L.n r.L.c, .slice r.P.A r.P.n r.P.c, .int .u64 r.h, .int .u64 r.t, .slice (some ⟨gL, 0, none⟩) 2 cL, .slice r.X.A r.X.n r.X.c, .slice r.S.A r.S.n r.S.c], .int .i64 0]) /\ (∃ b1, Row w' b1 50 7 ⟨some ⟨gK, 0, none⟩, 6, cK⟩ 6 k40) /\ (∃ b2, Row w' b2 30 1 ⟨some ⟨gL, 0, none⟩, 2, cL⟩ 2 [.int .u64 0, .int .u64 4294967296]) /\ Below V.heap.size V w'
theorem run_40 (V : World) (g2 g3 : Nat) (q : Sl) (base : Nat) (h2 : Blk V g2 46 #[.int .i64 6, .int .u32 0, .int .i64 8, .int .u32 1, .int .i64 7, .int .u32 0, .int .i64 3, .int .u32 0, .int .i64 3, .int .u32 0, .int .i64 3, .int .u32 0]) (h3 : Blk V g3 47 #[.slice (some ⟨g2, 0, none⟩) 6 6]) (hq : Row V base 70 2 q 40 (flatP (List.replicate 40 (0, 0)))) :
   Calls Tryz.prog 6 #[.agg #[.int .i64 2, .int .i64 1, .int .i64 1, .int .i64 2], .slice (some ⟨g3, 0, none⟩) 1 1, .slice q.A q.n q.c] V (Run40 V) := by
 have ho : RdO V V.heap.size ⟨some ⟨g2, 0, none⟩, 6, 6⟩ [(6, 0), (8, 1), (7, 0), (3, 0), (3, 0), (3, 0)] := blk_rdo (l := [(6, 0), (8, 1), (7, 0), (3, 0), (3, 0), (3, 0)]) h2 (by unfold maxLen; decide)
 have hp : RdP V V.heap.size q (List.replicate 40 (0, 0)) := row_rdp hq (by intro x hx; rw [(List.mem_replicate.1 hx).2]; decide)
 obtain ⟨qA, qn, qc⟩ := q
 refine (erun_c V 2 1 1 2 g3 0 1 qA qn qc [[(6, 0), (8, 1), (7, 0), (3, 0), (3, 0), (3, 0)]] (List.replicate 40 (0, 0)) (by omega) (by omega) (by omega) (by omega) (by omega) (by omega) (by omega) (by omega) ?_ ?_ hp (by simp) ?_ ?_).mono ?_
 · refine ⟨rfl, Nat.le_refl _, by show 1 <= maxLen; unfold maxLen; omega, fun _ => ⟨g3, 0, rfl, h3.lt, fun i x hx => ?_⟩⟩
   match i, hx with
   | 0, hx => injection hx with hx; subst hx; exact ⟨⟨some ⟨g2, 0, none⟩, 6, 6⟩, h3.cell 0, ho⟩
 · intro x hx
   rw [List.mem_singleton.1 hx]
   decide
 · intro x hx
   rw [List.mem_singleton.1 hx]
   decide
 · intro x hx o ho
   rw [List.mem_singleton.1 hx] at ho
   simp only [List.mem_cons, List.not_mem_nil, or_false] at ho
   rcases ho with rfl | rfl | rfl | rfl | rfl | rfl
   all_goals decide
 · rintro e w' ⟨r, sS, sK, base', he, hS, hK, hE, hF⟩
   change Row w' base' 50 7 sK a40.calls.length (flatK a40.calls) at hK
   change Endw w' base' r a40.m at hE
   rw [a40_calls] at hK
   obtain ⟨gK, hgK, _, hlK, hcK, _⟩ := hK.at_ (by decide)
   have hnK := hK.n_.1
   have he3 : r.e = 3 := hE.1.1.trans a40_e
   have hf3 : r.f = 4294967298 := hE.1.2.1.trans a40_f
   have hl0 := (hE.2.2 7 (.inr (.inr (.inl rfl)))).2
   have hl1 : Row w' base' 30 1 r.K a40.m.lk.length (a40.m.lk.map (Value.int .u64)) := hl0
   rw [a40_lk] at hl1
   obtain ⟨gL, hgL, _, hlL, hcL, _⟩ := hl1.at_ (by decide)
   have hnL := hl1.n_.1
   obtain ⟨sKA, sKn, sKc⟩ := sK
   obtain ⟨re, rf, rL, rP, rh, rt, ⟨rKA, rKn, rKc⟩, rX, rS⟩ := r
   simp only at hgK hnK he3 hf3 hgL hnL
   subst hgK hnK he3 hf3 hgL hnL
   exact ⟨⟨3, 4294967298, rL, rP, rh, rt, ⟨some ⟨gL, 0, none⟩, 2, rKc⟩, rX, rS⟩, sS, gK, sKc, gL, rKc, he, ⟨_, hK⟩, ⟨_, hl1⟩, hF⟩
end Go.Proofs.YtffppdcpiieapaaGreat.Machc
