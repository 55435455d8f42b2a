/- arena.Run refused: a call is foreign, or there may be no such run. · A run of any calls by the document's answer that may not be: refused. Whether all calls are of some kinds. · Whether calls and picks are few; a run of Take and Give by the document's answer: by contract. -/
import Derived.StillTailTactics
import Derived.Deep.QuietTactic
import Derived.BigQuiet
import Derived.Test.YtffppdcpiieapaaP21
import Derived.Test.YtffppdcpiieapaaP24
namespace Go.Proofs.Ytffppdcpiieapaa.Arenac
open Go.RowKit Go.Proofs.Ytffppdcpiieapaa.Memc Go.Proofs.Ytffppdcpiieapaa.Newc Go.Proofs.Ytffppdcpiieapaa.Procc Go.Proofs.Ytffppdcpiieapaa.Machc Go.Proofs.Ytffppdcpiieapaa.Drivec Go.Proofs.Ytffppdcpiieapaa.Wordc
set_option linter.unusedVariables false
set_option maxRecDepth 100000

def NoneF (ls : List (List (Int × Int))) (j : Nat) : Prop := ∀ (q : Nat) (l : List (Int × Int)), q < j → ls[q]? = some l → l.any fgn = false
set_option maxHeartbeats 4000000 in
theorem arun_no (w : World) (k K T M : Int) (sA : Option Addr) (sn sc : Nat) (p : Sl) (ls : List (List (Int × Int))) (h : RdLO w w.heap.size ⟨sA, sn, sc⟩ ls) (hps : p.n ≤ maxLen)
    (hno : ls.any (fun l => l.any fgn) = true ∨ ¬ ((Cfg.mk k K T M).may ∧ (sn : Int) = T ∧ (ls.map List.length).any (fun x => decide (1000 < x)) = false ∧ p.n ≤ 20000)) :
    Calls Try.prog 16 #[.agg #[.int .i64 k, .int .i64 K, .int .i64 T, .int .i64 M], .slice sA sn sc, .slice p.A p.n p.c] w fun e w' => e = .returned (.tuple #[.agg #[.slice none 0 0, .slice none 0 0, .int .u64 0, .int .u64 0, .slice none 0 0, .slice none 0 0, .int .u64 0, .int .u64 0, .slice none 0 0, .slice none 0 0, .slice none 0 0], .int .i64 1]) ∧ Below w.heap.size w w' := by
  have hmf : ∀ (fn : Fn) (first cap : Array Value) (w : World), (Instr.makeFunc fn first cap).run Try.prog w = .ok (.func fn first cap) w := fun _ _ _ _ => rfl
  have W0 : Hid (Below w.heap.size w ((w.alloc (.cells #[.int .i64 k, .int .i64 K, .int .i64 T, .int .i64 M] 23)).alloc (.cells #[.slice none 0 0, .slice none 0 0, .int .u64 0, .int .u64 0, .slice none 0 0, .slice none 0 0, .int .u64 0, .int .u64 0, .slice none 0 0, .slice none 0 0, .slice none 0 0] 35))) := Lib.hid (((Below.refl _ _).alloc (Nat.le_refl _) _).alloc (by simp) _)
  have X0 : Hid (Blk ((w.alloc (.cells #[.int .i64 k, .int .i64 K, .int .i64 T, .int .i64 M] 23)).alloc (.cells #[.slice none 0 0, .slice none 0 0, .int .u64 0, .int .u64 0, .slice none 0 0, .slice none 0 0, .int .u64 0, .int .u64 0, .slice none 0 0, .slice none 0 0, .slice none 0 0] 35)) w.heap.size 23 #[.int .i64 k, .int .i64 K, .int .i64 T, .int .i64 M]) := Lib.hid ((Blk.new _ _ _).alloc _)
  have Y0 : Hid (Blk ((w.alloc (.cells #[.int .i64 k, .int .i64 K, .int .i64 T, .int .i64 M] 23)).alloc (.cells #[.slice none 0 0, .slice none 0 0, .int .u64 0, .int .u64 0, .slice none 0 0, .slice none 0 0, .int .u64 0, .int .u64 0, .slice none 0 0, .slice none 0 0, .slice none 0 0] 35)) (w.heap.size + 1) 35 #[.slice none 0 0, .slice none 0 0, .int .u64 0, .int .u64 0, .slice none 0 0, .slice none 0 0, .int .u64 0, .int .u64 0, .slice none 0 0, .slice none 0 0, .slice none 0 0]) := Lib.hid (blk_at2 _ _ _ _ (by simp))
  have HL := Lib.hid h
  have HLN : Hid (Drivec.Lens w ⟨sA, sn, sc⟩ (ls.map List.length)) := Lib.hid (RdLO.lens h (Nat.le_refl _))
  have HNO := Lib.hid hno
  have hls : sn = ls.length := h.1
  have hsc := h.2.1
  have hscm := h.2.2.1
  simp only at hsc hscm
  have hsn2 : (sn : Int) ≤ 9223372036854775807 := by unfold maxLen at hscm; omega
  have HPS := Lib.hid hps
  have HLS := Lib.hid hls
  clear h hno hsc hscm hps hls
  go_enter Try.func16, Try.ntmps16
  go_wp2_with fail
  generalize ((w.alloc (.cells #[.int .i64 k, .int .i64 K, .int .i64 T, .int .i64 M] 23)).alloc (.cells #[.slice none 0 0, .slice none 0 0, .int .u64 0, .int .u64 0, .slice none 0 0, .slice none 0 0, .int .u64 0, .int .u64 0, .slice none 0 0, .slice none 0 0, .slice none 0 0] 35)) = V at W0 X0 Y0 ⊢
  go_loopw [12] (fun i wr => ∃ j : Nat, i = .int .i64 j ∧ j ≤ sn ∧ NoneF ls j ∧ Below V.heap.size V wr) (fun i _ => sn - (intOf i).toNat)
  case atStart => exact ⟨0, rfl, Nat.zero_le _, fun q l hq => absurd hq (Nat.not_lt_zero _), Below.refl _ _⟩
  case round =>
  obtain ⟨j, rfl, hj, hall, hbw⟩ := hrel
  have HALL := Lib.hid hall
  have WR : Hid (Below w.heap.size w wr) := Lib.hid (W0.out.trans (hbw.mono W0.out.size))
  have HW := Lib.hid hbw
  have i0 : (0 : Int) ≤ j := by omega
  clear hbw hall
  by_cases hlt : j < sn
  · obtain ⟨b1, off1, hA, hbz, hc⟩ := HL.out.2.2.2 (by show 0 < sn; omega)
    simp only at hA
    subst hA
    obtain ⟨l, hl⟩ : ∃ l, ls[j]? = some l := ⟨_, List.getElem?_eq_getElem (by have := HLS.out; omega)⟩
    obtain ⟨qs, hq, hqo⟩ := hc j l hl
    have hcq := (WR.out.cell (p := ⟨b1, off1 + j, none⟩) hbz).trans hq
    have HQ := Lib.hid hqo
    have HLL := Lib.hid hl
    have i1 : (j : Int) < sn := by omega
    clear hc hq hqo hl
    rcases hf : l.any fgn with _ | _
    · have HF := Lib.hid hf
      clear hf
      go_wp2_with (go_at_call 34; (with_reducible refine (contains_O qs _ w.heap.size l (HQ.out.below WR.out) WR.out.size).mono ?_); rw [HF.out]; rintro e w' ⟨rfl, hb⟩; go_must (have HB2 := Lib.hid hb); clear hb)
      go_roundw
      case rel =>
        refine ⟨j + 1, by go_num, by omega, fun q y hq hy => ?_, HW.out.trans (HB2.out.mono HW.out.size)⟩
        by_cases hqj : q = j
        · subst hqj
          rw [HLL.out] at hy
          injection hy with hy
          rw [← hy]
          exact HF.out
        · exact HALL.out q y (by omega) hy
      case measure => simp [intOf]; omega
    · have HF := Lib.hid hf
      clear hf
      go_wp2_with (go_at_call 34; (with_reducible refine (contains_O qs _ w.heap.size l (HQ.out.below WR.out) WR.out.size).mono ?_); rw [HF.out]; rintro e w1 ⟨rfl, hb⟩; go_must (have HB2 := Lib.hid hb; have Y1 := Lib.hid ((Y0.out.below HW.out Y0.out.lt).below hb (Y0.out.below HW.out Y0.out.lt).lt); have W1 := Lib.hid (WR.out.trans (hb.mono WR.out.size))); have hy1 := Y1.out.cell; have hy1f := Y1.out.frozen; clear hb)
      have OE : Hid (Only (fun g => g = w.heap.size + 1) w1 (((((((((((w1.setCell ⟨w.heap.size + 1, 0, none⟩ (.slice none 0 0)).setCell ⟨w.heap.size + 1, 1, none⟩ (.slice none 0 0)).setCell ⟨w.heap.size + 1, 2, none⟩ (.int .u64 0)).setCell ⟨w.heap.size + 1, 3, none⟩ (.int .u64 0)).setCell ⟨w.heap.size + 1, 4, none⟩ (.slice none 0 0)).setCell ⟨w.heap.size + 1, 5, none⟩ (.slice none 0 0)).setCell ⟨w.heap.size + 1, 6, none⟩ (.int .u64 0)).setCell ⟨w.heap.size + 1, 7, none⟩ (.int .u64 0)).setCell ⟨w.heap.size + 1, 8, none⟩ (.slice none 0 0)).setCell ⟨w.heap.size + 1, 9, none⟩ (.slice none 0 0)).setCell ⟨w.heap.size + 1, 10, none⟩ (.slice none 0 0))) := Lib.hid ((Only.set_ (Only.set_ (Only.set_ (Only.set_ (Only.set_ (Only.set_ (Only.set_ (Only.set_ (Only.set_ (Only.set_ (Only.set_ (Only.refl (fun g => g = w.heap.size + 1) w1) ⟨w.heap.size + 1, 0, none⟩ (.inl rfl) (.slice none 0 0)) ⟨w.heap.size + 1, 1, none⟩ (.inl rfl) (.slice none 0 0)) ⟨w.heap.size + 1, 2, none⟩ (.inl rfl) (.int .u64 0)) ⟨w.heap.size + 1, 3, none⟩ (.inl rfl) (.int .u64 0)) ⟨w.heap.size + 1, 4, none⟩ (.inl rfl) (.slice none 0 0)) ⟨w.heap.size + 1, 5, none⟩ (.inl rfl) (.slice none 0 0)) ⟨w.heap.size + 1, 6, none⟩ (.inl rfl) (.int .u64 0)) ⟨w.heap.size + 1, 7, none⟩ (.inl rfl) (.int .u64 0)) ⟨w.heap.size + 1, 8, none⟩ (.inl rfl) (.slice none 0 0)) ⟨w.heap.size + 1, 9, none⟩ (.inl rfl) (.slice none 0 0)) ⟨w.heap.size + 1, 10, none⟩ (.inl rfl) (.slice none 0 0)))
      have YE : Hid (Blk (((((((((((w1.setCell ⟨w.heap.size + 1, 0, none⟩ (.slice none 0 0)).setCell ⟨w.heap.size + 1, 1, none⟩ (.slice none 0 0)).setCell ⟨w.heap.size + 1, 2, none⟩ (.int .u64 0)).setCell ⟨w.heap.size + 1, 3, none⟩ (.int .u64 0)).setCell ⟨w.heap.size + 1, 4, none⟩ (.slice none 0 0)).setCell ⟨w.heap.size + 1, 5, none⟩ (.slice none 0 0)).setCell ⟨w.heap.size + 1, 6, none⟩ (.int .u64 0)).setCell ⟨w.heap.size + 1, 7, none⟩ (.int .u64 0)).setCell ⟨w.heap.size + 1, 8, none⟩ (.slice none 0 0)).setCell ⟨w.heap.size + 1, 9, none⟩ (.slice none 0 0)).setCell ⟨w.heap.size + 1, 10, none⟩ (.slice none 0 0)) (w.heap.size + 1) 35 #[.slice none 0 0, .slice none 0 0, .int .u64 0, .int .u64 0, .slice none 0 0, .slice none 0 0, .int .u64 0, .int .u64 0, .slice none 0 0, .slice none 0 0, .slice none 0 0]) := Lib.hid (by have h_ := (Blk.set_ (Blk.set_ (Blk.set_ (Blk.set_ (Blk.set_ (Blk.set_ (Blk.set_ (Blk.set_ (Blk.set_ (Blk.set_ (Blk.set_ Y1.out 0 (.slice none 0 0)) 1 (.slice none 0 0)) 2 (.int .u64 0)) 3 (.int .u64 0)) 4 (.slice none 0 0)) 5 (.slice none 0 0)) 6 (.int .u64 0)) 7 (.int .u64 0)) 8 (.slice none 0 0)) 9 (.slice none 0 0)) 10 (.slice none 0 0)); simpa only [List.setIfInBounds_toArray, List.set_cons_zero, List.set_cons_succ] using h_)
      clear hy1 hy1f
      generalize (((((((((((w1.setCell ⟨w.heap.size + 1, 0, none⟩ (.slice none 0 0)).setCell ⟨w.heap.size + 1, 1, none⟩ (.slice none 0 0)).setCell ⟨w.heap.size + 1, 2, none⟩ (.int .u64 0)).setCell ⟨w.heap.size + 1, 3, none⟩ (.int .u64 0)).setCell ⟨w.heap.size + 1, 4, none⟩ (.slice none 0 0)).setCell ⟨w.heap.size + 1, 5, none⟩ (.slice none 0 0)).setCell ⟨w.heap.size + 1, 6, none⟩ (.int .u64 0)).setCell ⟨w.heap.size + 1, 7, none⟩ (.int .u64 0)).setCell ⟨w.heap.size + 1, 8, none⟩ (.slice none 0 0)).setCell ⟨w.heap.size + 1, 9, none⟩ (.slice none 0 0)).setCell ⟨w.heap.size + 1, 10, none⟩ (.slice none 0 0)) = W8 at OE YE ⊢
      have hy8 := YE.out.cell
      refine bodyPost_ret (v := .tuple #[.agg #[.slice none 0 0, .slice none 0 0, .int .u64 0, .int .u64 0, .slice none 0 0, .slice none 0 0, .int .u64 0, .int .u64 0, .slice none 0 0, .slice none 0 0, .slice none 0 0], .int .i64 1]) ?_ rfl ?_
      · simp [results, Try.results16, go_sem, hy8]
      · exact ⟨rfl, W1.out.trans (OE.out.below W1.out.size (fun g hg => by omega))⟩
  · obtain rfl : j = sn := by omega
    have X4 := Lib.hid (X0.out.below HW.out X0.out.lt)
    have hx4 := X4.out.cell
    have i1 : ¬ (j : Int) < j := by omega
    have hnf : ls.any (fun l => l.any fgn) = false := by
      rw [List.any_eq_false]
      intro l hl
      obtain ⟨q, hq, rfl⟩ := List.getElem_of_mem hl
      rw [HALL.out q _ (by have := HLS.out; omega) (List.getElem?_eq_getElem hq)]
      decide
    have HN2 := Lib.hid (HNO.out.resolve_left (by rw [hnf]; decide))
    clear hnf
    go_wp2_with (go_at_call 26; go_must (refine (drun_no _ k K T M 36 _ ⟨sA, j, sc⟩ p (ls.map List.length) (HLN.out.below WR.out) HPS.out HN2.out).mono ?_); rintro e w1 ⟨rfl, hb⟩; go_must (have Y1 := Lib.hid ((Y0.out.below HW.out Y0.out.lt).below hb (Y0.out.below HW.out Y0.out.lt).lt); have W1 := Lib.hid (WR.out.trans (hb.mono WR.out.size))); have hy1 := Y1.out.cell; have hy1f := Y1.out.frozen; clear hb)
    have OE : Hid (Only (fun g => g = w.heap.size + 1) w1 (((((((((((w1.setCell ⟨w.heap.size + 1, 0, none⟩ (.slice none 0 0)).setCell ⟨w.heap.size + 1, 1, none⟩ (.slice none 0 0)).setCell ⟨w.heap.size + 1, 2, none⟩ (.int .u64 0)).setCell ⟨w.heap.size + 1, 3, none⟩ (.int .u64 0)).setCell ⟨w.heap.size + 1, 4, none⟩ (.slice none 0 0)).setCell ⟨w.heap.size + 1, 5, none⟩ (.slice none 0 0)).setCell ⟨w.heap.size + 1, 6, none⟩ (.int .u64 0)).setCell ⟨w.heap.size + 1, 7, none⟩ (.int .u64 0)).setCell ⟨w.heap.size + 1, 8, none⟩ (.slice none 0 0)).setCell ⟨w.heap.size + 1, 9, none⟩ (.slice none 0 0)).setCell ⟨w.heap.size + 1, 10, none⟩ (.slice none 0 0))) := Lib.hid ((Only.set_ (Only.set_ (Only.set_ (Only.set_ (Only.set_ (Only.set_ (Only.set_ (Only.set_ (Only.set_ (Only.set_ (Only.set_ (Only.refl (fun g => g = w.heap.size + 1) w1) ⟨w.heap.size + 1, 0, none⟩ (.inl rfl) (.slice none 0 0)) ⟨w.heap.size + 1, 1, none⟩ (.inl rfl) (.slice none 0 0)) ⟨w.heap.size + 1, 2, none⟩ (.inl rfl) (.int .u64 0)) ⟨w.heap.size + 1, 3, none⟩ (.inl rfl) (.int .u64 0)) ⟨w.heap.size + 1, 4, none⟩ (.inl rfl) (.slice none 0 0)) ⟨w.heap.size + 1, 5, none⟩ (.inl rfl) (.slice none 0 0)) ⟨w.heap.size + 1, 6, none⟩ (.inl rfl) (.int .u64 0)) ⟨w.heap.size + 1, 7, none⟩ (.inl rfl) (.int .u64 0)) ⟨w.heap.size + 1, 8, none⟩ (.inl rfl) (.slice none 0 0)) ⟨w.heap.size + 1, 9, none⟩ (.inl rfl) (.slice none 0 0)) ⟨w.heap.size + 1, 10, none⟩ (.inl rfl) (.slice none 0 0)))
    have YE : Hid (Blk (((((((((((w1.setCell ⟨w.heap.size + 1, 0, none⟩ (.slice none 0 0)).setCell ⟨w.heap.size + 1, 1, none⟩ (.slice none 0 0)).setCell ⟨w.heap.size + 1, 2, none⟩ (.int .u64 0)).setCell ⟨w.heap.size + 1, 3, none⟩ (.int .u64 0)).setCell ⟨w.heap.size + 1, 4, none⟩ (.slice none 0 0)).setCell ⟨w.heap.size + 1, 5, none⟩ (.slice none 0 0)).setCell ⟨w.heap.size + 1, 6, none⟩ (.int .u64 0)).setCell ⟨w.heap.size + 1, 7, none⟩ (.int .u64 0)).setCell ⟨w.heap.size + 1, 8, none⟩ (.slice none 0 0)).setCell ⟨w.heap.size + 1, 9, none⟩ (.slice none 0 0)).setCell ⟨w.heap.size + 1, 10, none⟩ (.slice none 0 0)) (w.heap.size + 1) 35 #[.slice none 0 0, .slice none 0 0, .int .u64 0, .int .u64 0, .slice none 0 0, .slice none 0 0, .int .u64 0, .int .u64 0, .slice none 0 0, .slice none 0 0, .slice none 0 0]) := Lib.hid (by have h_ := (Blk.set_ (Blk.set_ (Blk.set_ (Blk.set_ (Blk.set_ (Blk.set_ (Blk.set_ (Blk.set_ (Blk.set_ (Blk.set_ (Blk.set_ Y1.out 0 (.slice none 0 0)) 1 (.slice none 0 0)) 2 (.int .u64 0)) 3 (.int .u64 0)) 4 (.slice none 0 0)) 5 (.slice none 0 0)) 6 (.int .u64 0)) 7 (.int .u64 0)) 8 (.slice none 0 0)) 9 (.slice none 0 0)) 10 (.slice none 0 0)); simpa only [List.setIfInBounds_toArray, List.set_cons_zero, List.set_cons_succ] using h_)
    clear hy1 hy1f
    generalize (((((((((((w1.setCell ⟨w.heap.size + 1, 0, none⟩ (.slice none 0 0)).setCell ⟨w.heap.size + 1, 1, none⟩ (.slice none 0 0)).setCell ⟨w.heap.size + 1, 2, none⟩ (.int .u64 0)).setCell ⟨w.heap.size + 1, 3, none⟩ (.int .u64 0)).setCell ⟨w.heap.size + 1, 4, none⟩ (.slice none 0 0)).setCell ⟨w.heap.size + 1, 5, none⟩ (.slice none 0 0)).setCell ⟨w.heap.size + 1, 6, none⟩ (.int .u64 0)).setCell ⟨w.heap.size + 1, 7, none⟩ (.int .u64 0)).setCell ⟨w.heap.size + 1, 8, none⟩ (.slice none 0 0)).setCell ⟨w.heap.size + 1, 9, none⟩ (.slice none 0 0)).setCell ⟨w.heap.size + 1, 10, none⟩ (.slice none 0 0)) = W8 at OE YE ⊢
    have hy8 := YE.out.cell
    refine bodyPost_ret (v := .tuple #[.agg #[.slice none 0 0, .slice none 0 0, .int .u64 0, .int .u64 0, .slice none 0 0, .slice none 0 0, .int .u64 0, .int .u64 0, .slice none 0 0, .slice none 0 0, .slice none 0 0], .int .i64 1]) ?_ rfl ?_
    · simp [results, Try.results16, go_sem, hy8]
    · exact ⟨rfl, W1.out.trans (OE.out.below W1.out.size (fun g hg => by omega))⟩
end Go.Proofs.Ytffppdcpiieapaa.Arenac

namespace Go.Proofs.Ytffppdcpiieapaa.Machc
open Go.RowKit Go.Proofs.Ytffppdcpiieapaa.Memc Go.Proofs.Ytffppdcpiieapaa.Newc Go.Proofs.Ytffppdcpiieapaa.Drivec Go.Proofs.Ytffppdcpiieapaa.Procc Go.Proofs.Ytffppdcpiieapaa.Refc
set_option linter.unusedVariables false
set_option maxRecDepth 100000

set_option maxHeartbeats 2000000 in
theorem run3_no (w : World) (k K T M : Int) (sA : Option Addr) (sn sc : Nat) (p : Sl) (ns : List Nat) (h : Drivec.Lens w ⟨sA, sn, sc⟩ ns) (hps : p.n ≤ maxLen)
    (hno : ¬ ((Cfg.mk k K T M).may ∧ (sn : Int) = T ∧ ns.any (fun x => decide (1000 < x)) = false ∧ p.n ≤ 20000)) :
    Calls Try.prog 40 #[.agg #[.int .i64 k, .int .i64 K, .int .i64 T, .int .i64 M], .slice sA sn sc, .slice p.A p.n p.c] w fun e w' => e = .returned (.tuple #[.agg #[.slice none 0 0, .slice none 0 0, .int .u64 0, .int .u64 0, .slice none 0 0, .slice none 0 0, .int .u64 0, .int .u64 0, .slice none 0 0, .slice none 0 0, .slice none 0 0], .bool false]) ∧ Below w.heap.size w w' := by
  have W0 : Hid (Below w.heap.size w ((w.alloc (.cells #[.int .i64 k, .int .i64 K, .int .i64 T, .int .i64 M] 23)).alloc (.cells #[.slice none 0 0, .slice none 0 0, .int .u64 0, .int .u64 0, .slice none 0 0, .slice none 0 0, .int .u64 0, .int .u64 0, .slice none 0 0, .slice none 0 0, .slice none 0 0] 35))) := Lib.hid (((Below.refl _ _).alloc (Nat.le_refl _) _).alloc (by simp) _)
  have C0 : Hid (Blk ((w.alloc (.cells #[.int .i64 k, .int .i64 K, .int .i64 T, .int .i64 M] 23)).alloc (.cells #[.slice none 0 0, .slice none 0 0, .int .u64 0, .int .u64 0, .slice none 0 0, .slice none 0 0, .int .u64 0, .int .u64 0, .slice none 0 0, .slice none 0 0, .slice none 0 0] 35)) w.heap.size 23 #[.int .i64 k, .int .i64 K, .int .i64 T, .int .i64 M]) := Lib.hid ((Blk.new _ _ _).alloc _)
  have Y0 : Hid (Blk ((w.alloc (.cells #[.int .i64 k, .int .i64 K, .int .i64 T, .int .i64 M] 23)).alloc (.cells #[.slice none 0 0, .slice none 0 0, .int .u64 0, .int .u64 0, .slice none 0 0, .slice none 0 0, .int .u64 0, .int .u64 0, .slice none 0 0, .slice none 0 0, .slice none 0 0] 35)) (w.heap.size + 1) 35 #[.slice none 0 0, .slice none 0 0, .int .u64 0, .int .u64 0, .slice none 0 0, .slice none 0 0, .int .u64 0, .int .u64 0, .slice none 0 0, .slice none 0 0, .slice none 0 0]) := Lib.hid (blk_at (by simp))
  have HLN := Lib.hid h
  obtain ⟨m, hmm, hml⟩ : ∃ m : Nat, (m ≤ 1000 ↔ ∀ y ∈ ns, y ≤ 1000) ∧ ∀ W, Below w.heap.size w W → Calls Try.prog 72 #[.slice sA sn sc] W fun e w' => e = .returned (.int .i64 m) ∧ W = w' := ⟨mostN ns 0, by rw [most_le]; simp, fun W hW => longest_c W _ _ _ _ (HLN.out.below hW)⟩
  have HML := Lib.hid hml
  have HN2 : Hid (¬ ((Cfg.mk k K T M).may ∧ (sn : Int) = T ∧ (m : Int) ≤ 1000 ∧ p.n ≤ 20000)) := Lib.hid (fun hx => hno ⟨hx.1, hx.2.1, any_all.2 (hmm.1 (by have := hx.2.2.1; omega)), hx.2.2.2⟩)
  have hsc := h.2.1
  have hscm := h.2.2.1
  simp only at hsc hscm
  have hsn2 : (sn : Int) ≤ 9223372036854775807 := by unfold maxLen at hscm; omega
  have hp2 : (p.n : Int) ≤ 9223372036854775807 := by unfold maxLen at hps; omega
  clear h hno hps hsc hscm hml hmm
  go_enter Try.func40, Try.ntmps40
  go_upto_region 1 with fail
  generalize ((w.alloc (.cells #[.int .i64 k, .int .i64 K, .int .i64 T, .int .i64 M] 23)).alloc (.cells #[.slice none 0 0, .slice none 0 0, .int .u64 0, .int .u64 0, .slice none 0 0, .slice none 0 0, .int .u64 0, .int .u64 0, .slice none 0 0, .slice none 0 0, .slice none 0 0] 35)) = V at W0 C0 Y0 ⊢
  have hcc := C0.out.cell
  refine wp_region_still_tail 6 (by kernel_rfl) (by kernel_rfl) ?_
  simp only [List.take_succ_cons, List.take_zero, List.drop_succ_cons, List.drop_zero]
  repeat (first
    | still_step
    | (refine wpStill_step (fun K hK => ?_); go_simp; refine ⟨_, still_of (HML.out _ (below_drawn W0.out 1)), hK _ ?_⟩; clear hK K))
  refine wpStill_nil ?_
  change wpList _ _ _ _ _ V.drew
  have W0 : Hid (Below w.heap.size w V.drew) := Lib.hid (below_drawn W0.out 1)
  have Y0 := Lib.hid Y0.out.drew
  clear hcc C0
  generalize V.drew = V at W0 Y0 ⊢
  go_wp2_with (go_at_call 29; (with_reducible refine (may3_no _ k K T M sn m p HN2.out).mono ?_); rintro e w1 ⟨rfl, hb⟩; go_must (have W1 := Lib.hid (W0.out.trans (hb.mono W0.out.size)); have Y1 := Lib.hid (Y0.out.below hb Y0.out.lt)); have hy1 := Y1.out.cell; have hyf := Y1.out.frozen; clear hb)
  have Y9 := Lib.hid (blk_tr Y1.out)
  have B9 : Hid (Below w.heap.size w (((((((((((w1.setCell ⟨w.heap.size + 1, 0, none⟩ (.slice none 0 0)).setCell ⟨w.heap.size + 1, 1, none⟩ (.slice none 0 0)).setCell ⟨w.heap.size + 1, 2, none⟩ (.int .u64 0)).setCell ⟨w.heap.size + 1, 3, none⟩ (.int .u64 0)).setCell ⟨w.heap.size + 1, 4, none⟩ (.slice none 0 0)).setCell ⟨w.heap.size + 1, 5, none⟩ (.slice none 0 0)).setCell ⟨w.heap.size + 1, 6, none⟩ (.int .u64 0)).setCell ⟨w.heap.size + 1, 7, none⟩ (.int .u64 0)).setCell ⟨w.heap.size + 1, 8, none⟩ (.slice none 0 0)).setCell ⟨w.heap.size + 1, 9, none⟩ (.slice none 0 0)).setCell ⟨w.heap.size + 1, 10, none⟩ (.slice none 0 0))) := Lib.hid (Below.setCell (Below.setCell (Below.setCell (Below.setCell (Below.setCell (Below.setCell (Below.setCell (Below.setCell (Below.setCell (Below.setCell (Below.setCell W1.out (p := ⟨w.heap.size + 1, 0, none⟩) (show w.heap.size ≤ w.heap.size + 1 by omega) (.slice none 0 0)) (p := ⟨w.heap.size + 1, 1, none⟩) (show w.heap.size ≤ w.heap.size + 1 by omega) (.slice none 0 0)) (p := ⟨w.heap.size + 1, 2, none⟩) (show w.heap.size ≤ w.heap.size + 1 by omega) (.int .u64 0)) (p := ⟨w.heap.size + 1, 3, none⟩) (show w.heap.size ≤ w.heap.size + 1 by omega) (.int .u64 0)) (p := ⟨w.heap.size + 1, 4, none⟩) (show w.heap.size ≤ w.heap.size + 1 by omega) (.slice none 0 0)) (p := ⟨w.heap.size + 1, 5, none⟩) (show w.heap.size ≤ w.heap.size + 1 by omega) (.slice none 0 0)) (p := ⟨w.heap.size + 1, 6, none⟩) (show w.heap.size ≤ w.heap.size + 1 by omega) (.int .u64 0)) (p := ⟨w.heap.size + 1, 7, none⟩) (show w.heap.size ≤ w.heap.size + 1 by omega) (.int .u64 0)) (p := ⟨w.heap.size + 1, 8, none⟩) (show w.heap.size ≤ w.heap.size + 1 by omega) (.slice none 0 0)) (p := ⟨w.heap.size + 1, 9, none⟩) (show w.heap.size ≤ w.heap.size + 1 by omega) (.slice none 0 0)) (p := ⟨w.heap.size + 1, 10, none⟩) (show w.heap.size ≤ w.heap.size + 1 by omega) (.slice none 0 0))
  clear hy1 hyf
  generalize (((((((((((w1.setCell ⟨w.heap.size + 1, 0, none⟩ (.slice none 0 0)).setCell ⟨w.heap.size + 1, 1, none⟩ (.slice none 0 0)).setCell ⟨w.heap.size + 1, 2, none⟩ (.int .u64 0)).setCell ⟨w.heap.size + 1, 3, none⟩ (.int .u64 0)).setCell ⟨w.heap.size + 1, 4, none⟩ (.slice none 0 0)).setCell ⟨w.heap.size + 1, 5, none⟩ (.slice none 0 0)).setCell ⟨w.heap.size + 1, 6, none⟩ (.int .u64 0)).setCell ⟨w.heap.size + 1, 7, none⟩ (.int .u64 0)).setCell ⟨w.heap.size + 1, 8, none⟩ (.slice none 0 0)).setCell ⟨w.heap.size + 1, 9, none⟩ (.slice none 0 0)).setCell ⟨w.heap.size + 1, 10, none⟩ (.slice none 0 0)) = W9 at Y9 B9 ⊢
  refine bodyPost_ret (results_cell2 (a := 6) (b := 7) Try.results40 rfl (resTr Y9.out rfl)) rfl ?_
  exact ⟨rfl, B9.out⟩
/-- a call is of some kinds -/
def kindOk (a b m : Int) (o : Int × Int) : Bool := decide (a ≤ o.1) && decide (o.1 ≤ b) && decide (o.2 ≤ m)
def AllL (a b m : Int) (l : List (Int × Int)) (n : Nat) : Prop := ∀ (q : Nat) (x : Int × Int), q < n → l[q]? = some x → kindOk a b m x = true
def AllK (a b m : Int) (ls : List (List (Int × Int))) (j : Nat) : Prop := ∀ (q : Nat) (l : List (Int × Int)), q < j → ls[q]? = some l → l.all (kindOk a b m) = true
set_option maxHeartbeats 4000000 in
theorem kinds_c (w : World) (B : Nat) (sA : Option Addr) (sn sc : Nat) (ls : List (List (Int × Int))) (a b m : Int) (h : RdLO w B ⟨sA, sn, sc⟩ ls) :
    Calls Try.prog 18 #[.slice sA sn sc, .int .i64 a, .int .i64 b, .int .u32 m] w fun e w' => e = .returned (.bool (ls.all fun l => l.all (kindOk a b m))) ∧ w = w' := by
  have HH := Lib.hid h
  have hls : sn = ls.length := h.1
  have hsc := h.2.1
  have hscm := h.2.2.1
  simp only at hsc hscm
  have hsn2 : (sn : Int) ≤ 9223372036854775807 := by unfold maxLen at hscm; omega
  clear h hsc hscm
  go_enter Try.func18, Try.ntmps18
  go_wp2
  go_loopw [9] (fun i wr => ∃ j : Nat, i = .int .i64 j ∧ j ≤ sn ∧ AllK a b m ls j ∧ wr = w) (fun i _ => sn - (intOf i).toNat)
  case atStart => exact ⟨0, rfl, Nat.zero_le _, fun q l hq => absurd hq (Nat.not_lt_zero _), rfl⟩
  case round =>
  obtain ⟨j, rfl, hj, hall, hw⟩ := hrel
  have hw := hw.symm
  subst hw
  have HA := Lib.hid hall
  clear hall
  have i0 : (0 : Int) ≤ j := by omega
  by_cases hlt : j < sn
  · obtain ⟨b1, off1, hA, hbz, hc⟩ := HH.out.2.2.2 (by show 0 < sn; omega)
    simp only at hA
    subst hA
    obtain ⟨l, hl⟩ : ∃ l, ls[j]? = some l := ⟨_, List.getElem?_eq_getElem (by omega)⟩
    obtain ⟨⟨qA, qn, qc⟩, hq1, hq2⟩ := hc j l hl
    have hqn : qn = l.length := hq2.1
    subst hqn
    simp only at hq1
    have HQ := Lib.hid hq2
    have HLL := Lib.hid hl
    have i1 : (j : Int) < sn := by omega
    have hqb := hq2.2.1
    have hqb2 := hq2.2.2.1
    simp only at hqb hqb2
    have hln2 : (l.length : Int) ≤ 9223372036854775807 := by unfold maxLen at hqb2; omega
    clear hc hq2 hl hqb hqb2
    go_upto_region 5 with fail
    go_loopw [10] (fun i wr => ∃ n : Nat, i = .int .i64 n ∧ n ≤ l.length ∧ AllL a b m l n ∧ wr = w) (fun i _ => l.length - (intOf i).toNat)
    case atStart => exact ⟨0, rfl, Nat.zero_le _, fun q x hq => absurd hq (Nat.not_lt_zero _), rfl⟩
    case round =>
    obtain ⟨n, rfl, hn, hall, hw⟩ := hrel
    have hw := hw.symm
    subst hw
    have HB := Lib.hid hall
    clear hall
    have n0 : (0 : Int) ≤ n := by omega
    by_cases hnl : n < l.length
    · obtain ⟨b2, off2, hA2, hbz2, hc2⟩ := HQ.out.2.2.2 (by show 0 < l.length; omega)
      simp only at hA2
      subst hA2
      obtain ⟨x, hx⟩ : ∃ x, l[n]? = some x := ⟨_, List.getElem?_eq_getElem hnl⟩
      obtain ⟨hx0, hx1⟩ := hc2 n x hx
      have HX := Lib.hid hx
      obtain ⟨kd, vl⟩ := x
      simp only at hx0 hx1
      have n1 : (n : Int) < l.length := by omega
      clear hc2 hx
      by_cases h1 : kd < a
      · clear hnl hlt
        go_wp2
        go_ret
        have hkf : kindOk a b m (kd, vl) = false := by unfold kindOk; simp; omega
        refine ⟨?_, rfl⟩
        have hno : (ls.all fun l => l.all (kindOk a b m)) = false := by
          rw [List.all_eq_false]
          refine ⟨l, List.mem_of_getElem? HLL.out, ?_⟩
          intro hall
          have := List.all_eq_true.1 hall _ (List.mem_of_getElem? HX.out)
          rw [hkf] at this
          cases this
        rw [hno]
        rfl
      · by_cases h2 : b < kd
        · clear hnl hlt
          go_wp2
          go_ret
          have hkf : kindOk a b m (kd, vl) = false := by unfold kindOk; simp; omega
          refine ⟨?_, rfl⟩
          have hno : (ls.all fun l => l.all (kindOk a b m)) = false := by
            rw [List.all_eq_false]
            refine ⟨l, List.mem_of_getElem? HLL.out, ?_⟩
            intro hall
            have := List.all_eq_true.1 hall _ (List.mem_of_getElem? HX.out)
            rw [hkf] at this
            cases this
          rw [hno]
          rfl
        · by_cases h3 : m < vl
          · clear hnl hlt
            go_wp2
            go_ret
            have hkf : kindOk a b m (kd, vl) = false := by unfold kindOk; simp; omega
            refine ⟨?_, rfl⟩
            have hno : (ls.all fun l => l.all (kindOk a b m)) = false := by
              rw [List.all_eq_false]
              refine ⟨l, List.mem_of_getElem? HLL.out, ?_⟩
              intro hall
              have := List.all_eq_true.1 hall _ (List.mem_of_getElem? HX.out)
              rw [hkf] at this
              cases this
            rw [hno]
            rfl
          · go_wp2
            go_roundw
            case rel =>
              refine ⟨n + 1, by go_num, by omega, fun q y hq hy => ?_, trivial⟩
              by_cases hqn : q = n
              · subst hqn
                rw [HX.out] at hy
                injection hy with hy
                rw [← hy]
                unfold kindOk
                simp
                omega
              · exact HB.out q y (by omega) hy
            case measure => simp [intOf]; omega
    · have hn1 : ¬ (n : Int) < l.length := by omega
      have hla : l.all (kindOk a b m) = true := by
        rw [List.all_eq_true]
        intro x hx
        obtain ⟨q, hq, rfl⟩ := List.getElem_of_mem hx
        exact HB.out q _ (by omega) (List.getElem?_eq_getElem hq)
      have HLA := Lib.hid hla
      clear hla
      go_wp2
      go_roundw
      case rel =>
        refine ⟨j + 1, by go_num, by omega, fun q y hq hy => ?_⟩
        by_cases hqj : q = j
        · subst hqj
          rw [HLL.out] at hy
          injection hy with hy
          rw [← hy]
          exact HLA.out
        · exact HA.out q y (by omega) hy
      case measure => simp [intOf]; omega
  · obtain rfl : j = sn := by omega
    have i1 : ¬ (j : Int) < j := by omega
    have hyes : (ls.all fun l => l.all (kindOk a b m)) = true := by
      rw [List.all_eq_true]
      intro l hl
      obtain ⟨q, hq, rfl⟩ := List.getElem_of_mem hl
      exact HA.out q _ (by omega) (List.getElem?_eq_getElem hq)
    have HY := Lib.hid hyes
    clear hyes
    go_wp2
    go_ret
    exact ⟨by rw [HY.out]; rfl, rfl⟩

end Go.Proofs.Ytffppdcpiieapaa.Machc

namespace Go.Proofs.Ytffppdcpiieapaa.Machc
open Go.RowKit Go.Proofs.Ytffppdcpiieapaa.Memc Go.Proofs.Ytffppdcpiieapaa.Newc Go.Proofs.Ytffppdcpiieapaa.Drivec Go.Proofs.Ytffppdcpiieapaa.Procc Go.Proofs.Ytffppdcpiieapaa.Refc
set_option linter.unusedVariables false
set_option maxRecDepth 100000

def fewN : List Nat → Int → Int
  | [], x => x
  | n :: ns, x => if x ≤ 400 then fewN ns (wrap64 (x + n)) else x
theorem fewN_many : ∀ (ns : List Nat) (x : Int), ¬ x ≤ 400 → fewN ns x = x
  | [], x, _ => rfl
  | n :: ns, x, h => if_neg h
theorem fewN_step {ns : List Nat} {j n : Nat} {x : Int} (hn : ns[j]? = some n) (h : x ≤ 400) : fewN (ns.drop j) x = fewN (ns.drop (j + 1)) (wrap64 (x + n)) := by
  rw [List.drop_eq_getElem_cons (List.getElem?_eq_some_iff.1 hn).1, (List.getElem?_eq_some_iff.1 hn).2]
  exact if_pos h
def fewB (ns : List Nat) (sn pn : Nat) : Bool := decide (fewN ns sn ≤ 400) && decide ((pn : Int) ≤ 1000)
set_option maxHeartbeats 4000000 in
theorem few_c (w : World) (sA : Option Addr) (sn sc : Nat) (pA : Option Addr) (pn pc : Nat) (ns : List Nat) (h : Lens w ⟨sA, sn, sc⟩ ns) (hp : pn ≤ maxLen) :
    Calls Try.prog 15 #[.slice sA sn sc, .slice pA pn pc, .int .i64 1000] w fun e w' => e = .returned (.bool (fewB ns sn pn)) ∧ w = w' := by
  have HLN := Lib.hid h
  have hs2 : (sn : Int) ≤ 9223372036854775807 := by have h1 := h.2.1; have h2 := h.2.2.1; simp only at h1 h2; unfold maxLen at h2; omega
  have hp2 : (pn : Int) ≤ 9223372036854775807 := by unfold maxLen at hp; omega
  clear h hp
  go_enter Try.func15, Try.ntmps15
  go_wp2
  go_loopw [7, 8] (fun n i wr => ∃ (j : Nat) (x : Int), n = .int .i64 x ∧ i = .int .i64 j ∧ j ≤ sn ∧ -9223372036854775808 ≤ x ∧ x ≤ 9223372036854775807 ∧ fewN (ns.drop j) x = fewN ns sn ∧ wr = w) (fun _ i _ => sn - (intOf i).toNat)
  case atStart => exact ⟨0, sn, rfl, rfl, Nat.zero_le _, by omega, hs2, by rw [List.drop_zero], rfl⟩
  case round =>
  obtain ⟨j, x, rfl, rfl, hj, x1, x2, hfw, hw⟩ := hrel
  have HFW := Lib.hid hfw
  clear hfw
  have hw := hw.symm
  subst hw
  by_cases hlt : j < sn
  · have i1 : (j : Int) < sn := by omega
    by_cases hx4 : x ≤ 400
    · obtain ⟨b', off', hA, hbB, hcc⟩ := HLN.out.2.2.2.2 (by show 0 < sn; omega)
      simp only at hA
      subst hA
      obtain ⟨n, hn⟩ : ∃ n, ns[j]? = some n := ⟨_, List.getElem?_eq_getElem (by have := HLN.out.1; simp only at this; omega)⟩
      obtain ⟨q, hqn, hq1⟩ := hcc j n hn
      have i0 : (0 : Int) ≤ j := by omega
      have HN := Lib.hid hn
      have HQN := Lib.hid hqn
      clear hcc hn hqn
      go_wp2
      go_roundw
      case rel => exact ⟨j + 1, wrap64 (x + q.n), rfl, by go_num, by omega, by unfold wrap64; omega, by unfold wrap64; omega, (by rw [HQN.out, ← fewN_step HN.out hx4]; exact HFW.out), trivial⟩
      case measure => simp [intOf]; omega
    · have HX : Hid (fewN ns sn = x) := Lib.hid (by rw [← HFW.out, fewN_many _ _ hx4])
      by_cases hp4 : (pn : Int) ≤ 1000
      all_goals
        go_wp2
        go_ret
        refine ⟨?_, rfl⟩
        unfold fewB
        rw [HX.out, decide_eq_false (show ¬ x ≤ 400 by omega)]
        rfl
  · have i1 : ¬ (j : Int) < sn := by omega
    have HX : Hid (fewN ns sn = x) := Lib.hid (by
      have h1 := HFW.out
      rw [List.drop_eq_nil_of_le (by have := HLN.out.1; simp only at this; omega)] at h1
      exact h1.symm)
    by_cases hx4 : x ≤ 400
    · by_cases hp4 : (pn : Int) ≤ 1000
      · go_wp2
        go_ret
        refine ⟨?_, rfl⟩
        unfold fewB
        rw [HX.out, decide_eq_true hx4, decide_eq_true hp4]
        rfl
      · go_wp2
        go_ret
        refine ⟨?_, rfl⟩
        unfold fewB
        rw [HX.out, decide_eq_true hx4, decide_eq_false (show ¬ (pn : Int) ≤ 1000 by omega)]
        rfl
    · by_cases hp4 : (pn : Int) ≤ 1000
      all_goals
        go_wp2
        go_ret
        refine ⟨?_, rfl⟩
        unfold fewB
        rw [HX.out, decide_eq_false (show ¬ x ≤ 400 by omega)]
        rfl
/-- what a layer's run is refused with, by the document's answer -/
def No4 (w : World) (e : Ending) (w' : World) : Prop := e = .returned (.tuple #[.agg #[.slice none 0 0, .slice none 0 0, .int .u64 0, .int .u64 0, .slice none 0 0, .slice none 0 0, .int .u64 0, .int .u64 0, .slice none 0 0, .slice none 0 0, .slice none 0 0], .bool false]) ∧ Below w.heap.size w w'
set_option maxHeartbeats 4000000 in
theorem ref4_kind (w : World) (k K T M : Int) (sA : Option Addr) (sn sc : Nat) (p : Sl) (ls : List (List (Int × Int))) (h : RdLO w w.heap.size ⟨sA, sn, sc⟩ ls) (hk : (ls.all fun l => l.all (kindOk 4 5 4294967295)) = false) :
    Calls Try.prog 17 #[.agg #[.int .i64 k, .int .i64 K, .int .i64 T, .int .i64 M], .slice sA sn sc, .slice p.A p.n p.c] w (No4 w) := by
  have W0 : Hid (Below w.heap.size w ((w.alloc (.cells #[.int .i64 k, .int .i64 K, .int .i64 T, .int .i64 M] 23)).alloc (.cells #[.slice none 0 0, .slice none 0 0, .int .u64 0, .int .u64 0, .slice none 0 0, .slice none 0 0, .int .u64 0, .int .u64 0, .slice none 0 0, .slice none 0 0, .slice none 0 0] 35))) := Lib.hid (((Below.refl _ _).alloc (Nat.le_refl _) _).alloc (by simp) _)
  have C0 : Hid (Blk ((w.alloc (.cells #[.int .i64 k, .int .i64 K, .int .i64 T, .int .i64 M] 23)).alloc (.cells #[.slice none 0 0, .slice none 0 0, .int .u64 0, .int .u64 0, .slice none 0 0, .slice none 0 0, .int .u64 0, .int .u64 0, .slice none 0 0, .slice none 0 0, .slice none 0 0] 35)) w.heap.size 23 #[.int .i64 k, .int .i64 K, .int .i64 T, .int .i64 M]) := Lib.hid ((Blk.new _ _ _).alloc _)
  have Y0 : Hid (Blk ((w.alloc (.cells #[.int .i64 k, .int .i64 K, .int .i64 T, .int .i64 M] 23)).alloc (.cells #[.slice none 0 0, .slice none 0 0, .int .u64 0, .int .u64 0, .slice none 0 0, .slice none 0 0, .int .u64 0, .int .u64 0, .slice none 0 0, .slice none 0 0, .slice none 0 0] 35)) (w.heap.size + 1) 35 #[.slice none 0 0, .slice none 0 0, .int .u64 0, .int .u64 0, .slice none 0 0, .slice none 0 0, .int .u64 0, .int .u64 0, .slice none 0 0, .slice none 0 0, .slice none 0 0]) := Lib.hid (blk_at (by simp))
  have HL := Lib.hid h
  have HK := Lib.hid hk
  clear h hk
  go_enter Try.func17, Try.ntmps17
  go_upto_region 1 with fail
  generalize ((w.alloc (.cells #[.int .i64 k, .int .i64 K, .int .i64 T, .int .i64 M] 23)).alloc (.cells #[.slice none 0 0, .slice none 0 0, .int .u64 0, .int .u64 0, .slice none 0 0, .slice none 0 0, .int .u64 0, .int .u64 0, .slice none 0 0, .slice none 0 0, .slice none 0 0] 35)) = w1 at W0 C0 Y0 ⊢
  have hy1 := Y0.out.cell
  have hyf := Y0.out.frozen
  go_wp2_with (go_at_call 18; (with_reducible refine (kinds_c _ w.heap.size sA sn sc ls 4 5 4294967295 (HL.out.below W0.out)).mono ?_); rw [HK.out]; rintro e w1 ⟨rfl, rfl⟩)
  have Y1 := Y0
  have W1 := W0
  have Y9 := Lib.hid (blk_tr Y1.out)
  have B9 : Hid (Below w.heap.size w (((((((((((w1.setCell ⟨w.heap.size + 1, 0, none⟩ (.slice none 0 0)).setCell ⟨w.heap.size + 1, 1, none⟩ (.slice none 0 0)).setCell ⟨w.heap.size + 1, 2, none⟩ (.int .u64 0)).setCell ⟨w.heap.size + 1, 3, none⟩ (.int .u64 0)).setCell ⟨w.heap.size + 1, 4, none⟩ (.slice none 0 0)).setCell ⟨w.heap.size + 1, 5, none⟩ (.slice none 0 0)).setCell ⟨w.heap.size + 1, 6, none⟩ (.int .u64 0)).setCell ⟨w.heap.size + 1, 7, none⟩ (.int .u64 0)).setCell ⟨w.heap.size + 1, 8, none⟩ (.slice none 0 0)).setCell ⟨w.heap.size + 1, 9, none⟩ (.slice none 0 0)).setCell ⟨w.heap.size + 1, 10, none⟩ (.slice none 0 0))) := Lib.hid (Below.setCell (Below.setCell (Below.setCell (Below.setCell (Below.setCell (Below.setCell (Below.setCell (Below.setCell (Below.setCell (Below.setCell (Below.setCell W1.out (p := ⟨w.heap.size + 1, 0, none⟩) (show w.heap.size ≤ w.heap.size + 1 by omega) (.slice none 0 0)) (p := ⟨w.heap.size + 1, 1, none⟩) (show w.heap.size ≤ w.heap.size + 1 by omega) (.slice none 0 0)) (p := ⟨w.heap.size + 1, 2, none⟩) (show w.heap.size ≤ w.heap.size + 1 by omega) (.int .u64 0)) (p := ⟨w.heap.size + 1, 3, none⟩) (show w.heap.size ≤ w.heap.size + 1 by omega) (.int .u64 0)) (p := ⟨w.heap.size + 1, 4, none⟩) (show w.heap.size ≤ w.heap.size + 1 by omega) (.slice none 0 0)) (p := ⟨w.heap.size + 1, 5, none⟩) (show w.heap.size ≤ w.heap.size + 1 by omega) (.slice none 0 0)) (p := ⟨w.heap.size + 1, 6, none⟩) (show w.heap.size ≤ w.heap.size + 1 by omega) (.int .u64 0)) (p := ⟨w.heap.size + 1, 7, none⟩) (show w.heap.size ≤ w.heap.size + 1 by omega) (.int .u64 0)) (p := ⟨w.heap.size + 1, 8, none⟩) (show w.heap.size ≤ w.heap.size + 1 by omega) (.slice none 0 0)) (p := ⟨w.heap.size + 1, 9, none⟩) (show w.heap.size ≤ w.heap.size + 1 by omega) (.slice none 0 0)) (p := ⟨w.heap.size + 1, 10, none⟩) (show w.heap.size ≤ w.heap.size + 1 by omega) (.slice none 0 0))
  clear hy1 hyf
  generalize (((((((((((w1.setCell ⟨w.heap.size + 1, 0, none⟩ (.slice none 0 0)).setCell ⟨w.heap.size + 1, 1, none⟩ (.slice none 0 0)).setCell ⟨w.heap.size + 1, 2, none⟩ (.int .u64 0)).setCell ⟨w.heap.size + 1, 3, none⟩ (.int .u64 0)).setCell ⟨w.heap.size + 1, 4, none⟩ (.slice none 0 0)).setCell ⟨w.heap.size + 1, 5, none⟩ (.slice none 0 0)).setCell ⟨w.heap.size + 1, 6, none⟩ (.int .u64 0)).setCell ⟨w.heap.size + 1, 7, none⟩ (.int .u64 0)).setCell ⟨w.heap.size + 1, 8, none⟩ (.slice none 0 0)).setCell ⟨w.heap.size + 1, 9, none⟩ (.slice none 0 0)).setCell ⟨w.heap.size + 1, 10, none⟩ (.slice none 0 0)) = W9 at Y9 B9 ⊢
  refine bodyPost_ret (results_cell2 (a := 6) (b := 7) Try.results17 rfl (resTr Y9.out rfl)) rfl ?_
  exact ⟨rfl, B9.out⟩

set_option maxHeartbeats 4000000 in
theorem ref4_no (w : World) (k K T M : Int) (sA : Option Addr) (sn sc : Nat) (p : Sl) (ls : List (List (Int × Int))) (h : RdLO w w.heap.size ⟨sA, sn, sc⟩ ls) (hps : p.n ≤ maxLen) (hk : (ls.all fun l => l.all (kindOk 4 5 4294967295)) = true)
    (hno : ¬ ((Cfg.mk k K T M).may ∧ (sn : Int) = T ∧ (ls.map List.length).any (fun x => decide (1000 < x)) = false ∧ p.n ≤ 20000)) :
    Calls Try.prog 17 #[.agg #[.int .i64 k, .int .i64 K, .int .i64 T, .int .i64 M], .slice sA sn sc, .slice p.A p.n p.c] w (No4 w) := by
  have W0 : Hid (Below w.heap.size w ((w.alloc (.cells #[.int .i64 k, .int .i64 K, .int .i64 T, .int .i64 M] 23)).alloc (.cells #[.slice none 0 0, .slice none 0 0, .int .u64 0, .int .u64 0, .slice none 0 0, .slice none 0 0, .int .u64 0, .int .u64 0, .slice none 0 0, .slice none 0 0, .slice none 0 0] 35))) := Lib.hid (((Below.refl _ _).alloc (Nat.le_refl _) _).alloc (by simp) _)
  have C0 : Hid (Blk ((w.alloc (.cells #[.int .i64 k, .int .i64 K, .int .i64 T, .int .i64 M] 23)).alloc (.cells #[.slice none 0 0, .slice none 0 0, .int .u64 0, .int .u64 0, .slice none 0 0, .slice none 0 0, .int .u64 0, .int .u64 0, .slice none 0 0, .slice none 0 0, .slice none 0 0] 35)) w.heap.size 23 #[.int .i64 k, .int .i64 K, .int .i64 T, .int .i64 M]) := Lib.hid ((Blk.new _ _ _).alloc _)
  have Y0 : Hid (Blk ((w.alloc (.cells #[.int .i64 k, .int .i64 K, .int .i64 T, .int .i64 M] 23)).alloc (.cells #[.slice none 0 0, .slice none 0 0, .int .u64 0, .int .u64 0, .slice none 0 0, .slice none 0 0, .int .u64 0, .int .u64 0, .slice none 0 0, .slice none 0 0, .slice none 0 0] 35)) (w.heap.size + 1) 35 #[.slice none 0 0, .slice none 0 0, .int .u64 0, .int .u64 0, .slice none 0 0, .slice none 0 0, .int .u64 0, .int .u64 0, .slice none 0 0, .slice none 0 0, .slice none 0 0]) := Lib.hid (blk_at (by simp))
  have HL := Lib.hid h
  have HLN : Hid (Drivec.Lens w ⟨sA, sn, sc⟩ (ls.map List.length)) := Lib.hid (RdLO.lens h (Nat.le_refl _))
  have HK := Lib.hid hk
  have HPS := Lib.hid hps
  have HNO := Lib.hid hno
  clear h hk hps hno
  go_enter Try.func17, Try.ntmps17
  go_upto_region 1 with fail
  generalize ((w.alloc (.cells #[.int .i64 k, .int .i64 K, .int .i64 T, .int .i64 M] 23)).alloc (.cells #[.slice none 0 0, .slice none 0 0, .int .u64 0, .int .u64 0, .slice none 0 0, .slice none 0 0, .int .u64 0, .int .u64 0, .slice none 0 0, .slice none 0 0, .slice none 0 0] 35)) = w1 at W0 C0 Y0 ⊢
  have hcc := C0.out.cell
  go_wp2_with (first
    | (go_at_call 18; (with_reducible refine (kinds_c _ w.heap.size sA sn sc ls 4 5 4294967295 (HL.out.below W0.out)).mono ?_); rw [HK.out]; rintro e w1 ⟨rfl, rfl⟩)
    | (go_at_call 40; (with_reducible refine (run3_no _ k K T M sA sn sc p (ls.map List.length) (HLN.out.below W0.out) HPS.out HNO.out).mono ?_); rintro e w1 ⟨rfl, hb⟩; go_must (have Y1 := Lib.hid (Y0.out.below hb Y0.out.lt); have W1 := Lib.hid (W0.out.trans (hb.mono W0.out.size))); have hy1 := Y1.out.cell; have hyf := Y1.out.frozen; clear hb hcc))
  have Y9 := Lib.hid (blk_tr Y1.out)
  have B9 : Hid (Below w.heap.size w (((((((((((w1.setCell ⟨w.heap.size + 1, 0, none⟩ (.slice none 0 0)).setCell ⟨w.heap.size + 1, 1, none⟩ (.slice none 0 0)).setCell ⟨w.heap.size + 1, 2, none⟩ (.int .u64 0)).setCell ⟨w.heap.size + 1, 3, none⟩ (.int .u64 0)).setCell ⟨w.heap.size + 1, 4, none⟩ (.slice none 0 0)).setCell ⟨w.heap.size + 1, 5, none⟩ (.slice none 0 0)).setCell ⟨w.heap.size + 1, 6, none⟩ (.int .u64 0)).setCell ⟨w.heap.size + 1, 7, none⟩ (.int .u64 0)).setCell ⟨w.heap.size + 1, 8, none⟩ (.slice none 0 0)).setCell ⟨w.heap.size + 1, 9, none⟩ (.slice none 0 0)).setCell ⟨w.heap.size + 1, 10, none⟩ (.slice none 0 0))) := Lib.hid (Below.setCell (Below.setCell (Below.setCell (Below.setCell (Below.setCell (Below.setCell (Below.setCell (Below.setCell (Below.setCell (Below.setCell (Below.setCell W1.out (p := ⟨w.heap.size + 1, 0, none⟩) (show w.heap.size ≤ w.heap.size + 1 by omega) (.slice none 0 0)) (p := ⟨w.heap.size + 1, 1, none⟩) (show w.heap.size ≤ w.heap.size + 1 by omega) (.slice none 0 0)) (p := ⟨w.heap.size + 1, 2, none⟩) (show w.heap.size ≤ w.heap.size + 1 by omega) (.int .u64 0)) (p := ⟨w.heap.size + 1, 3, none⟩) (show w.heap.size ≤ w.heap.size + 1 by omega) (.int .u64 0)) (p := ⟨w.heap.size + 1, 4, none⟩) (show w.heap.size ≤ w.heap.size + 1 by omega) (.slice none 0 0)) (p := ⟨w.heap.size + 1, 5, none⟩) (show w.heap.size ≤ w.heap.size + 1 by omega) (.slice none 0 0)) (p := ⟨w.heap.size + 1, 6, none⟩) (show w.heap.size ≤ w.heap.size + 1 by omega) (.int .u64 0)) (p := ⟨w.heap.size + 1, 7, none⟩) (show w.heap.size ≤ w.heap.size + 1 by omega) (.int .u64 0)) (p := ⟨w.heap.size + 1, 8, none⟩) (show w.heap.size ≤ w.heap.size + 1 by omega) (.slice none 0 0)) (p := ⟨w.heap.size + 1, 9, none⟩) (show w.heap.size ≤ w.heap.size + 1 by omega) (.slice none 0 0)) (p := ⟨w.heap.size + 1, 10, none⟩) (show w.heap.size ≤ w.heap.size + 1 by omega) (.slice none 0 0))
  clear hy1 hyf
  generalize (((((((((((w1.setCell ⟨w.heap.size + 1, 0, none⟩ (.slice none 0 0)).setCell ⟨w.heap.size + 1, 1, none⟩ (.slice none 0 0)).setCell ⟨w.heap.size + 1, 2, none⟩ (.int .u64 0)).setCell ⟨w.heap.size + 1, 3, none⟩ (.int .u64 0)).setCell ⟨w.heap.size + 1, 4, none⟩ (.slice none 0 0)).setCell ⟨w.heap.size + 1, 5, none⟩ (.slice none 0 0)).setCell ⟨w.heap.size + 1, 6, none⟩ (.int .u64 0)).setCell ⟨w.heap.size + 1, 7, none⟩ (.int .u64 0)).setCell ⟨w.heap.size + 1, 8, none⟩ (.slice none 0 0)).setCell ⟨w.heap.size + 1, 9, none⟩ (.slice none 0 0)).setCell ⟨w.heap.size + 1, 10, none⟩ (.slice none 0 0)) = W9 at Y9 B9 ⊢
  refine bodyPost_ret (results_cell2 (a := 6) (b := 7) Try.results17 rfl (resTr Y9.out rfl)) rfl ?_
  exact ⟨rfl, B9.out⟩

set_option maxHeartbeats 4000000 in
theorem ref4_yes (w : World) (Z : Mac) (ok : Int → Int → Int → Int → Prop) (G : FS → Prop) (k : Int) (K T M : Nat) (b off c : Nat) (pA : Option Addr) (pn pc : Nat) (ls : List (List (Int × Int))) (ps : List (Int × Int))
    (k1 : 1 ≤ k) (k2 : k ≤ 3) (a1 : 1 ≤ K) (a2 : K ≤ 64) (t1 : 1 ≤ T) (t2 : T ≤ 8) (m1 : 2 ≤ M) (m2 : M ≤ 64)
    (hl : RdLO w w.heap.size ⟨some ⟨b, off, none⟩, T, c⟩ ls) (hle : ∀ x ∈ ls, x.length ≤ 1000) (hp : RdP w w.heap.size ⟨pA, pn, pc⟩ ps) (hpn : ps.length ≤ 20000) (hpd : ∀ p ∈ ps, 0 ≤ p.2 ∧ p.2 ≤ 4294967295)
    (hZ : MacOk Z ok G) (hops : ∀ p ∈ ps, OkOps ok ls p.2) (hA : DocA k K T M Z G) (hT : DocT k K T M Z G) (hB : DocB k K T M Z ok) (hk : (ls.all fun l => l.all (kindOk 4 5 4294967295)) = true) :
    Calls Try.prog 17 #[.agg #[.int .i64 k, .int .i64 K, .int .i64 T, .int .i64 M], .slice (some ⟨b, off, none⟩) T c, .slice pA pn pc] w (Ran4 w (runM Z ls (RS.first (newM k K T M) T) ps)) := by
  have W0 : Hid (Below w.heap.size w ((w.alloc (.cells #[.int .i64 k, .int .i64 K, .int .i64 T, .int .i64 M] 23)).alloc (.cells #[.slice none 0 0, .slice none 0 0, .int .u64 0, .int .u64 0, .slice none 0 0, .slice none 0 0, .int .u64 0, .int .u64 0, .slice none 0 0, .slice none 0 0, .slice none 0 0] 35))) := Lib.hid (((Below.refl _ _).alloc (Nat.le_refl _) _).alloc (by simp) _)
  have C0 : Hid (Blk ((w.alloc (.cells #[.int .i64 k, .int .i64 K, .int .i64 T, .int .i64 M] 23)).alloc (.cells #[.slice none 0 0, .slice none 0 0, .int .u64 0, .int .u64 0, .slice none 0 0, .slice none 0 0, .int .u64 0, .int .u64 0, .slice none 0 0, .slice none 0 0, .slice none 0 0] 35)) w.heap.size 23 #[.int .i64 k, .int .i64 K, .int .i64 T, .int .i64 M]) := Lib.hid ((Blk.new _ _ _).alloc _)
  have Y0 : Hid (Blk ((w.alloc (.cells #[.int .i64 k, .int .i64 K, .int .i64 T, .int .i64 M] 23)).alloc (.cells #[.slice none 0 0, .slice none 0 0, .int .u64 0, .int .u64 0, .slice none 0 0, .slice none 0 0, .int .u64 0, .int .u64 0, .slice none 0 0, .slice none 0 0, .slice none 0 0] 35)) (w.heap.size + 1) 35 #[.slice none 0 0, .slice none 0 0, .int .u64 0, .int .u64 0, .slice none 0 0, .slice none 0 0, .int .u64 0, .int .u64 0, .slice none 0 0, .slice none 0 0, .slice none 0 0]) := Lib.hid (blk_at (by simp))
  have HL := Lib.hid hl
  have HP := Lib.hid hp
  have HK := Lib.hid hk
  have HRN := Lib.hid (fun (W : World) (h1 : RdLO W W.heap.size ⟨some ⟨b, off, none⟩, T, c⟩ ls) (h2 : RdP W W.heap.size ⟨pA, pn, pc⟩ ps) => run3_yes W Z ok G k K T M b off c pA pn pc ls ps k1 k2 a1 a2 t1 t2 m1 m2 h1 hle h2 hpn hpd hZ hops hA hT hB)
  clear hl hle hp hpn hpd hZ hops hA hT hB hk
  go_enter Try.func17, Try.ntmps17
  go_upto_region 1 with fail
  generalize ((w.alloc (.cells #[.int .i64 k, .int .i64 K, .int .i64 T, .int .i64 M] 23)).alloc (.cells #[.slice none 0 0, .slice none 0 0, .int .u64 0, .int .u64 0, .slice none 0 0, .slice none 0 0, .int .u64 0, .int .u64 0, .slice none 0 0, .slice none 0 0, .slice none 0 0] 35)) = w1 at W0 C0 Y0 ⊢
  have hcc := C0.out.cell
  go_wp2_with (first
    | (go_at_call 18; (with_reducible refine (kinds_c _ w.heap.size _ _ _ ls 4 5 4294967295 (HL.out.below W0.out)).mono ?_); rw [HK.out]; rintro e w1 ⟨rfl, rfl⟩)
    | (go_at_call 40; (with_reducible refine (HRN.out _ (Arenac.RdLO.up (HL.out.below W0.out) W0.out.size) (Arenac.RdP.up (HP.out.below W0.out) W0.out.size)).mono ?_); rintro e w2 ⟨r, sS, sK, base, rfl, hm, hoff, hs, hkk, hst, hbase, hb⟩; go_must (have Y1 := Lib.hid (Y0.out.below hb Y0.out.lt); have W1 := Lib.hid (W0.out.trans (hb.mono W0.out.size)); have hh := Lib.hid (And.intro hm (And.intro hoff (And.intro hs (And.intro hkk hst)))); have hlt := Lib.hid (Nat.lt_of_lt_of_le Y0.out.lt hbase)); have hy1 := Y1.out.cell; have hyf := Y1.out.frozen; clear hb hcc hm hs hkk hoff hst hbase))
  have O5 : Hid (Only (fun g => g = w.heap.size + 1) w2 (((((((((((w2.setCell ⟨w.heap.size + 1, 0, none⟩ (.slice sS.A sS.n sS.c)).setCell ⟨w.heap.size + 1, 1, none⟩ (.slice sK.A sK.n sK.c)).setCell ⟨w.heap.size + 1, 2, none⟩ (.int .u64 r.e)).setCell ⟨w.heap.size + 1, 3, none⟩ (.int .u64 r.f)).setCell ⟨w.heap.size + 1, 4, none⟩ (.slice r.L.A r.L.n r.L.c)).setCell ⟨w.heap.size + 1, 5, none⟩ (.slice r.P.A r.P.n r.P.c)).setCell ⟨w.heap.size + 1, 6, none⟩ (.int .u64 r.h)).setCell ⟨w.heap.size + 1, 7, none⟩ (.int .u64 r.t)).setCell ⟨w.heap.size + 1, 8, none⟩ (.slice r.K.A r.K.n r.K.c)).setCell ⟨w.heap.size + 1, 9, none⟩ (.slice r.X.A r.X.n r.X.c)).setCell ⟨w.heap.size + 1, 10, none⟩ (.slice r.S.A r.S.n r.S.c))) := Lib.hid (Only.set_ (Only.set_ (Only.set_ (Only.set_ (Only.set_ (Only.set_ (Only.set_ (Only.set_ (Only.set_ (Only.set_ (Only.set_ (Only.refl (fun g => g = w.heap.size + 1) w2) ⟨w.heap.size + 1, 0, none⟩ (.inl rfl) (.slice sS.A sS.n sS.c)) ⟨w.heap.size + 1, 1, none⟩ (.inl rfl) (.slice sK.A sK.n sK.c)) ⟨w.heap.size + 1, 2, none⟩ (.inl rfl) (.int .u64 r.e)) ⟨w.heap.size + 1, 3, none⟩ (.inl rfl) (.int .u64 r.f)) ⟨w.heap.size + 1, 4, none⟩ (.inl rfl) (.slice r.L.A r.L.n r.L.c)) ⟨w.heap.size + 1, 5, none⟩ (.inl rfl) (.slice r.P.A r.P.n r.P.c)) ⟨w.heap.size + 1, 6, none⟩ (.inl rfl) (.int .u64 r.h)) ⟨w.heap.size + 1, 7, none⟩ (.inl rfl) (.int .u64 r.t)) ⟨w.heap.size + 1, 8, none⟩ (.inl rfl) (.slice r.K.A r.K.n r.K.c)) ⟨w.heap.size + 1, 9, none⟩ (.inl rfl) (.slice r.X.A r.X.n r.X.c)) ⟨w.heap.size + 1, 10, none⟩ (.inl rfl) (.slice r.S.A r.S.n r.S.c))
  have Y5 : Hid (Blk (((((((((((w2.setCell ⟨w.heap.size + 1, 0, none⟩ (.slice sS.A sS.n sS.c)).setCell ⟨w.heap.size + 1, 1, none⟩ (.slice sK.A sK.n sK.c)).setCell ⟨w.heap.size + 1, 2, none⟩ (.int .u64 r.e)).setCell ⟨w.heap.size + 1, 3, none⟩ (.int .u64 r.f)).setCell ⟨w.heap.size + 1, 4, none⟩ (.slice r.L.A r.L.n r.L.c)).setCell ⟨w.heap.size + 1, 5, none⟩ (.slice r.P.A r.P.n r.P.c)).setCell ⟨w.heap.size + 1, 6, none⟩ (.int .u64 r.h)).setCell ⟨w.heap.size + 1, 7, none⟩ (.int .u64 r.t)).setCell ⟨w.heap.size + 1, 8, none⟩ (.slice r.K.A r.K.n r.K.c)).setCell ⟨w.heap.size + 1, 9, none⟩ (.slice r.X.A r.X.n r.X.c)).setCell ⟨w.heap.size + 1, 10, none⟩ (.slice r.S.A r.S.n r.S.c)) (w.heap.size + 1) 35 #[.slice sS.A sS.n sS.c, .slice sK.A sK.n sK.c, .int .u64 r.e, .int .u64 r.f, .slice r.L.A r.L.n r.L.c, .slice r.P.A r.P.n r.P.c, .int .u64 r.h, .int .u64 r.t, .slice r.K.A r.K.n r.K.c, .slice r.X.A r.X.n r.X.c, .slice r.S.A r.S.n r.S.c]) := Lib.hid (by
    have h_ := (Blk.set_ (Blk.set_ (Blk.set_ (Blk.set_ (Blk.set_ (Blk.set_ (Blk.set_ (Blk.set_ (Blk.set_ (Blk.set_ (Blk.set_ Y1.out 0 (.slice sS.A sS.n sS.c)) 1 (.slice sK.A sK.n sK.c)) 2 (.int .u64 r.e)) 3 (.int .u64 r.f)) 4 (.slice r.L.A r.L.n r.L.c)) 5 (.slice r.P.A r.P.n r.P.c)) 6 (.int .u64 r.h)) 7 (.int .u64 r.t)) 8 (.slice r.K.A r.K.n r.K.c)) 9 (.slice r.X.A r.X.n r.X.c)) 10 (.slice r.S.A r.S.n r.S.c))
    simpa only [List.setIfInBounds_toArray, List.set_cons_zero, List.set_cons_succ] using h_)
  clear hy1 hyf
  generalize (((((((((((w2.setCell ⟨w.heap.size + 1, 0, none⟩ (.slice sS.A sS.n sS.c)).setCell ⟨w.heap.size + 1, 1, none⟩ (.slice sK.A sK.n sK.c)).setCell ⟨w.heap.size + 1, 2, none⟩ (.int .u64 r.e)).setCell ⟨w.heap.size + 1, 3, none⟩ (.int .u64 r.f)).setCell ⟨w.heap.size + 1, 4, none⟩ (.slice r.L.A r.L.n r.L.c)).setCell ⟨w.heap.size + 1, 5, none⟩ (.slice r.P.A r.P.n r.P.c)).setCell ⟨w.heap.size + 1, 6, none⟩ (.int .u64 r.h)).setCell ⟨w.heap.size + 1, 7, none⟩ (.int .u64 r.t)).setCell ⟨w.heap.size + 1, 8, none⟩ (.slice r.K.A r.K.n r.K.c)).setCell ⟨w.heap.size + 1, 9, none⟩ (.slice r.X.A r.X.n r.X.c)).setCell ⟨w.heap.size + 1, 10, none⟩ (.slice r.S.A r.S.n r.S.c)) = V5 at O5 Y5 ⊢
  refine bodyPost_ret (results_cell2 (a := 6) (b := 7) Try.results17 rfl (resTr Y5.out rfl)) rfl ?_
  obtain ⟨hm, hoff, hs, hkk, hst⟩ := hh.out
  have hl2 := hlt.out
  exact ⟨r, sS, sK, base, rfl, Rm.only hm O5.out (Nat.le_refl _) (fun b' hb' => hoff b' (by omega)), hoff, hs.only O5.out (fun g hg e => by have := (hs.lt hg).1; omega), hkk.only O5.out (fun g hg e => by have := (hkk.lt hg).1; omega), hst, by have := W0.out.size; omega, W1.out.trans (O5.out.below W1.out.size (fun g hg => by omega))⟩

end Go.Proofs.Ytffppdcpiieapaa.Machc
