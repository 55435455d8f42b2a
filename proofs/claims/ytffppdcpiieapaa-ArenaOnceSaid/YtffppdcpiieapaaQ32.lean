/- A run of any calls by the document's answer that may not be: refused. Whether all calls are of some kinds. · Whether calls and picks are few; a run of Take and Give by the document's answer: by contract. · arena.Run refused: a call is foreign, or there may be no such run. · ArenaOnce: what is marked while the trace is looked at. -/
import Derived.StillTailTactics
import Derived.Deep.QuietTactic
import Derived.BigQuiet
import Derived.Test.YtffppdcpiieapaaQ1
import Derived.Test.YtffppdcpiieapaaQ15
import Derived.Test.YtffppdcpiieapaaQ18
import Derived.Test.YtffppdcpiieapaaQ19
namespace Go.Proofs.Ytffppdcpiieapaa.Machc
open Go.RowKit Go.Proofs.Ytffppdcpiieapaa.Memc Go.Proofs.Ytffppdcpiieapaa.Newc Go.Proofs.Ytffppdcpiieapaa.Drivec Go.Proofs.Ytffppdcpiieapaa.Procc Go.Proofs.Ytffppdcpiieapaa.Refc
set_option linter.unusedVariables false
set_option maxRecDepth 100000

/-- a call is of some kinds -/
def kindOk (a b m : Int) (o : Int × Int) : Bool := decide (a ≤ o.1) && decide (o.1 ≤ b) && decide (o.2 ≤ m)
def AllL (a b m : Int) (l : List (Int × Int)) (n : Nat) : Prop := ∀ (q : Nat) (x : Int × Int), q < n → l[q]? = some x → kindOk a b m x = true
def AllK (a b m : Int) (ls : List (List (Int × Int))) (j : Nat) : Prop := ∀ (q : Nat) (l : List (Int × Int)), q < j → ls[q]? = some l → l.all (kindOk a b m) = true
set_option maxHeartbeats 4000000 in
theorem kinds_c (w : World) (B : Nat) (sA : Option Addr) (sn sc : Nat) (ls : List (List (Int × Int))) (a b m : Int) (h : RdLO w B ⟨sA, sn, sc⟩ ls) :
    Calls Try.prog 18 #[.slice sA sn sc, .int .i64 a, .int .i64 b, .int .u32 m] w fun e w' => e = .returned (.bool (ls.all fun l => l.all (kindOk a b m))) ∧ w = w' := by
  have HH := Lib.hid h
  have hls : sn = ls.length := h.1
  have hsc := h.2.1
  have hscm := h.2.2.1
  simp only at hsc hscm
  have hsn2 : (sn : Int) ≤ 9223372036854775807 := by unfold maxLen at hscm; omega
  clear h hsc hscm
  go_enter Try.func18, Try.ntmps18
  go_wp2
  go_loopw [9] (fun i wr => ∃ j : Nat, i = .int .i64 j ∧ j ≤ sn ∧ AllK a b m ls j ∧ wr = w) (fun i _ => sn - (intOf i).toNat)
  case atStart => exact ⟨0, rfl, Nat.zero_le _, fun q l hq => absurd hq (Nat.not_lt_zero _), rfl⟩
  case round =>
  obtain ⟨j, rfl, hj, hall, hw⟩ := hrel
  have hw := hw.symm
  subst hw
  have HA := Lib.hid hall
  clear hall
  have i0 : (0 : Int) ≤ j := by omega
  by_cases hlt : j < sn
  · obtain ⟨b1, off1, hA, hbz, hc⟩ := HH.out.2.2.2 (by show 0 < sn; omega)
    simp only at hA
    subst hA
    obtain ⟨l, hl⟩ : ∃ l, ls[j]? = some l := ⟨_, List.getElem?_eq_getElem (by omega)⟩
    obtain ⟨⟨qA, qn, qc⟩, hq1, hq2⟩ := hc j l hl
    have hqn : qn = l.length := hq2.1
    subst hqn
    simp only at hq1
    have HQ := Lib.hid hq2
    have HLL := Lib.hid hl
    have i1 : (j : Int) < sn := by omega
    have hqb := hq2.2.1
    have hqb2 := hq2.2.2.1
    simp only at hqb hqb2
    have hln2 : (l.length : Int) ≤ 9223372036854775807 := by unfold maxLen at hqb2; omega
    clear hc hq2 hl hqb hqb2
    go_upto_region 5 with fail
    go_loopw [10] (fun i wr => ∃ n : Nat, i = .int .i64 n ∧ n ≤ l.length ∧ AllL a b m l n ∧ wr = w) (fun i _ => l.length - (intOf i).toNat)
    case atStart => exact ⟨0, rfl, Nat.zero_le _, fun q x hq => absurd hq (Nat.not_lt_zero _), rfl⟩
    case round =>
    obtain ⟨n, rfl, hn, hall, hw⟩ := hrel
    have hw := hw.symm
    subst hw
    have HB := Lib.hid hall
    clear hall
    have n0 : (0 : Int) ≤ n := by omega
    by_cases hnl : n < l.length
    · obtain ⟨b2, off2, hA2, hbz2, hc2⟩ := HQ.out.2.2.2 (by show 0 < l.length; omega)
      simp only at hA2
      subst hA2
      obtain ⟨x, hx⟩ : ∃ x, l[n]? = some x := ⟨_, List.getElem?_eq_getElem hnl⟩
      obtain ⟨hx0, hx1⟩ := hc2 n x hx
      have HX := Lib.hid hx
      obtain ⟨kd, vl⟩ := x
      simp only at hx0 hx1
      have n1 : (n : Int) < l.length := by omega
      clear hc2 hx
      by_cases h1 : kd < a
      · clear hnl hlt
        go_wp2
        go_ret
        have hkf : kindOk a b m (kd, vl) = false := by unfold kindOk; simp; omega
        refine ⟨?_, rfl⟩
        have hno : (ls.all fun l => l.all (kindOk a b m)) = false := by
          rw [List.all_eq_false]
          refine ⟨l, List.mem_of_getElem? HLL.out, ?_⟩
          intro hall
          have := List.all_eq_true.1 hall _ (List.mem_of_getElem? HX.out)
          rw [hkf] at this
          cases this
        rw [hno]
        rfl
      · by_cases h2 : b < kd
        · clear hnl hlt
          go_wp2
          go_ret
          have hkf : kindOk a b m (kd, vl) = false := by unfold kindOk; simp; omega
          refine ⟨?_, rfl⟩
          have hno : (ls.all fun l => l.all (kindOk a b m)) = false := by
            rw [List.all_eq_false]
            refine ⟨l, List.mem_of_getElem? HLL.out, ?_⟩
            intro hall
            have := List.all_eq_true.1 hall _ (List.mem_of_getElem? HX.out)
            rw [hkf] at this
            cases this
          rw [hno]
          rfl
        · by_cases h3 : m < vl
          · clear hnl hlt
            go_wp2
            go_ret
            have hkf : kindOk a b m (kd, vl) = false := by unfold kindOk; simp; omega
            refine ⟨?_, rfl⟩
            have hno : (ls.all fun l => l.all (kindOk a b m)) = false := by
              rw [List.all_eq_false]
              refine ⟨l, List.mem_of_getElem? HLL.out, ?_⟩
              intro hall
              have := List.all_eq_true.1 hall _ (List.mem_of_getElem? HX.out)
              rw [hkf] at this
              cases this
            rw [hno]
            rfl
          · go_wp2
            go_roundw
            case rel =>
              refine ⟨n + 1, by go_num, by omega, fun q y hq hy => ?_, trivial⟩
              by_cases hqn : q = n
              · subst hqn
                rw [HX.out] at hy
                injection hy with hy
                rw [← hy]
                unfold kindOk
                simp
                omega
              · exact HB.out q y (by omega) hy
            case measure => simp [intOf]; omega
    · have hn1 : ¬ (n : Int) < l.length := by omega
      have hla : l.all (kindOk a b m) = true := by
        rw [List.all_eq_true]
        intro x hx
        obtain ⟨q, hq, rfl⟩ := List.getElem_of_mem hx
        exact HB.out q _ (by omega) (List.getElem?_eq_getElem hq)
      have HLA := Lib.hid hla
      clear hla
      go_wp2
      go_roundw
      case rel =>
        refine ⟨j + 1, by go_num, by omega, fun q y hq hy => ?_⟩
        by_cases hqj : q = j
        · subst hqj
          rw [HLL.out] at hy
          injection hy with hy
          rw [← hy]
          exact HLA.out
        · exact HA.out q y (by omega) hy
      case measure => simp [intOf]; omega
  · obtain rfl : j = sn := by omega
    have i1 : ¬ (j : Int) < j := by omega
    have hyes : (ls.all fun l => l.all (kindOk a b m)) = true := by
      rw [List.all_eq_true]
      intro l hl
      obtain ⟨q, hq, rfl⟩ := List.getElem_of_mem hl
      exact HA.out q _ (by omega) (List.getElem?_eq_getElem hq)
    have HY := Lib.hid hyes
    clear hyes
    go_wp2
    go_ret
    exact ⟨by rw [HY.out]; rfl, rfl⟩

end Go.Proofs.Ytffppdcpiieapaa.Machc

namespace Go.Proofs.Ytffppdcpiieapaa.Machc
open Go.RowKit Go.Proofs.Ytffppdcpiieapaa.Memc Go.Proofs.Ytffppdcpiieapaa.Newc Go.Proofs.Ytffppdcpiieapaa.Drivec Go.Proofs.Ytffppdcpiieapaa.Procc Go.Proofs.Ytffppdcpiieapaa.Refc
set_option linter.unusedVariables false
set_option maxRecDepth 100000

def fewN : List Nat → Int → Int
  | [], x => x
  | n :: ns, x => if x ≤ 400 then fewN ns (wrap64 (x + n)) else x
theorem fewN_many : ∀ (ns : List Nat) (x : Int), ¬ x ≤ 400 → fewN ns x = x
  | [], x, _ => rfl
  | n :: ns, x, h => if_neg h
theorem fewN_step {ns : List Nat} {j n : Nat} {x : Int} (hn : ns[j]? = some n) (h : x ≤ 400) : fewN (ns.drop j) x = fewN (ns.drop (j + 1)) (wrap64 (x + n)) := by
  rw [List.drop_eq_getElem_cons (List.getElem?_eq_some_iff.1 hn).1, (List.getElem?_eq_some_iff.1 hn).2]
  exact if_pos h
def fewB (ns : List Nat) (sn pn : Nat) : Bool := decide (fewN ns sn ≤ 400) && decide ((pn : Int) ≤ 1000)
set_option maxHeartbeats 4000000 in
theorem few_c (w : World) (sA : Option Addr) (sn sc : Nat) (pA : Option Addr) (pn pc : Nat) (ns : List Nat) (h : Lens w ⟨sA, sn, sc⟩ ns) (hp : pn ≤ maxLen) :
    Calls Try.prog 15 #[.slice sA sn sc, .slice pA pn pc, .int .i64 1000] w fun e w' => e = .returned (.bool (fewB ns sn pn)) ∧ w = w' := by
  have HLN := Lib.hid h
  have hs2 : (sn : Int) ≤ 9223372036854775807 := by have h1 := h.2.1; have h2 := h.2.2.1; simp only at h1 h2; unfold maxLen at h2; omega
  have hp2 : (pn : Int) ≤ 9223372036854775807 := by unfold maxLen at hp; omega
  clear h hp
  go_enter Try.func15, Try.ntmps15
  go_wp2
  go_loopw [7, 8] (fun n i wr => ∃ (j : Nat) (x : Int), n = .int .i64 x ∧ i = .int .i64 j ∧ j ≤ sn ∧ -9223372036854775808 ≤ x ∧ x ≤ 9223372036854775807 ∧ fewN (ns.drop j) x = fewN ns sn ∧ wr = w) (fun _ i _ => sn - (intOf i).toNat)
  case atStart => exact ⟨0, sn, rfl, rfl, Nat.zero_le _, by omega, hs2, by rw [List.drop_zero], rfl⟩
  case round =>
  obtain ⟨j, x, rfl, rfl, hj, x1, x2, hfw, hw⟩ := hrel
  have HFW := Lib.hid hfw
  clear hfw
  have hw := hw.symm
  subst hw
  by_cases hlt : j < sn
  · have i1 : (j : Int) < sn := by omega
    by_cases hx4 : x ≤ 400
    · obtain ⟨b', off', hA, hbB, hcc⟩ := HLN.out.2.2.2.2 (by show 0 < sn; omega)
      simp only at hA
      subst hA
      obtain ⟨n, hn⟩ : ∃ n, ns[j]? = some n := ⟨_, List.getElem?_eq_getElem (by have := HLN.out.1; simp only at this; omega)⟩
      obtain ⟨q, hqn, hq1⟩ := hcc j n hn
      have i0 : (0 : Int) ≤ j := by omega
      have HN := Lib.hid hn
      have HQN := Lib.hid hqn
      clear hcc hn hqn
      go_wp2
      go_roundw
      case rel => exact ⟨j + 1, wrap64 (x + q.n), rfl, by go_num, by omega, by unfold wrap64; omega, by unfold wrap64; omega, (by rw [HQN.out, ← fewN_step HN.out hx4]; exact HFW.out), trivial⟩
      case measure => simp [intOf]; omega
    · have HX : Hid (fewN ns sn = x) := Lib.hid (by rw [← HFW.out, fewN_many _ _ hx4])
      by_cases hp4 : (pn : Int) ≤ 1000
      all_goals
        go_wp2
        go_ret
        refine ⟨?_, rfl⟩
        unfold fewB
        rw [HX.out, decide_eq_false (show ¬ x ≤ 400 by omega)]
        rfl
  · have i1 : ¬ (j : Int) < sn := by omega
    have HX : Hid (fewN ns sn = x) := Lib.hid (by
      have h1 := HFW.out
      rw [List.drop_eq_nil_of_le (by have := HLN.out.1; simp only at this; omega)] at h1
      exact h1.symm)
    by_cases hx4 : x ≤ 400
    · by_cases hp4 : (pn : Int) ≤ 1000
      · go_wp2
        go_ret
        refine ⟨?_, rfl⟩
        unfold fewB
        rw [HX.out, decide_eq_true hx4, decide_eq_true hp4]
        rfl
      · go_wp2
        go_ret
        refine ⟨?_, rfl⟩
        unfold fewB
        rw [HX.out, decide_eq_true hx4, decide_eq_false (show ¬ (pn : Int) ≤ 1000 by omega)]
        rfl
    · by_cases hp4 : (pn : Int) ≤ 1000
      all_goals
        go_wp2
        go_ret
        refine ⟨?_, rfl⟩
        unfold fewB
        rw [HX.out, decide_eq_false (show ¬ x ≤ 400 by omega)]
        rfl
/-- what a layer's run is refused with, by the document's answer -/
def No4 (w : World) (e : Ending) (w' : World) : Prop := e = .returned (.tuple #[.agg #[.slice none 0 0, .slice none 0 0, .int .u64 0, .int .u64 0, .slice none 0 0, .slice none 0 0, .int .u64 0, .int .u64 0, .slice none 0 0, .slice none 0 0, .slice none 0 0], .bool false]) ∧ Below w.heap.size w w'
end Go.Proofs.Ytffppdcpiieapaa.Machc

namespace Go.Proofs.Ytffppdcpiieapaa.Arenac
open Go.RowKit Go.Proofs.Ytffppdcpiieapaa.Memc Go.Proofs.Ytffppdcpiieapaa.Newc Go.Proofs.Ytffppdcpiieapaa.Procc Go.Proofs.Ytffppdcpiieapaa.Machc Go.Proofs.Ytffppdcpiieapaa.Drivec Go.Proofs.Ytffppdcpiieapaa.Wordc
set_option linter.unusedVariables false
set_option maxRecDepth 100000

def NoneF (ls : List (List (Int × Int))) (j : Nat) : Prop := ∀ (q : Nat) (l : List (Int × Int)), q < j → ls[q]? = some l → l.any fgn = false
set_option maxHeartbeats 4000000 in
theorem arun_no (w : World) (k K T M : Int) (sA : Option Addr) (sn sc : Nat) (p : Sl) (ls : List (List (Int × Int))) (h : RdLO w w.heap.size ⟨sA, sn, sc⟩ ls) (hps : p.n ≤ maxLen)
    (hno : ls.any (fun l => l.any fgn) = true ∨ ¬ ((Cfg.mk k K T M).may ∧ (sn : Int) = T ∧ (ls.map List.length).any (fun x => decide (1000 < x)) = false ∧ p.n ≤ 20000)) :
    Calls Try.prog 16 #[.agg #[.int .i64 k, .int .i64 K, .int .i64 T, .int .i64 M], .slice sA sn sc, .slice p.A p.n p.c] w fun e w' => e = .returned (.tuple #[.agg #[.slice none 0 0, .slice none 0 0, .int .u64 0, .int .u64 0, .slice none 0 0, .slice none 0 0, .int .u64 0, .int .u64 0, .slice none 0 0, .slice none 0 0, .slice none 0 0], .int .i64 1]) ∧ Below w.heap.size w w' := by
  have hmf : ∀ (fn : Fn) (first cap : Array Value) (w : World), (Instr.makeFunc fn first cap).run Try.prog w = .ok (.func fn first cap) w := fun _ _ _ _ => rfl
  have W0 : Hid (Below w.heap.size w ((w.alloc (.cells #[.int .i64 k, .int .i64 K, .int .i64 T, .int .i64 M] 23)).alloc (.cells #[.slice none 0 0, .slice none 0 0, .int .u64 0, .int .u64 0, .slice none 0 0, .slice none 0 0, .int .u64 0, .int .u64 0, .slice none 0 0, .slice none 0 0, .slice none 0 0] 35))) := Lib.hid (((Below.refl _ _).alloc (Nat.le_refl _) _).alloc (by simp) _)
  have X0 : Hid (Blk ((w.alloc (.cells #[.int .i64 k, .int .i64 K, .int .i64 T, .int .i64 M] 23)).alloc (.cells #[.slice none 0 0, .slice none 0 0, .int .u64 0, .int .u64 0, .slice none 0 0, .slice none 0 0, .int .u64 0, .int .u64 0, .slice none 0 0, .slice none 0 0, .slice none 0 0] 35)) w.heap.size 23 #[.int .i64 k, .int .i64 K, .int .i64 T, .int .i64 M]) := Lib.hid ((Blk.new _ _ _).alloc _)
  have Y0 : Hid (Blk ((w.alloc (.cells #[.int .i64 k, .int .i64 K, .int .i64 T, .int .i64 M] 23)).alloc (.cells #[.slice none 0 0, .slice none 0 0, .int .u64 0, .int .u64 0, .slice none 0 0, .slice none 0 0, .int .u64 0, .int .u64 0, .slice none 0 0, .slice none 0 0, .slice none 0 0] 35)) (w.heap.size + 1) 35 #[.slice none 0 0, .slice none 0 0, .int .u64 0, .int .u64 0, .slice none 0 0, .slice none 0 0, .int .u64 0, .int .u64 0, .slice none 0 0, .slice none 0 0, .slice none 0 0]) := Lib.hid (blk_at2 _ _ _ _ (by simp))
  have HL := Lib.hid h
  have HLN : Hid (Drivec.Lens w ⟨sA, sn, sc⟩ (ls.map List.length)) := Lib.hid (RdLO.lens h (Nat.le_refl _))
  have HNO := Lib.hid hno
  have hls : sn = ls.length := h.1
  have hsc := h.2.1
  have hscm := h.2.2.1
  simp only at hsc hscm
  have hsn2 : (sn : Int) ≤ 9223372036854775807 := by unfold maxLen at hscm; omega
  have HPS := Lib.hid hps
  have HLS := Lib.hid hls
  clear h hno hsc hscm hps hls
  go_enter Try.func16, Try.ntmps16
  go_wp2_with fail
  generalize ((w.alloc (.cells #[.int .i64 k, .int .i64 K, .int .i64 T, .int .i64 M] 23)).alloc (.cells #[.slice none 0 0, .slice none 0 0, .int .u64 0, .int .u64 0, .slice none 0 0, .slice none 0 0, .int .u64 0, .int .u64 0, .slice none 0 0, .slice none 0 0, .slice none 0 0] 35)) = V at W0 X0 Y0 ⊢
  go_loopw [12] (fun i wr => ∃ j : Nat, i = .int .i64 j ∧ j ≤ sn ∧ NoneF ls j ∧ Below V.heap.size V wr) (fun i _ => sn - (intOf i).toNat)
  case atStart => exact ⟨0, rfl, Nat.zero_le _, fun q l hq => absurd hq (Nat.not_lt_zero _), Below.refl _ _⟩
  case round =>
  obtain ⟨j, rfl, hj, hall, hbw⟩ := hrel
  have HALL := Lib.hid hall
  have WR : Hid (Below w.heap.size w wr) := Lib.hid (W0.out.trans (hbw.mono W0.out.size))
  have HW := Lib.hid hbw
  have i0 : (0 : Int) ≤ j := by omega
  clear hbw hall
  by_cases hlt : j < sn
  · obtain ⟨b1, off1, hA, hbz, hc⟩ := HL.out.2.2.2 (by show 0 < sn; omega)
    simp only at hA
    subst hA
    obtain ⟨l, hl⟩ : ∃ l, ls[j]? = some l := ⟨_, List.getElem?_eq_getElem (by have := HLS.out; omega)⟩
    obtain ⟨qs, hq, hqo⟩ := hc j l hl
    have hcq := (WR.out.cell (p := ⟨b1, off1 + j, none⟩) hbz).trans hq
    have HQ := Lib.hid hqo
    have HLL := Lib.hid hl
    have i1 : (j : Int) < sn := by omega
    clear hc hq hqo hl
    rcases hf : l.any fgn with _ | _
    · have HF := Lib.hid hf
      clear hf
      go_wp2_with (go_at_call 34; (with_reducible refine (contains_O qs _ w.heap.size l (HQ.out.below WR.out) WR.out.size).mono ?_); rw [HF.out]; rintro e w' ⟨rfl, hb⟩; go_must (have HB2 := Lib.hid hb); clear hb)
      go_roundw
      case rel =>
        refine ⟨j + 1, by go_num, by omega, fun q y hq hy => ?_, HW.out.trans (HB2.out.mono HW.out.size)⟩
        by_cases hqj : q = j
        · subst hqj
          rw [HLL.out] at hy
          injection hy with hy
          rw [← hy]
          exact HF.out
        · exact HALL.out q y (by omega) hy
      case measure => simp [intOf]; omega
    · have HF := Lib.hid hf
      clear hf
      go_wp2_with (go_at_call 34; (with_reducible refine (contains_O qs _ w.heap.size l (HQ.out.below WR.out) WR.out.size).mono ?_); rw [HF.out]; rintro e w1 ⟨rfl, hb⟩; go_must (have HB2 := Lib.hid hb; have Y1 := Lib.hid ((Y0.out.below HW.out Y0.out.lt).below hb (Y0.out.below HW.out Y0.out.lt).lt); have W1 := Lib.hid (WR.out.trans (hb.mono WR.out.size))); have hy1 := Y1.out.cell; have hy1f := Y1.out.frozen; clear hb)
      have OE : Hid (Only (fun g => g = w.heap.size + 1) w1 (((((((((((w1.setCell ⟨w.heap.size + 1, 0, none⟩ (.slice none 0 0)).setCell ⟨w.heap.size + 1, 1, none⟩ (.slice none 0 0)).setCell ⟨w.heap.size + 1, 2, none⟩ (.int .u64 0)).setCell ⟨w.heap.size + 1, 3, none⟩ (.int .u64 0)).setCell ⟨w.heap.size + 1, 4, none⟩ (.slice none 0 0)).setCell ⟨w.heap.size + 1, 5, none⟩ (.slice none 0 0)).setCell ⟨w.heap.size + 1, 6, none⟩ (.int .u64 0)).setCell ⟨w.heap.size + 1, 7, none⟩ (.int .u64 0)).setCell ⟨w.heap.size + 1, 8, none⟩ (.slice none 0 0)).setCell ⟨w.heap.size + 1, 9, none⟩ (.slice none 0 0)).setCell ⟨w.heap.size + 1, 10, none⟩ (.slice none 0 0))) := Lib.hid ((Only.set_ (Only.set_ (Only.set_ (Only.set_ (Only.set_ (Only.set_ (Only.set_ (Only.set_ (Only.set_ (Only.set_ (Only.set_ (Only.refl (fun g => g = w.heap.size + 1) w1) ⟨w.heap.size + 1, 0, none⟩ (.inl rfl) (.slice none 0 0)) ⟨w.heap.size + 1, 1, none⟩ (.inl rfl) (.slice none 0 0)) ⟨w.heap.size + 1, 2, none⟩ (.inl rfl) (.int .u64 0)) ⟨w.heap.size + 1, 3, none⟩ (.inl rfl) (.int .u64 0)) ⟨w.heap.size + 1, 4, none⟩ (.inl rfl) (.slice none 0 0)) ⟨w.heap.size + 1, 5, none⟩ (.inl rfl) (.slice none 0 0)) ⟨w.heap.size + 1, 6, none⟩ (.inl rfl) (.int .u64 0)) ⟨w.heap.size + 1, 7, none⟩ (.inl rfl) (.int .u64 0)) ⟨w.heap.size + 1, 8, none⟩ (.inl rfl) (.slice none 0 0)) ⟨w.heap.size + 1, 9, none⟩ (.inl rfl) (.slice none 0 0)) ⟨w.heap.size + 1, 10, none⟩ (.inl rfl) (.slice none 0 0)))
      have YE : Hid (Blk (((((((((((w1.setCell ⟨w.heap.size + 1, 0, none⟩ (.slice none 0 0)).setCell ⟨w.heap.size + 1, 1, none⟩ (.slice none 0 0)).setCell ⟨w.heap.size + 1, 2, none⟩ (.int .u64 0)).setCell ⟨w.heap.size + 1, 3, none⟩ (.int .u64 0)).setCell ⟨w.heap.size + 1, 4, none⟩ (.slice none 0 0)).setCell ⟨w.heap.size + 1, 5, none⟩ (.slice none 0 0)).setCell ⟨w.heap.size + 1, 6, none⟩ (.int .u64 0)).setCell ⟨w.heap.size + 1, 7, none⟩ (.int .u64 0)).setCell ⟨w.heap.size + 1, 8, none⟩ (.slice none 0 0)).setCell ⟨w.heap.size + 1, 9, none⟩ (.slice none 0 0)).setCell ⟨w.heap.size + 1, 10, none⟩ (.slice none 0 0)) (w.heap.size + 1) 35 #[.slice none 0 0, .slice none 0 0, .int .u64 0, .int .u64 0, .slice none 0 0, .slice none 0 0, .int .u64 0, .int .u64 0, .slice none 0 0, .slice none 0 0, .slice none 0 0]) := Lib.hid (by have h_ := (Blk.set_ (Blk.set_ (Blk.set_ (Blk.set_ (Blk.set_ (Blk.set_ (Blk.set_ (Blk.set_ (Blk.set_ (Blk.set_ (Blk.set_ Y1.out 0 (.slice none 0 0)) 1 (.slice none 0 0)) 2 (.int .u64 0)) 3 (.int .u64 0)) 4 (.slice none 0 0)) 5 (.slice none 0 0)) 6 (.int .u64 0)) 7 (.int .u64 0)) 8 (.slice none 0 0)) 9 (.slice none 0 0)) 10 (.slice none 0 0)); simpa only [List.setIfInBounds_toArray, List.set_cons_zero, List.set_cons_succ] using h_)
      clear hy1 hy1f
      generalize (((((((((((w1.setCell ⟨w.heap.size + 1, 0, none⟩ (.slice none 0 0)).setCell ⟨w.heap.size + 1, 1, none⟩ (.slice none 0 0)).setCell ⟨w.heap.size + 1, 2, none⟩ (.int .u64 0)).setCell ⟨w.heap.size + 1, 3, none⟩ (.int .u64 0)).setCell ⟨w.heap.size + 1, 4, none⟩ (.slice none 0 0)).setCell ⟨w.heap.size + 1, 5, none⟩ (.slice none 0 0)).setCell ⟨w.heap.size + 1, 6, none⟩ (.int .u64 0)).setCell ⟨w.heap.size + 1, 7, none⟩ (.int .u64 0)).setCell ⟨w.heap.size + 1, 8, none⟩ (.slice none 0 0)).setCell ⟨w.heap.size + 1, 9, none⟩ (.slice none 0 0)).setCell ⟨w.heap.size + 1, 10, none⟩ (.slice none 0 0)) = W8 at OE YE ⊢
      have hy8 := YE.out.cell
      refine bodyPost_ret (v := .tuple #[.agg #[.slice none 0 0, .slice none 0 0, .int .u64 0, .int .u64 0, .slice none 0 0, .slice none 0 0, .int .u64 0, .int .u64 0, .slice none 0 0, .slice none 0 0, .slice none 0 0], .int .i64 1]) ?_ rfl ?_
      · simp [results, Try.results16, go_sem, hy8]
      · exact ⟨rfl, W1.out.trans (OE.out.below W1.out.size (fun g hg => by omega))⟩
  · obtain rfl : j = sn := by omega
    have X4 := Lib.hid (X0.out.below HW.out X0.out.lt)
    have hx4 := X4.out.cell
    have i1 : ¬ (j : Int) < j := by omega
    have hnf : ls.any (fun l => l.any fgn) = false := by
      rw [List.any_eq_false]
      intro l hl
      obtain ⟨q, hq, rfl⟩ := List.getElem_of_mem hl
      rw [HALL.out q _ (by have := HLS.out; omega) (List.getElem?_eq_getElem hq)]
      decide
    have HN2 := Lib.hid (HNO.out.resolve_left (by rw [hnf]; decide))
    clear hnf
    go_wp2_with (go_at_call 26; go_must (refine (drun_no _ k K T M 36 _ ⟨sA, j, sc⟩ p (ls.map List.length) (HLN.out.below WR.out) HPS.out HN2.out).mono ?_); rintro e w1 ⟨rfl, hb⟩; go_must (have Y1 := Lib.hid ((Y0.out.below HW.out Y0.out.lt).below hb (Y0.out.below HW.out Y0.out.lt).lt); have W1 := Lib.hid (WR.out.trans (hb.mono WR.out.size))); have hy1 := Y1.out.cell; have hy1f := Y1.out.frozen; clear hb)
    have OE : Hid (Only (fun g => g = w.heap.size + 1) w1 (((((((((((w1.setCell ⟨w.heap.size + 1, 0, none⟩ (.slice none 0 0)).setCell ⟨w.heap.size + 1, 1, none⟩ (.slice none 0 0)).setCell ⟨w.heap.size + 1, 2, none⟩ (.int .u64 0)).setCell ⟨w.heap.size + 1, 3, none⟩ (.int .u64 0)).setCell ⟨w.heap.size + 1, 4, none⟩ (.slice none 0 0)).setCell ⟨w.heap.size + 1, 5, none⟩ (.slice none 0 0)).setCell ⟨w.heap.size + 1, 6, none⟩ (.int .u64 0)).setCell ⟨w.heap.size + 1, 7, none⟩ (.int .u64 0)).setCell ⟨w.heap.size + 1, 8, none⟩ (.slice none 0 0)).setCell ⟨w.heap.size + 1, 9, none⟩ (.slice none 0 0)).setCell ⟨w.heap.size + 1, 10, none⟩ (.slice none 0 0))) := Lib.hid ((Only.set_ (Only.set_ (Only.set_ (Only.set_ (Only.set_ (Only.set_ (Only.set_ (Only.set_ (Only.set_ (Only.set_ (Only.set_ (Only.refl (fun g => g = w.heap.size + 1) w1) ⟨w.heap.size + 1, 0, none⟩ (.inl rfl) (.slice none 0 0)) ⟨w.heap.size + 1, 1, none⟩ (.inl rfl) (.slice none 0 0)) ⟨w.heap.size + 1, 2, none⟩ (.inl rfl) (.int .u64 0)) ⟨w.heap.size + 1, 3, none⟩ (.inl rfl) (.int .u64 0)) ⟨w.heap.size + 1, 4, none⟩ (.inl rfl) (.slice none 0 0)) ⟨w.heap.size + 1, 5, none⟩ (.inl rfl) (.slice none 0 0)) ⟨w.heap.size + 1, 6, none⟩ (.inl rfl) (.int .u64 0)) ⟨w.heap.size + 1, 7, none⟩ (.inl rfl) (.int .u64 0)) ⟨w.heap.size + 1, 8, none⟩ (.inl rfl) (.slice none 0 0)) ⟨w.heap.size + 1, 9, none⟩ (.inl rfl) (.slice none 0 0)) ⟨w.heap.size + 1, 10, none⟩ (.inl rfl) (.slice none 0 0)))
    have YE : Hid (Blk (((((((((((w1.setCell ⟨w.heap.size + 1, 0, none⟩ (.slice none 0 0)).setCell ⟨w.heap.size + 1, 1, none⟩ (.slice none 0 0)).setCell ⟨w.heap.size + 1, 2, none⟩ (.int .u64 0)).setCell ⟨w.heap.size + 1, 3, none⟩ (.int .u64 0)).setCell ⟨w.heap.size + 1, 4, none⟩ (.slice none 0 0)).setCell ⟨w.heap.size + 1, 5, none⟩ (.slice none 0 0)).setCell ⟨w.heap.size + 1, 6, none⟩ (.int .u64 0)).setCell ⟨w.heap.size + 1, 7, none⟩ (.int .u64 0)).setCell ⟨w.heap.size + 1, 8, none⟩ (.slice none 0 0)).setCell ⟨w.heap.size + 1, 9, none⟩ (.slice none 0 0)).setCell ⟨w.heap.size + 1, 10, none⟩ (.slice none 0 0)) (w.heap.size + 1) 35 #[.slice none 0 0, .slice none 0 0, .int .u64 0, .int .u64 0, .slice none 0 0, .slice none 0 0, .int .u64 0, .int .u64 0, .slice none 0 0, .slice none 0 0, .slice none 0 0]) := Lib.hid (by have h_ := (Blk.set_ (Blk.set_ (Blk.set_ (Blk.set_ (Blk.set_ (Blk.set_ (Blk.set_ (Blk.set_ (Blk.set_ (Blk.set_ (Blk.set_ Y1.out 0 (.slice none 0 0)) 1 (.slice none 0 0)) 2 (.int .u64 0)) 3 (.int .u64 0)) 4 (.slice none 0 0)) 5 (.slice none 0 0)) 6 (.int .u64 0)) 7 (.int .u64 0)) 8 (.slice none 0 0)) 9 (.slice none 0 0)) 10 (.slice none 0 0)); simpa only [List.setIfInBounds_toArray, List.set_cons_zero, List.set_cons_succ] using h_)
    clear hy1 hy1f
    generalize (((((((((((w1.setCell ⟨w.heap.size + 1, 0, none⟩ (.slice none 0 0)).setCell ⟨w.heap.size + 1, 1, none⟩ (.slice none 0 0)).setCell ⟨w.heap.size + 1, 2, none⟩ (.int .u64 0)).setCell ⟨w.heap.size + 1, 3, none⟩ (.int .u64 0)).setCell ⟨w.heap.size + 1, 4, none⟩ (.slice none 0 0)).setCell ⟨w.heap.size + 1, 5, none⟩ (.slice none 0 0)).setCell ⟨w.heap.size + 1, 6, none⟩ (.int .u64 0)).setCell ⟨w.heap.size + 1, 7, none⟩ (.int .u64 0)).setCell ⟨w.heap.size + 1, 8, none⟩ (.slice none 0 0)).setCell ⟨w.heap.size + 1, 9, none⟩ (.slice none 0 0)).setCell ⟨w.heap.size + 1, 10, none⟩ (.slice none 0 0)) = W8 at OE YE ⊢
    have hy8 := YE.out.cell
    refine bodyPost_ret (v := .tuple #[.agg #[.slice none 0 0, .slice none 0 0, .int .u64 0, .int .u64 0, .slice none 0 0, .slice none 0 0, .int .u64 0, .int .u64 0, .slice none 0 0, .slice none 0 0, .slice none 0 0], .int .i64 1]) ?_ rfl ?_
    · simp [results, Try.results16, go_sem, hy8]
    · exact ⟨rfl, W1.out.trans (OE.out.below W1.out.size (fun g hg => by omega))⟩
end Go.Proofs.Ytffppdcpiieapaa.Arenac

namespace Go.Proofs.Ytffppdcpiieapaa.Machc
open Go.RowKit Go.Proofs.Ytffppdcpiieapaa.Memc Go.Proofs.Ytffppdcpiieapaa.Newc Go.Proofs.Ytffppdcpiieapaa.Drivec Go.Proofs.Ytffppdcpiieapaa.Procc Go.Proofs.Ytffppdcpiieapaa.Arenac Go.Proofs.Ytffppdcpiieapaa.Refc
set_option linter.unusedVariables false
set_option maxRecDepth 100000

theorem list100_c (w : World) (r : R) (lk : List Int) (g c : Nat) (hK : r.K = ⟨some ⟨g, 0, none⟩, lk.length, c⟩) (hg : g < w.heap.size) (hgc : ∀ (j : Nat) (x : Int), lk[j]? = some x → w.cell? ⟨g, j, none⟩ = some (.int .u64 x)) (hu : u64s lk) (hlm : lk.length ≤ maxLen) (first : Int) (f0 : 0 ≤ first) (f1 : first ≤ 4294967295) :
    Calls Try.prog 19 #[.agg #[.int .u64 r.e, .int .u64 r.f, .slice r.L.A r.L.n r.L.c, .slice r.P.A r.P.n r.P.c, .int .u64 r.h, .int .u64 r.t, .slice r.K.A lk.length r.K.c, .slice r.X.A r.X.n r.X.c, .slice r.S.A r.S.n r.S.c], .int .u32 first, .int .i64 100] w fun e w' => ∃ q : Sl, e = .returned (.slice q.A q.n q.c) ∧ Row w' (w.heap.size + 1) 3 1 q (listN 100 lk first).length (intsV (listN 100 lk first)) ∧ Below w.heap.size w w' :=
  list_c w r lk g c hK hg hgc hu hlm first f0 f1 100 (by decide)
theorem flatT_get : ∀ (l : List St) (i : Nat) (x : St) (j : Nat) (v : Value), l[i]? = some x → x.cells[j]? = some v → (flatT l)[i * 8 + j]? = some v
  | [], i, x, j, v, h, _ => by simp at h
  | y :: l, 0, x, j, v, h, hv => by
    injection h with h
    subst h
    have hj : j < y.cells.length := (List.getElem?_eq_some_iff.1 hv).1
    show (y.cells ++ flatT l)[0 * 8 + j]? = some v
    rw [List.getElem?_append_left (by omega), show 0 * 8 + j = j by omega]
    exact hv
  | y :: l, i + 1, x, j, v, h, hv => by
    have ih := flatT_get l i x j v h hv
    show (y.cells ++ flatT l)[(i + 1) * 8 + j]? = some v
    have hl : y.cells.length = 8 := rfl
    rw [List.getElem?_append_right (by omega), hl, show (i + 1) * 8 + j - 8 = i * 8 + j by omega]
    exact ih
theorem runO_area {Z : Mac} {ls : List (List (Int × Int))} (b : Int) {n : Nat} (ps : List (Int × Int)) (s : RS) (h : (s.m.area b).length = n) : ((runM Z ls s ps).m.area b).length = n :=
  runM_ind (P := fun s => (s.m.area b).length = n) (fun s t d hs => turnM_ind (P := fun s => (s.m.area b).length = n) hs
    (fun i l o d _ _ _ => (len_acc _ _ _).trans hs) (fun i _ _ => (len_acc _ _ _).trans hs) t d) ps s h
theorem bool_cell : (Try.prog.info? 4).map (fun i => (i.zero, i.size, i.bytes)) = some (some (.bool false), 1, 1) := by kernel_rfl
/-- marks: whose number is in the list -/
def marksA (M : Nat) (l : List Int) : Array Value := ((List.range M).map fun i : Nat => Value.bool (decide ((i : Int) ∈ l))).toArray
theorem run_mkB (M : Nat) (hM : M ≤ 64) (w : World) :
    (Instr.makeSlice 51 (.int .i64 M) (.int .i64 M)).run Try.prog w = .ok (.slice (some ⟨w.heap.size, 0, none⟩) M M) (w.alloc (.cells (marksA M []) 4)) := by
  obtain ⟨i0, hi0, hz0, hz1, hz2⟩ := info_parts bool_cell
  have hr := run_make (P := Try.prog) w 51 4 i0 _ Try.underlying51 hi0 hz0 .i64 .i64 M M (by omega) (Int.le_refl _) (by rw [hz2]; omega) (by omega)
  rw [hz1] at hr
  simp only [Int.toNat_natCast] at hr
  have e : marksA M [] = madeCells #[.bool false] (M * 1) := by
    apply Array.ext
    · simp [marksA, madeCells]
    · intro j h1 h2
      simp [marksA, madeCells]
      rw [Nat.mod_one]
      rfl
  rw [e]
  exact hr
theorem marksA_get {M j : Nat} {l : List Int} (hj : j < M) : (marksA M l)[j]? = some (.bool (decide ((j : Int) ∈ l))) := by
  unfold marksA
  rw [List.getElem?_toArray, List.getElem?_map, List.getElem?_range hj]; rfl
theorem marksA_set {M j : Nat} {l : List Int} : (marksA M l).setIfInBounds j (.bool true) = marksA M (l ++ [(j : Int)]) := by
  apply Array.ext
  · simp [marksA]
  · intro q h1 h2
    have hq : q < M := by simpa [marksA] using h2
    rw [Array.getElem_setIfInBounds]
    · simp only [marksA, List.getElem_toArray, List.getElem_map, List.getElem_range, List.mem_append, List.mem_singleton]
      by_cases hjq : j = q
      · subst hjq; simp
      · rw [if_neg hjq]
        have : ¬ (q : Int) = (j : Int) := by omega
        simp [this]
    · simpa [marksA] using hq
/-- what is looked at -/
structure OnS (w V : World) (gU gA M : Nat) (mk : List Int) (CF T : Array Value) (qF : Sl) (fl : List Int) (sS sK : Sl) (bS bK : Nat) (rs : RS) : Prop where
  u : Blk V gU 4 (marksA M mk)
  x : Blk V gA 35 T
  c : Blk V w.heap.size 23 CF
  f : ∃ bF, Row V bF 3 1 qF fl.length (intsV fl)
  s : Row V bS 59 8 sS rs.steps.length (flatT rs.steps)
  k : Row V bK 55 7 sK rs.calls.length (flatK rs.calls)
  b : Below w.heap.size w V
  g : w.heap.size ≤ gU
section
variable {w V V' : World} {gU gA M : Nat} {mk : List Int} {CF T : Array Value} {qF : Sl} {fl : List Int} {sS sK : Sl} {bS bK : Nat} {rs : RS}
theorem OnS.below (h : OnS w V gU gA M mk CF T qF fl sS sK bS bK rs) (o : Below V.heap.size V V') : OnS w V' gU gA M mk CF T qF fl sS sK bS bK rs := by
  obtain ⟨bF, hF⟩ := h.f
  exact ⟨h.u.below o h.u.lt, h.x.below o h.x.lt, h.c.below o h.c.lt, ⟨bF, hF.below o (Nat.le_refl _)⟩, h.s.below o (Nat.le_refl _), h.k.below o (Nat.le_refl _), h.b.trans (o.mono h.b.size), h.g⟩
theorem OnS.alloc (h : OnS w V gU gA M mk CF T qF fl sS sK bS bK rs) (o : Obj) : OnS w (V.alloc o) gU gA M mk CF T qF fl sS sK bS bK rs := h.below ((Below.refl _ _).alloc (Nat.le_refl _) _)
theorem OnS.mark (h : OnS w V gU gA M mk CF T qF fl sS sK bS bK rs) (j : Nat) : OnS w (V.setCell ⟨gU, j, none⟩ (.bool true)) gU gA M (mk ++ [(j : Int)]) CF T qF fl sS sK bS bK rs := by
  obtain ⟨bF, hF⟩ := h.f
  have ho : Only (fun g => g = gU) V (V.setCell ⟨gU, j, none⟩ (.bool true)) := Only.set_ (Only.refl (fun g => g = gU) V) (p := ⟨gU, j, none⟩) (.inl rfl) _
  refine ⟨?_, h.x.only ho (fun e => Blk.ne h.x h.u (by decide) e), h.c.only ho (fun e => Blk.ne h.c h.u (by decide) e), ⟨bF, hF.only ho (fun g hg e => hF.ne h.u (by decide) g hg e)⟩, h.s.only ho (fun g hg e => h.s.ne h.u (by decide) g hg e), h.k.only ho (fun g hg e => h.k.ne h.u (by decide) g hg e), Below.setCell h.b (p := ⟨gU, j, none⟩) h.g _, h.g⟩
  have h1 := h.u.set_ j (.bool true)
  rw [marksA_set] at h1
  exact h1
end
end Go.Proofs.Ytffppdcpiieapaa.Machc
