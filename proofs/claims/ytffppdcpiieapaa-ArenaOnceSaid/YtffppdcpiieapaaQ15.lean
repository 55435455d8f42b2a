/- arena.Run by contract: a run of calls none of which is foreign. · Which calls are foreign to layer 5: by contract. · A run of calls that may not be: refused. · A run of any calls, as mathematics: what a turn of it is, and what holds of all its steps. · The document's machines of Take and Give: what they ask for, by the document's answer. · The document's machines of Take and Give: the words that they put, by the document's answer. · A run of any calls by the document's answer: its contract, by those of its machines. · epoch.Run by contract: a run of calls none of which is foreign; or refused. -/
import Derived.Deep.DeepCutAuto
import Derived.StillTailTactics
import Derived.Deep.QuietTactic
import Derived.BigQuiet
import Derived.Test.YtffppdcpiieapaaQ1
import Derived.Test.YtffppdcpiieapaaQ8
import Derived.Test.YtffppdcpiieapaaQ9
import Derived.Test.YtffppdcpiieapaaQ12
import Derived.Test.YtffppdcpiieapaaQ13
import Derived.Test.YtffppdcpiieapaaQ14
namespace Go.Proofs.Ytffppdcpiieapaa.Arenac
open Go.RowKit Go.Proofs.Ytffppdcpiieapaa.Memc Go.Proofs.Ytffppdcpiieapaa.Newc Go.Proofs.Ytffppdcpiieapaa.Procc Go.Proofs.Ytffppdcpiieapaa.Machc Go.Proofs.Ytffppdcpiieapaa.Drivec Go.Proofs.Ytffppdcpiieapaa.Wordc
set_option linter.unusedVariables false
set_option maxRecDepth 100000

theorem RdO.up {w : World} {B C : Nat} {s : Sl} {l : List (Int × Int)} (h : RdO w B s l) (hB : B ≤ C) : RdO w C s l :=
  ⟨h.1, h.2.1, h.2.2.1, fun hn => by
    obtain ⟨b, off, e, hlt, hc⟩ := h.2.2.2 hn
    exact ⟨b, off, e, Nat.lt_of_lt_of_le hlt hB, hc⟩⟩
theorem RdLO.up {w : World} {B C : Nat} {s : Sl} {ls : List (List (Int × Int))} (h : RdLO w B s ls) (hB : B ≤ C) : RdLO w C s ls :=
  ⟨h.1, h.2.1, h.2.2.1, fun hn => by
    obtain ⟨b, off, e, hlt, hc⟩ := h.2.2.2 hn
    refine ⟨b, off, e, Nat.lt_of_lt_of_le hlt hB, fun i x hx => ?_⟩
    obtain ⟨so, h1, h2⟩ := hc i x hx
    exact ⟨so, h1, RdO.up h2 hB⟩⟩
theorem RdP.up {w : World} {B C : Nat} {s : Sl} {l : List (Int × Int)} (h : RdP w B s l) (hB : B ≤ C) : RdP w C s l :=
  ⟨h.1, h.2.1, h.2.2.1, h.2.2.2.1, fun hn => by
    obtain ⟨b, off, e, hlt, hc⟩ := h.2.2.2.2 hn
    exact ⟨b, off, e, Nat.lt_of_lt_of_le hlt hB, hc⟩⟩
/-- what a layer's run comes to -/
def RanL (w : World) (s : RS) (e : Ending) (w' : World) : Prop :=
  ∃ (r : R) (sS sK : Sl) (base : Nat), e = .returned (.tuple #[.agg #[.slice sS.A sS.n sS.c, .slice sK.A sK.n sK.c, .int .u64 r.e, .int .u64 r.f, .slice r.L.A r.L.n r.L.c, .slice r.P.A r.P.n r.P.c, .int .u64 r.h, .int .u64 r.t, .slice r.K.A r.K.n r.K.c, .slice r.X.A r.X.n r.X.c, .slice r.S.A r.S.n r.S.c], .int .i64 0]) ∧ Row w' base 59 8 sS s.steps.length (flatT s.steps) ∧ Row w' base 55 7 sK s.calls.length (flatK s.calls) ∧ Endw w' base r s.m ∧ Below w.heap.size w w'
set_option maxHeartbeats 4000000 in
theorem arun_c (w : World) (k : Int) (K T M : Nat) (bo oo oc : Nat) (pA : Option Addr) (pn pc : Nat) (ls : List (List (Int × Int))) (ps : List (Int × Int))
    (k1 : 1 ≤ k) (k2 : k ≤ 3) (a1 : 1 ≤ K) (a2 : K ≤ 64) (t1 : 1 ≤ T) (t2 : T ≤ 8) (m1 : 2 ≤ M) (m2 : M ≤ 64)
    (hl : RdLO w w.heap.size ⟨some ⟨bo, oo, none⟩, T, oc⟩ ls) (hle : ∀ x ∈ ls, x.length ≤ 1000) (hp : RdP w w.heap.size ⟨pA, pn, pc⟩ ps) (hpn : ps.length ≤ 20000)
    (hf : ∀ l ∈ ls, l.any fgn = false) (hv : ∀ l ∈ ls, ∀ o ∈ l, 0 ≤ o.2 ∧ o.2 ≤ 4294967295) :
    Calls Try.prog 16 #[.agg #[.int .i64 k, .int .i64 K, .int .i64 T, .int .i64 M], .slice (some ⟨bo, oo, none⟩) T oc, .slice pA pn pc] w (RanL w (runM (docZ k K T M) ls (RS.first (newM k K T M) T) ps)) := by
  have hmf : ∀ (fn : Fn) (first cap : Array Value) (w : World), (Instr.makeFunc fn first cap).run Try.prog w = .ok (.func fn first cap) w := fun _ _ _ _ => rfl
  have hok : ∀ p ∈ ps, OkOps okA ls p.2 := fun p _ i l n o hi hn => by
    have hlm := List.mem_of_getElem? hi
    have hom := List.mem_of_getElem? hn
    have h1 := List.any_eq_false.1 (hf l hlm) o hom
    refine ⟨?_, hv l hlm o hom⟩
    unfold fgn at h1
    by_cases e4 : o.1 = 4
    · exact .inl e4
    · by_cases e5 : o.1 = 5
      · exact .inr e5
      · exfalso
        apply h1
        simp [e4, e5]
  have hrd : ∀ i, i < T → ∃ (q : Sl) (l : List (Int × Int)), w.cell? ⟨bo, oo + i, none⟩ = some (.slice q.A q.n q.c) ∧ RdO w w.heap.size q l ∧ l.any fgn = false := fun i hi => by
    obtain ⟨b', off', e, hbB, hcell⟩ := hl.2.2.2 (by show 0 < T; omega)
    injection e with e
    injection e with e1 e2
    subst e1
    subst e2
    obtain ⟨l, hx⟩ : ∃ l, ls[i]? = some l := ⟨_, List.getElem?_eq_getElem (by have h9 : T = ls.length := hl.1; omega)⟩
    obtain ⟨q, h1, h2⟩ := hcell i _ hx
    exact ⟨q, _, h1, h2, hf _ (List.mem_of_getElem? hx)⟩
  have hbz : bo < w.heap.size := by
    obtain ⟨b', off', e, hbB, hcell⟩ := hl.2.2.2 (by show 0 < T; omega)
    injection e with e
    injection e with e1 e2
    omega
  have hoc : T ≤ oc ∧ oc ≤ maxLen := ⟨hl.2.1, hl.2.2.1⟩
  have W0 : Hid (Below w.heap.size w ((w.alloc (.cells #[.int .i64 k, .int .i64 K, .int .i64 T, .int .i64 M] 23)).alloc (.cells #[.slice none 0 0, .slice none 0 0, .int .u64 0, .int .u64 0, .slice none 0 0, .slice none 0 0, .int .u64 0, .int .u64 0, .slice none 0 0, .slice none 0 0, .slice none 0 0] 35))) := Lib.hid (((Below.refl _ _).alloc (Nat.le_refl _) _).alloc (by simp) _)
  have X0 : Hid (Blk ((w.alloc (.cells #[.int .i64 k, .int .i64 K, .int .i64 T, .int .i64 M] 23)).alloc (.cells #[.slice none 0 0, .slice none 0 0, .int .u64 0, .int .u64 0, .slice none 0 0, .slice none 0 0, .int .u64 0, .int .u64 0, .slice none 0 0, .slice none 0 0, .slice none 0 0] 35)) w.heap.size 23 #[.int .i64 k, .int .i64 K, .int .i64 T, .int .i64 M]) := Lib.hid ((Blk.new _ _ _).alloc _)
  have Y0 : Hid (Blk ((w.alloc (.cells #[.int .i64 k, .int .i64 K, .int .i64 T, .int .i64 M] 23)).alloc (.cells #[.slice none 0 0, .slice none 0 0, .int .u64 0, .int .u64 0, .slice none 0 0, .slice none 0 0, .int .u64 0, .int .u64 0, .slice none 0 0, .slice none 0 0, .slice none 0 0] 35)) (w.heap.size + 1) 35 #[.slice none 0 0, .slice none 0 0, .int .u64 0, .int .u64 0, .slice none 0 0, .slice none 0 0, .int .u64 0, .int .u64 0, .slice none 0 0, .slice none 0 0, .slice none 0 0]) := Lib.hid (blk_at2 _ _ _ _ (by simp))
  have HL := Lib.hid hl
  have HP := Lib.hid hp
  have HRD := Lib.hid hrd
  have HREST := Lib.hid (And.intro hle (And.intro hpn (And.intro hok hoc)))
  clear hl hp hrd hle hpn hok hf hv hoc
  go_enter Try.func16, Try.ntmps16
  go_wp2_with fail
  generalize ((w.alloc (.cells #[.int .i64 k, .int .i64 K, .int .i64 T, .int .i64 M] 23)).alloc (.cells #[.slice none 0 0, .slice none 0 0, .int .u64 0, .int .u64 0, .slice none 0 0, .slice none 0 0, .int .u64 0, .int .u64 0, .slice none 0 0, .slice none 0 0, .slice none 0 0] 35)) = V at W0 X0 Y0 ⊢
  go_loopw [12] (fun i wr => ∃ j : Nat, i = .int .i64 j ∧ j ≤ T ∧ Below V.heap.size V wr) (fun i _ => T - (intOf i).toNat)
  case atStart => exact ⟨0, rfl, Nat.zero_le _, Below.refl _ _⟩
  case round =>
  obtain ⟨j, rfl, hj, hbw⟩ := hrel
  have WR : Hid (Below w.heap.size w wr) := Lib.hid (W0.out.trans (hbw.mono W0.out.size))
  have HW := Lib.hid hbw
  clear hbw
  by_cases hlt : j < T
  · obtain ⟨q, l, hq, hqo, hfl⟩ := HRD.out j hlt
    have hcq := (WR.out.cell (p := ⟨bo, oo + j, none⟩) hbz).trans hq
    have HQ := Lib.hid (And.intro hqo hfl)
    have i0 : (0 : Int) ≤ j := by omega
    have i1 : (j : Int) < T := by omega
    have i2 : (T : Int) ≤ 8 := by omega
    clear hq hqo hfl
    go_wp2_with (go_at_call 34; (with_reducible refine (contains_O q _ w.heap.size l (HQ.out.1.below WR.out) WR.out.size).mono ?_); rw [HQ.out.2]; rintro e w' ⟨rfl, hb⟩; go_must (have HB2 := Lib.hid hb); clear hb)
    go_roundw
    case rel => exact ⟨j + 1, by go_num, by omega, HW.out.trans (HB2.out.mono HW.out.size)⟩
    case measure => simp [intOf]; omega
  · obtain rfl : T = j := by omega
    have X4 := Lib.hid (X0.out.below HW.out X0.out.lt)
    have Y4 := Lib.hid (Y0.out.below HW.out Y0.out.lt)
    have hx4 := X4.out.cell
    go_wp2_with (go_at_call 26; go_must (refine (rung_c wr wr.heap.size 36 _ [⟨w.heap.size, 23, #[.int .i64 k, .int .i64 K, .int .i64 T, .int .i64 M]⟩] (docZ k K T M) okA GA k K T M bo oo oc pA pn pc ls ps k1 k2 a1 a2 t1 t2 m1 m2 (RdLO.up (HL.out.below WR.out) WR.out.size) HREST.out.1 (RdP.up (HP.out.below WR.out) WR.out.size) HREST.out.2.1 (Nat.le_refl _) rfl (fun x hx => by rw [List.mem_singleton.1 hx]; exact X4.out) (fun x hx => by rw [List.mem_singleton.1 hx]; simp) (ar_ok k K T M m1 m2) (run1_begins w.heap.size k K T M m1 m2) HREST.out.2.2.1).mono ?_); rintro e w6 ⟨r, sS, sK, base, rfl, hS6, hK6, hE6, hF6⟩; go_must (have S6 := Lib.hid hS6; have K6 := Lib.hid hK6; have E6 := Lib.hid hE6; have F6 := Lib.hid (hF6.below (Nat.le_refl _)); have Y6 := Lib.hid (Y4.out.below F6.out Y4.out.lt); have hy6 := Y6.out.cell; have hy6f := Y6.out.frozen); clear hS6 hK6 hE6 hF6 hx4)
    have OE : Hid (Only (fun g => g = w.heap.size + 1) w6 (((((((((((w6.setCell ⟨(w.heap.size + 1), 0, none⟩ (.slice sS.A sS.n sS.c)).setCell ⟨(w.heap.size + 1), 1, none⟩ (.slice sK.A sK.n sK.c)).setCell ⟨(w.heap.size + 1), 2, none⟩ (.int .u64 r.e)).setCell ⟨(w.heap.size + 1), 3, none⟩ (.int .u64 r.f)).setCell ⟨(w.heap.size + 1), 4, none⟩ (.slice r.L.A r.L.n r.L.c)).setCell ⟨(w.heap.size + 1), 5, none⟩ (.slice r.P.A r.P.n r.P.c)).setCell ⟨(w.heap.size + 1), 6, none⟩ (.int .u64 r.h)).setCell ⟨(w.heap.size + 1), 7, none⟩ (.int .u64 r.t)).setCell ⟨(w.heap.size + 1), 8, none⟩ (.slice r.K.A r.K.n r.K.c)).setCell ⟨(w.heap.size + 1), 9, none⟩ (.slice r.X.A r.X.n r.X.c)).setCell ⟨(w.heap.size + 1), 10, none⟩ (.slice r.S.A r.S.n r.S.c))) := Lib.hid ((Only.set_ (Only.set_ (Only.set_ (Only.set_ (Only.set_ (Only.set_ (Only.set_ (Only.set_ (Only.set_ (Only.set_ (Only.set_ (Only.refl (fun g => g = w.heap.size + 1) w6) ⟨(w.heap.size + 1), 0, none⟩ (.inl rfl) (.slice sS.A sS.n sS.c)) ⟨(w.heap.size + 1), 1, none⟩ (.inl rfl) (.slice sK.A sK.n sK.c)) ⟨(w.heap.size + 1), 2, none⟩ (.inl rfl) (.int .u64 r.e)) ⟨(w.heap.size + 1), 3, none⟩ (.inl rfl) (.int .u64 r.f)) ⟨(w.heap.size + 1), 4, none⟩ (.inl rfl) (.slice r.L.A r.L.n r.L.c)) ⟨(w.heap.size + 1), 5, none⟩ (.inl rfl) (.slice r.P.A r.P.n r.P.c)) ⟨(w.heap.size + 1), 6, none⟩ (.inl rfl) (.int .u64 r.h)) ⟨(w.heap.size + 1), 7, none⟩ (.inl rfl) (.int .u64 r.t)) ⟨(w.heap.size + 1), 8, none⟩ (.inl rfl) (.slice r.K.A r.K.n r.K.c)) ⟨(w.heap.size + 1), 9, none⟩ (.inl rfl) (.slice r.X.A r.X.n r.X.c)) ⟨(w.heap.size + 1), 10, none⟩ (.inl rfl) (.slice r.S.A r.S.n r.S.c)))
    have YE : Hid (Blk (((((((((((w6.setCell ⟨(w.heap.size + 1), 0, none⟩ (.slice sS.A sS.n sS.c)).setCell ⟨(w.heap.size + 1), 1, none⟩ (.slice sK.A sK.n sK.c)).setCell ⟨(w.heap.size + 1), 2, none⟩ (.int .u64 r.e)).setCell ⟨(w.heap.size + 1), 3, none⟩ (.int .u64 r.f)).setCell ⟨(w.heap.size + 1), 4, none⟩ (.slice r.L.A r.L.n r.L.c)).setCell ⟨(w.heap.size + 1), 5, none⟩ (.slice r.P.A r.P.n r.P.c)).setCell ⟨(w.heap.size + 1), 6, none⟩ (.int .u64 r.h)).setCell ⟨(w.heap.size + 1), 7, none⟩ (.int .u64 r.t)).setCell ⟨(w.heap.size + 1), 8, none⟩ (.slice r.K.A r.K.n r.K.c)).setCell ⟨(w.heap.size + 1), 9, none⟩ (.slice r.X.A r.X.n r.X.c)).setCell ⟨(w.heap.size + 1), 10, none⟩ (.slice r.S.A r.S.n r.S.c)) (w.heap.size + 1) 35 #[.slice sS.A sS.n sS.c, .slice sK.A sK.n sK.c, .int .u64 r.e, .int .u64 r.f, .slice r.L.A r.L.n r.L.c, .slice r.P.A r.P.n r.P.c, .int .u64 r.h, .int .u64 r.t, .slice r.K.A r.K.n r.K.c, .slice r.X.A r.X.n r.X.c, .slice r.S.A r.S.n r.S.c]) := Lib.hid (by have h_ := (Blk.set_ (Blk.set_ (Blk.set_ (Blk.set_ (Blk.set_ (Blk.set_ (Blk.set_ (Blk.set_ (Blk.set_ (Blk.set_ (Blk.set_ Y6.out 0 (.slice sS.A sS.n sS.c)) 1 (.slice sK.A sK.n sK.c)) 2 (.int .u64 r.e)) 3 (.int .u64 r.f)) 4 (.slice r.L.A r.L.n r.L.c)) 5 (.slice r.P.A r.P.n r.P.c)) 6 (.int .u64 r.h)) 7 (.int .u64 r.t)) 8 (.slice r.K.A r.K.n r.K.c)) 9 (.slice r.X.A r.X.n r.X.c)) 10 (.slice r.S.A r.S.n r.S.c)); simpa only [List.setIfInBounds_toArray, List.set_cons_zero, List.set_cons_succ] using h_)
    clear hy6 hy6f
    generalize (((((((((((w6.setCell ⟨(w.heap.size + 1), 0, none⟩ (.slice sS.A sS.n sS.c)).setCell ⟨(w.heap.size + 1), 1, none⟩ (.slice sK.A sK.n sK.c)).setCell ⟨(w.heap.size + 1), 2, none⟩ (.int .u64 r.e)).setCell ⟨(w.heap.size + 1), 3, none⟩ (.int .u64 r.f)).setCell ⟨(w.heap.size + 1), 4, none⟩ (.slice r.L.A r.L.n r.L.c)).setCell ⟨(w.heap.size + 1), 5, none⟩ (.slice r.P.A r.P.n r.P.c)).setCell ⟨(w.heap.size + 1), 6, none⟩ (.int .u64 r.h)).setCell ⟨(w.heap.size + 1), 7, none⟩ (.int .u64 r.t)).setCell ⟨(w.heap.size + 1), 8, none⟩ (.slice r.K.A r.K.n r.K.c)).setCell ⟨(w.heap.size + 1), 9, none⟩ (.slice r.X.A r.X.n r.X.c)).setCell ⟨(w.heap.size + 1), 10, none⟩ (.slice r.S.A r.S.n r.S.c)) = W8 at OE YE ⊢
    have S8 : Hid (Row W8 base 59 8 sS _ _) := Lib.hid (S6.out.only OE.out (fun g hg h => by subst h; exact S6.out.ne Y6.out (by decide) _ hg rfl))
    have K8 : Hid (Row W8 base 55 7 sK _ _) := Lib.hid (K6.out.only OE.out (fun g hg h => by subst h; exact K6.out.ne Y6.out (by decide) _ hg rfl))
    have E8 := Lib.hid (E6.out.only OE.out (fun ar hl ad had h => E6.out.ne Y6.out (by decide) (by decide) ar hl ad had h))
    have F8 : Hid (Below w.heap.size w W8) := Lib.hid ((WR.out.trans (F6.out.mono WR.out.size)).trans (OE.out.below (Nat.le_trans WR.out.size F6.out.size) (fun g hg => by omega)))
    have hy8 := YE.out.cell
    refine bodyPost_ret (v := .tuple #[.agg #[.slice sS.A sS.n sS.c, .slice sK.A sK.n sK.c, .int .u64 r.e, .int .u64 r.f, .slice r.L.A r.L.n r.L.c, .slice r.P.A r.P.n r.P.c, .int .u64 r.h, .int .u64 r.t, .slice r.K.A r.K.n r.K.c, .slice r.X.A r.X.n r.X.c, .slice r.S.A r.S.n r.S.c], .int .i64 0]) ?_ rfl ?_
    · simp [results, Try.results16, go_sem, hy8]
    · exact ⟨r, sS, sK, base, rfl, S8.out, K8.out, E8.out, F8.out⟩
end Go.Proofs.Ytffppdcpiieapaa.Arenac

namespace Go.Proofs.Ytffppdcpiieapaa.Arenac
open Go.RowKit Go.Proofs.Ytffppdcpiieapaa.Memc Go.Proofs.Ytffppdcpiieapaa.Procc Go.Proofs.Ytffppdcpiieapaa.Machc Go.Proofs.Ytffppdcpiieapaa.Drivec Go.Proofs.Ytffppdcpiieapaa.Wordc
set_option linter.unusedVariables false
set_option maxRecDepth 100000

def fgnE (x : Int × Int) : Bool := !(x.1 == 6) && !(x.1 == 7) && !(x.1 == 8) && !(x.1 == 3)
theorem foreignE1_c (w : World) (kd vl : Int) : Calls Try.prog 75 #[.agg #[.int .i64 kd, .int .u32 vl]] w fun e w' => e = .returned (.bool (fgnE (kd, vl))) ∧ Below w.heap.size w w' := by
  by_cases h6 : kd = 6
  · subst h6
    go_enter Try.func75, Try.ntmps75
    go_wp2
    go_ret
    exact ⟨rfl, (Below.refl _ _).alloc (Nat.le_refl _) _⟩
  by_cases h7 : kd = 7
  · subst h7
    go_enter Try.func75, Try.ntmps75
    go_wp2
    go_ret
    exact ⟨rfl, (Below.refl _ _).alloc (Nat.le_refl _) _⟩
  by_cases h8 : kd = 8
  · subst h8
    go_enter Try.func75, Try.ntmps75
    go_wp2
    go_ret
    exact ⟨rfl, (Below.refl _ _).alloc (Nat.le_refl _) _⟩
  by_cases h3 : kd = 3
  · subst h3
    go_enter Try.func75, Try.ntmps75
    go_wp2
    go_ret
    exact ⟨rfl, (Below.refl _ _).alloc (Nat.le_refl _) _⟩
  have e6 : (kd == 6) = false := beq_false_of_ne h6
  have e7 : (kd == 7) = false := beq_false_of_ne h7
  have e8 : (kd == 8) = false := beq_false_of_ne h8
  have e3 : (kd == 3) = false := beq_false_of_ne h3
  have hf : fgnE (kd, vl) = true := by simp [fgnE, e6, e7, e8, e3]
  rw [hf]
  clear hf h6 h7 h8 h3
  go_enter Try.func75, Try.ntmps75
  go_wp2
  go_ret
  exact ⟨rfl, (Below.refl _ _).alloc (Nat.le_refl _) _⟩
set_option maxHeartbeats 2000000 in
theorem index_OE (s : Sl) (w : World) (B : Nat) (l : List (Int × Int)) (h : RdO w B s l) (hB : B ≤ w.heap.size) :
    Calls Try.prog 63 #[.slice s.A s.n s.c, .func (.func 75) #[] #[]] w (FoundO w (l.any fgnE)) := by
  have hn0 : s.n ≤ maxLen := Nat.le_trans h.2.1 h.2.2.1
  have hn1 : (s.n : Int) ≤ 9223372036854775807 := by unfold maxLen at hn0; omega
  have HH := Lib.hid h
  have HNB := Lib.hid hB
  clear h hn0 hB
  go_enter Try.func63, Try.ntmps63
  go_wp2_with fail
  go_loopw [8] (fun i wr => ∃ j : Nat, i = .int .i64 j ∧ j ≤ s.n ∧ (∀ m x, m < j → l[m]? = some x → fgnE x = false) ∧ Below w.heap.size w wr) (fun i _ => s.n - (intOf i).toNat)
  case atStart => exact ⟨0, rfl, Nat.zero_le _, fun m x hm => absurd hm (Nat.not_lt_zero _), Below.refl _ _⟩
  case round =>
    obtain ⟨j, rfl, hj, hall, hbw⟩ := hrel
    have HA := Lib.hid hall
    have HW := Lib.hid hbw
    clear hall hbw
    by_cases hlt : j < s.n
    · obtain ⟨b, off, hA, hbz, hc⟩ := HH.out.2.2.2 (by omega)
      obtain ⟨x, hx⟩ : ∃ x, l[j]? = some x := ⟨_, List.getElem?_eq_getElem (by have := HH.out.1; omega)⟩
      have hcc := hc j x hx
      have hold := fun o => HW.out.cell (p := ⟨b, o, none⟩) (Nat.lt_of_lt_of_le hbz HNB.out)
      have hc0 := (hold (off + j * 2)).trans hcc.1
      have hc1 := (hold (off + j * 2 + 1)).trans hcc.2
      have HX := Lib.hid hx
      have i0 : (0 : Int) ≤ j := by omega
      have i1 : (j : Int) < s.n := by omega
      obtain ⟨sA, sn, sc⟩ := s
      simp only at hA
      subst hA
      clear hc hx hcc hold
      obtain ⟨kd, vl⟩ := x
      simp only at hc0 hc1
      rcases hf : fgnE (kd, vl) with _ | _
      · have HF := Lib.hid hf
        clear hf
        go_wp2_with (go_at_call 75; (with_reducible refine (foreignE1_c _ kd vl).mono ?_); rw [HF.out]; rintro e w' ⟨rfl, hb⟩; go_must (have HB2 := Lib.hid hb); clear hb)
        go_round
        case rel =>
          refine ⟨j + 1, by go_num, by omega, fun m y hm hy => ?_, HW.out.trans (HB2.out.mono HW.out.size)⟩
          by_cases hmj : m = j
          · subst hmj
            rw [HX.out] at hy
            injection hy with hy
            rw [← hy]
            exact HF.out
          · exact HA.out m y (by omega) hy
        case measure => simp [intOf]; omega
      · have HF := Lib.hid hf
        clear hf
        go_wp2_with (go_at_call 75; (with_reducible refine (foreignE1_c _ kd vl).mono ?_); rw [HF.out]; rintro e w' ⟨rfl, hb⟩; go_must (have HB2 := Lib.hid hb); clear hb)
        go_ret
        refine ⟨⟨j, by omega, by omega, ?_, rfl⟩, HW.out.trans (HB2.out.mono HW.out.size)⟩
        have hyt : l.any fgnE = true := List.any_eq_true.2 ⟨_, List.mem_of_getElem? HX.out, HF.out⟩
        rw [hyt]
        simp
    · obtain rfl : j = s.n := by omega
      go_wp2
      go_ret
      refine ⟨⟨-1, by omega, by omega, ?_, rfl⟩, HW.out⟩
      have hyf : l.any fgnE = false := by
        rw [List.any_eq_false]
        intro x hx
        obtain ⟨m, hm, rfl⟩ := List.getElem_of_mem hx
        have := HA.out m _ (by have := HH.out.1; omega) (List.getElem?_eq_getElem hm)
        simpa using this
      rw [hyf]
      rfl
set_option maxHeartbeats 2000000 in
theorem contains_OE (s : Sl) (w : World) (B : Nat) (l : List (Int × Int)) (h : RdO w B s l) (hB : B ≤ w.heap.size) :
    Calls Try.prog 34 #[.slice s.A s.n s.c, .func (.func 75) #[] #[]] w fun e w' => e = .returned (.bool (l.any fgnE)) ∧ Below w.heap.size w w' := by
  have HC := Lib.hid (index_OE s w B l h hB)
  clear h hB
  go_enter Try.func34, Try.ntmps34
  go_wp2_with (go_at_call 63; refine (HC.out).mono ?_; rintro e w' ⟨⟨n, hn1, hn2, hn3, rfl⟩, hb⟩; have HN3 := Lib.hid (And.intro hn3 hb); clear hn3 hb)
  go_ret
  have h3 := HN3.out.1
  rw [← h3]
  exact ⟨by simp, HN3.out.2⟩

def fgnL (l : List (Int × Int)) : Bool := l.any fgnE
theorem foreignE_c (s : Sl) (w : World) (B : Nat) (l : List (Int × Int)) (h : RdO w B s l) (hB : B ≤ w.heap.size) :
    Calls Try.prog 42 #[.slice s.A s.n s.c] w fun e w' => e = .returned (.bool (fgnL l)) ∧ Below w.heap.size w w' := by
  have HC := Lib.hid (contains_OE s w B l h hB)
  clear h hB
  go_enter Try.func42, Try.ntmps42
  go_wp2_with (go_at_call 34; refine (HC.out).mono ?_; rintro e w' ⟨rfl, hb⟩; have HB := Lib.hid hb; clear hb)
  go_ret
  exact ⟨rfl, HB.out⟩
set_option maxHeartbeats 2000000 in
theorem index_LE (s : Sl) (w : World) (B : Nat) (ls : List (List (Int × Int))) (h : RdLO w B s ls) (hB : B ≤ w.heap.size) :
    Calls Try.prog 74 #[.slice s.A s.n s.c, .func (.func 42) #[] #[]] w (FoundO w (ls.any fgnL)) := by
  have hn0 : s.n ≤ maxLen := Nat.le_trans h.2.1 h.2.2.1
  have hn1 : (s.n : Int) ≤ 9223372036854775807 := by unfold maxLen at hn0; omega
  have HH := Lib.hid h
  have HNB := Lib.hid hB
  clear h hn0 hB
  go_enter Try.func74, Try.ntmps74
  go_wp2_with fail
  go_loopw [8] (fun i wr => ∃ j : Nat, i = .int .i64 j ∧ j ≤ s.n ∧ (∀ m x, m < j → ls[m]? = some x → fgnL x = false) ∧ Below w.heap.size w wr) (fun i _ => s.n - (intOf i).toNat)
  case atStart => exact ⟨0, rfl, Nat.zero_le _, fun m x hm => absurd hm (Nat.not_lt_zero _), Below.refl _ _⟩
  case round =>
    obtain ⟨j, rfl, hj, hall, hbw⟩ := hrel
    have HA := Lib.hid hall
    have HW := Lib.hid hbw
    clear hall hbw
    by_cases hlt : j < s.n
    · obtain ⟨b, off, hA, hbz, hc⟩ := HH.out.2.2.2 (by omega)
      obtain ⟨x, hx⟩ : ∃ x, ls[j]? = some x := ⟨_, List.getElem?_eq_getElem (by have := HH.out.1; omega)⟩
      obtain ⟨so, hs1, hs2⟩ := hc j x hx
      have hc0 := (HW.out.cell (p := ⟨b, off + j, none⟩) (Nat.lt_of_lt_of_le hbz HNB.out)).trans hs1
      have HO := Lib.hid hs2
      have HX := Lib.hid hx
      have i0 : (0 : Int) ≤ j := by omega
      have i1 : (j : Int) < s.n := by omega
      obtain ⟨sA, sn, sc⟩ := s
      simp only at hA
      subst hA
      clear hc hx hs1 hs2
      rcases hf : fgnL x with _ | _
      · have HF := Lib.hid hf
        clear hf
        go_wp2_with (go_at_call 42; (with_reducible refine (foreignE_c so _ w.heap.size x ((RdO.up HO.out HNB.out).below HW.out) HW.out.size).mono ?_); rw [HF.out]; rintro e w' ⟨rfl, hb⟩; go_must (have HB2 := Lib.hid hb); clear hb)
        go_round
        case rel =>
          refine ⟨j + 1, by go_num, by omega, fun m y hm hy => ?_, HW.out.trans (HB2.out.mono HW.out.size)⟩
          by_cases hmj : m = j
          · subst hmj
            rw [HX.out] at hy
            injection hy with hy
            rw [← hy]
            exact HF.out
          · exact HA.out m y (by omega) hy
        case measure => simp [intOf]; omega
      · have HF := Lib.hid hf
        clear hf
        go_wp2_with (go_at_call 42; (with_reducible refine (foreignE_c so _ w.heap.size x ((RdO.up HO.out HNB.out).below HW.out) HW.out.size).mono ?_); rw [HF.out]; rintro e w' ⟨rfl, hb⟩; go_must (have HB2 := Lib.hid hb); clear hb)
        go_ret
        refine ⟨⟨j, by omega, by omega, ?_, rfl⟩, HW.out.trans (HB2.out.mono HW.out.size)⟩
        have hyt : ls.any fgnL = true := List.any_eq_true.2 ⟨_, List.mem_of_getElem? HX.out, HF.out⟩
        rw [hyt]
        simp
    · obtain rfl : j = s.n := by omega
      go_wp2
      go_ret
      refine ⟨⟨-1, by omega, by omega, ?_, rfl⟩, HW.out⟩
      have hyf : ls.any fgnL = false := by
        rw [List.any_eq_false]
        intro x hx
        obtain ⟨m, hm, rfl⟩ := List.getElem_of_mem hx
        have := HA.out m _ (by have := HH.out.1; omega) (List.getElem?_eq_getElem hm)
        simpa using this
      rw [hyf]
      rfl
set_option maxHeartbeats 2000000 in
theorem contains_LE (s : Sl) (w : World) (B : Nat) (ls : List (List (Int × Int))) (h : RdLO w B s ls) (hB : B ≤ w.heap.size) :
    Calls Try.prog 41 #[.slice s.A s.n s.c, .func (.func 42) #[] #[]] w fun e w' => e = .returned (.bool (ls.any fgnL)) ∧ Below w.heap.size w w' := by
  have HC := Lib.hid (index_LE s w B ls h hB)
  clear h hB
  go_enter Try.func41, Try.ntmps41
  go_wp2_with (go_at_call 74; refine (HC.out).mono ?_; rintro e w' ⟨⟨n, hn1, hn2, hn3, rfl⟩, hb⟩; have HN3 := Lib.hid (And.intro hn3 hb); clear hn3 hb)
  go_ret
  have h3 := HN3.out.1
  rw [← h3]
  exact ⟨by simp, HN3.out.2⟩
end Go.Proofs.Ytffppdcpiieapaa.Arenac

namespace Go.Proofs.Ytffppdcpiieapaa.Drivec
open Go.RowKit Go.Proofs.Ytffppdcpiieapaa.Memc Go.Proofs.Ytffppdcpiieapaa.Procc Go.Proofs.Ytffppdcpiieapaa.Storec Go.Proofs.Ytffppdcpiieapaa.Newc
set_option linter.unusedVariables false
set_option maxRecDepth 100000

set_option maxHeartbeats 2000000 in
theorem drun_no (w : World) (k K T M : Int) (Bf : Nat) (bs : Array Value) (s p : Sl) (ns : List Nat) (h : Lens w s ns) (hps : p.n ≤ maxLen)
    (hno : ¬ ((Cfg.mk k K T M).may ∧ (s.n : Int) = T ∧ ns.any (fun x => decide (1000 < x)) = false ∧ p.n ≤ 20000)) :
    Calls Try.prog 26 #[.agg #[.int .i64 k, .int .i64 K, .int .i64 T, .int .i64 M], .slice s.A s.n s.c, .slice p.A p.n p.c, .func (.func Bf) #[] bs] w fun e w' => e = .returned (.tuple #[.agg #[.slice none 0 0, .slice none 0 0, .int .u64 0, .int .u64 0, .slice none 0 0, .slice none 0 0, .int .u64 0, .int .u64 0, .slice none 0 0, .slice none 0 0, .slice none 0 0], .int .i64 1]) ∧ Below w.heap.size w w' := by
  have W0 : Hid (Below w.heap.size w (((w.alloc (.cells #[.int .i64 k, .int .i64 K, .int .i64 T, .int .i64 M] 23)).alloc (.cells #[.slice none 0 0, .slice none 0 0, .int .u64 0, .int .u64 0, .slice none 0 0, .slice none 0 0, .int .u64 0, .int .u64 0, .slice none 0 0, .slice none 0 0, .slice none 0 0] 35)).alloc (.cells #[.int .i64 0] 36))) := Lib.hid ((((Below.refl _ _).alloc (Nat.le_refl _) _).alloc (by simp) _).alloc (by simp; omega) _)
  have Y0 : Hid (Blk (((w.alloc (.cells #[.int .i64 k, .int .i64 K, .int .i64 T, .int .i64 M] 23)).alloc (.cells #[.slice none 0 0, .slice none 0 0, .int .u64 0, .int .u64 0, .slice none 0 0, .slice none 0 0, .int .u64 0, .int .u64 0, .slice none 0 0, .slice none 0 0, .slice none 0 0] 35)).alloc (.cells #[.int .i64 0] 36)) (w.heap.size + 1) 35 #[.slice none 0 0, .slice none 0 0, .int .u64 0, .int .u64 0, .slice none 0 0, .slice none 0 0, .int .u64 0, .int .u64 0, .slice none 0 0, .slice none 0 0, .slice none 0 0]) := Lib.hid ((blk_at (by simp)).alloc _)
  have D0 : Hid (Blk (((w.alloc (.cells #[.int .i64 k, .int .i64 K, .int .i64 T, .int .i64 M] 23)).alloc (.cells #[.slice none 0 0, .slice none 0 0, .int .u64 0, .int .u64 0, .slice none 0 0, .slice none 0 0, .int .u64 0, .int .u64 0, .slice none 0 0, .slice none 0 0, .slice none 0 0] 35)).alloc (.cells #[.int .i64 0] 36)) (w.heap.size + 1 + 1) 36 #[.int .i64 0]) := Lib.hid (blk_at (by simp))
  have HH := Lib.hid h
  have HN := Lib.hid hno
  clear h hno
  go_enter_defers Try.func26, Try.ntmps26
  go_wp2_with (go_at_call 53; go_must (refine (mayrun_no_Op _ k K T M s p ns (HH.out.below W0.out) hps HN.out).mono ?_); rintro e w1 ⟨rfl, hb1⟩; go_must (have Y1 := Lib.hid (Y0.out.below hb1 Y0.out.lt); have D1 := Lib.hid (D0.out.below hb1 D0.out.lt); have W1 := Lib.hid (W0.out.trans (hb1.mono W0.out.size)); have hy1 := Y1.out.cell; have hy1f := Y1.out.frozen; have hd1 := D1.out.cell; have hd1f := D1.out.frozen); clear hb1)
  have OE : Hid (Only (fun g => g = w.heap.size + 1 ∨ g = w.heap.size + 1 + 1) w1 ((((((((((((w1.setCell ⟨w.heap.size + 1, 0, none⟩ (.slice none 0 0)).setCell ⟨w.heap.size + 1, 1, none⟩ (.slice none 0 0)).setCell ⟨w.heap.size + 1, 2, none⟩ (.int .u64 0)).setCell ⟨w.heap.size + 1, 3, none⟩ (.int .u64 0)).setCell ⟨w.heap.size + 1, 4, none⟩ (.slice none 0 0)).setCell ⟨w.heap.size + 1, 5, none⟩ (.slice none 0 0)).setCell ⟨w.heap.size + 1, 6, none⟩ (.int .u64 0)).setCell ⟨w.heap.size + 1, 7, none⟩ (.int .u64 0)).setCell ⟨w.heap.size + 1, 8, none⟩ (.slice none 0 0)).setCell ⟨w.heap.size + 1, 9, none⟩ (.slice none 0 0)).setCell ⟨w.heap.size + 1, 10, none⟩ (.slice none 0 0)).setCell ⟨w.heap.size + 1 + 1, 0, none⟩ (.int .i64 1))) := Lib.hid ((Only.set_ (Only.set_ (Only.set_ (Only.set_ (Only.set_ (Only.set_ (Only.set_ (Only.set_ (Only.set_ (Only.set_ (Only.set_ (Only.set_ (Only.refl (fun g => g = w.heap.size + 1 ∨ g = w.heap.size + 1 + 1) w1) ⟨w.heap.size + 1, 0, none⟩ (.inl (.inl rfl)) (.slice none 0 0)) ⟨w.heap.size + 1, 1, none⟩ (.inl (.inl rfl)) (.slice none 0 0)) ⟨w.heap.size + 1, 2, none⟩ (.inl (.inl rfl)) (.int .u64 0)) ⟨w.heap.size + 1, 3, none⟩ (.inl (.inl rfl)) (.int .u64 0)) ⟨w.heap.size + 1, 4, none⟩ (.inl (.inl rfl)) (.slice none 0 0)) ⟨w.heap.size + 1, 5, none⟩ (.inl (.inl rfl)) (.slice none 0 0)) ⟨w.heap.size + 1, 6, none⟩ (.inl (.inl rfl)) (.int .u64 0)) ⟨w.heap.size + 1, 7, none⟩ (.inl (.inl rfl)) (.int .u64 0)) ⟨w.heap.size + 1, 8, none⟩ (.inl (.inl rfl)) (.slice none 0 0)) ⟨w.heap.size + 1, 9, none⟩ (.inl (.inl rfl)) (.slice none 0 0)) ⟨w.heap.size + 1, 10, none⟩ (.inl (.inl rfl)) (.slice none 0 0)) ⟨w.heap.size + 1 + 1, 0, none⟩ (.inl (.inr rfl)) (.int .i64 1)))
  have YE : Hid (Blk ((((((((((((w1.setCell ⟨w.heap.size + 1, 0, none⟩ (.slice none 0 0)).setCell ⟨w.heap.size + 1, 1, none⟩ (.slice none 0 0)).setCell ⟨w.heap.size + 1, 2, none⟩ (.int .u64 0)).setCell ⟨w.heap.size + 1, 3, none⟩ (.int .u64 0)).setCell ⟨w.heap.size + 1, 4, none⟩ (.slice none 0 0)).setCell ⟨w.heap.size + 1, 5, none⟩ (.slice none 0 0)).setCell ⟨w.heap.size + 1, 6, none⟩ (.int .u64 0)).setCell ⟨w.heap.size + 1, 7, none⟩ (.int .u64 0)).setCell ⟨w.heap.size + 1, 8, none⟩ (.slice none 0 0)).setCell ⟨w.heap.size + 1, 9, none⟩ (.slice none 0 0)).setCell ⟨w.heap.size + 1, 10, none⟩ (.slice none 0 0)).setCell ⟨w.heap.size + 1 + 1, 0, none⟩ (.int .i64 1)) (w.heap.size + 1) 35 #[.slice none 0 0, .slice none 0 0, .int .u64 0, .int .u64 0, .slice none 0 0, .slice none 0 0, .int .u64 0, .int .u64 0, .slice none 0 0, .slice none 0 0, .slice none 0 0]) := Lib.hid (by have h_ := (Blk.far (Blk.set_ (Blk.set_ (Blk.set_ (Blk.set_ (Blk.set_ (Blk.set_ (Blk.set_ (Blk.set_ (Blk.set_ (Blk.set_ (Blk.set_ Y1.out 0 (.slice none 0 0)) 1 (.slice none 0 0)) 2 (.int .u64 0)) 3 (.int .u64 0)) 4 (.slice none 0 0)) 5 (.slice none 0 0)) 6 (.int .u64 0)) 7 (.int .u64 0)) 8 (.slice none 0 0)) 9 (.slice none 0 0)) 10 (.slice none 0 0)) (p := ⟨w.heap.size + 1 + 1, 0, none⟩) (show ¬ w.heap.size + 1 = w.heap.size + 1 + 1 by omega) (.int .i64 1)); simpa only [List.setIfInBounds_toArray, List.set_cons_zero, List.set_cons_succ] using h_)
  have DE : Hid (Blk ((((((((((((w1.setCell ⟨w.heap.size + 1, 0, none⟩ (.slice none 0 0)).setCell ⟨w.heap.size + 1, 1, none⟩ (.slice none 0 0)).setCell ⟨w.heap.size + 1, 2, none⟩ (.int .u64 0)).setCell ⟨w.heap.size + 1, 3, none⟩ (.int .u64 0)).setCell ⟨w.heap.size + 1, 4, none⟩ (.slice none 0 0)).setCell ⟨w.heap.size + 1, 5, none⟩ (.slice none 0 0)).setCell ⟨w.heap.size + 1, 6, none⟩ (.int .u64 0)).setCell ⟨w.heap.size + 1, 7, none⟩ (.int .u64 0)).setCell ⟨w.heap.size + 1, 8, none⟩ (.slice none 0 0)).setCell ⟨w.heap.size + 1, 9, none⟩ (.slice none 0 0)).setCell ⟨w.heap.size + 1, 10, none⟩ (.slice none 0 0)).setCell ⟨w.heap.size + 1 + 1, 0, none⟩ (.int .i64 1)) (w.heap.size + 1 + 1) 36 #[.int .i64 1]) := Lib.hid (by have h_ := (Blk.set_ (Blk.far (Blk.far (Blk.far (Blk.far (Blk.far (Blk.far (Blk.far (Blk.far (Blk.far (Blk.far (Blk.far D1.out (p := ⟨w.heap.size + 1, 0, none⟩) (show ¬ w.heap.size + 1 + 1 = w.heap.size + 1 by omega) (.slice none 0 0)) (p := ⟨w.heap.size + 1, 1, none⟩) (show ¬ w.heap.size + 1 + 1 = w.heap.size + 1 by omega) (.slice none 0 0)) (p := ⟨w.heap.size + 1, 2, none⟩) (show ¬ w.heap.size + 1 + 1 = w.heap.size + 1 by omega) (.int .u64 0)) (p := ⟨w.heap.size + 1, 3, none⟩) (show ¬ w.heap.size + 1 + 1 = w.heap.size + 1 by omega) (.int .u64 0)) (p := ⟨w.heap.size + 1, 4, none⟩) (show ¬ w.heap.size + 1 + 1 = w.heap.size + 1 by omega) (.slice none 0 0)) (p := ⟨w.heap.size + 1, 5, none⟩) (show ¬ w.heap.size + 1 + 1 = w.heap.size + 1 by omega) (.slice none 0 0)) (p := ⟨w.heap.size + 1, 6, none⟩) (show ¬ w.heap.size + 1 + 1 = w.heap.size + 1 by omega) (.int .u64 0)) (p := ⟨w.heap.size + 1, 7, none⟩) (show ¬ w.heap.size + 1 + 1 = w.heap.size + 1 by omega) (.int .u64 0)) (p := ⟨w.heap.size + 1, 8, none⟩) (show ¬ w.heap.size + 1 + 1 = w.heap.size + 1 by omega) (.slice none 0 0)) (p := ⟨w.heap.size + 1, 9, none⟩) (show ¬ w.heap.size + 1 + 1 = w.heap.size + 1 by omega) (.slice none 0 0)) (p := ⟨w.heap.size + 1, 10, none⟩) (show ¬ w.heap.size + 1 + 1 = w.heap.size + 1 by omega) (.slice none 0 0)) 0 (.int .i64 1)); simpa only [List.setIfInBounds_toArray, List.set_cons_zero, List.set_cons_succ] using h_)
  clear hy1 hy1f hd1 hd1f
  generalize ((((((((((((w1.setCell ⟨w.heap.size + 1, 0, none⟩ (.slice none 0 0)).setCell ⟨w.heap.size + 1, 1, none⟩ (.slice none 0 0)).setCell ⟨w.heap.size + 1, 2, none⟩ (.int .u64 0)).setCell ⟨w.heap.size + 1, 3, none⟩ (.int .u64 0)).setCell ⟨w.heap.size + 1, 4, none⟩ (.slice none 0 0)).setCell ⟨w.heap.size + 1, 5, none⟩ (.slice none 0 0)).setCell ⟨w.heap.size + 1, 6, none⟩ (.int .u64 0)).setCell ⟨w.heap.size + 1, 7, none⟩ (.int .u64 0)).setCell ⟨w.heap.size + 1, 8, none⟩ (.slice none 0 0)).setCell ⟨w.heap.size + 1, 9, none⟩ (.slice none 0 0)).setCell ⟨w.heap.size + 1, 10, none⟩ (.slice none 0 0)).setCell ⟨w.heap.size + 1 + 1, 0, none⟩ (.int .i64 1)) = W8 at OE YE DE ⊢
  have hy8 := YE.out.cell
  have hd8 := DE.out.cell
  have HE := Lib.hid (W1.out.trans (OE.out.below W1.out.size (fun g hg => by omega)))
  clear OE
  simp [bodyPostD, Leaves, results, Try.results26, go_sem, hy8, hd8]
  exact HE.out
end Go.Proofs.Ytffppdcpiieapaa.Drivec

namespace Go.Proofs.Ytffppdcpiieapaa.Drivec
open Go.RowKit Go.Proofs.Ytffppdcpiieapaa.Memc Go.Proofs.Ytffppdcpiieapaa.Procc Go.Proofs.Ytffppdcpiieapaa.Storec Go.Proofs.Ytffppdcpiieapaa.Refc Go.Proofs.Ytffppdcpiieapaa.Machc
set_option linter.unusedVariables false
set_option maxRecDepth 100000

/-- a call that is on has been told of -/
def CallsOk (s : RS) : Prop := ∀ (i : Nat) (k : Nat), s.call[i]? = some (k : Int) → k < s.calls.length
def StepsOk (s : RS) : Prop := ∀ x ∈ s.steps, St.ok x
theorem goR_steps (ask : FS → Acc) (tell : FS → Int → Bool → FS) (s : RS) (i : Nat) (f : FS) (hf : s.on[i]? = some f) :
    (goR ask tell s i).steps = s.steps ++ [⟨i, ask f, (acc s.m (ask f)).2.1, (acc s.m (ask f)).2.2⟩] := by
  have e1 : s.on.getD i FS.none = f := by rw [List.getD_eq_getElem?_getD, hf]; rfl
  unfold goR
  simp only [e1]
theorem goR_more {ask : FS → Acc} {tell : FS → Int → Bool → FS} {s : RS} {i : Nat} {f : FS} (hf : s.on[i]? = some f) (hm : s.m.ok) (hok : (ask f).ok) (hc : CallsOk s) (hs : StepsOk s) : CallsOk (goR ask tell s i) ∧ StepsOk (goR ask tell s i) := by
  obtain ⟨e1, e2, e3, e4, e5, e6⟩ := goR_eq ask tell s i f hf
  refine ⟨fun j k hk => ?_, fun x hx => ?_⟩
  · rw [e6]
    rw [e3] at hk
    split at hk
    · by_cases hij : i = j
      · subst hij
        rcases Nat.lt_or_ge i s.call.length with h | h
        · rw [List.getElem?_set_self h] at hk
          have := Option.some.inj hk
          omega
        · rw [List.getElem?_eq_none (by rw [List.length_set]; exact h)] at hk
          cases hk
      · rw [List.getElem?_set_ne hij] at hk
        exact hc j k hk
    · exact hc j k hk
  · rw [goR_steps ask tell s i f hf] at hx
    rcases List.mem_append.1 hx with h | h
    · exact hs x h
    · rw [List.mem_singleton.1 h]
      have hw := acc_was s.m hm (ask f)
      exact ⟨hok, hw.1, hw.2⟩
theorem begR_calls {s : RS} (h : CallsOk s) (t : Nat) (next : FS) (kd vl : Int) : CallsOk (begR s t next kd vl) := fun j k hk => by
  show k < (s.calls ++ [_]).length
  rw [List.length_append]
  have hk' : (s.call.set t (s.calls.length : Int))[j]? = some (k : Int) := hk
  by_cases hij : t = j
  · subst hij
    rcases Nat.lt_or_ge t s.call.length with h1 | h1
    · rw [List.getElem?_set_self h1] at hk'
      have := Option.some.inj hk'
      simp
      omega
    · rw [List.getElem?_eq_none (by rw [List.length_set]; exact h1)] at hk'
      cases hk'
  · rw [List.getElem?_set_ne hij] at hk'
    have := h j k hk'
    simp
    omega
/-- what holds of a run of any calls -/
structure RunOk (G : FS → Prop) (T : Nat) (ls : List (List (Int × Int))) (s : RS) : Prop where
  ok : OkR G T s
  at_ : AtR ls s
  calls : CallsOk s
  steps : StepsOk s
/-- a turn of a thread that has a call left: the state that goes -/
theorem RunOk.goes {Z : Mac} {ok : Int → Int → Int → Int → Prop} {G : FS → Prop} {T : Nat} {ls : List (List (Int × Int))} {s : RS} (h : RunOk G T ls s) (hZ : MacOk Z ok G) (hT : ls.length = T) {t n : Nat} {l : List (Int × Int)} {o : Int × Int} (ht : t < T) (hl : ls[t]? = some l) (hn : s.at_[t]? = some (n : Int)) (ho : l[n]? = some o) {d : Int} (hok : ok t o.1 o.2 d) :
    ∃ (s2 : RS) (f : FS), ((0 ≤ s.call.getD t 0 ∧ s2 = s) ∨ (s.call.getD t 0 < 0 ∧ true = true ∧ s2 = begR s t (Z.bg t o.1 o.2 d) o.1 o.2)) ∧ s2.on[t]? = some f ∧ G f ∧ ¬ f.pc = 0 ∧ (∃ k0 : Nat, s2.call[t]? = some (k0 : Int) ∧ k0 < s2.calls.length) ∧ turnM Z ls s t d = goR Z.ask Z.tell s2 t ∧ s2.steps.length = s.steps.length ∧ s2.calls.length ≤ s.calls.length + 1 ∧ s2.m = s.m := by
  rcases h.ok.call t ht with hc | ⟨k, hk⟩
  · have hb := hZ.bg t o.1 o.2 d hok
    refine ⟨begR s t (Z.bg t o.1 o.2 d) o.1 o.2, Z.bg t o.1 o.2 d, .inr ⟨by rw [List.getD_eq_getElem?_getD, hc]; decide, rfl, rfl⟩, List.getElem?_set_self (by have := h.ok.len.1; omega), hb.1, hb.2, ⟨s.calls.length, List.getElem?_set_self (by have := h.ok.len.2.1; omega), by show _ < (s.calls ++ [_]).length; simp⟩, turnM_beg d hl hc hn ho, rfl, by show (s.calls ++ [_]).length ≤ _; simp, rfl⟩
  · obtain ⟨f, hf⟩ : ∃ f, s.on[t]? = some f := ⟨_, List.getElem?_eq_getElem (by have := h.ok.len.1; omega)⟩
    have hg := h.ok.on t f ⟨k, hk⟩ hf
    exact ⟨s, f, .inl ⟨by rw [List.getD_eq_getElem?_getD, hk]; exact Int.natCast_nonneg k, rfl⟩, hf, hg.1, hg.2, ⟨k, hk, h.calls t k hk⟩, turnM_on d (by omega) hk, rfl, by omega, rfl⟩
/-- a turn of a thread that has none left, and one that is on -/
theorem RunOk.goes_on {Z : Mac} {G : FS → Prop} {T : Nat} {ls : List (List (Int × Int))} {s : RS} (h : RunOk G T ls s) (hT : ls.length = T) {t k : Nat} (ht : t < T) (hk : s.call[t]? = some (k : Int)) (d : Int) :
    ∃ f : FS, s.on[t]? = some f ∧ G f ∧ ¬ f.pc = 0 ∧ k < s.calls.length ∧ turnM Z ls s t d = goR Z.ask Z.tell s t := by
  obtain ⟨f, hf⟩ : ∃ f, s.on[t]? = some f := ⟨_, List.getElem?_eq_getElem (by have := h.ok.len.1; omega)⟩
  have hg := h.ok.on t f ⟨k, hk⟩ hf
  exact ⟨f, hf, hg.1, hg.2, h.calls t k hk, turnM_on d (by omega) hk⟩
theorem RunOk.turn {Z : Mac} {ok : Int → Int → Int → Int → Prop} {G : FS → Prop} {T : Nat} {ls : List (List (Int × Int))} {s : RS} (h : RunOk G T ls s) (hZ : MacOk Z ok G) (hT : ls.length = T) (t d : Int) (hops : OkOps ok ls d) : RunOk G T ls (turnM Z ls s t d) := by
  have h1 := turnM_ok hZ hT h.ok h.at_ t d hops
  suffices hh : CallsOk (turnM Z ls s t d) ∧ StepsOk (turnM Z ls s t d) from ⟨h1.1, h1.2.1, hh.1, hh.2⟩
  by_cases hoff : t < 0 ∨ (ls.length : Int) ≤ t
  · rw [turnM_off d hoff]; exact ⟨h.calls, h.steps⟩
  · obtain ⟨i, rfl⟩ : ∃ i : Nat, t = i := ⟨t.toNat, by omega⟩
    have hi : i < ls.length := by omega
    obtain ⟨l, hl⟩ : ∃ l, ls[i]? = some l := ⟨_, List.getElem?_eq_getElem hi⟩
    obtain ⟨n, hn, hnl⟩ := h.at_ i l hl
    by_cases hlt : n < l.length
    · obtain ⟨o, ho⟩ : ∃ o, l[n]? = some o := ⟨_, List.getElem?_eq_getElem hlt⟩
      obtain ⟨s2, f, h2, hf, hg, hp, hc, ht, _, _, hm⟩ := h.goes hZ hT (by omega) hl hn ho (hops i l n o hl ho)
      rw [ht]
      have hm2 : s2.m.ok := by rw [hm]; exact h.ok.m
      rcases h2 with ⟨_, rfl⟩ | ⟨_, _, rfl⟩
      · exact goR_more hf hm2 (hZ.ask f hg hp) h.calls h.steps
      · exact goR_more hf hm2 (hZ.ask f hg hp) (begR_calls h.calls _ _ _ _) h.steps
    · rcases h.ok.call i (by omega) with hc | ⟨k, hk⟩
      · rw [turnM_none d hl hc hn (by omega)]; exact ⟨h.calls, h.steps⟩
      · obtain ⟨f, hf, hg, hp, _, ht⟩ := h.goes_on (Z := Z) hT (by omega) hk d
        rw [ht]
        exact goR_more hf h.ok.m (hZ.ask f hg hp) h.calls h.steps
theorem RunOk.first {G : FS → Prop} {T : Nat} {ls : List (List (Int × Int))} {m : Memc.M} (hm : m.ok) (hT : ls.length = T) : RunOk G T ls (RS.first m T) where
  ok := ⟨hm, ⟨List.length_replicate .., List.length_replicate .., List.length_replicate ..⟩, (fun i f ⟨k, hk⟩ => by
    have hk' : (List.replicate T (-1 : Int))[i]? = some (k : Int) := hk
    rw [List.getElem?_replicate] at hk'
    split at hk'
    · have := Option.some.inj hk'; omega
    · cases hk'), fun i hi => .inl (by show (List.replicate T (-1 : Int))[i]? = _; rw [List.getElem?_replicate, if_pos hi])⟩
  at_ := fun i l hl => ⟨0, by
    show (List.replicate T (0 : Int))[i]? = _
    rw [List.getElem?_replicate, if_pos (by have := (List.getElem?_eq_some_iff.1 hl).1; omega)]; rfl, Nat.zero_le _⟩
  calls := fun i k hk => by
    have hk' : (List.replicate T (-1 : Int))[i]? = some (k : Int) := hk
    rw [List.getElem?_replicate] at hk'
    split at hk'
    · have := Option.some.inj hk'; omega
    · cases hk'
  steps := fun x hx => by cases hx
theorem RunOk.run {Z : Mac} {ok : Int → Int → Int → Int → Prop} {G : FS → Prop} {T : Nat} {ls : List (List (Int × Int))} (hZ : MacOk Z ok G) (hT : ls.length = T) : ∀ (ps : List (Int × Int)) (s : RS), RunOk G T ls s → (∀ p ∈ ps, OkOps ok ls p.2) → RunOk G T ls (runM Z ls s ps)
  | [], s, h, _ => h
  | p :: ps, s, h, hops => RunOk.run hZ hT ps _ (h.turn hZ hT p.1 p.2 (hops p (List.mem_cons_self ..))) (fun q hq => hops q (List.mem_cons_of_mem _ hq))
end Go.Proofs.Ytffppdcpiieapaa.Drivec

namespace Go.Proofs.Ytffppdcpiieapaa.Machc
open Go.RowKit Go.Proofs.Ytffppdcpiieapaa.Memc Go.Proofs.Ytffppdcpiieapaa.Newc Go.Proofs.Ytffppdcpiieapaa.Drivec Go.Proofs.Ytffppdcpiieapaa.Procc Go.Proofs.Ytffppdcpiieapaa.Wordc Go.Proofs.Ytffppdcpiieapaa.Arenac
set_option linter.unusedVariables false
set_option maxRecDepth 100000

end Go.Proofs.Ytffppdcpiieapaa.Machc

namespace Go.Proofs.Ytffppdcpiieapaa.Machc
open Go.RowKit Go.Proofs.Ytffppdcpiieapaa.Memc Go.Proofs.Ytffppdcpiieapaa.Newc Go.Proofs.Ytffppdcpiieapaa.Drivec Go.Proofs.Ytffppdcpiieapaa.Procc Go.Proofs.Ytffppdcpiieapaa.Wordc Go.Proofs.Ytffppdcpiieapaa.Arenac
set_option linter.unusedVariables false
set_option maxRecDepth 100000

end Go.Proofs.Ytffppdcpiieapaa.Machc

namespace Go.Proofs.Ytffppdcpiieapaa.Machc
open Go.RowKit Go.Proofs.Ytffppdcpiieapaa.Memc Go.Proofs.Ytffppdcpiieapaa.Newc Go.Proofs.Ytffppdcpiieapaa.Drivec Go.Proofs.Ytffppdcpiieapaa.Procc Go.Proofs.Ytffppdcpiieapaa.Refc
set_option linter.unusedVariables false
set_option maxRecDepth 100000

theorem RdLO.lens {w : World} {B : Nat} {s : Sl} {ls : List (List (Int × Int))} (h : RdLO w B s ls) (hB : B ≤ w.heap.size) : Lens w s (ls.map List.length) := by
  have hx : ∀ x ∈ ls, x.length ≤ maxLen := by
    intro x hx
    obtain ⟨i, hi, rfl⟩ := List.getElem_of_mem hx
    obtain ⟨b, off, _, _, hc⟩ := h.2.2.2 (by rw [h.1]; omega)
    obtain ⟨sa, _, h2⟩ := hc i _ (List.getElem?_eq_getElem hi)
    have h3 := h2.1
    have h4 := h2.2.1
    have h5 := h2.2.2.1
    omega
  refine ⟨by rw [List.length_map]; exact h.1, h.2.1, h.2.2.1, (fun x hx' => by obtain ⟨y, hy, rfl⟩ := List.mem_map.1 hx'; exact hx y hy), fun hn => ?_⟩
  obtain ⟨b, off, e, hlt, hc⟩ := h.2.2.2 hn
  refine ⟨b, off, e, Nat.lt_of_lt_of_le hlt hB, fun i n hi => ?_⟩
  rw [List.getElem?_map] at hi
  rcases hx : ls[i]? with _ | y
  · rw [hx] at hi; cases hi
  · rw [hx] at hi
    injection hi with hi
    obtain ⟨sa, h1, h2⟩ := hc i y hx
    exact ⟨sa, h2.1.trans hi, h1⟩
def mostN : List Nat → Nat → Nat
  | [], m => m
  | n :: ns, m => mostN ns (if m < n then n else m)
/-- what the document's machines are, by contract -/
def DocA (k : Int) (K T M : Nat) (Z : Mac) (G : FS → Prop) : Prop := ∀ f, G f → ¬ f.pc = 0 → ∀ (W : World) (q : Sl), Rd W W.heap.size q f.seen → Calls Try.prog 60 #[.agg #[.int .i64 k, .int .i64 K, .int .i64 T, .int .i64 M], .agg (f.v q).toArray] W fun e W' => e = .returned (.agg #[.int .i64 (Z.ask f).d, .int .i64 (Z.ask f).ar, .int .i64 (Z.ask f).at_, .int .u64 (Z.ask f).old, .int .u64 (Z.ask f).new]) ∧ Below W.heap.size W W'
def DocT (k : Int) (K T M : Nat) (Z : Mac) (G : FS → Prop) : Prop := ∀ f, G f → ¬ f.pc = 0 → ∀ (W : World) (q : Sl) (was : Int) (dn : Bool), 0 ≤ was → was ≤ 18446744073709551615 → Rd W W.heap.size q f.seen → Calls Try.prog 62 #[.agg #[.int .i64 k, .int .i64 K, .int .i64 T, .int .i64 M], .agg (f.v q).toArray, .int .u64 was, .bool dn] W fun e W' => ∃ q' : Sl, e = .returned (.agg (((Z.tell f was dn)).v q').toArray) ∧ Rd W' W'.heap.size q' (Z.tell f was dn).seen ∧ Below W.heap.size W W' ∧ ∀ b, b < W.heap.size → OffQ q b → OffQ q' b
def DocB (k : Int) (K T M : Nat) (Z : Mac) (ok : Int → Int → Int → Int → Prop) : Prop := ∀ (i kd vl d : Int), ok i kd vl d → 0 ≤ d → d ≤ 4294967295 → (Z.bg i kd vl d).seen = [] ∧ ∀ W : World, Calls Try.prog 73 #[.agg #[.int .i64 k, .int .i64 K, .int .i64 T, .int .i64 M], .int .i64 i, .agg #[.int .i64 kd, .int .u32 vl], .int .u32 d] W fun e W' => e = .returned (.agg ((Z.bg i kd vl d).v nilS).toArray) ∧ Below W.heap.size W W'
/-- what a run comes to -/
def Ran4 (w : World) (s : RS) (e : Ending) (w' : World) : Prop :=
  ∃ (r : R) (sS sK : Sl) (base : Nat), e = .returned (.tuple #[.agg #[.slice sS.A sS.n sS.c, .slice sK.A sK.n sK.c, .int .u64 r.e, .int .u64 r.f, .slice r.L.A r.L.n r.L.c, .slice r.P.A r.P.n r.P.c, .int .u64 r.h, .int .u64 r.t, .slice r.K.A r.K.n r.K.c, .slice r.X.A r.X.n r.X.c, .slice r.S.A r.S.n r.S.c], .bool true]) ∧ Rm w' w'.heap.size r s.m ∧ (∀ b, b < base → Off r b) ∧ Row w' base 59 8 sS s.steps.length (flatT s.steps) ∧ Row w' base 55 7 sK s.calls.length (flatK s.calls) ∧ Drivec.StepsOk s ∧ w.heap.size ≤ base ∧ Below w.heap.size w w'
end Go.Proofs.Ytffppdcpiieapaa.Machc

namespace Go.Proofs.Ytffppdcpiieapaa.Arenac
open Go.RowKit Go.Proofs.Ytffppdcpiieapaa.Memc Go.Proofs.Ytffppdcpiieapaa.Newc Go.Proofs.Ytffppdcpiieapaa.Procc Go.Proofs.Ytffppdcpiieapaa.Machc Go.Proofs.Ytffppdcpiieapaa.Drivec Go.Proofs.Ytffppdcpiieapaa.Wordc
set_option linter.unusedVariables false
set_option maxRecDepth 100000

theorem okE_of {ls : List (List (Int × Int))} {T : Nat} (hT : ls.length = T) (t2 : T ≤ 8) (hf : ∀ l ∈ ls, l.any fgnE = false) (hv : ∀ l ∈ ls, ∀ o ∈ l, 0 ≤ o.2 ∧ o.2 ≤ 4294967295) (d : Int) : OkOps okE ls d := fun i l n o hi hn => by
  have hlm := List.mem_of_getElem? hi
  have hom := List.mem_of_getElem? hn
  have h1 := List.any_eq_false.1 (hf l hlm) o hom
  have hil : i < ls.length := (List.getElem?_eq_some_iff.1 hi).1
  refine ⟨?_, (hv l hlm o hom).1, (hv l hlm o hom).2, by omega, by omega⟩
  unfold fgnE at h1
  by_cases e3 : o.1 = 3
  · exact .inl e3
  · by_cases e6 : o.1 = 6
    · exact .inr (.inl e6)
    · by_cases e7 : o.1 = 7
      · exact .inr (.inr (.inl e7))
      · by_cases e8 : o.1 = 8
        · exact .inr (.inr (.inr e8))
        · exfalso
          apply h1
          simp [e3, e6, e7, e8]
set_option maxHeartbeats 4000000 in
theorem erun_c (w : World) (k : Int) (K T M : Nat) (bo oo oc : Nat) (pA : Option Addr) (pn pc : Nat) (ls : List (List (Int × Int))) (ps : List (Int × Int))
    (k1 : 1 ≤ k) (k2 : k ≤ 3) (a1 : 1 ≤ K) (a2 : K ≤ 64) (t1 : 1 ≤ T) (t2 : T ≤ 8) (m1 : 2 ≤ M) (m2 : M ≤ 64)
    (hl : RdLO w w.heap.size ⟨some ⟨bo, oo, none⟩, T, oc⟩ ls) (hle : ∀ x ∈ ls, x.length ≤ 1000) (hp : RdP w w.heap.size ⟨pA, pn, pc⟩ ps) (hpn : ps.length ≤ 20000)
    (hf : ∀ l ∈ ls, l.any fgnE = false) (hv : ∀ l ∈ ls, ∀ o ∈ l, 0 ≤ o.2 ∧ o.2 ≤ 4294967295) :
    Calls Try.prog 23 #[.agg #[.int .i64 k, .int .i64 K, .int .i64 T, .int .i64 M], .slice (some ⟨bo, oo, none⟩) T oc, .slice pA pn pc] w (RanL w (runM (docZ k K T M) ls (RS.first (newM k K T M) T) ps)) := by
  have hmf : ∀ (fn : Fn) (first cap : Array Value) (w : World), (Instr.makeFunc fn first cap).run Try.prog w = .ok (.func fn first cap) w := fun _ _ _ _ => rfl
  have hok : ∀ p ∈ ps, OkOps okE ls p.2 := fun p _ => okE_of hl.1.symm t2 hf hv p.2
  have hany : ls.any fgnL = false := List.any_eq_false.2 (fun l hl' => by show ¬ l.any fgnE = true; rw [hf l hl']; decide)
  have hbz : bo < w.heap.size := by
    obtain ⟨b', off', e, hbB, hcell⟩ := hl.2.2.2 (by show 0 < T; omega)
    injection e with e
    injection e with e1 e2
    omega
  have hoc : T ≤ oc ∧ oc ≤ maxLen := ⟨hl.2.1, hl.2.2.1⟩
  have W0 : Hid (Below w.heap.size w ((w.alloc (.cells #[.int .i64 k, .int .i64 K, .int .i64 T, .int .i64 M] 23)).alloc (.cells #[.slice none 0 0, .slice none 0 0, .int .u64 0, .int .u64 0, .slice none 0 0, .slice none 0 0, .int .u64 0, .int .u64 0, .slice none 0 0, .slice none 0 0, .slice none 0 0] 35))) := Lib.hid (((Below.refl _ _).alloc (Nat.le_refl _) _).alloc (by simp) _)
  have X0 : Hid (Blk ((w.alloc (.cells #[.int .i64 k, .int .i64 K, .int .i64 T, .int .i64 M] 23)).alloc (.cells #[.slice none 0 0, .slice none 0 0, .int .u64 0, .int .u64 0, .slice none 0 0, .slice none 0 0, .int .u64 0, .int .u64 0, .slice none 0 0, .slice none 0 0, .slice none 0 0] 35)) w.heap.size 23 #[.int .i64 k, .int .i64 K, .int .i64 T, .int .i64 M]) := Lib.hid ((Blk.new _ _ _).alloc _)
  have Y0 : Hid (Blk ((w.alloc (.cells #[.int .i64 k, .int .i64 K, .int .i64 T, .int .i64 M] 23)).alloc (.cells #[.slice none 0 0, .slice none 0 0, .int .u64 0, .int .u64 0, .slice none 0 0, .slice none 0 0, .int .u64 0, .int .u64 0, .slice none 0 0, .slice none 0 0, .slice none 0 0] 35)) (w.heap.size + 1) 35 #[.slice none 0 0, .slice none 0 0, .int .u64 0, .int .u64 0, .slice none 0 0, .slice none 0 0, .int .u64 0, .int .u64 0, .slice none 0 0, .slice none 0 0, .slice none 0 0]) := Lib.hid (blk_at2 _ _ _ _ (by simp))
  have HL := Lib.hid hl
  have HP := Lib.hid hp
  have HREST := Lib.hid (And.intro hle (And.intro hpn (And.intro hok hoc)))
  clear hl hp hle hpn hok hf hv hoc
  go_enter Try.func23, Try.ntmps23
  go_wp2_with fail
  generalize ((w.alloc (.cells #[.int .i64 k, .int .i64 K, .int .i64 T, .int .i64 M] 23)).alloc (.cells #[.slice none 0 0, .slice none 0 0, .int .u64 0, .int .u64 0, .slice none 0 0, .slice none 0 0, .int .u64 0, .int .u64 0, .slice none 0 0, .slice none 0 0, .slice none 0 0] 35)) = V at W0 X0 Y0 ⊢
  go_wp2_with (first
    | (go_at_call 41; (with_reducible refine (contains_LE ⟨some ⟨bo, oo, none⟩, T, oc⟩ _ w.heap.size ls (HL.out.below W0.out) W0.out.size).mono ?_); rw [hany]; rintro e wr ⟨rfl, hb⟩; go_must (have HW := Lib.hid hb; have WR := Lib.hid (W0.out.trans (hb.mono W0.out.size)); have X4 := Lib.hid (X0.out.below hb X0.out.lt); have Y4 := Lib.hid (Y0.out.below hb Y0.out.lt)); have hx4 := X4.out.cell; clear hb)
    | (go_at_call 26; go_must (refine (rung_c wr wr.heap.size 43 _ [⟨w.heap.size, 23, #[.int .i64 k, .int .i64 K, .int .i64 T, .int .i64 M]⟩] (docZ k K T M) okE (GE T) k K T M bo oo oc pA pn pc ls ps k1 k2 a1 a2 t1 t2 m1 m2 (RdLO.up (HL.out.below WR.out) WR.out.size) HREST.out.1 (RdP.up (HP.out.below WR.out) WR.out.size) HREST.out.2.1 (Nat.le_refl _) rfl (fun x hx => by rw [List.mem_singleton.1 hx]; exact X4.out) (fun x hx => by rw [List.mem_singleton.1 hx]; simp) (ep_ok k K T M t1 t2 m1 m2) (runE_begins w.heap.size k K T M t1 t2 m1 m2) HREST.out.2.2.1).mono ?_); rintro e w6 ⟨r, sS, sK, base, rfl, hS6, hK6, hE6, hF6⟩; go_must (have S6 := Lib.hid hS6; have K6 := Lib.hid hK6; have E6 := Lib.hid hE6; have F6 := Lib.hid (hF6.below (Nat.le_refl _)); have Y6 := Lib.hid (Y4.out.below F6.out Y4.out.lt); have hy6 := Y6.out.cell; have hy6f := Y6.out.frozen); clear hS6 hK6 hE6 hF6 hx4))
  have OE : Hid (Only (fun g => g = w.heap.size + 1) w6 (((((((((((w6.setCell ⟨(w.heap.size + 1), 0, none⟩ (.slice sS.A sS.n sS.c)).setCell ⟨(w.heap.size + 1), 1, none⟩ (.slice sK.A sK.n sK.c)).setCell ⟨(w.heap.size + 1), 2, none⟩ (.int .u64 r.e)).setCell ⟨(w.heap.size + 1), 3, none⟩ (.int .u64 r.f)).setCell ⟨(w.heap.size + 1), 4, none⟩ (.slice r.L.A r.L.n r.L.c)).setCell ⟨(w.heap.size + 1), 5, none⟩ (.slice r.P.A r.P.n r.P.c)).setCell ⟨(w.heap.size + 1), 6, none⟩ (.int .u64 r.h)).setCell ⟨(w.heap.size + 1), 7, none⟩ (.int .u64 r.t)).setCell ⟨(w.heap.size + 1), 8, none⟩ (.slice r.K.A r.K.n r.K.c)).setCell ⟨(w.heap.size + 1), 9, none⟩ (.slice r.X.A r.X.n r.X.c)).setCell ⟨(w.heap.size + 1), 10, none⟩ (.slice r.S.A r.S.n r.S.c))) := Lib.hid ((Only.set_ (Only.set_ (Only.set_ (Only.set_ (Only.set_ (Only.set_ (Only.set_ (Only.set_ (Only.set_ (Only.set_ (Only.set_ (Only.refl (fun g => g = w.heap.size + 1) w6) ⟨(w.heap.size + 1), 0, none⟩ (.inl rfl) (.slice sS.A sS.n sS.c)) ⟨(w.heap.size + 1), 1, none⟩ (.inl rfl) (.slice sK.A sK.n sK.c)) ⟨(w.heap.size + 1), 2, none⟩ (.inl rfl) (.int .u64 r.e)) ⟨(w.heap.size + 1), 3, none⟩ (.inl rfl) (.int .u64 r.f)) ⟨(w.heap.size + 1), 4, none⟩ (.inl rfl) (.slice r.L.A r.L.n r.L.c)) ⟨(w.heap.size + 1), 5, none⟩ (.inl rfl) (.slice r.P.A r.P.n r.P.c)) ⟨(w.heap.size + 1), 6, none⟩ (.inl rfl) (.int .u64 r.h)) ⟨(w.heap.size + 1), 7, none⟩ (.inl rfl) (.int .u64 r.t)) ⟨(w.heap.size + 1), 8, none⟩ (.inl rfl) (.slice r.K.A r.K.n r.K.c)) ⟨(w.heap.size + 1), 9, none⟩ (.inl rfl) (.slice r.X.A r.X.n r.X.c)) ⟨(w.heap.size + 1), 10, none⟩ (.inl rfl) (.slice r.S.A r.S.n r.S.c)))
  have YE : Hid (Blk (((((((((((w6.setCell ⟨(w.heap.size + 1), 0, none⟩ (.slice sS.A sS.n sS.c)).setCell ⟨(w.heap.size + 1), 1, none⟩ (.slice sK.A sK.n sK.c)).setCell ⟨(w.heap.size + 1), 2, none⟩ (.int .u64 r.e)).setCell ⟨(w.heap.size + 1), 3, none⟩ (.int .u64 r.f)).setCell ⟨(w.heap.size + 1), 4, none⟩ (.slice r.L.A r.L.n r.L.c)).setCell ⟨(w.heap.size + 1), 5, none⟩ (.slice r.P.A r.P.n r.P.c)).setCell ⟨(w.heap.size + 1), 6, none⟩ (.int .u64 r.h)).setCell ⟨(w.heap.size + 1), 7, none⟩ (.int .u64 r.t)).setCell ⟨(w.heap.size + 1), 8, none⟩ (.slice r.K.A r.K.n r.K.c)).setCell ⟨(w.heap.size + 1), 9, none⟩ (.slice r.X.A r.X.n r.X.c)).setCell ⟨(w.heap.size + 1), 10, none⟩ (.slice r.S.A r.S.n r.S.c)) (w.heap.size + 1) 35 #[.slice sS.A sS.n sS.c, .slice sK.A sK.n sK.c, .int .u64 r.e, .int .u64 r.f, .slice r.L.A r.L.n r.L.c, .slice r.P.A r.P.n r.P.c, .int .u64 r.h, .int .u64 r.t, .slice r.K.A r.K.n r.K.c, .slice r.X.A r.X.n r.X.c, .slice r.S.A r.S.n r.S.c]) := Lib.hid (by have h_ := (Blk.set_ (Blk.set_ (Blk.set_ (Blk.set_ (Blk.set_ (Blk.set_ (Blk.set_ (Blk.set_ (Blk.set_ (Blk.set_ (Blk.set_ Y6.out 0 (.slice sS.A sS.n sS.c)) 1 (.slice sK.A sK.n sK.c)) 2 (.int .u64 r.e)) 3 (.int .u64 r.f)) 4 (.slice r.L.A r.L.n r.L.c)) 5 (.slice r.P.A r.P.n r.P.c)) 6 (.int .u64 r.h)) 7 (.int .u64 r.t)) 8 (.slice r.K.A r.K.n r.K.c)) 9 (.slice r.X.A r.X.n r.X.c)) 10 (.slice r.S.A r.S.n r.S.c)); simpa only [List.setIfInBounds_toArray, List.set_cons_zero, List.set_cons_succ] using h_)
  clear hy6 hy6f
  generalize (((((((((((w6.setCell ⟨(w.heap.size + 1), 0, none⟩ (.slice sS.A sS.n sS.c)).setCell ⟨(w.heap.size + 1), 1, none⟩ (.slice sK.A sK.n sK.c)).setCell ⟨(w.heap.size + 1), 2, none⟩ (.int .u64 r.e)).setCell ⟨(w.heap.size + 1), 3, none⟩ (.int .u64 r.f)).setCell ⟨(w.heap.size + 1), 4, none⟩ (.slice r.L.A r.L.n r.L.c)).setCell ⟨(w.heap.size + 1), 5, none⟩ (.slice r.P.A r.P.n r.P.c)).setCell ⟨(w.heap.size + 1), 6, none⟩ (.int .u64 r.h)).setCell ⟨(w.heap.size + 1), 7, none⟩ (.int .u64 r.t)).setCell ⟨(w.heap.size + 1), 8, none⟩ (.slice r.K.A r.K.n r.K.c)).setCell ⟨(w.heap.size + 1), 9, none⟩ (.slice r.X.A r.X.n r.X.c)).setCell ⟨(w.heap.size + 1), 10, none⟩ (.slice r.S.A r.S.n r.S.c)) = W8 at OE YE ⊢
  have S8 : Hid (Row W8 base 59 8 sS _ _) := Lib.hid (S6.out.only OE.out (fun g hg h => by subst h; exact S6.out.ne Y6.out (by decide) _ hg rfl))
  have K8 : Hid (Row W8 base 55 7 sK _ _) := Lib.hid (K6.out.only OE.out (fun g hg h => by subst h; exact K6.out.ne Y6.out (by decide) _ hg rfl))
  have E8 := Lib.hid (E6.out.only OE.out (fun ar hl ad had h => E6.out.ne Y6.out (by decide) (by decide) ar hl ad had h))
  have F8 : Hid (Below w.heap.size w W8) := Lib.hid ((WR.out.trans (F6.out.mono WR.out.size)).trans (OE.out.below (Nat.le_trans WR.out.size F6.out.size) (fun g hg => by omega)))
  have hy8 := YE.out.cell
  refine bodyPost_ret (v := .tuple #[.agg #[.slice sS.A sS.n sS.c, .slice sK.A sK.n sK.c, .int .u64 r.e, .int .u64 r.f, .slice r.L.A r.L.n r.L.c, .slice r.P.A r.P.n r.P.c, .int .u64 r.h, .int .u64 r.t, .slice r.K.A r.K.n r.K.c, .slice r.X.A r.X.n r.X.c, .slice r.S.A r.S.n r.S.c], .int .i64 0]) ?_ rfl ?_
  · simp [results, Try.results23, go_sem, hy8]
  · exact ⟨r, sS, sK, base, rfl, S8.out, K8.out, E8.out, F8.out⟩
end Go.Proofs.Ytffppdcpiieapaa.Arenac
