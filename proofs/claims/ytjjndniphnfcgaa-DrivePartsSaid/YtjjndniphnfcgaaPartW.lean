/- The law that the trace of the first picks is the beginning of the trace of all, walked. -/
import Derived.Test.YtjjndniphnfcgaaRepW
import Derived.Test.YtjjndniphnfcgaaPartM
namespace Go.Proofs.Ytjjndniphnfcgaa.Drivec
open Go.RowKit Go.Proofs.Ytjjndniphnfcgaa.Memc Go.Proofs.Ytjjndniphnfcgaa.Procc Go.Proofs.Ytjjndniphnfcgaa.Storec Go.Proofs.Ytjjndniphnfcgaa.Newc Go.Proofs.Ytjjndniphnfcgaa.Refc Go.Proofs.Ytjjndniphnfcgaa.Nocfg Go.Proofs.Ytjjndniphnfcgaa.Machc
set_option linter.unusedVariables false
set_option maxRecDepth 100000

theorem wrap64_id (x : Int) (h : -9223372036854775808 ≤ x ∧ x ≤ 9223372036854775807) : wrap64 x = x := by unfold wrap64; omega

theorem cut_kk (cut : Int) (pn : Nat) (c1 : 0 ≤ cut) (hp : pn ≤ 1000) : ∃ kk : Nat, Int.tmod cut ((pn : Int) + 1) = kk ∧ kk ≤ pn ∧ wrap64 ((pn : Int) + 1) = (pn : Int) + 1 ∧ wrap64 (kk : Int) = (kk : Int) ∧ (0 : Int) ≤ (kk : Int) ∧ ¬ ((pn : Int) + 1 = 0) := by
  have h1 := Int.tmod_nonneg ((pn : Int) + 1) c1
  have h2 := Int.tmod_lt_of_pos cut (show (0 : Int) < (pn : Int) + 1 by omega)
  refine ⟨(Int.tmod cut ((pn : Int) + 1)).toNat, by omega, by omega, wrap64_id _ (by omega), wrap64_id _ (by omega), by omega, by omega⟩

set_option maxHeartbeats 4000000 in
theorem parts_no (w : World) (k K T M cut : Int) (sA : Option Addr) (sn sc : Nat) (pA : Option Addr) (pn pc : Nat) (ns : List Nat) (h : Lens w ⟨sA, sn, sc⟩ ns) (hps : pn ≤ pc ∧ pc ≤ maxLen)
    (c1 : 0 ≤ cut) (c2 : cut ≤ 65535) (hno : ¬ ((Cfg.mk k K T M).may ∧ (sn : Int) = T ∧ ns.any (fun x => decide (1000 < x)) = false ∧ pn ≤ 20000)) :
    Calls Try.prog 8 #[.agg #[.int .i64 k, .int .i64 K, .int .i64 T, .int .i64 M], .slice sA sn sc, .slice pA pn pc, .int .u16 cut] w fun e w' => e = .returned (.bool true) ∧ Below w.heap.size w w' := by
  have HL := Lib.hid h
  have HPL := Lib.hid (Nat.le_trans hps.1 hps.2)
  have HPC := Lib.hid hps
  have HN := Lib.hid hno
  clear h hps hno
  have W0 : Hid (Below w.heap.size w (w.alloc (.cells #[.int .i64 k, .int .i64 K, .int .i64 T, .int .i64 M] 36))) := Lib.hid ((Below.refl _ _).alloc (Nat.le_refl _) _)
  have C0 : Hid (Blk (w.alloc (.cells #[.int .i64 k, .int .i64 K, .int .i64 T, .int .i64 M] 36)) w.heap.size 36 #[.int .i64 k, .int .i64 K, .int .i64 T, .int .i64 M]) := Lib.hid (Blk.new _ _ _)
  have hs2 : (sn : Int) ≤ 9223372036854775807 := by have h1 := HL.out.2.1; have h2 := HL.out.2.2.1; simp only at h1 h2; unfold maxLen at h2; omega
  have hp2 : (pn : Int) ≤ 9223372036854775807 := by have h1 := HPL.out; unfold maxLen at h1; omega
  go_enter Try.func8, Try.ntmps8
  go_wp2_with (go_at_call 25; refine (awake3_c _).mono ?_; rintro e w1 ⟨rfl, hb1⟩; go_must (have C1 := Lib.hid (C0.out.below hb1 C0.out.lt); have W1 := Lib.hid (W0.out.trans (hb1.mono W0.out.size))); clear hb1)
  clear C0 W0
  go_loopw [9, 10] (fun n i wr => ∃ (j : Nat) (x : Int), n = .int .i64 x ∧ i = .int .i64 j ∧ j ≤ sn ∧ -9223372036854775808 ≤ x ∧ x ≤ 9223372036854775807 ∧ wr = w1) (fun _ i _ => sn - (intOf i).toNat)
  case atStart => exact ⟨0, sn, rfl, rfl, Nat.zero_le _, by omega, hs2, rfl⟩
  case round =>
  obtain ⟨j, x, rfl, rfl, hj, x1, x2, rfl⟩ := hrel
  by_cases hgo : j < sn ∧ x ≤ 400
  · obtain ⟨hlt, hx4⟩ := hgo
    obtain ⟨b, off, hA, hbB, hcc⟩ := HL.out.2.2.2.2 (by show 0 < sn; omega)
    simp only at hA; subst hA
    obtain ⟨n, hn⟩ : ∃ n, ns[j]? = some n := ⟨_, List.getElem?_eq_getElem (by have := HL.out.1; simp only at this; omega)⟩
    obtain ⟨q, hqn, hq⟩ := hcc j n hn
    have hq1 := (W1.out.cell (p := ⟨b, off + j, none⟩) hbB).trans hq
    have i0 : (0 : Int) ≤ j := by omega
    have i1 : (j : Int) < sn := by omega
    clear hcc hq hn hqn
    go_wp2
    go_roundw
    case rel => exact ⟨j + 1, wrap64 (x + q.n), rfl, by go_num, by omega, by unfold wrap64; omega, by unfold wrap64; omega, trivial⟩
    case measure => simp [intOf]; omega
  · by_cases hx4 : 400 < x
    · by_cases hlt : j < sn
      · have i1 : (j : Int) < sn := by omega
        go_wp2
        go_ret
        exact ⟨rfl, W1.out⟩
      · have i1 : ¬ (j : Int) < sn := by omega
        go_wp2
        go_ret
        exact ⟨rfl, W1.out⟩
    · have hlt : ¬ (j : Int) < sn := by omega
      have hx5 : x ≤ 400 := by omega
      clear hgo hx4
      by_cases hpk : 1000 < pn
      · have i2 : 1000 < (pn : Int) := by omega
        go_wp2
        go_ret
        exact ⟨rfl, W1.out⟩
      · have i2 : ¬ 1000 < (pn : Int) := by omega
        obtain ⟨kk, hkk, hkp, hw1, hw2, k0, hz1⟩ := cut_kk cut pn c1 (Nat.le_of_not_lt hpk)
        have KP : Hid (kk ≤ maxLen) := Lib.hid (Nat.le_trans hkp HPL.out)
        have KN : Hid (¬ ((Cfg.mk k K T M).may ∧ (sn : Int) = T ∧ ns.any (fun x => decide (1000 < x)) = false ∧ kk ≤ 20000)) := Lib.hid (fun h => HN.out ⟨h.1, h.2.1, h.2.2.1, by omega⟩)
        have hkc : (kk : Int) ≤ pc := by have := HPC.out.1; omega
        have hcc := C1.out.cell
        have hcl := C1.out.lt
        go_wp2
        go_region_law (first | (go_simp; go_at_call 26; (with_reducible refine (raw_no _ k K T M ⟨sA, sn, sc⟩ ⟨pA, kk, pc⟩ ns (HL.out.below W1.out.drew) KP.out KN.out).mono ?_); rintro e w2 ⟨rfl, hb⟩; have tok1 : True := trivial; go_must (have W2 := Lib.hid (W1.out.drew.trans (hb.mono W1.out.size)); have C2 := Lib.hid (C1.out.drew.below hb C1.out.lt)); clear hb) | (go_simp; go_at_call 26; (with_reducible refine (raw_no _ k K T M ⟨sA, sn, sc⟩ ⟨pA, kk, pc⟩ ns (HL.out.below (W1.out.alloc W1.out.size _).drew) KP.out KN.out).mono ?_); rintro e w2 ⟨rfl, hb⟩; have tok2 : True := trivial; go_must (have W2 := Lib.hid ((W1.out.alloc W1.out.size (.cells #[.slice none 0 0, .slice none 0 0, .int .u64 0, .int .u64 0, .slice none 0 0, .slice none 0 0, .int .u64 0, .int .u64 0, .slice none 0 0, .slice none 0 0, .slice none 0 0] 54)).drew.trans (hb.mono (Nat.le_trans W1.out.size (by simp)))); have C2 := Lib.hid ((C1.out.alloc (.cells #[.slice none 0 0, .slice none 0 0, .int .u64 0, .int .u64 0, .slice none 0 0, .slice none 0 0, .int .u64 0, .int .u64 0, .slice none 0 0, .slice none 0 0, .slice none 0 0] 54)).drew.below hb (C1.out.alloc _).lt); have X2 : Hid (Blk w2 wr.heap.size 54 #[.slice none 0 0, .slice none 0 0, .int .u64 0, .int .u64 0, .slice none 0 0, .slice none 0 0, .int .u64 0, .int .u64 0, .slice none 0 0, .slice none 0 0, .slice none 0 0]) := Lib.hid ((Blk.new wr 54 #[.slice none 0 0, .slice none 0 0, .int .u64 0, .int .u64 0, .slice none 0 0, .slice none 0 0, .int .u64 0, .int .u64 0, .slice none 0 0, .slice none 0 0, .slice none 0 0]).drew.below hb (by simp)); have hx2 := X2.out.cell; have hf2 := X2.out.frozen); clear hb))
        all_goals first
          | (clear tok1
             have XA : Hid (Blk (w2.alloc (.cells #[.slice none 0 0, .slice none 0 0, .int .u64 0, .int .u64 0, .slice none 0 0, .slice none 0 0, .int .u64 0, .int .u64 0, .slice none 0 0, .slice none 0 0, .slice none 0 0] 54)) w2.heap.size 54 #[.slice none 0 0, .slice none 0 0, .int .u64 0, .int .u64 0, .slice none 0 0, .slice none 0 0, .int .u64 0, .int .u64 0, .slice none 0 0, .slice none 0 0, .slice none 0 0]) := Lib.hid (Blk.new _ _ _)
             have W3 := Lib.hid (W2.out.alloc W2.out.size (.cells #[.slice none 0 0, .slice none 0 0, .int .u64 0, .int .u64 0, .slice none 0 0, .slice none 0 0, .int .u64 0, .int .u64 0, .slice none 0 0, .slice none 0 0, .slice none 0 0] 54))
             have C3 := Lib.hid (C2.out.alloc (.cells #[.slice none 0 0, .slice none 0 0, .int .u64 0, .int .u64 0, .slice none 0 0, .slice none 0 0, .int .u64 0, .int .u64 0, .slice none 0 0, .slice none 0 0, .slice none 0 0] 54))
             generalize w2.alloc (.cells #[.slice none 0 0, .slice none 0 0, .int .u64 0, .int .u64 0, .slice none 0 0, .slice none 0 0, .int .u64 0, .int .u64 0, .slice none 0 0, .slice none 0 0, .slice none 0 0] 54) = V at XA W3 C3 ⊢
             obtain ⟨gA, hgA⟩ : ∃ g, w2.heap.size = g := ⟨_, rfl⟩
             rw [hgA] at XA
             simp only [hgA]
             clear hgA C2 W2
             have hc3 := C3.out.cell
             have hx3 := XA.out.cell
             have hx3l := XA.out.lt
             clear hcc
             go_wp2_with (go_at_call 26; (with_reducible refine (raw_no _ k K T M ⟨sA, sn, sc⟩ ⟨pA, pn, pc⟩ ns (HL.out.below W3.out) HPL.out HN.out).mono ?_); rintro e w4 ⟨rfl, hb⟩; go_must (have W4 := Lib.hid (W3.out.trans (hb.mono W3.out.size)); have XB := Lib.hid (XA.out.below hb XA.out.lt)); have hx4 := XB.out.cell; have hx4l := XB.out.lt; clear hb hx3 hc3)
             go_ret
             exact ⟨rfl, W4.out.alloc W4.out.size _⟩
            )
          | (clear tok2
             have XA : Hid (Blk (((((((((((w2.setCell ⟨wr.heap.size, 0, none⟩ (.slice none 0 0)).setCell ⟨wr.heap.size, 1, none⟩ (.slice none 0 0)).setCell ⟨wr.heap.size, 2, none⟩ (.int .u64 0)).setCell ⟨wr.heap.size, 3, none⟩ (.int .u64 0)).setCell ⟨wr.heap.size, 4, none⟩ (.slice none 0 0)).setCell ⟨wr.heap.size, 5, none⟩ (.slice none 0 0)).setCell ⟨wr.heap.size, 6, none⟩ (.int .u64 0)).setCell ⟨wr.heap.size, 7, none⟩ (.int .u64 0)).setCell ⟨wr.heap.size, 8, none⟩ (.slice none 0 0)).setCell ⟨wr.heap.size, 9, none⟩ (.slice none 0 0)).setCell ⟨wr.heap.size, 10, none⟩ (.slice none 0 0)) wr.heap.size 54 #[.slice none 0 0, .slice none 0 0, .int .u64 0, .int .u64 0, .slice none 0 0, .slice none 0 0, .int .u64 0, .int .u64 0, .slice none 0 0, .slice none 0 0, .slice none 0 0]) := Lib.hid (by have h_ := (Blk.set_ (Blk.set_ (Blk.set_ (Blk.set_ (Blk.set_ (Blk.set_ (Blk.set_ (Blk.set_ (Blk.set_ (Blk.set_ (Blk.set_ X2.out 0 (.slice none 0 0)) 1 (.slice none 0 0)) 2 (.int .u64 0)) 3 (.int .u64 0)) 4 (.slice none 0 0)) 5 (.slice none 0 0)) 6 (.int .u64 0)) 7 (.int .u64 0)) 8 (.slice none 0 0)) 9 (.slice none 0 0)) 10 (.slice none 0 0)); simpa only [List.setIfInBounds_toArray, List.set_cons_zero, List.set_cons_succ] using h_)
             have OA : Hid (Only (fun g_ => g_ = wr.heap.size) w2 (((((((((((w2.setCell ⟨wr.heap.size, 0, none⟩ (.slice none 0 0)).setCell ⟨wr.heap.size, 1, none⟩ (.slice none 0 0)).setCell ⟨wr.heap.size, 2, none⟩ (.int .u64 0)).setCell ⟨wr.heap.size, 3, none⟩ (.int .u64 0)).setCell ⟨wr.heap.size, 4, none⟩ (.slice none 0 0)).setCell ⟨wr.heap.size, 5, none⟩ (.slice none 0 0)).setCell ⟨wr.heap.size, 6, none⟩ (.int .u64 0)).setCell ⟨wr.heap.size, 7, none⟩ (.int .u64 0)).setCell ⟨wr.heap.size, 8, none⟩ (.slice none 0 0)).setCell ⟨wr.heap.size, 9, none⟩ (.slice none 0 0)).setCell ⟨wr.heap.size, 10, none⟩ (.slice none 0 0))) := Lib.hid (Only.set_ (Only.set_ (Only.set_ (Only.set_ (Only.set_ (Only.set_ (Only.set_ (Only.set_ (Only.set_ (Only.set_ (Only.set_ (Only.refl (fun g_ => g_ = wr.heap.size) w2) ⟨wr.heap.size, 0, none⟩ (.inl rfl) (.slice none 0 0)) ⟨wr.heap.size, 1, none⟩ (.inl rfl) (.slice none 0 0)) ⟨wr.heap.size, 2, none⟩ (.inl rfl) (.int .u64 0)) ⟨wr.heap.size, 3, none⟩ (.inl rfl) (.int .u64 0)) ⟨wr.heap.size, 4, none⟩ (.inl rfl) (.slice none 0 0)) ⟨wr.heap.size, 5, none⟩ (.inl rfl) (.slice none 0 0)) ⟨wr.heap.size, 6, none⟩ (.inl rfl) (.int .u64 0)) ⟨wr.heap.size, 7, none⟩ (.inl rfl) (.int .u64 0)) ⟨wr.heap.size, 8, none⟩ (.inl rfl) (.slice none 0 0)) ⟨wr.heap.size, 9, none⟩ (.inl rfl) (.slice none 0 0)) ⟨wr.heap.size, 10, none⟩ (.inl rfl) (.slice none 0 0))
             have W3 : Hid (Below w.heap.size w (((((((((((w2.setCell ⟨wr.heap.size, 0, none⟩ (.slice none 0 0)).setCell ⟨wr.heap.size, 1, none⟩ (.slice none 0 0)).setCell ⟨wr.heap.size, 2, none⟩ (.int .u64 0)).setCell ⟨wr.heap.size, 3, none⟩ (.int .u64 0)).setCell ⟨wr.heap.size, 4, none⟩ (.slice none 0 0)).setCell ⟨wr.heap.size, 5, none⟩ (.slice none 0 0)).setCell ⟨wr.heap.size, 6, none⟩ (.int .u64 0)).setCell ⟨wr.heap.size, 7, none⟩ (.int .u64 0)).setCell ⟨wr.heap.size, 8, none⟩ (.slice none 0 0)).setCell ⟨wr.heap.size, 9, none⟩ (.slice none 0 0)).setCell ⟨wr.heap.size, 10, none⟩ (.slice none 0 0))) := Lib.hid (W2.out.trans (OA.out.below W2.out.size (fun g hg => by have := W1.out.size; omega)))
             have C3 : Hid (Blk (((((((((((w2.setCell ⟨wr.heap.size, 0, none⟩ (.slice none 0 0)).setCell ⟨wr.heap.size, 1, none⟩ (.slice none 0 0)).setCell ⟨wr.heap.size, 2, none⟩ (.int .u64 0)).setCell ⟨wr.heap.size, 3, none⟩ (.int .u64 0)).setCell ⟨wr.heap.size, 4, none⟩ (.slice none 0 0)).setCell ⟨wr.heap.size, 5, none⟩ (.slice none 0 0)).setCell ⟨wr.heap.size, 6, none⟩ (.int .u64 0)).setCell ⟨wr.heap.size, 7, none⟩ (.int .u64 0)).setCell ⟨wr.heap.size, 8, none⟩ (.slice none 0 0)).setCell ⟨wr.heap.size, 9, none⟩ (.slice none 0 0)).setCell ⟨wr.heap.size, 10, none⟩ (.slice none 0 0)) w.heap.size 36 #[.int .i64 k, .int .i64 K, .int .i64 T, .int .i64 M]) := Lib.hid (C2.out.only OA.out (Blk.ne C2.out X2.out (by decide)))
             clear hx2 hf2 X2
             generalize (((((((((((w2.setCell ⟨wr.heap.size, 0, none⟩ (.slice none 0 0)).setCell ⟨wr.heap.size, 1, none⟩ (.slice none 0 0)).setCell ⟨wr.heap.size, 2, none⟩ (.int .u64 0)).setCell ⟨wr.heap.size, 3, none⟩ (.int .u64 0)).setCell ⟨wr.heap.size, 4, none⟩ (.slice none 0 0)).setCell ⟨wr.heap.size, 5, none⟩ (.slice none 0 0)).setCell ⟨wr.heap.size, 6, none⟩ (.int .u64 0)).setCell ⟨wr.heap.size, 7, none⟩ (.int .u64 0)).setCell ⟨wr.heap.size, 8, none⟩ (.slice none 0 0)).setCell ⟨wr.heap.size, 9, none⟩ (.slice none 0 0)).setCell ⟨wr.heap.size, 10, none⟩ (.slice none 0 0)) = V at XA W3 C3 ⊢
             obtain ⟨gA, hgA⟩ : ∃ g, wr.heap.size = g := ⟨_, rfl⟩
             rw [hgA] at XA
             simp only [hgA]
             clear hgA C2 W2 OA
             have hc3 := C3.out.cell
             have hx3 := XA.out.cell
             have hx3l := XA.out.lt
             clear hcc
             go_wp2_with (go_at_call 26; (with_reducible refine (raw_no _ k K T M ⟨sA, sn, sc⟩ ⟨pA, pn, pc⟩ ns (HL.out.below W3.out) HPL.out HN.out).mono ?_); rintro e w4 ⟨rfl, hb⟩; go_must (have W4 := Lib.hid (W3.out.trans (hb.mono W3.out.size)); have XB := Lib.hid (XA.out.below hb XA.out.lt)); have hx4 := XB.out.cell; have hx4l := XB.out.lt; clear hb hx3 hc3)
             go_ret
             exact ⟨rfl, W4.out.alloc W4.out.size _⟩
            )



end Go.Proofs.Ytjjndniphnfcgaa.Drivec
