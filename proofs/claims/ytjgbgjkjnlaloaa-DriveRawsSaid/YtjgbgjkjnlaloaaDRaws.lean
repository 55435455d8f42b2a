/- Any threads' accesses come to the trace that the document says, or are refused: the law's walk. -/
import Derived.Test.YtjgbgjkjnlaloaaRaw3Y
import Derived.Test.YtjgbgjkjnlaloaaDrvJ
import Derived.Test.YtjgbgjkjnlaloaaAwakeC
import Derived.Test.YtjgbgjkjnlaloaaStoreReplays
import Derived.Deep.CutBlock
namespace Go.Proofs.Ytjgbgjkjnlaloaa.Machc
open Go.RowKit Go.Proofs.Ytjgbgjkjnlaloaa.Memc Go.Proofs.Ytjgbgjkjnlaloaa.Newc Go.Proofs.Ytjgbgjkjnlaloaa.Drivec Go.Proofs.Ytjgbgjkjnlaloaa.Procc
set_option linter.unusedVariables false
set_option maxRecDepth 100000

set_option maxHeartbeats 4000000 in
theorem draws_no (w : World) (k K T M : Int) (sA : Option Addr) (sn sc : Nat) (pA : Option Addr) (pn pc : Nat) (ns : List Nat) (h : Drivec.Lens w ⟨sA, sn, sc⟩ ns) (hps : pn ≤ maxLen) (hno : ¬ ((Cfg.mk k K T M).may ∧ (sn : Int) = T ∧ ns.any (fun x => decide (1000 < x)) = false ∧ pn ≤ 20000)) :
    Calls Try.prog 6 #[.agg #[.int .i64 k, .int .i64 K, .int .i64 T, .int .i64 M], .slice sA sn sc, .slice pA pn pc] w fun e w' => e = .returned (.bool true) ∧ Below w.heap.size w w' := by
  have HLN := Lib.hid h
  have HPL := Lib.hid hps
  have HNO := Lib.hid hno
  clear h hps hno
  have W0 : Hid (Below w.heap.size w (w.alloc (.cells #[.int .i64 k, .int .i64 K, .int .i64 T, .int .i64 M] 36))) := Lib.hid ((Below.refl _ _).alloc (Nat.le_refl _) _)
  have C0 : Hid (Blk (w.alloc (.cells #[.int .i64 k, .int .i64 K, .int .i64 T, .int .i64 M] 36)) w.heap.size 36 #[.int .i64 k, .int .i64 K, .int .i64 T, .int .i64 M]) := Lib.hid (Blk.new _ _ _)
  have hs2 : (sn : Int) ≤ 9223372036854775807 := by have h1 := HLN.out.2.1; have h2 := HLN.out.2.2.1; simp only at h1 h2; unfold maxLen at h2; omega
  have hp2 : (pn : Int) ≤ 9223372036854775807 := by have h1 := HPL.out; unfold maxLen at h1; omega
  go_enter Try.func6, Try.ntmps6
  go_upto_block 0 with (go_at_call 27; refine (awake3_c _).mono ?_; rintro e w1 ⟨rfl, hb1⟩; go_must (have C1 := Lib.hid (C0.out.below hb1 C0.out.lt); have W1 := Lib.hid (W0.out.trans (hb1.mono W0.out.size))); clear hb1)
  clear C0 W0
  go_cut [7] (fun n wx => (∃ x : Int, n = .int .i64 x ∧ -9223372036854775808 ≤ x ∧ x ≤ 9223372036854775807) ∧ wx = w1)
  case first =>
    go_wp2_with fail
    go_loopw [7, 8] (fun n i wr => ∃ (j : Nat) (x : Int), n = .int .i64 x ∧ i = .int .i64 j ∧ j ≤ sn ∧ -9223372036854775808 ≤ x ∧ x ≤ 9223372036854775807 ∧ wr = w1) (fun _ i _ => sn - (intOf i).toNat)
    case atStart => exact ⟨0, sn, rfl, rfl, Nat.zero_le _, by omega, hs2, rfl⟩
    case round =>
    obtain ⟨j, x, rfl, rfl, hj, x1, x2, rfl⟩ := hrel
    by_cases hlt : j < sn
    · have i1 : (j : Int) < sn := by omega
      by_cases hx4 : x ≤ 400
      · obtain ⟨b', off', hA, hbB, hcc⟩ := HLN.out.2.2.2.2 (by show 0 < sn; omega)
        simp only at hA
        subst hA
        obtain ⟨n, hn⟩ : ∃ n, ns[j]? = some n := ⟨_, List.getElem?_eq_getElem (by have := HLN.out.1; simp only at this; omega)⟩
        obtain ⟨q, hqn, hq⟩ := hcc j n hn
        have hq1 := (W1.out.cell (p := ⟨_, _, none⟩) hbB).trans hq
        have i0 : (0 : Int) ≤ j := by omega
        clear hcc hq hn hqn
        go_wp2
        go_roundw
        case rel => exact ⟨j + 1, wrap64 (x + q.n), rfl, by go_num, by omega, by unfold wrap64; omega, by unfold wrap64; omega, trivial⟩
        case measure => simp [intOf]; omega
      · go_wp2_with fail
        go_meet
        exact ⟨⟨x, rfl, x1, x2⟩, rfl⟩
    · have i1 : ¬ (j : Int) < sn := by omega
      go_wp2_with fail
      go_meet
      exact ⟨⟨x, rfl, x1, x2⟩, rfl⟩
  case rest =>
  obtain ⟨⟨x, rfl, x1, x2⟩, rfl⟩ := hcut
  go_upto_region 8 with fail
  go_cut [49] (fun n wx => (∃ z : Bool, n = .bool z) ∧ wx = wc)
  case first =>
    rcases (show (400 < x ∧ x ≤ 1000) ∨ (400 < x ∧ 1000 < x) ∨ (x ≤ 400 ∧ x ≤ 1000) by omega) with ⟨y1, y2⟩ | ⟨y1, y2⟩ | ⟨y1, y2⟩
    all_goals
      rcases (show (1000 < (pn : Int) ∧ (pn : Int) ≤ 20000) ∨ (1000 < (pn : Int) ∧ 20000 < (pn : Int)) ∨ ((pn : Int) ≤ 1000 ∧ (pn : Int) ≤ 20000) by omega) with ⟨z1, z2⟩ | ⟨z1, z2⟩ | ⟨z1, z2⟩
      all_goals
        go_wp2_with fail
        go_meet
        exact ⟨⟨_, rfl⟩, rfl⟩
  case rest =>
  obtain ⟨⟨z, rfl⟩, rfl⟩ := hcut
  cases z
  · have hcc := C1.out.cell
    go_upto_region 11 with (go_at_call 28; (with_reducible refine (raw_no _ k K T M ⟨sA, sn, sc⟩ ⟨pA, pn, pc⟩ ns (HLN.out.below W1.out) HPL.out HNO.out).mono ?_); rintro e w2 ⟨rfl, hb⟩; go_must (have W2 := Lib.hid (W1.out.trans (hb.mono W1.out.size)); have C2 := Lib.hid (C1.out.below hb C1.out.lt)); clear hb hcc)
    have X3 : Hid (Blk (w2.alloc (.cells #[.slice none 0 0, .slice none 0 0, .int .u64 0, .int .u64 0, .slice none 0 0, .slice none 0 0, .int .u64 0, .int .u64 0, .slice none 0 0, .slice none 0 0, .slice none 0 0] 54)) w2.heap.size 54 #[.slice none 0 0, .slice none 0 0, .int .u64 0, .int .u64 0, .slice none 0 0, .slice none 0 0, .int .u64 0, .int .u64 0, .slice none 0 0, .slice none 0 0, .slice none 0 0]) := Lib.hid (Blk.new _ _ _)
    have W3 := Lib.hid (W2.out.alloc W2.out.size (.cells #[.slice none 0 0, .slice none 0 0, .int .u64 0, .int .u64 0, .slice none 0 0, .slice none 0 0, .int .u64 0, .int .u64 0, .slice none 0 0, .slice none 0 0, .slice none 0 0] 54))
    have C3 := Lib.hid (C2.out.alloc (.cells #[.slice none 0 0, .slice none 0 0, .int .u64 0, .int .u64 0, .slice none 0 0, .slice none 0 0, .int .u64 0, .int .u64 0, .slice none 0 0, .slice none 0 0, .slice none 0 0] 54))
    clear W2 C2
    generalize w2.heap.size = gA at X3 ⊢
    generalize w2.alloc (.cells #[.slice none 0 0, .slice none 0 0, .int .u64 0, .int .u64 0, .slice none 0 0, .slice none 0 0, .int .u64 0, .int .u64 0, .slice none 0 0, .slice none 0 0, .slice none 0 0] 54) = V3 at X3 W3 C3 ⊢
    have hcc := C3.out.cell
    go_wp2_with (first | (go_at_call 29; (with_reducible refine (raw3_no _ k K T M ⟨sA, sn, sc⟩ ⟨pA, pn, pc⟩ ns (HLN.out.below W3.out) HPL.out HNO.out).mono ?_); rintro e w4 ⟨rfl, hb⟩; go_must (have W4 := Lib.hid (W3.out.trans (hb.mono W3.out.size)); have X4 := Lib.hid (X3.out.below hb X3.out.lt)); have hx4 := X4.out.cell; have hx4l := X4.out.lt; clear hb hcc) | (go_at_call 19; refine (Go.Proofs.Ytjgbgjkjnlaloaa.storeReplays.same_zz _).mono ?_; rintro e w5 ⟨rfl, hb⟩; go_must (have W5 := Lib.hid ((W4.out.alloc W4.out.size (.cells #[.slice none 0 0, .slice none 0 0, .int .u64 0, .int .u64 0, .slice none 0 0, .slice none 0 0, .int .u64 0, .int .u64 0, .slice none 0 0, .slice none 0 0, .slice none 0 0] 54)).trans (hb.mono (W4.out.alloc W4.out.size (.cells #[.slice none 0 0, .slice none 0 0, .int .u64 0, .int .u64 0, .slice none 0 0, .slice none 0 0, .int .u64 0, .int .u64 0, .slice none 0 0, .slice none 0 0, .slice none 0 0] 54)).size))); clear hb))
    go_ret
    exact ⟨rfl, W5.out⟩
  · go_wp2
    go_ret
    exact ⟨rfl, W1.out⟩
set_option maxHeartbeats 4000000 in
theorem draws_yes (w : World) (k : Int) (K M : Nat) (b off : Nat) (sn sc : Nat) (pA : Option Addr) (pn pc : Nat) (ls : List (List Acc)) (ps : List (Int × Int))
    (k1 : 1 ≤ k) (k2 : k ≤ 3) (a1 : 1 ≤ K) (a2 : K ≤ 64) (t1 : 1 ≤ sn) (t2 : sn ≤ 8) (m1 : 2 ≤ M) (m2 : M ≤ 64)
    (hl : RdLA w w.heap.size ⟨some ⟨b, off, none⟩, sn, sc⟩ ls) (hle : ∀ x ∈ ls, x.length ≤ 1000) (hp : RdP w w.heap.size ⟨pA, pn, pc⟩ ps) (hpn : ps.length ≤ 20000) :
    Calls Try.prog 6 #[.agg #[.int .i64 k, .int .i64 K, .int .i64 sn, .int .i64 M], .slice (some ⟨b, off, none⟩) sn sc, .slice pA pn pc] w fun e w' => e = .returned (.bool true) ∧ Below w.heap.size w w' := by
  have hlok : ∀ l ∈ ls, ∀ a ∈ l, Acc.ok a := fun l hl1 a ha => by
    obtain ⟨i, hi, rfl⟩ := List.getElem_of_mem hl1
    obtain ⟨_, _, _, _, hcc⟩ := hl.2.2.2 (by show 0 < sn; omega)
    obtain ⟨sa, _, hsa⟩ := hcc i _ (List.getElem?_eq_getElem hi)
    exact hsa.2.2.2.1 a ha
  have HG := Lib.hid (good_run k K sn M m2 m1 ls hlok (newM_ok _ _ _ _ m2) ps)
  obtain ⟨ns, hns⟩ : ∃ ns, ns = ls.map List.length := ⟨_, rfl⟩
  have HLN : Hid (Drivec.Lens w ⟨some ⟨b, off, none⟩, sn, sc⟩ ns) := Lib.hid (by rw [hns]; exact hl.lens (Nat.le_refl _))
  clear hns
  have HPL : Hid (pn ≤ maxLen) := Lib.hid (Nat.le_trans hp.2.1 hp.2.2.1)
  have HR := Lib.hid hl
  have HLE := Lib.hid hle
  have HP := Lib.hid hp
  have HPN := Lib.hid hpn
  have N8 := Lib.hid (And.intro k1 (And.intro k2 (And.intro a1 (And.intro a2 (And.intro t1 (And.intro t2 (And.intro m1 m2)))))))
  clear hl hle hp hpn hlok k1 k2 a1 a2 m1 m2
  have W0 : Hid (Below w.heap.size w (w.alloc (.cells #[.int .i64 k, .int .i64 K, .int .i64 sn, .int .i64 M] 36))) := Lib.hid ((Below.refl _ _).alloc (Nat.le_refl _) _)
  have C0 : Hid (Blk (w.alloc (.cells #[.int .i64 k, .int .i64 K, .int .i64 sn, .int .i64 M] 36)) w.heap.size 36 #[.int .i64 k, .int .i64 K, .int .i64 sn, .int .i64 M]) := Lib.hid (Blk.new _ _ _)
  have hs2 : (sn : Int) ≤ 9223372036854775807 := by have h1 := HLN.out.2.1; have h2 := HLN.out.2.2.1; simp only at h1 h2; unfold maxLen at h2; omega
  have hp2 : (pn : Int) ≤ 9223372036854775807 := by have h1 := HPL.out; unfold maxLen at h1; omega
  go_enter Try.func6, Try.ntmps6
  go_upto_block 0 with (go_at_call 27; refine (awake3_c _).mono ?_; rintro e w1 ⟨rfl, hb1⟩; go_must (have C1 := Lib.hid (C0.out.below hb1 C0.out.lt); have W1 := Lib.hid (W0.out.trans (hb1.mono W0.out.size))); clear hb1)
  clear C0 W0
  go_cut [7] (fun n wx => (∃ x : Int, n = .int .i64 x ∧ -9223372036854775808 ≤ x ∧ x ≤ 9223372036854775807) ∧ wx = w1)
  case first =>
    go_wp2_with fail
    go_loopw [7, 8] (fun n i wr => ∃ (j : Nat) (x : Int), n = .int .i64 x ∧ i = .int .i64 j ∧ j ≤ sn ∧ -9223372036854775808 ≤ x ∧ x ≤ 9223372036854775807 ∧ wr = w1) (fun _ i _ => sn - (intOf i).toNat)
    case atStart => exact ⟨0, sn, rfl, rfl, Nat.zero_le _, by omega, hs2, rfl⟩
    case round =>
    obtain ⟨j, x, rfl, rfl, hj, x1, x2, rfl⟩ := hrel
    by_cases hlt : j < sn
    · have i1 : (j : Int) < sn := by omega
      by_cases hx4 : x ≤ 400
      · obtain ⟨b', off', hA, hbB, hcc⟩ := HLN.out.2.2.2.2 (by show 0 < sn; exact N8.out.2.2.2.2.1)
        injection hA with hA
        injection hA with hA1 hA2
        subst hA1
        subst hA2
        obtain ⟨n, hn⟩ : ∃ n, ns[j]? = some n := ⟨_, List.getElem?_eq_getElem (by have := HLN.out.1; simp only at this; omega)⟩
        obtain ⟨q, hqn, hq⟩ := hcc j n hn
        have hq1 := (W1.out.cell (p := ⟨_, _, none⟩) hbB).trans hq
        have i0 : (0 : Int) ≤ j := by omega
        clear hcc hq hn hqn
        go_wp2
        go_roundw
        case rel => exact ⟨j + 1, wrap64 (x + q.n), rfl, by go_num, by omega, by unfold wrap64; omega, by unfold wrap64; omega, trivial⟩
        case measure => simp [intOf]; omega
      · go_wp2_with fail
        go_meet
        exact ⟨⟨x, rfl, x1, x2⟩, rfl⟩
    · have i1 : ¬ (j : Int) < sn := by omega
      go_wp2_with fail
      go_meet
      exact ⟨⟨x, rfl, x1, x2⟩, rfl⟩
  case rest =>
  obtain ⟨⟨x, rfl, x1, x2⟩, rfl⟩ := hcut
  go_upto_region 8 with fail
  go_cut [49] (fun n wx => (∃ z : Bool, n = .bool z) ∧ wx = wc)
  case first =>
    rcases (show (400 < x ∧ x ≤ 1000) ∨ (400 < x ∧ 1000 < x) ∨ (x ≤ 400 ∧ x ≤ 1000) by omega) with ⟨y1, y2⟩ | ⟨y1, y2⟩ | ⟨y1, y2⟩
    all_goals
      rcases (show (1000 < (pn : Int) ∧ (pn : Int) ≤ 20000) ∨ (1000 < (pn : Int) ∧ 20000 < (pn : Int)) ∨ ((pn : Int) ≤ 1000 ∧ (pn : Int) ≤ 20000) by omega) with ⟨z1, z2⟩ | ⟨z1, z2⟩ | ⟨z1, z2⟩
      all_goals
        go_wp2_with fail
        go_meet
        exact ⟨⟨_, rfl⟩, rfl⟩
  case rest =>
  obtain ⟨⟨z, rfl⟩, rfl⟩ := hcut
  cases z
  · have hcc := C1.out.cell
    go_upto_region 11 with (go_at_call 28; (with_reducible refine (raw_c _ w.heap.size k K sn M b off sc pA pn pc ls ps N8.out.1 N8.out.2.1 N8.out.2.2.1 N8.out.2.2.2.1 N8.out.2.2.2.2.1 N8.out.2.2.2.2.2.1 N8.out.2.2.2.2.2.2.1 N8.out.2.2.2.2.2.2.2 (HR.out.below W1.out) HLE.out (HP.out.below W1.out) HPN.out W1.out.size).mono ?_); rintro e w2 ⟨r, sS, sK, base, rfl, hS, hK, hE, hF⟩; go_must (have W2 := Lib.hid (W1.out.trans (hF.below W1.out.size)); have C2 := Lib.hid (hF.blk C1.out (by decide)); have S2 := Lib.hid (row_rds hS HG.out.sok); have K2 := Lib.hid (row_rdk hK); have R2 := Lib.hid hE.rm); clear hS hK hE hF hcc)
    have bb : Below w2.heap.size w2 (w2.alloc (.cells #[.slice sS.A sS.n sS.c, .slice sK.A sK.n sK.c, .int .u64 r.e, .int .u64 r.f, .slice r.L.A r.L.n r.L.c, .slice r.P.A r.P.n r.P.c, .int .u64 r.h, .int .u64 r.t, .slice r.K.A r.K.n r.K.c, .slice r.X.A r.X.n r.X.c, .slice r.S.A r.S.n r.S.c] 54)) := (Below.refl _ _).alloc (Nat.le_refl _) _
    have X3 : Hid (Blk (w2.alloc (.cells #[.slice sS.A sS.n sS.c, .slice sK.A sK.n sK.c, .int .u64 r.e, .int .u64 r.f, .slice r.L.A r.L.n r.L.c, .slice r.P.A r.P.n r.P.c, .int .u64 r.h, .int .u64 r.t, .slice r.K.A r.K.n r.K.c, .slice r.X.A r.X.n r.X.c, .slice r.S.A r.S.n r.S.c] 54)) w2.heap.size 54 #[.slice sS.A sS.n sS.c, .slice sK.A sK.n sK.c, .int .u64 r.e, .int .u64 r.f, .slice r.L.A r.L.n r.L.c, .slice r.P.A r.P.n r.P.c, .int .u64 r.h, .int .u64 r.t, .slice r.K.A r.K.n r.K.c, .slice r.X.A r.X.n r.X.c, .slice r.S.A r.S.n r.S.c]) := Lib.hid (Blk.new _ _ _)
    have W3 := Lib.hid (W2.out.alloc W2.out.size (.cells #[.slice sS.A sS.n sS.c, .slice sK.A sK.n sK.c, .int .u64 r.e, .int .u64 r.f, .slice r.L.A r.L.n r.L.c, .slice r.P.A r.P.n r.P.c, .int .u64 r.h, .int .u64 r.t, .slice r.K.A r.K.n r.K.c, .slice r.X.A r.X.n r.X.c, .slice r.S.A r.S.n r.S.c] 54))
    have C3 := Lib.hid (C2.out.alloc (.cells #[.slice sS.A sS.n sS.c, .slice sK.A sK.n sK.c, .int .u64 r.e, .int .u64 r.f, .slice r.L.A r.L.n r.L.c, .slice r.P.A r.P.n r.P.c, .int .u64 r.h, .int .u64 r.t, .slice r.K.A r.K.n r.K.c, .slice r.X.A r.X.n r.X.c, .slice r.S.A r.S.n r.S.c] 54))
    have S3 := Lib.hid ((S2.out.below bb).more bb.size)
    have K3 := Lib.hid ((K2.out.below bb).more bb.size)
    have R3 := Lib.hid ((R2.out.below bb).more bb.size)
    clear W2 C2 S2 K2 R2 bb
    generalize w2.heap.size = gA at X3 ⊢
    generalize w2.alloc (.cells #[.slice sS.A sS.n sS.c, .slice sK.A sK.n sK.c, .int .u64 r.e, .int .u64 r.f, .slice r.L.A r.L.n r.L.c, .slice r.P.A r.P.n r.P.c, .int .u64 r.h, .int .u64 r.t, .slice r.K.A r.K.n r.K.c, .slice r.X.A r.X.n r.X.c, .slice r.S.A r.S.n r.S.c] 54) = V3 at X3 W3 C3 S3 K3 R3 ⊢
    have hcc := C3.out.cell
    go_upto_region 12 with (go_at_call 29; (with_reducible refine (raw3_yes _ k K sn M b off sc pA pn pc ls ps N8.out.1 N8.out.2.1 N8.out.2.2.1 N8.out.2.2.2.1 N8.out.2.2.2.2.1 N8.out.2.2.2.2.2.1 N8.out.2.2.2.2.2.2.1 N8.out.2.2.2.2.2.2.2 ((HR.out.below W3.out).more W3.out.size) HLE.out ((HP.out.below W3.out).more W3.out.size) HPN.out).mono ?_); rintro e w4 ⟨q, qS, qK, rfl, hm, hs, hk, hb⟩; go_must (have W4 := Lib.hid (W3.out.trans (hb.mono W3.out.size)); have X4 := Lib.hid (X3.out.below hb X3.out.lt); have S4 := Lib.hid ((S3.out.below hb).more hb.size); have K4 := Lib.hid ((K3.out.below hb).more hb.size); have R4 := Lib.hid ((R3.out.below hb).more hb.size); have M4 := Lib.hid hm; have QS4 := Lib.hid hs; have QK4 := Lib.hid hk); clear hb hcc hm hs hk)
    have bb : Below w4.heap.size w4 (w4.alloc (.cells #[.slice qS.A qS.n qS.c, .slice qK.A qK.n qK.c, .int .u64 q.e, .int .u64 q.f, .slice q.L.A q.L.n q.L.c, .slice q.P.A q.P.n q.P.c, .int .u64 q.h, .int .u64 q.t, .slice q.K.A q.K.n q.K.c, .slice q.X.A q.X.n q.X.c, .slice q.S.A q.S.n q.S.c] 54)) := (Below.refl _ _).alloc (Nat.le_refl _) _
    have Y5 : Hid (Blk (w4.alloc (.cells #[.slice qS.A qS.n qS.c, .slice qK.A qK.n qK.c, .int .u64 q.e, .int .u64 q.f, .slice q.L.A q.L.n q.L.c, .slice q.P.A q.P.n q.P.c, .int .u64 q.h, .int .u64 q.t, .slice q.K.A q.K.n q.K.c, .slice q.X.A q.X.n q.X.c, .slice q.S.A q.S.n q.S.c] 54)) w4.heap.size 54 #[.slice qS.A qS.n qS.c, .slice qK.A qK.n qK.c, .int .u64 q.e, .int .u64 q.f, .slice q.L.A q.L.n q.L.c, .slice q.P.A q.P.n q.P.c, .int .u64 q.h, .int .u64 q.t, .slice q.K.A q.K.n q.K.c, .slice q.X.A q.X.n q.X.c, .slice q.S.A q.S.n q.S.c]) := Lib.hid (Blk.new _ _ _)
    have X5 := Lib.hid (X4.out.alloc (.cells #[.slice qS.A qS.n qS.c, .slice qK.A qK.n qK.c, .int .u64 q.e, .int .u64 q.f, .slice q.L.A q.L.n q.L.c, .slice q.P.A q.P.n q.P.c, .int .u64 q.h, .int .u64 q.t, .slice q.K.A q.K.n q.K.c, .slice q.X.A q.X.n q.X.c, .slice q.S.A q.S.n q.S.c] 54))
    have W5 := Lib.hid (W4.out.alloc W4.out.size (.cells #[.slice qS.A qS.n qS.c, .slice qK.A qK.n qK.c, .int .u64 q.e, .int .u64 q.f, .slice q.L.A q.L.n q.L.c, .slice q.P.A q.P.n q.P.c, .int .u64 q.h, .int .u64 q.t, .slice q.K.A q.K.n q.K.c, .slice q.X.A q.X.n q.X.c, .slice q.S.A q.S.n q.S.c] 54))
    have S5 := Lib.hid ((S4.out.below bb).more bb.size)
    have K5 := Lib.hid ((K4.out.below bb).more bb.size)
    have R5 := Lib.hid ((R4.out.below bb).more bb.size)
    have M5 := Lib.hid ((M4.out.below bb).more bb.size)
    have QS5 := Lib.hid ((QS4.out.below bb).more bb.size)
    have QK5 := Lib.hid ((QK4.out.below bb).more bb.size)
    clear X4 W4 S4 K4 R4 M4 QS4 QK4 bb
    generalize w4.heap.size = gB at Y5 ⊢
    generalize w4.alloc (.cells #[.slice qS.A qS.n qS.c, .slice qK.A qK.n qK.c, .int .u64 q.e, .int .u64 q.f, .slice q.L.A q.L.n q.L.c, .slice q.P.A q.P.n q.P.c, .int .u64 q.h, .int .u64 q.t, .slice q.K.A q.K.n q.K.c, .slice q.X.A q.X.n q.X.c, .slice q.S.A q.S.n q.S.c] 54) = V5 at Y5 X5 W5 S5 K5 R5 M5 QS5 QK5 ⊢
    have hx5 := X5.out.cell
    have hy5 := Y5.out.cell
    go_wp2_with (go_at_call 30; (with_reducible refine (same3_yes _ r q (runs ⟨newM k K sn M, ls, [], []⟩ ps).m sS sK qS qK (runs ⟨newM k K sn M, ls, [], []⟩ ps).steps ((runs ⟨newM k K sn M, ls, [], []⟩ ps).calls.map Cl.ck) R5.out M5.out S5.out QS5.out K5.out QK5.out).mono ?_); rintro e w6 ⟨rfl, hb⟩; go_must (have W6 := Lib.hid (W5.out.trans (hb.mono W5.out.size))); clear hb)
    go_ret
    exact ⟨rfl, W6.out⟩
  · go_wp2
    go_ret
    exact ⟨rfl, W1.out⟩

end Go.Proofs.Ytjgbgjkjnlaloaa.Machc
