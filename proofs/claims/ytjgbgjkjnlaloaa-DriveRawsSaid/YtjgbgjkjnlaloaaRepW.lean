/- The law that a run's steps are replayed to its words, walked: the picks refused, and the picks taken. -/
import Derived.Test.YtjgbgjkjnlaloaaDrvJ
import Derived.Test.YtjgbgjkjnlaloaaDrvM
import Derived.Test.YtjgbgjkjnlaloaaNoCfg
import Derived.Test.YtjgbgjkjnlaloaaAwakeC
import Derived.Deep.QuietTactic
import Derived.BigQuiet
namespace Go.Proofs.Ytjgbgjkjnlaloaa.Drivec
open Go.RowKit Go.Proofs.Ytjgbgjkjnlaloaa.Memc Go.Proofs.Ytjgbgjkjnlaloaa.Procc Go.Proofs.Ytjgbgjkjnlaloaa.Storec Go.Proofs.Ytjgbgjkjnlaloaa.Newc Go.Proofs.Ytjgbgjkjnlaloaa.Refc Go.Proofs.Ytjgbgjkjnlaloaa.Nocfg
set_option linter.unusedVariables false
set_option maxRecDepth 100000

theorem below_drawn {n : Nat} {w w' : World} (h : Below n w w') (k : Nat) : Below n w (w'.drewN k) := ⟨h.1, h.2, h.3, h.4, h.5⟩
theorem RdLA.lens {w : World} {B : Nat} {s : Sl} {ls : List (List Acc)} (h : RdLA w B s ls) (hB : B ≤ w.heap.size) : Lens w s (ls.map List.length) := by
  have hx : ∀ x ∈ ls, x.length ≤ maxLen := by
    intro x hx
    obtain ⟨i, hi, rfl⟩ := List.getElem_of_mem hx
    obtain ⟨b, off, _, _, hc⟩ := h.2.2.2 (by rw [h.1]; omega)
    obtain ⟨sa, _, h2⟩ := hc i _ (List.getElem?_eq_getElem hi)
    have h3 := h2.1
    have h4 := h2.2.1
    have h5 := h2.2.2.1
    omega
  refine ⟨by rw [List.length_map]; exact h.1, h.2.1, h.2.2.1, (fun x hx' => by obtain ⟨y, hy, rfl⟩ := List.mem_map.1 hx'; exact hx y hy), fun hn => ?_⟩
  obtain ⟨b, off, e, hlt, hc⟩ := h.2.2.2 hn
  refine ⟨b, off, e, Nat.lt_of_lt_of_le hlt hB, fun i n hi => ?_⟩
  rw [List.getElem?_map] at hi
  rcases hx : ls[i]? with _ | y
  · rw [hx] at hi; cases hi
  · rw [hx] at hi
    injection hi with hi
    obtain ⟨sa, h1, h2⟩ := hc i y hx
    exact ⟨sa, h2.1.trans hi, h1⟩
theorem replayed_c (w : World) (k : Int) (K T M : Nat) (s : Sl) (l : List St) (m : Memc.M) (k1 : 1 ≤ k) (k2 : k ≤ 3) (a1 : 1 ≤ K) (a2 : K ≤ 64) (t1 : 1 ≤ T) (t2 : T ≤ 8) (m1 : 2 ≤ M) (m2 : M ≤ 64) (hl : RdS w w.heap.size s l) (h : replay (newM k K T M) l = some m) :
    Calls Try.prog 24 #[.agg #[.int .i64 k, .int .i64 K, .int .i64 T, .int .i64 M], .slice s.A s.n s.c] w fun e w' => ∃ r : R, e = .returned (.tuple #[.agg #[.int .u64 r.e, .int .u64 r.f, .slice r.L.A r.L.n r.L.c, .slice r.P.A r.P.n r.P.c, .int .u64 r.h, .int .u64 r.t, .slice r.K.A r.K.n r.K.c, .slice r.X.A r.X.n r.X.c, .slice r.S.A r.S.n r.S.c], .bool true]) ∧ Rm w' w'.heap.size r m ∧ Below w.heap.size w w' :=
  (refreplay_c w k K T M s l k1 k2 a1 a2 t1 t2 m1 m2 hl).mono fun e w' ⟨hh, hb⟩ => by
    rcases hh with ⟨m', r, hm, he, hr, _⟩ | ⟨hm, he⟩
    · rw [h] at hm
      injection hm with hm
      subst hm
      exact ⟨r, he, hr, hb⟩
    · rw [h] at hm; cases hm

set_option maxHeartbeats 4000000 in
theorem walk_no (w : World) (k K T M : Int) (sA : Option Addr) (sn sc : Nat) (pA : Option Addr) (pn pc : Nat) (ns : List Nat) (h : Lens w ⟨sA, sn, sc⟩ ns) (hps : pn ≤ maxLen)
    (hno : ¬ ((Cfg.mk k K T M).may ∧ (sn : Int) = T ∧ ns.any (fun x => decide (1000 < x)) = false ∧ pn ≤ 20000)) :
    Calls Try.prog 7 #[.agg #[.int .i64 k, .int .i64 K, .int .i64 T, .int .i64 M], .slice sA sn sc, .slice pA pn pc] w fun e w' => e = .returned (.bool true) ∧ Below w.heap.size w w' := by
  have HL := Lib.hid h
  have HPL := Lib.hid hps
  have HN := Lib.hid hno
  clear h hps hno
  have W0 : Hid (Below w.heap.size w (w.alloc (.cells #[.int .i64 k, .int .i64 K, .int .i64 T, .int .i64 M] 36))) := Lib.hid ((Below.refl _ _).alloc (Nat.le_refl _) _)
  have C0 : Hid (Blk (w.alloc (.cells #[.int .i64 k, .int .i64 K, .int .i64 T, .int .i64 M] 36)) w.heap.size 36 #[.int .i64 k, .int .i64 K, .int .i64 T, .int .i64 M]) := Lib.hid (Blk.new _ _ _)
  have hs2 : (sn : Int) ≤ 9223372036854775807 := by have h1 := HL.out.2.1; have h2 := HL.out.2.2.1; simp only at h1 h2; unfold maxLen at h2; omega
  have hp2 : (pn : Int) ≤ 9223372036854775807 := by have h1 := HPL.out; unfold maxLen at h1; omega
  go_enter Try.func7, Try.ntmps7
  go_wp2_with (go_at_call 27; refine (awake3_c _).mono ?_; rintro e w1 ⟨rfl, hb1⟩; go_must (have C1 := Lib.hid (C0.out.below hb1 C0.out.lt); have W1 := Lib.hid (W0.out.trans (hb1.mono W0.out.size))); clear hb1)
  clear C0 W0
  go_loopw [7, 8] (fun n i wr => ∃ (j : Nat) (x : Int), n = .int .i64 x ∧ i = .int .i64 j ∧ j ≤ sn ∧ -9223372036854775808 ≤ x ∧ x ≤ 9223372036854775807 ∧ wr = w1) (fun _ i _ => sn - (intOf i).toNat)
  case atStart => exact ⟨0, sn, rfl, rfl, Nat.zero_le _, by omega, hs2, rfl⟩
  case round =>
  obtain ⟨j, x, rfl, rfl, hj, x1, x2, rfl⟩ := hrel
  by_cases hgo : j < sn ∧ x ≤ 400
  · obtain ⟨hlt, hx4⟩ := hgo
    obtain ⟨b, off, hA, hbB, hcc⟩ := HL.out.2.2.2.2 (by show 0 < sn; omega)
    simp only at hA; subst hA
    obtain ⟨n, hn⟩ : ∃ n, ns[j]? = some n := ⟨_, List.getElem?_eq_getElem (by have := HL.out.1; simp only at this; omega)⟩
    obtain ⟨q, hqn, hq⟩ := hcc j n hn
    have hq1 := (W1.out.cell (p := ⟨b, off + j, none⟩) hbB).trans hq
    have i0 : (0 : Int) ≤ j := by omega
    have i1 : (j : Int) < sn := by omega
    clear hcc hq hn hqn
    go_wp2
    go_roundw
    case rel => exact ⟨j + 1, wrap64 (x + q.n), rfl, by go_num, by omega, by unfold wrap64; omega, by unfold wrap64; omega, trivial⟩
    case measure => simp [intOf]; omega
  · by_cases hx4 : 400 < x
    · by_cases hlt : j < sn
      · have i1 : (j : Int) < sn := by omega
        go_wp2
        go_ret
        exact ⟨rfl, W1.out⟩
      · have i1 : ¬ (j : Int) < sn := by omega
        go_wp2
        go_ret
        exact ⟨rfl, W1.out⟩
    · have hlt : ¬ (j : Int) < sn := by omega
      have hx5 : x ≤ 400 := by omega
      clear hgo hx4
      by_cases hpk : 1000 < pn
      · have i2 : 1000 < (pn : Int) := by omega
        go_wp2
        go_ret
        exact ⟨rfl, W1.out⟩
      · have i2 : ¬ 1000 < (pn : Int) := by omega
        have hcc := C1.out.cell
        go_wp2_with (go_at_call 28; refine (raw_no _ k K T M ⟨sA, sn, sc⟩ ⟨pA, pn, pc⟩ ns (HL.out.below W1.out) HPL.out HN.out).mono ?_; rintro e w2 ⟨rfl, hb⟩; go_must (have W2 := Lib.hid (W1.out.trans (hb.mono W1.out.size))); clear hb)
        go_ret
        exact ⟨rfl, W2.out.alloc W2.out.size _⟩

set_option maxHeartbeats 8000000 in
theorem walk_yes (w : World) (k : Int) (K M : Nat) (b off : Nat) (sn sc : Nat) (pA : Option Addr) (pn pc : Nat) (ls : List (List Acc)) (ps : List (Int × Int))
    (k1 : 1 ≤ k) (k2 : k ≤ 3) (a1 : 1 ≤ K) (a2 : K ≤ 64) (t1 : 1 ≤ sn) (t2 : sn ≤ 8) (m1 : 2 ≤ M) (m2 : M ≤ 64)
    (hl : RdLA w w.heap.size ⟨some ⟨b, off, none⟩, sn, sc⟩ ls) (hle : ∀ x ∈ ls, x.length ≤ 1000) (hp : RdP w w.heap.size ⟨pA, pn, pc⟩ ps) (hpn : ps.length ≤ 20000) :
    Calls Try.prog 7 #[.agg #[.int .i64 k, .int .i64 K, .int .i64 sn, .int .i64 M], .slice (some ⟨b, off, none⟩) sn sc, .slice pA pn pc] w fun e w' => e = .returned (.bool true) ∧ Below w.heap.size w w' := by
  have hlok : ∀ l ∈ ls, ∀ a ∈ l, Acc.ok a := by
    intro l hl' a ha
    obtain ⟨i, hi, rfl⟩ := List.getElem_of_mem hl'
    obtain ⟨_, _, _, _, hc⟩ := hl.2.2.2 (by rw [hl.1]; omega)
    obtain ⟨sa, _, h2⟩ := hc i _ (List.getElem?_eq_getElem hi)
    exact h2.2.2.2.1 a ha
  have HG := Lib.hid (good_run k K sn M m2 m1 ls hlok (newM_ok _ _ _ _ m2) ps)
  have HST := Lib.hid (runs_steps ⟨newM k K sn M, ls, [], []⟩ ps)
  obtain ⟨ns, hns⟩ : ∃ ns, ns = ls.map List.length := ⟨_, rfl⟩
  have HL : Hid (Lens w ⟨some ⟨b, off, none⟩, sn, sc⟩ ns) := Lib.hid (by rw [hns]; exact hl.lens (Nat.le_refl _))
  clear hns
  have HPL : Hid (pn ≤ maxLen) := Lib.hid (Nat.le_trans hp.2.1 hp.2.2.1)
  have HR := Lib.hid hl
  have HLE := Lib.hid hle
  have HP := Lib.hid hp
  have HPN := Lib.hid hpn
  clear hl hle hp hpn hlok
  have W0 : Hid (Below w.heap.size w (w.alloc (.cells #[.int .i64 k, .int .i64 K, .int .i64 sn, .int .i64 M] 36))) := Lib.hid ((Below.refl _ _).alloc (Nat.le_refl _) _)
  have C0 : Hid (Blk (w.alloc (.cells #[.int .i64 k, .int .i64 K, .int .i64 sn, .int .i64 M] 36)) w.heap.size 36 #[.int .i64 k, .int .i64 K, .int .i64 sn, .int .i64 M]) := Lib.hid (Blk.new _ _ _)
  have hs2 : (sn : Int) ≤ 9223372036854775807 := by have h1 := HL.out.2.1; have h2 := HL.out.2.2.1; simp only at h1 h2; unfold maxLen at h2; omega
  have hp2 : (pn : Int) ≤ 9223372036854775807 := by have h1 := HPL.out; unfold maxLen at h1; omega
  go_enter Try.func7, Try.ntmps7
  go_wp2_with (go_at_call 27; refine (awake3_c _).mono ?_; rintro e w1 ⟨rfl, hb1⟩; go_must (have C1 := Lib.hid (C0.out.below hb1 C0.out.lt); have W1 := Lib.hid (W0.out.trans (hb1.mono W0.out.size))); clear hb1)
  clear C0 W0
  go_loopw [7, 8] (fun n i wr => ∃ (j : Nat) (x : Int), n = .int .i64 x ∧ i = .int .i64 j ∧ j ≤ sn ∧ -9223372036854775808 ≤ x ∧ x ≤ 9223372036854775807 ∧ wr = w1) (fun _ i _ => sn - (intOf i).toNat)
  case atStart => exact ⟨0, sn, rfl, rfl, Nat.zero_le _, by omega, hs2, rfl⟩
  case round =>
  obtain ⟨j, x, rfl, rfl, hj, x1, x2, rfl⟩ := hrel
  by_cases hgo : j < sn ∧ x ≤ 400
  · obtain ⟨hlt, hx4⟩ := hgo
    obtain ⟨b_, off_, hA, hbB, hcc⟩ := HL.out.2.2.2.2 (by show 0 < sn; omega)
    injection hA with hA; injection hA with hA1 hA2; subst hA1 hA2
    obtain ⟨n, hn⟩ : ∃ n, ns[j]? = some n := ⟨_, List.getElem?_eq_getElem (by have := HL.out.1; simp only at this; omega)⟩
    obtain ⟨q, hqn, hq⟩ := hcc j n hn
    have hq1 := (W1.out.cell (p := ⟨b, off + j, none⟩) hbB).trans hq
    have i0 : (0 : Int) ≤ j := by omega
    have i1 : (j : Int) < sn := by omega
    clear hcc hq hn hqn
    go_wp2
    go_roundw
    case rel => exact ⟨j + 1, wrap64 (x + q.n), rfl, by go_num, by omega, by unfold wrap64; omega, by unfold wrap64; omega, trivial⟩
    case measure => simp [intOf]; omega
  · by_cases hx4 : 400 < x
    · by_cases hlt : j < sn
      · have i1 : (j : Int) < sn := by omega
        go_wp2
        go_ret
        exact ⟨rfl, W1.out⟩
      · have i1 : ¬ (j : Int) < sn := by omega
        go_wp2
        go_ret
        exact ⟨rfl, W1.out⟩
    · have hlt : ¬ (j : Int) < sn := by omega
      have hx5 : x ≤ 400 := by omega
      clear hgo hx4
      by_cases hpk : 1000 < pn
      · have i2 : 1000 < (pn : Int) := by omega
        go_wp2
        go_ret
        exact ⟨rfl, W1.out⟩
      · have i2 : ¬ 1000 < (pn : Int) := by omega
        have hcc := C1.out.cell
        have hcl := C1.out.lt
        go_wp2_with (first
          | (go_at_call 28; go_must (refine (raw_c _ w.heap.size k K sn M b off sc pA pn pc ls ps k1 k2 a1 a2 t1 t2 m1 m2 (HR.out.below W1.out) HLE.out (HP.out.below W1.out) HPN.out W1.out.size).mono ?_); rintro e w2 ⟨r, ⟨sSA, sSn, sSc⟩, ⟨sKA, sKn, sKc⟩, base, rfl, hS, hK, hE, hF⟩; go_must (have en : sSn = sKn := (by have h1 := hS.n_.1; have h2 := hK.n_.1; have h3 := HG.out.len; simp only at h1 h2; omega); subst en; have hbb : Below w2.heap.size w2 (w2.alloc (.cells #[.slice sSA sSn sSc, .slice sKA sSn sKc, .int .u64 r.e, .int .u64 r.f, .slice r.L.A r.L.n r.L.c, .slice r.P.A r.P.n r.P.c, .int .u64 r.h, .int .u64 r.t, .slice r.K.A r.K.n r.K.c, .slice r.X.A r.X.n r.X.c, .slice r.S.A r.S.n r.S.c] 54)) := (Below.refl _ _).alloc (Nat.le_refl _) _; have C2 := Lib.hid (hF.blk C1.out (by decide)); have S2 := Lib.hid hS; have K2 := Lib.hid hK; have R2 := Lib.hid hE.rm; have W2 := Lib.hid (W1.out.trans (hF.below W1.out.size)); have C3 := Lib.hid (C2.out.below hbb C2.out.lt); have S3 := Lib.hid (S2.out.below hbb (Nat.le_refl _)); have K3 := Lib.hid (K2.out.below hbb (Nat.le_refl _)); have R3 : Hid (Rm (w2.alloc (.cells #[.slice sSA sSn sSc, .slice sKA sSn sKc, .int .u64 r.e, .int .u64 r.f, .slice r.L.A r.L.n r.L.c, .slice r.P.A r.P.n r.P.c, .int .u64 r.h, .int .u64 r.t, .slice r.K.A r.K.n r.K.c, .slice r.X.A r.X.n r.X.c, .slice r.S.A r.S.n r.S.c] 54)) (w2.alloc (.cells #[.slice sSA sSn sSc, .slice sKA sSn sKc, .int .u64 r.e, .int .u64 r.f, .slice r.L.A r.L.n r.L.c, .slice r.P.A r.P.n r.P.c, .int .u64 r.h, .int .u64 r.t, .slice r.K.A r.K.n r.K.c, .slice r.X.A r.X.n r.X.c, .slice r.S.A r.S.n r.S.c] 54)).heap.size r (runs ⟨newM k K sn M, ls, [], []⟩ ps).m) := Lib.hid ((R2.out.below hbb).more hbb.size); have W3 := Lib.hid (W2.out.trans (hbb.mono W2.out.size)); have X3 : Hid (Blk (w2.alloc (.cells #[.slice sSA sSn sSc, .slice sKA sSn sKc, .int .u64 r.e, .int .u64 r.f, .slice r.L.A r.L.n r.L.c, .slice r.P.A r.P.n r.P.c, .int .u64 r.h, .int .u64 r.t, .slice r.K.A r.K.n r.K.c, .slice r.X.A r.X.n r.X.c, .slice r.S.A r.S.n r.S.c] 54)) w2.heap.size 54 #[.slice sSA sSn sSc, .slice sKA sSn sKc, .int .u64 r.e, .int .u64 r.f, .slice r.L.A r.L.n r.L.c, .slice r.P.A r.P.n r.P.c, .int .u64 r.h, .int .u64 r.t, .slice r.K.A r.K.n r.K.c, .slice r.X.A r.X.n r.X.c, .slice r.S.A r.S.n r.S.c]) := Lib.hid (Blk.new _ _ _); have HSN : Hid (sSn = (runs ⟨newM k K sn M, ls, [], []⟩ ps).steps.length) := Lib.hid hS.n_.1; have hsp : ¬ (pn : Int) < sSn := (by have h1 := HSN.out; have h2 := HST.out; have h3 := HP.out.1; simp only [List.length_nil] at h1 h2 h3; omega); have hs20 : sSn ≤ 20000 := (by have h1 := HSN.out; have h2 := HST.out; have h3 := HPN.out; simp only [List.length_nil] at h1 h2; omega)); have hc2 := C2.out.cell; have hl2 := C2.out.lt; clear hS hK hE hF hbb hcc)
          | (go_at_call 24; go_must (refine (replayed_c _ k K sn M ⟨sSA, sSn, sSc⟩ (runs ⟨newM k K sn M, ls, [], []⟩ ps).steps (runs ⟨newM k K sn M, ls, [], []⟩ ps).m k1 k2 a1 a2 t1 t2 m1 m2 (row_rds S3.out HG.out.sok) HG.out.rep).mono ?_); rintro e w3 ⟨r9, rfl, hr9, hb⟩; go_must (have hbb : Below (w2.alloc (.cells #[.slice sSA sSn sSc, .slice sKA sSn sKc, .int .u64 r.e, .int .u64 r.f, .slice r.L.A r.L.n r.L.c, .slice r.P.A r.P.n r.P.c, .int .u64 r.h, .int .u64 r.t, .slice r.K.A r.K.n r.K.c, .slice r.X.A r.X.n r.X.c, .slice r.S.A r.S.n r.S.c] 54)).heap.size (w2.alloc (.cells #[.slice sSA sSn sSc, .slice sKA sSn sKc, .int .u64 r.e, .int .u64 r.f, .slice r.L.A r.L.n r.L.c, .slice r.P.A r.P.n r.P.c, .int .u64 r.h, .int .u64 r.t, .slice r.K.A r.K.n r.K.c, .slice r.X.A r.X.n r.X.c, .slice r.S.A r.S.n r.S.c] 54)) (w3.alloc (.cells #[.int .u64 r9.e, .int .u64 r9.f, .slice r9.L.A r9.L.n r9.L.c, .slice r9.P.A r9.P.n r9.P.c, .int .u64 r9.h, .int .u64 r9.t, .slice r9.K.A r9.K.n r9.K.c, .slice r9.X.A r9.X.n r9.X.c, .slice r9.S.A r9.S.n r9.S.c] 25)) := hb.alloc hb.size (.cells #[.int .u64 r9.e, .int .u64 r9.f, .slice r9.L.A r9.L.n r9.L.c, .slice r9.P.A r9.P.n r9.P.c, .int .u64 r9.h, .int .u64 r9.t, .slice r9.K.A r9.K.n r9.K.c, .slice r9.X.A r9.X.n r9.X.c, .slice r9.S.A r9.S.n r9.S.c] 25); have C4 := Lib.hid (C3.out.below hbb C3.out.lt); have S4 := Lib.hid (S3.out.below hbb (Nat.le_refl _)); have K4 := Lib.hid (K3.out.below hbb (Nat.le_refl _)); have R4 : Hid (Rm (w3.alloc (.cells #[.int .u64 r9.e, .int .u64 r9.f, .slice r9.L.A r9.L.n r9.L.c, .slice r9.P.A r9.P.n r9.P.c, .int .u64 r9.h, .int .u64 r9.t, .slice r9.K.A r9.K.n r9.K.c, .slice r9.X.A r9.X.n r9.X.c, .slice r9.S.A r9.S.n r9.S.c] 25)) (w3.alloc (.cells #[.int .u64 r9.e, .int .u64 r9.f, .slice r9.L.A r9.L.n r9.L.c, .slice r9.P.A r9.P.n r9.P.c, .int .u64 r9.h, .int .u64 r9.t, .slice r9.K.A r9.K.n r9.K.c, .slice r9.X.A r9.X.n r9.X.c, .slice r9.S.A r9.S.n r9.S.c] 25)).heap.size r (runs ⟨newM k K sn M, ls, [], []⟩ ps).m) := Lib.hid ((R3.out.below hbb).more hbb.size); have W4 := Lib.hid (W3.out.trans (hbb.mono W3.out.size)); have X4 := Lib.hid (X3.out.below hbb X3.out.lt); have Q4 : Hid (Rm (w3.alloc (.cells #[.int .u64 r9.e, .int .u64 r9.f, .slice r9.L.A r9.L.n r9.L.c, .slice r9.P.A r9.P.n r9.P.c, .int .u64 r9.h, .int .u64 r9.t, .slice r9.K.A r9.K.n r9.K.c, .slice r9.X.A r9.X.n r9.X.c, .slice r9.S.A r9.S.n r9.S.c] 25)) (w3.alloc (.cells #[.int .u64 r9.e, .int .u64 r9.f, .slice r9.L.A r9.L.n r9.L.c, .slice r9.P.A r9.P.n r9.P.c, .int .u64 r9.h, .int .u64 r9.t, .slice r9.K.A r9.K.n r9.K.c, .slice r9.X.A r9.X.n r9.X.c, .slice r9.S.A r9.S.n r9.S.c] 25)).heap.size r9 (runs ⟨newM k K sn M, ls, [], []⟩ ps).m) := Lib.hid ((hr9.alloc (Nat.le_refl _) (.cells #[.int .u64 r9.e, .int .u64 r9.f, .slice r9.L.A r9.L.n r9.L.c, .slice r9.P.A r9.P.n r9.P.c, .int .u64 r9.h, .int .u64 r9.t, .slice r9.K.A r9.K.n r9.K.c, .slice r9.X.A r9.X.n r9.X.c, .slice r9.S.A r9.S.n r9.S.c] 25)).more (by simp)); have Y4 : Hid (Blk (w3.alloc (.cells #[.int .u64 r9.e, .int .u64 r9.f, .slice r9.L.A r9.L.n r9.L.c, .slice r9.P.A r9.P.n r9.P.c, .int .u64 r9.h, .int .u64 r9.t, .slice r9.K.A r9.K.n r9.K.c, .slice r9.X.A r9.X.n r9.X.c, .slice r9.S.A r9.S.n r9.S.c] 25)) w3.heap.size 25 #[.int .u64 r9.e, .int .u64 r9.f, .slice r9.L.A r9.L.n r9.L.c, .slice r9.P.A r9.P.n r9.P.c, .int .u64 r9.h, .int .u64 r9.t, .slice r9.K.A r9.K.n r9.K.c, .slice r9.X.A r9.X.n r9.X.c, .slice r9.S.A r9.S.n r9.S.c]) := Lib.hid (Blk.new _ _ _)); have hx4 := (X3.out.below hb X3.out.lt).cell; have hxl := (X3.out.below hb X3.out.lt).lt; clear hr9 hb hbb hc2)
          | (go_at_call 19; go_must (refine (same_yes _ _ _ r9 r (runs ⟨newM k K sn M, ls, [], []⟩ ps).m Q4.out (Nat.le_refl _) R4.out (Nat.le_refl _)).mono ?_); rintro e w5 ⟨rfl, hbb⟩; go_must (have C5 := Lib.hid (C4.out.below hbb C4.out.lt); have S5 := Lib.hid (S4.out.below hbb (Nat.le_refl _)); have K5 := Lib.hid (K4.out.below hbb (Nat.le_refl _)); have R5 : Hid (Rm w5 w5.heap.size r (runs ⟨newM k K sn M, ls, [], []⟩ ps).m) := Lib.hid ((R4.out.below hbb).more hbb.size); have W5 := Lib.hid (W4.out.trans (hbb.mono W4.out.size)); have X5 := Lib.hid (X4.out.below hbb X4.out.lt)); have hx5 := X5.out.cell; clear hbb hx4 hxl))
        have XW : Hid (Below w.heap.size w w5) := W5
        obtain ⟨sts, hsts⟩ : ∃ l, l = (runs ⟨newM k K sn M, ls, [], []⟩ ps).steps := ⟨_, rfl⟩
        obtain ⟨cls, hcls⟩ : ∃ l, l = (runs ⟨newM k K sn M, ls, [], []⟩ ps).calls := ⟨_, rfl⟩
        have HC : Hid (∀ (i : Nat) (x : St), sts[i]? = some x → ∃ z, cls[i]? = some ⟨x.th, i, z⟩) := Lib.hid (by rw [hsts, hcls]; exact HG.out.call)
        have HSB : Hid ((sts.map St.th).Sublist (ps.map Prod.fst)) := Lib.hid (by rw [hsts]; exact HG.out.sub)
        have HLN : Hid (sts.length = sSn) := Lib.hid (by rw [hsts]; exact HSN.out.symm)
        have HCL : Hid (cls.length = sSn) := Lib.hid (by rw [hcls]; exact HG.out.len.trans HSN.out.symm)
        have S6 : Hid (Row w5 base 65 8 ⟨sSA, sSn, sSc⟩ sts.length (flatS sts)) := Lib.hid (by rw [hsts]; exact S5.out)
        have K6 : Hid (Row w5 base 67 7 ⟨sKA, sSn, sKc⟩ cls.length (flatC cls)) := Lib.hid (by rw [hcls]; exact K5.out)
        have HPQ : Hid (pn = ps.length) := Lib.hid HP.out.1
        clear hsts hcls
        obtain ⟨gX, hgX⟩ : ∃ g, w2.heap.size = g := ⟨_, rfl⟩
        clear hx5
        have hx5 := X5.out.cell
        have hsq : ¬ pn < sSn := by omega
        simp only [hgX, hsq, decide_false] at hx5 ⊢
        clear hsp hsq
        go_loopw [13, 14] (fun kk i wr => ∃ (e m : Nat), kk = .int .i64 e ∧ i = .int .i64 m ∧ m ≤ sSn ∧ e ≤ pn ∧ ((sts.drop m).map St.th).Sublist ((ps.drop e).map Prod.fst) ∧ Below w5.heap.size w5 wr) (fun _ i _ => sSn - (intOf i).toNat)
        case atStart => exact ⟨0, 0, rfl, rfl, Nat.zero_le _, Nat.zero_le _, HSB.out, Below.refl _ _⟩
        case round =>
        obtain ⟨e, m, rfl, rfl, hm, he, hsub, hb6⟩ := hrel
        have hxr : ∀ i, wr.cell? ⟨gX, i, none⟩ = (#[.slice sSA sSn sSc, .slice sKA sSn sKc, .int .u64 r.e, .int .u64 r.f, .slice r.L.A r.L.n r.L.c, .slice r.P.A r.P.n r.P.c, .int .u64 r.h, .int .u64 r.t, .slice r.K.A r.K.n r.K.c, .slice r.X.A r.X.n r.X.c, .slice r.S.A r.S.n r.S.c] : Array Value)[i]? := fun i => (hb6.cell (p := ⟨gX, i, none⟩) (by rw [← hgX]; exact X5.out.lt)).trans (hx5 i)
        have B6 := Lib.hid hb6
        clear hb6
        by_cases hlt : m < sSn
        · obtain ⟨y, hy⟩ : ∃ y, sts[m]? = some y := ⟨_, List.getElem?_eq_getElem (by have := HLN.out; omega)⟩
          obtain ⟨z, hz⟩ := HC.out m y hy
          have hdr : sts.drop m = y :: sts.drop (m + 1) := by
            have hm' : m < sts.length := by have := HLN.out; omega
            rw [List.drop_eq_getElem_cons hm']
            rw [List.getElem?_eq_getElem hm'] at hy
            rw [Option.some.inj hy]
          rw [hdr, List.map_cons] at hsub
          clear hdr
          have hpn0 : 0 < pn := by
            rcases Nat.eq_zero_or_pos pn with h0 | h0
            · exfalso
              have hl : ps.length = 0 := by have := HPQ.out; omega
              rw [List.length_eq_zero_iff.1 hl, List.drop_nil] at hsub
              exact sub_none hsub
            · exact h0
          obtain ⟨gS, hgS, _, hgSl, hcS, _⟩ := S6.out.at_ (by have := HLN.out; omega)
          obtain ⟨gK, hgK, _, hgKl, hcK, _⟩ := K6.out.at_ (by have := HCL.out; omega)
          obtain ⟨b1, off1, hpA, hbp, hcp⟩ := HP.out.2.2.2.2 (by exact hpn0)
          simp only at hgS hgK hpA
          subst hgS hgK hpA
          have hs0 := (hcS (m * 8) (by have := HLN.out; omega)).trans (flatS_get sts m y 0 _ hy rfl)
          have hk0 := (hcK (m * 7) (by have := HCL.out; omega)).trans (flatC_get cls m _ 0 _ hz rfl)
          have hk3 := (hcK (m * 7 + 3) (by have := HCL.out; omega)).trans (flatC_get cls m _ 3 _ hz rfl)
          have hk4 := (hcK (m * 7 + 4) (by have := HCL.out; omega)).trans (flatC_get cls m _ 4 _ hz rfl)
          have HX := Lib.hid (And.intro hs0 (And.intro hk0 (And.intro hk3 hk4)))
          have HLT := Lib.hid (And.intro hgSl hgKl)
          have HPC : Hid (∀ (i : Nat) (x : Int × Int), ps[i]? = some x → w5.cell? ⟨b1, off1 + i * 2, none⟩ = some (.int .i64 x.1)) := Lib.hid (fun i x hx => (W5.out.cell (p := ⟨b1, off1 + i * 2, none⟩) hbp).trans (hcp i x hx).1)
          have HBP : Hid (b1 < w5.heap.size) := Lib.hid (Nat.lt_of_lt_of_le hbp W5.out.size)
          have i0m : (0 : Int) ≤ m := by omega
          have i1m : (m : Int) < sSn := by omega
          clear hcS hcK hcp hs0 hk0 hk3 hk4 hy hz hgSl hgKl hbp hx5
          go_wp2
          clear hxr
          go_loopw [13] (fun kk wv => ∃ e' : Nat, kk = .int .i64 e' ∧ e' ≤ pn ∧ (y.th :: (sts.drop (m + 1)).map St.th).Sublist ((ps.drop e').map Prod.fst) ∧ Below w5.heap.size w5 wv) (fun kk _ => pn - (intOf kk).toNat)
          case atStart => exact ⟨e, rfl, he, hsub, B6.out⟩
          case round =>
          obtain ⟨f, rfl, hf, hsuf, hb7⟩ := hrel
          have hlf : f < pn := by
            rcases Nat.lt_or_ge f pn with h0 | h0
            · exact h0
            · exfalso
              rw [List.drop_eq_nil_of_le (show ps.length ≤ f by have := HPQ.out; omega)] at hsuf
              exact sub_none hsuf
          obtain ⟨p, hp⟩ : ∃ p, ps[f]? = some p := ⟨_, List.getElem?_eq_getElem (by have := HPQ.out; omega)⟩
          have hdp : ps.drop f = p :: ps.drop (f + 1) := by
            have hm' : f < ps.length := by have := HPQ.out; omega
            rw [List.drop_eq_getElem_cons hm']
            rw [List.getElem?_eq_getElem hm'] at hp
            rw [Option.some.inj hp]
          rw [hdp, List.map_cons] at hsuf
          have hx7 : ∀ i, wr.cell? ⟨gX, i, none⟩ = (#[.slice (some ⟨gS, 0, none⟩) sSn sSc, .slice (some ⟨gK, 0, none⟩) sSn sKc, .int .u64 r.e, .int .u64 r.f, .slice r.L.A r.L.n r.L.c, .slice r.P.A r.P.n r.P.c, .int .u64 r.h, .int .u64 r.t, .slice r.K.A r.K.n r.K.c, .slice r.X.A r.X.n r.X.c, .slice r.S.A r.S.n r.S.c] : Array Value)[i]? := fun i => (hb7.cell (p := ⟨gX, i, none⟩) (by rw [← hgX]; exact X5.out.lt)).trans (by rw [← hgX]; exact X5.out.cell i)
          have hp0 := (hb7.cell (p := ⟨b1, off1 + f * 2, none⟩) HBP.out).trans (HPC.out f p hp)
          have hs0 := (hb7.cell (p := ⟨gS, m * 8, none⟩) HLT.out.1).trans HX.out.1
          have hk0 := (hb7.cell (p := ⟨gK, m * 7, none⟩) HLT.out.2).trans HX.out.2.1
          have hk3 := (hb7.cell (p := ⟨gK, m * 7 + 3, none⟩) HLT.out.2).trans HX.out.2.2.1
          have hk4 := (hb7.cell (p := ⟨gK, m * 7 + 4, none⟩) HLT.out.2).trans HX.out.2.2.2
          have B7 := Lib.hid hb7
          have HSF := Lib.hid hsuf
          have f0 : (0 : Int) ≤ f := by omega
          have f1 : (f : Int) < pn := by omega
          clear hb7 hsuf hdp hp
          by_cases hth : p.1 = y.th
          · rw [hth] at hp0
            have hd2 : ((f : Int) == pn) = false := beq_false_of_ne (by omega)
            go_wp2
            go_quiet (fail)
            go_wp2
            go_quiet (fail)
            go_wp2
            go_roundw
            case rel => first | exact ⟨f + 1, m + 1, by go_num, by go_num, by omega, by omega, sub_take (by have h := HSF.out; rw [hth] at h; exact h), below_drawn B7.out _⟩ | exact ⟨_, .int .i64 ((f : Int) + 1), .int .i64 ((m : Int) + 1), _, _, _, _, _, _, _, _, _, _, _, _, _, _, _, _, _, _, _, _, _, _, _, _, _, _, _, _, _, _, _, _, _, _, _, _, _, _, _, _, _, _, _, _, _, _, _, _, _, _, _, _, _, _, _, _, _, _, _, _, _, _, _, _, _, _, _, _, ⟨f + 1, m + 1, by go_num, by go_num, by omega, by omega, sub_take (by have h := HSF.out; rw [hth] at h; exact h), below_drawn B7.out _⟩, rfl⟩
            case measure => simp [intOf]; omega
          · have hne : decide (p.1 = y.th) = false := by simpa using hth
            go_wp2
            go_quiet (fail)
            go_wp2
            go_roundw
            case rel => exact ⟨f + 1, by go_num, by omega, sub_skip HSF.out hth, below_drawn B7.out _⟩
            case measure => simp [intOf]; omega
        · have j0 : ¬ (m : Int) < sSn := by omega
          go_wp2
          go_ret
          exact ⟨rfl, W5.out.trans (B6.out.mono W5.out.size)⟩

end Go.Proofs.Ytjgbgjkjnlaloaa.Drivec
