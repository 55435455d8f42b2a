/- The law that the trace of the first picks is the beginning of the trace of all, walked: the run may be. -/
import Derived.Test.YtjjndniphnfcgaaPartW
import Derived.Test.YtjjndniphnfcgaaTwo
import Derived.Deep.DeepCutAuto
namespace Go.Proofs.Ytjjndniphnfcgaa.Drivec
open Go.RowKit Go.Proofs.Ytjjndniphnfcgaa.Memc Go.Proofs.Ytjjndniphnfcgaa.Procc Go.Proofs.Ytjjndniphnfcgaa.Storec Go.Proofs.Ytjjndniphnfcgaa.Newc Go.Proofs.Ytjjndniphnfcgaa.Refc Go.Proofs.Ytjjndniphnfcgaa.Nocfg Go.Proofs.Ytjjndniphnfcgaa.Machc
set_option linter.unusedVariables false
set_option maxRecDepth 100000

theorem pre_le {α : Type} {l l' : List α} {n n' : Nat} (h : ∃ t, l' = l ++ t) (h1 : n = l.length) (h2 : n' = l'.length) : n ≤ n' := by
  obtain ⟨t, rfl⟩ := h
  rw [List.length_append] at h2
  omega
theorem replayed2_c (w : World) (k : Int) (K T M : Nat) (s : Sl) (l : List St) (m : Memc.M) (k1 : 1 ≤ k) (k2 : k ≤ 3) (a1 : 1 ≤ K) (a2 : K ≤ 64) (t1 : 1 ≤ T) (t2 : T ≤ 8) (m1 : 2 ≤ M) (m2 : M ≤ 64) (hl : RdS w w.heap.size s l) (h : replay (newM k K T M) l = some m) :
    Calls Try.prog 22 #[.agg #[.int .i64 k, .int .i64 K, .int .i64 T, .int .i64 M], .slice s.A s.n s.c] w fun e w' => ∃ r : R, e = .returned (.tuple #[.agg #[.int .u64 r.e, .int .u64 r.f, .slice r.L.A r.L.n r.L.c, .slice r.P.A r.P.n r.P.c, .int .u64 r.h, .int .u64 r.t, .slice r.K.A r.K.n r.K.c, .slice r.X.A r.X.n r.X.c, .slice r.S.A r.S.n r.S.c], .bool true]) ∧ Rm w' w'.heap.size r m ∧ (∀ b, b < w.heap.size → Off r b) ∧ Below w.heap.size w w' :=
  (refreplay_c w k K T M s l k1 k2 a1 a2 t1 t2 m1 m2 hl).mono fun e w' ⟨hh, hb⟩ => by
    rcases hh with ⟨m', r, hm, he, hr, ho⟩ | ⟨hm, he⟩
    · rw [h] at hm
      injection hm with hm
      subst hm
      exact ⟨r, he, hr, ho, hb⟩
    · rw [h] at hm; cases hm

set_option maxHeartbeats 8000000 in
theorem parts_yes (w : World) (k cut : Int) (K M : Nat) (b off : Nat) (sn sc : Nat) (pA : Option Addr) (pn pc : Nat) (ls : List (List Acc)) (ps : List (Int × Int)) (c1 : 0 ≤ cut) (c2 : cut ≤ 65535)
    (k1 : 1 ≤ k) (k2 : k ≤ 3) (a1 : 1 ≤ K) (a2 : K ≤ 64) (t1 : 1 ≤ sn) (t2 : sn ≤ 8) (m1 : 2 ≤ M) (m2 : M ≤ 64)
    (hl : RdLA w w.heap.size ⟨some ⟨b, off, none⟩, sn, sc⟩ ls) (hle : ∀ x ∈ ls, x.length ≤ 1000) (hp : RdP w w.heap.size ⟨pA, pn, pc⟩ ps) (hpn : ps.length ≤ 20000) :
    Calls Try.prog 8 #[.agg #[.int .i64 k, .int .i64 K, .int .i64 sn, .int .i64 M], .slice (some ⟨b, off, none⟩) sn sc, .slice pA pn pc, .int .u16 cut] w fun e w' => e = .returned (.bool true) ∧ Below w.heap.size w w' := by
  have hlok : ∀ l ∈ ls, ∀ a ∈ l, Acc.ok a := by
    intro l hl' a ha
    obtain ⟨i, hi, rfl⟩ := List.getElem_of_mem hl'
    obtain ⟨_, _, _, _, hc⟩ := hl.2.2.2 (by rw [hl.1]; omega)
    obtain ⟨sa, _, h2⟩ := hc i _ (List.getElem?_eq_getElem hi)
    exact h2.2.2.2.1 a ha
  have HG := Lib.hid (fun ps => good_run k K sn M m2 m1 ls hlok (newM_ok _ _ _ _ m2) ps)
  obtain ⟨ns, hns⟩ : ∃ ns, ns = ls.map List.length := ⟨_, rfl⟩
  have HL : Hid (Lens w ⟨some ⟨b, off, none⟩, sn, sc⟩ ns) := Lib.hid (by rw [hns]; exact hl.lens (Nat.le_refl _))
  clear hns
  have HPL : Hid (pn ≤ maxLen) := Lib.hid (Nat.le_trans hp.2.1 hp.2.2.1)
  have HPC : Hid (pn ≤ pc ∧ pc ≤ maxLen) := Lib.hid ⟨hp.2.1, hp.2.2.1⟩
  have HR := Lib.hid hl
  have HLE := Lib.hid hle
  have HP := Lib.hid hp
  have HPN := Lib.hid hpn
  clear hl hle hp hpn hlok
  have W0 : Hid (Below w.heap.size w (w.alloc (.cells #[.int .i64 k, .int .i64 K, .int .i64 sn, .int .i64 M] 36))) := Lib.hid ((Below.refl _ _).alloc (Nat.le_refl _) _)
  have C0 : Hid (Blk (w.alloc (.cells #[.int .i64 k, .int .i64 K, .int .i64 sn, .int .i64 M] 36)) w.heap.size 36 #[.int .i64 k, .int .i64 K, .int .i64 sn, .int .i64 M]) := Lib.hid (Blk.new _ _ _)
  have hs2 : (sn : Int) ≤ 9223372036854775807 := by have h1 := HL.out.2.1; have h2 := HL.out.2.2.1; simp only at h1 h2; unfold maxLen at h2; omega
  have hp2 : (pn : Int) ≤ 9223372036854775807 := by have h1 := HPL.out; unfold maxLen at h1; omega
  go_enter Try.func8, Try.ntmps8
  go_wp2_with (go_at_call 25; refine (awake3_c _).mono ?_; rintro e w1 ⟨rfl, hb1⟩; go_must (have C1 := Lib.hid (C0.out.below hb1 C0.out.lt); have W1 := Lib.hid (W0.out.trans (hb1.mono W0.out.size))); clear hb1)
  clear C0 W0
  go_loopw [9, 10] (fun n i wr => ∃ (j : Nat) (x : Int), n = .int .i64 x ∧ i = .int .i64 j ∧ j ≤ sn ∧ -9223372036854775808 ≤ x ∧ x ≤ 9223372036854775807 ∧ wr = w1) (fun _ i _ => sn - (intOf i).toNat)
  case atStart => exact ⟨0, sn, rfl, rfl, Nat.zero_le _, by omega, hs2, rfl⟩
  case round =>
  obtain ⟨j, x, rfl, rfl, hj, x1, x2, rfl⟩ := hrel
  by_cases hgo : j < sn ∧ x ≤ 400
  · obtain ⟨hlt, hx4⟩ := hgo
    obtain ⟨b_, off_, hA, hbB, hcc⟩ := HL.out.2.2.2.2 (by show 0 < sn; omega)
    injection hA with hA; injection hA with hA1 hA2; subst hA1 hA2
    obtain ⟨n, hn⟩ : ∃ n, ns[j]? = some n := ⟨_, List.getElem?_eq_getElem (by have := HL.out.1; simp only at this; omega)⟩
    obtain ⟨q, hqn, hq⟩ := hcc j n hn
    have hq1 := (W1.out.cell (p := ⟨b, off + j, none⟩) hbB).trans hq
    have i0 : (0 : Int) ≤ j := by omega
    have i1 : (j : Int) < sn := by omega
    clear hcc hq hn hqn
    go_wp2
    go_roundw
    case rel => exact ⟨j + 1, wrap64 (x + q.n), rfl, by go_num, by omega, by unfold wrap64; omega, by unfold wrap64; omega, trivial⟩
    case measure => simp [intOf]; omega
  · by_cases hx4 : 400 < x
    · by_cases hlt : j < sn
      · have i1 : (j : Int) < sn := by omega
        go_wp2
        go_ret
        exact ⟨rfl, W1.out⟩
      · have i1 : ¬ (j : Int) < sn := by omega
        go_wp2
        go_ret
        exact ⟨rfl, W1.out⟩
    · have hlt : ¬ (j : Int) < sn := by omega
      have hx5 : x ≤ 400 := by omega
      clear hgo hx4
      by_cases hpk : 1000 < pn
      · have i2 : 1000 < (pn : Int) := by omega
        go_wp2
        go_ret
        exact ⟨rfl, W1.out⟩
      · have i2 : ¬ 1000 < (pn : Int) := by omega
        obtain ⟨kk, hkk, hkp, hw1, hw2, k0, hz1⟩ := cut_kk cut pn c1 (Nat.le_of_not_lt hpk)
        have N8 := Lib.hid (And.intro k1 (And.intro k2 (And.intro a1 (And.intro a2 (And.intro t1 (And.intro t2 (And.intro m1 m2)))))))
        clear k1 k2 a1 a2 t1 t2 m1 m2
        have hkc : (kk : Int) ≤ pc := Int.ofNat_le.2 (Nat.le_trans hkp HPC.out.1)
        have PTN : Hid ((ps.take kk).length ≤ 20000) := Lib.hid (by rw [List.length_take]; exact Nat.le_trans (Nat.min_le_right _ _) HPN.out)
        have HG1 := Lib.hid (HG.out (ps.take kk))
        have HG2 := Lib.hid (HG.out ps)
        have hcc := C1.out.cell
        have hcl := C1.out.lt
        go_upto_region 11 with fail
        go_cut [12, 13] (fun a e wx => ∃ (gA : Nat) (r : R) (sSA : Option Addr) (sSn sSc : Nat) (sKA : Option Addr) (sKn sKc : Nat), a = .pointer (some ⟨gA, 0, none⟩) ∧ e = .int .i64 0 ∧ Blk wx gA 54 #[.slice sSA sSn sSc, .slice sKA sKn sKc, .int .u64 r.e, .int .u64 r.f, .slice r.L.A r.L.n r.L.c, .slice r.P.A r.P.n r.P.c, .int .u64 r.h, .int .u64 r.t, .slice r.K.A r.K.n r.K.c, .slice r.X.A r.X.n r.X.c, .slice r.S.A r.S.n r.S.c] ∧ Below w.heap.size w wx ∧ Blk wx w.heap.size 36 #[.int .i64 k, .int .i64 K, .int .i64 sn, .int .i64 M] ∧ RdS wx wx.heap.size ⟨sSA, sSn, sSc⟩ (runs ⟨newM k K sn M, ls, [], []⟩ (ps.take kk)).steps ∧ RdK wx wx.heap.size ⟨sKA, sKn, sKc⟩ ((runs ⟨newM k K sn M, ls, [], []⟩ (ps.take kk)).calls.map Cl.ck) ∧ Rm wx wx.heap.size r (runs ⟨newM k K sn M, ls, [], []⟩ (ps.take kk)).m ∧ sSn = (runs ⟨newM k K sn M, ls, [], []⟩ (ps.take kk)).steps.length ∧ sKn = (runs ⟨newM k K sn M, ls, [], []⟩ (ps.take kk)).calls.length)
        case first =>
          go_region_law (first | (go_simp; go_at_call 26; (with_reducible refine (raw_c _ wr.drew.heap.size k K sn M b off sc pA kk pc ls (ps.take kk) N8.out.1 N8.out.2.1 N8.out.2.2.1 N8.out.2.2.2.1 N8.out.2.2.2.2.1 N8.out.2.2.2.2.2.1 N8.out.2.2.2.2.2.2.1 N8.out.2.2.2.2.2.2.2 ((HR.out.below (W1.out.drew)).more (W1.out.drew).size) HLE.out (((RdP.take HP.out hkp).below (W1.out.drew)).more (W1.out.drew).size) PTN.out (Nat.le_refl _)).mono ?_); rintro e w2 ⟨r, ⟨sSA, sSn, sSc⟩, ⟨sKA, sKn, sKc⟩, base, rfl, hS, hK, hE, hF⟩; have tok1 : True := trivial; go_must (have W2 := Lib.hid (W1.out.drew.trans ((hF.below (Nat.le_refl _)).mono W1.out.drew.size)); have C2 := Lib.hid (C1.out.drew.below (hF.below (Nat.le_refl _)) C1.out.lt); have S2 := Lib.hid hS; have K2 := Lib.hid hK; have E2 := Lib.hid hE); clear hS hK hE hF) | (go_simp; go_at_call 26; (with_reducible refine (raw_c _ (wr.alloc (.cells #[.slice none 0 0, .slice none 0 0, .int .u64 0, .int .u64 0, .slice none 0 0, .slice none 0 0, .int .u64 0, .int .u64 0, .slice none 0 0, .slice none 0 0, .slice none 0 0] 54)).drew.heap.size k K sn M b off sc pA kk pc ls (ps.take kk) N8.out.1 N8.out.2.1 N8.out.2.2.1 N8.out.2.2.2.1 N8.out.2.2.2.2.1 N8.out.2.2.2.2.2.1 N8.out.2.2.2.2.2.2.1 N8.out.2.2.2.2.2.2.2 ((HR.out.below ((W1.out.alloc W1.out.size (.cells #[.slice none 0 0, .slice none 0 0, .int .u64 0, .int .u64 0, .slice none 0 0, .slice none 0 0, .int .u64 0, .int .u64 0, .slice none 0 0, .slice none 0 0, .slice none 0 0] 54)).drew)).more ((W1.out.alloc W1.out.size (.cells #[.slice none 0 0, .slice none 0 0, .int .u64 0, .int .u64 0, .slice none 0 0, .slice none 0 0, .int .u64 0, .int .u64 0, .slice none 0 0, .slice none 0 0, .slice none 0 0] 54)).drew).size) HLE.out (((RdP.take HP.out hkp).below ((W1.out.alloc W1.out.size (.cells #[.slice none 0 0, .slice none 0 0, .int .u64 0, .int .u64 0, .slice none 0 0, .slice none 0 0, .int .u64 0, .int .u64 0, .slice none 0 0, .slice none 0 0, .slice none 0 0] 54)).drew)).more ((W1.out.alloc W1.out.size (.cells #[.slice none 0 0, .slice none 0 0, .int .u64 0, .int .u64 0, .slice none 0 0, .slice none 0 0, .int .u64 0, .int .u64 0, .slice none 0 0, .slice none 0 0, .slice none 0 0] 54)).drew).size) PTN.out (Nat.le_refl _)).mono ?_); rintro e w2 ⟨r, ⟨sSA, sSn, sSc⟩, ⟨sKA, sKn, sKc⟩, base, rfl, hS, hK, hE, hF⟩; have tok2 : True := trivial; go_must (have W2 := Lib.hid ((W1.out.alloc W1.out.size (.cells #[.slice none 0 0, .slice none 0 0, .int .u64 0, .int .u64 0, .slice none 0 0, .slice none 0 0, .int .u64 0, .int .u64 0, .slice none 0 0, .slice none 0 0, .slice none 0 0] 54)).drew.trans ((hF.below (Nat.le_refl _)).mono (W1.out.alloc W1.out.size (.cells #[.slice none 0 0, .slice none 0 0, .int .u64 0, .int .u64 0, .slice none 0 0, .slice none 0 0, .int .u64 0, .int .u64 0, .slice none 0 0, .slice none 0 0, .slice none 0 0] 54)).drew.size)); have C2 := Lib.hid ((C1.out.alloc (.cells #[.slice none 0 0, .slice none 0 0, .int .u64 0, .int .u64 0, .slice none 0 0, .slice none 0 0, .int .u64 0, .int .u64 0, .slice none 0 0, .slice none 0 0, .slice none 0 0] 54)).drew.below (hF.below (Nat.le_refl _)) (C1.out.alloc _).lt); have X2 : Hid (Blk w2 wr.heap.size 54 #[.slice none 0 0, .slice none 0 0, .int .u64 0, .int .u64 0, .slice none 0 0, .slice none 0 0, .int .u64 0, .int .u64 0, .slice none 0 0, .slice none 0 0, .slice none 0 0]) := Lib.hid ((Blk.new wr 54 #[.slice none 0 0, .slice none 0 0, .int .u64 0, .int .u64 0, .slice none 0 0, .slice none 0 0, .int .u64 0, .int .u64 0, .slice none 0 0, .slice none 0 0, .slice none 0 0]).drew.below (hF.below (Nat.le_refl _)) (show wr.heap.size < (wr.alloc (.cells #[.slice none 0 0, .slice none 0 0, .int .u64 0, .int .u64 0, .slice none 0 0, .slice none 0 0, .int .u64 0, .int .u64 0, .slice none 0 0, .slice none 0 0, .slice none 0 0] 54)).heap.size by simp)); have S2 := Lib.hid hS; have K2 := Lib.hid hK; have E2 := Lib.hid hE; have hx2 := X2.out.cell; have hf2 := X2.out.frozen); clear hS hK hE hF))
          all_goals first
            | (clear tok1
               have EN1 : Hid (sSn = (runs ⟨newM k K sn M, ls, [], []⟩ (ps.take kk)).steps.length) := Lib.hid S2.out.n_.1
               have EN2 : Hid (sKn = (runs ⟨newM k K sn M, ls, [], []⟩ (ps.take kk)).calls.length) := Lib.hid K2.out.n_.1
               have bb : Below w2.heap.size w2 (w2.alloc (.cells #[.slice sSA sSn sSc, .slice sKA sKn sKc, .int .u64 r.e, .int .u64 r.f, .slice r.L.A r.L.n r.L.c, .slice r.P.A r.P.n r.P.c, .int .u64 r.h, .int .u64 r.t, .slice r.K.A r.K.n r.K.c, .slice r.X.A r.X.n r.X.c, .slice r.S.A r.S.n r.S.c] 54)) := (Below.refl _ _).alloc (Nat.le_refl _) _
               have XA : Hid (Blk (w2.alloc (.cells #[.slice sSA sSn sSc, .slice sKA sKn sKc, .int .u64 r.e, .int .u64 r.f, .slice r.L.A r.L.n r.L.c, .slice r.P.A r.P.n r.P.c, .int .u64 r.h, .int .u64 r.t, .slice r.K.A r.K.n r.K.c, .slice r.X.A r.X.n r.X.c, .slice r.S.A r.S.n r.S.c] 54)) w2.heap.size 54 #[.slice sSA sSn sSc, .slice sKA sKn sKc, .int .u64 r.e, .int .u64 r.f, .slice r.L.A r.L.n r.L.c, .slice r.P.A r.P.n r.P.c, .int .u64 r.h, .int .u64 r.t, .slice r.K.A r.K.n r.K.c, .slice r.X.A r.X.n r.X.c, .slice r.S.A r.S.n r.S.c]) := Lib.hid (Blk.new _ _ _)
               have W3 := Lib.hid (W2.out.alloc W2.out.size (.cells #[.slice sSA sSn sSc, .slice sKA sKn sKc, .int .u64 r.e, .int .u64 r.f, .slice r.L.A r.L.n r.L.c, .slice r.P.A r.P.n r.P.c, .int .u64 r.h, .int .u64 r.t, .slice r.K.A r.K.n r.K.c, .slice r.X.A r.X.n r.X.c, .slice r.S.A r.S.n r.S.c] 54))
               have C3 := Lib.hid (C2.out.alloc (.cells #[.slice sSA sSn sSc, .slice sKA sKn sKc, .int .u64 r.e, .int .u64 r.f, .slice r.L.A r.L.n r.L.c, .slice r.P.A r.P.n r.P.c, .int .u64 r.h, .int .u64 r.t, .slice r.K.A r.K.n r.K.c, .slice r.X.A r.X.n r.X.c, .slice r.S.A r.S.n r.S.c] 54))
               have S3 := Lib.hid (((row_rds S2.out HG1.out.sok).below bb).more bb.size)
               have K3 := Lib.hid (((row_rdk K2.out).below bb).more bb.size)
               have R3 := Lib.hid ((E2.out.rm.below bb).more bb.size)
               clear bb
               generalize (w2.alloc (.cells #[.slice sSA sSn sSc, .slice sKA sKn sKc, .int .u64 r.e, .int .u64 r.f, .slice r.L.A r.L.n r.L.c, .slice r.P.A r.P.n r.P.c, .int .u64 r.h, .int .u64 r.t, .slice r.K.A r.K.n r.K.c, .slice r.X.A r.X.n r.X.c, .slice r.S.A r.S.n r.S.c] 54)) = V at XA W3 C3 S3 K3 R3 ⊢
               obtain ⟨gA, hgA⟩ : ∃ g, w2.heap.size = g := ⟨_, rfl⟩
               rw [hgA] at XA
               simp only [hgA]
               clear hgA C2 W2 S2 K2 E2
               go_wp2_with fail
               go_meet
               exact ⟨gA, r, sSA, sSn, sSc, sKA, sKn, sKc, rfl, rfl, XA.out, W3.out, C3.out, S3.out, K3.out, R3.out, EN1.out, EN2.out⟩
              )
            | (clear tok2
               have EN1 : Hid (sSn = (runs ⟨newM k K sn M, ls, [], []⟩ (ps.take kk)).steps.length) := Lib.hid S2.out.n_.1
               have EN2 : Hid (sKn = (runs ⟨newM k K sn M, ls, [], []⟩ (ps.take kk)).calls.length) := Lib.hid K2.out.n_.1
               have XA : Hid (Blk (((((((((((w2.setCell ⟨wr.heap.size, 0, none⟩ (.slice sSA sSn sSc)).setCell ⟨wr.heap.size, 1, none⟩ (.slice sKA sKn sKc)).setCell ⟨wr.heap.size, 2, none⟩ (.int .u64 r.e)).setCell ⟨wr.heap.size, 3, none⟩ (.int .u64 r.f)).setCell ⟨wr.heap.size, 4, none⟩ (.slice r.L.A r.L.n r.L.c)).setCell ⟨wr.heap.size, 5, none⟩ (.slice r.P.A r.P.n r.P.c)).setCell ⟨wr.heap.size, 6, none⟩ (.int .u64 r.h)).setCell ⟨wr.heap.size, 7, none⟩ (.int .u64 r.t)).setCell ⟨wr.heap.size, 8, none⟩ (.slice r.K.A r.K.n r.K.c)).setCell ⟨wr.heap.size, 9, none⟩ (.slice r.X.A r.X.n r.X.c)).setCell ⟨wr.heap.size, 10, none⟩ (.slice r.S.A r.S.n r.S.c)) wr.heap.size 54 #[.slice sSA sSn sSc, .slice sKA sKn sKc, .int .u64 r.e, .int .u64 r.f, .slice r.L.A r.L.n r.L.c, .slice r.P.A r.P.n r.P.c, .int .u64 r.h, .int .u64 r.t, .slice r.K.A r.K.n r.K.c, .slice r.X.A r.X.n r.X.c, .slice r.S.A r.S.n r.S.c]) := Lib.hid (by have h_ := (Blk.set_ (Blk.set_ (Blk.set_ (Blk.set_ (Blk.set_ (Blk.set_ (Blk.set_ (Blk.set_ (Blk.set_ (Blk.set_ (Blk.set_ X2.out 0 (.slice sSA sSn sSc)) 1 (.slice sKA sKn sKc)) 2 (.int .u64 r.e)) 3 (.int .u64 r.f)) 4 (.slice r.L.A r.L.n r.L.c)) 5 (.slice r.P.A r.P.n r.P.c)) 6 (.int .u64 r.h)) 7 (.int .u64 r.t)) 8 (.slice r.K.A r.K.n r.K.c)) 9 (.slice r.X.A r.X.n r.X.c)) 10 (.slice r.S.A r.S.n r.S.c)); simpa only [List.setIfInBounds_toArray, List.set_cons_zero, List.set_cons_succ] using h_)
               have OA : Hid (Only (fun g_ => g_ = wr.heap.size) w2 (((((((((((w2.setCell ⟨wr.heap.size, 0, none⟩ (.slice sSA sSn sSc)).setCell ⟨wr.heap.size, 1, none⟩ (.slice sKA sKn sKc)).setCell ⟨wr.heap.size, 2, none⟩ (.int .u64 r.e)).setCell ⟨wr.heap.size, 3, none⟩ (.int .u64 r.f)).setCell ⟨wr.heap.size, 4, none⟩ (.slice r.L.A r.L.n r.L.c)).setCell ⟨wr.heap.size, 5, none⟩ (.slice r.P.A r.P.n r.P.c)).setCell ⟨wr.heap.size, 6, none⟩ (.int .u64 r.h)).setCell ⟨wr.heap.size, 7, none⟩ (.int .u64 r.t)).setCell ⟨wr.heap.size, 8, none⟩ (.slice r.K.A r.K.n r.K.c)).setCell ⟨wr.heap.size, 9, none⟩ (.slice r.X.A r.X.n r.X.c)).setCell ⟨wr.heap.size, 10, none⟩ (.slice r.S.A r.S.n r.S.c))) := Lib.hid (Only.set_ (Only.set_ (Only.set_ (Only.set_ (Only.set_ (Only.set_ (Only.set_ (Only.set_ (Only.set_ (Only.set_ (Only.set_ (Only.refl (fun g_ => g_ = wr.heap.size) w2) ⟨wr.heap.size, 0, none⟩ (.inl rfl) (.slice sSA sSn sSc)) ⟨wr.heap.size, 1, none⟩ (.inl rfl) (.slice sKA sKn sKc)) ⟨wr.heap.size, 2, none⟩ (.inl rfl) (.int .u64 r.e)) ⟨wr.heap.size, 3, none⟩ (.inl rfl) (.int .u64 r.f)) ⟨wr.heap.size, 4, none⟩ (.inl rfl) (.slice r.L.A r.L.n r.L.c)) ⟨wr.heap.size, 5, none⟩ (.inl rfl) (.slice r.P.A r.P.n r.P.c)) ⟨wr.heap.size, 6, none⟩ (.inl rfl) (.int .u64 r.h)) ⟨wr.heap.size, 7, none⟩ (.inl rfl) (.int .u64 r.t)) ⟨wr.heap.size, 8, none⟩ (.inl rfl) (.slice r.K.A r.K.n r.K.c)) ⟨wr.heap.size, 9, none⟩ (.inl rfl) (.slice r.X.A r.X.n r.X.c)) ⟨wr.heap.size, 10, none⟩ (.inl rfl) (.slice r.S.A r.S.n r.S.c))
               have W3 : Hid (Below w.heap.size w (((((((((((w2.setCell ⟨wr.heap.size, 0, none⟩ (.slice sSA sSn sSc)).setCell ⟨wr.heap.size, 1, none⟩ (.slice sKA sKn sKc)).setCell ⟨wr.heap.size, 2, none⟩ (.int .u64 r.e)).setCell ⟨wr.heap.size, 3, none⟩ (.int .u64 r.f)).setCell ⟨wr.heap.size, 4, none⟩ (.slice r.L.A r.L.n r.L.c)).setCell ⟨wr.heap.size, 5, none⟩ (.slice r.P.A r.P.n r.P.c)).setCell ⟨wr.heap.size, 6, none⟩ (.int .u64 r.h)).setCell ⟨wr.heap.size, 7, none⟩ (.int .u64 r.t)).setCell ⟨wr.heap.size, 8, none⟩ (.slice r.K.A r.K.n r.K.c)).setCell ⟨wr.heap.size, 9, none⟩ (.slice r.X.A r.X.n r.X.c)).setCell ⟨wr.heap.size, 10, none⟩ (.slice r.S.A r.S.n r.S.c))) := Lib.hid (W2.out.trans (OA.out.below W2.out.size (fun g hg => by rw [hg]; exact W1.out.size)))
               have C3 : Hid (Blk (((((((((((w2.setCell ⟨wr.heap.size, 0, none⟩ (.slice sSA sSn sSc)).setCell ⟨wr.heap.size, 1, none⟩ (.slice sKA sKn sKc)).setCell ⟨wr.heap.size, 2, none⟩ (.int .u64 r.e)).setCell ⟨wr.heap.size, 3, none⟩ (.int .u64 r.f)).setCell ⟨wr.heap.size, 4, none⟩ (.slice r.L.A r.L.n r.L.c)).setCell ⟨wr.heap.size, 5, none⟩ (.slice r.P.A r.P.n r.P.c)).setCell ⟨wr.heap.size, 6, none⟩ (.int .u64 r.h)).setCell ⟨wr.heap.size, 7, none⟩ (.int .u64 r.t)).setCell ⟨wr.heap.size, 8, none⟩ (.slice r.K.A r.K.n r.K.c)).setCell ⟨wr.heap.size, 9, none⟩ (.slice r.X.A r.X.n r.X.c)).setCell ⟨wr.heap.size, 10, none⟩ (.slice r.S.A r.S.n r.S.c)) w.heap.size 36 #[.int .i64 k, .int .i64 K, .int .i64 sn, .int .i64 M]) := Lib.hid (C2.out.only OA.out (Blk.ne C2.out X2.out (by decide)))
               have S3 := Lib.hid (row_rds (S2.out.only OA.out (fun g hg h => S2.out.ne X2.out (by decide) g hg h)) HG1.out.sok)
               have K3 := Lib.hid (row_rdk (K2.out.only OA.out (fun g hg h => K2.out.ne X2.out (by decide) g hg h)))
               have R3 := Lib.hid (E2.out.only OA.out (fun ar hl ad had h => E2.out.ne X2.out (by decide) (by decide) ar hl ad had h)).rm
               clear hx2 hf2 X2
               generalize (((((((((((w2.setCell ⟨wr.heap.size, 0, none⟩ (.slice sSA sSn sSc)).setCell ⟨wr.heap.size, 1, none⟩ (.slice sKA sKn sKc)).setCell ⟨wr.heap.size, 2, none⟩ (.int .u64 r.e)).setCell ⟨wr.heap.size, 3, none⟩ (.int .u64 r.f)).setCell ⟨wr.heap.size, 4, none⟩ (.slice r.L.A r.L.n r.L.c)).setCell ⟨wr.heap.size, 5, none⟩ (.slice r.P.A r.P.n r.P.c)).setCell ⟨wr.heap.size, 6, none⟩ (.int .u64 r.h)).setCell ⟨wr.heap.size, 7, none⟩ (.int .u64 r.t)).setCell ⟨wr.heap.size, 8, none⟩ (.slice r.K.A r.K.n r.K.c)).setCell ⟨wr.heap.size, 9, none⟩ (.slice r.X.A r.X.n r.X.c)).setCell ⟨wr.heap.size, 10, none⟩ (.slice r.S.A r.S.n r.S.c)) = V at XA W3 C3 S3 K3 R3 OA ⊢
               obtain ⟨gA, hgA⟩ : ∃ g, wr.heap.size = g := ⟨_, rfl⟩
               rw [hgA] at XA
               simp only [hgA]
               clear hgA C2 W2 S2 K2 E2
               go_wp2_with fail
               go_meet
               exact ⟨gA, r, sSA, sSn, sSc, sKA, sKn, sKc, rfl, rfl, XA.out, W3.out, C3.out, S3.out, K3.out, R3.out, EN1.out, EN2.out⟩
              )
        case rest =>
          obtain ⟨gA, r, sSA, sSn, sSc, sKA, sKn, sKc, rfl, rfl, hxa, hw3, hc3, hs3, hk3, hr3, he1, he2⟩ := hcut
          have XA := Lib.hid hxa
          have W3 := Lib.hid hw3
          have C3 := Lib.hid hc3
          have S3 := Lib.hid hs3
          have K3 := Lib.hid hk3
          have R3 := Lib.hid hr3
          have EN1 := Lib.hid he1
          have EN2 := Lib.hid he2
          clear hxa hw3 hc3 hs3 hk3 hr3 he1 he2
          generalize wc = V at XA W3 C3 S3 K3 R3 ⊢
          have hc3 := C3.out.cell
          have hc3l := C3.out.lt
          have hx3 := XA.out.cell
          have hx3l := XA.out.lt
          clear hcc hcl
          go_wp2_with (go_at_call 26; (with_reducible refine (raw_c _ V.heap.size k K sn M b off sc pA pn pc ls ps N8.out.1 N8.out.2.1 N8.out.2.2.1 N8.out.2.2.2.1 N8.out.2.2.2.2.1 N8.out.2.2.2.2.2.1 N8.out.2.2.2.2.2.2.1 N8.out.2.2.2.2.2.2.2 ((HR.out.below (W3.out)).more (W3.out).size) HLE.out ((HP.out.below (W3.out)).more (W3.out).size) HPN.out (Nat.le_refl _)).mono ?_); rintro e w4 ⟨q, ⟨qSA, qSn, qSc⟩, ⟨qKA, qKn, qKc⟩, base', rfl, hS, hK, hE, hF⟩; go_must (have hb := hF.below (Nat.le_refl _); have W4 := Lib.hid (W3.out.trans (hb.mono W3.out.size)); have C4 := Lib.hid (C3.out.below hb C3.out.lt); have XA4 := Lib.hid (XA.out.below hb XA.out.lt); have S4 := Lib.hid ((S3.out.below hb).more hb.size); have K4 := Lib.hid ((K3.out.below hb).more hb.size); have R4 := Lib.hid ((R3.out.below hb).more hb.size); have QS := Lib.hid (row_rds hS HG2.out.sok); have QK := Lib.hid (row_rdk hK); have HX := runs_cut ⟨newM k K sn M, ls, [], []⟩ ps kk; have EXS := Lib.hid HX.1; have EXK : Hid (∃ l, (runs ⟨newM k K sn M, ls, [], []⟩ ps).calls.map Cl.ck = (runs ⟨newM k K sn M, ls, [], []⟩ (ps.take kk)).calls.map Cl.ck ++ l) := Lib.hid (by obtain ⟨l, hl⟩ := HX.2; exact ⟨l.map Cl.ck, by rw [hl, List.map_append]⟩); have EN3 : Hid (sKn = ((runs ⟨newM k K sn M, ls, [], []⟩ (ps.take kk)).calls.map Cl.ck).length) := Lib.hid (by rw [List.length_map]; exact EN2.out); have hle1 : sSn ≤ qSn := pre_le EXS.out EN1.out QS.out.1; have hle2 : sKn ≤ qKn := pre_le EXK.out EN3.out QK.out.1; have hqc1 : qSn ≤ qSc := QS.out.2.1; have hqc2 : qKn ≤ qKc := QK.out.2.1; have hc4 := C4.out.cell; have hc4l := C4.out.lt; have hx4 := XA4.out.cell; have hx4l := XA4.out.lt); clear hS hK hE hF hb hx3 hc3 HX)
          have bb : Below w4.heap.size w4 (w4.alloc (.cells #[.slice qSA qSn qSc, .slice qKA qKn qKc, .int .u64 q.e, .int .u64 q.f, .slice q.L.A q.L.n q.L.c, .slice q.P.A q.P.n q.P.c, .int .u64 q.h, .int .u64 q.t, .slice q.K.A q.K.n q.K.c, .slice q.X.A q.X.n q.X.c, .slice q.S.A q.S.n q.S.c] 54)) := (Below.refl _ _).alloc (Nat.le_refl _) _
          have i1 : ¬ (qSn : Int) < sSn := Int.not_lt.2 (Int.ofNat_le.2 hle1)
          have i2_ : ¬ (qKn : Int) < sKn := Int.not_lt.2 (Int.ofNat_le.2 hle2)
          have j1 : (sSn : Int) ≤ qSc := Int.ofNat_le.2 (Nat.le_trans hle1 hqc1)
          have j2 : (0 : Int) ≤ sSn := Int.natCast_nonneg _
          have j3 : (sKn : Int) ≤ qKc := Int.ofNat_le.2 (Nat.le_trans hle2 hqc2)
          have j4 : (0 : Int) ≤ sKn := Int.natCast_nonneg _
          have XB5 : Hid (Blk (w4.alloc (.cells #[.slice qSA qSn qSc, .slice qKA qKn qKc, .int .u64 q.e, .int .u64 q.f, .slice q.L.A q.L.n q.L.c, .slice q.P.A q.P.n q.P.c, .int .u64 q.h, .int .u64 q.t, .slice q.K.A q.K.n q.K.c, .slice q.X.A q.X.n q.X.c, .slice q.S.A q.S.n q.S.c] 54)) w4.heap.size 54 #[.slice qSA qSn qSc, .slice qKA qKn qKc, .int .u64 q.e, .int .u64 q.f, .slice q.L.A q.L.n q.L.c, .slice q.P.A q.P.n q.P.c, .int .u64 q.h, .int .u64 q.t, .slice q.K.A q.K.n q.K.c, .slice q.X.A q.X.n q.X.c, .slice q.S.A q.S.n q.S.c]) := Lib.hid (Blk.new _ _ _)
          have C5 := Lib.hid (C4.out.below bb C4.out.lt)
          have XA5 := Lib.hid (XA4.out.below bb XA4.out.lt)
          have S5 := Lib.hid ((S4.out.below bb).more bb.size)
          have K5 := Lib.hid ((K4.out.below bb).more bb.size)
          have R5 := Lib.hid ((R4.out.below bb).more bb.size)
          have QS5 := Lib.hid ((QS.out.below bb).more bb.size)
          have QK5 := Lib.hid ((QK.out.below bb).more bb.size)
          have W5 := Lib.hid (W4.out.trans (bb.mono W4.out.size))
          clear bb hc4 hc4l hx4 hx4l
          generalize (w4.alloc (.cells #[.slice qSA qSn qSc, .slice qKA qKn qKc, .int .u64 q.e, .int .u64 q.f, .slice q.L.A q.L.n q.L.c, .slice q.P.A q.P.n q.P.c, .int .u64 q.h, .int .u64 q.t, .slice q.K.A q.K.n q.K.c, .slice q.X.A q.X.n q.X.c, .slice q.S.A q.S.n q.S.c] 54)) = V5 at XB5 C5 XA5 S5 K5 R5 QS5 QK5 W5 ⊢
          obtain ⟨gB, hgB⟩ : ∃ g, w4.heap.size = g := ⟨_, rfl⟩
          rw [hgB] at XB5
          simp only [hgB]
          clear hgB QS QK S4 K4 R4 W4 C4 XA4
          have hc5 := C5.out.cell
          have hc5l := C5.out.lt
          have ha5 := XA5.out.cell
          have ha5l := XA5.out.lt
          have hb5 := XB5.out.cell
          have hb5l := XB5.out.lt
          have QSD := Lib.hid (show RdS V5.drew V5.drew.heap.size ⟨qSA, sSn, qSc⟩ (runs ⟨newM k K sn M, ls, [], []⟩ (ps.take kk)).steps from (cut_s QS5.out EXS.out EN1.out).below (Below.refl _ _).drew)
          have QSE := Lib.hid (show RdS (V5.alloc (.cells #[.int .u64 0, .int .u64 0, .slice none 0 0, .slice none 0 0, .int .u64 0, .int .u64 0, .slice none 0 0, .slice none 0 0, .slice none 0 0] 25)).drew (V5.alloc (.cells #[.int .u64 0, .int .u64 0, .slice none 0 0, .slice none 0 0, .int .u64 0, .int .u64 0, .slice none 0 0, .slice none 0 0, .slice none 0 0] 25)).drew.heap.size ⟨qSA, sSn, qSc⟩ (runs ⟨newM k K sn M, ls, [], []⟩ (ps.take kk)).steps from ((cut_s QS5.out EXS.out EN1.out).below ((Below.refl _ _).alloc (Nat.le_refl _) (.cells #[.int .u64 0, .int .u64 0, .slice none 0 0, .slice none 0 0, .int .u64 0, .int .u64 0, .slice none 0 0, .slice none 0 0, .slice none 0 0] 25)).drew).more ((Below.refl _ _).alloc (Nat.le_refl _) (.cells #[.int .u64 0, .int .u64 0, .slice none 0 0, .slice none 0 0, .int .u64 0, .int .u64 0, .slice none 0 0, .slice none 0 0, .slice none 0 0] 25)).size)
          go_upto_region 17 with fail
          go_cut [16, 17] (fun a e wx => ∃ (gM : Nat) (r9 : R), a = .pointer (some ⟨gM, 0, none⟩) ∧ e = .bool true ∧ Blk wx gM 25 #[.int .u64 r9.e, .int .u64 r9.f, .slice r9.L.A r9.L.n r9.L.c, .slice r9.P.A r9.P.n r9.P.c, .int .u64 r9.h, .int .u64 r9.t, .slice r9.K.A r9.K.n r9.K.c, .slice r9.X.A r9.X.n r9.X.c, .slice r9.S.A r9.S.n r9.S.c] ∧ Below V5.heap.size V5 wx ∧ Rm wx wx.heap.size r9 (runs ⟨newM k K sn M, ls, [], []⟩ (ps.take kk)).m)
          case first =>
            refine Zreg.begin_ (S := (fun w' => (∀ j, w'.cell? ⟨w.heap.size, j, none⟩ = (#[.int .i64 k, .int .i64 K, .int .i64 sn, .int .i64 M] : Array Value)[j]?) ∧ (∀ j, w'.cell? ⟨gA, j, none⟩ = (#[.slice sSA sSn sSc, .slice sKA sKn sKc, .int .u64 r.e, .int .u64 r.f, .slice r.L.A r.L.n r.L.c, .slice r.P.A r.P.n r.P.c, .int .u64 r.h, .int .u64 r.t, .slice r.K.A r.K.n r.K.c, .slice r.X.A r.X.n r.X.c, .slice r.S.A r.S.n r.S.c] : Array Value)[j]?) ∧ (∀ j, w'.cell? ⟨gB, j, none⟩ = (#[.slice qSA qSn qSc, .slice qKA qKn qKc, .int .u64 q.e, .int .u64 q.f, .slice q.L.A q.L.n q.L.c, .slice q.P.A q.P.n q.P.c, .int .u64 q.h, .int .u64 q.t, .slice q.K.A q.K.n q.K.c, .slice q.X.A q.X.n q.X.c, .slice q.S.A q.S.n q.S.c] : Array Value)[j]?))) (zs := [12]) (by kernel_rfl) ?_
            show Zreg.After _ _ _ _ _ _ 14 #[false, false, false, false, false, false, false, false, false, false, false, false, false, false] _ _
            refine Zreg.takeS 0 97 (x := ?xz_0) rfl rfl (by kernel_rfl) (by kernel_rfl) (by kernel_rfl) (by kernel_rfl) (by kernel_rfl) (by kernel_rfl) (fun _ _ _ h => h) (.inr ⟨C5.out.drew.cell, XA5.out.drew.cell, XB5.out.drew.cell⟩) (Or.inl ⟨by rfl, ?yz_0⟩) ?rz_0
            case yz_0 => (intro w hSw; (try dsimp only at hSw); go_simp <;> with_reducible rfl)
            simp only [List.setIfInBounds_toArray, List.set_cons_zero, List.set_cons_succ]
            refine Zreg.takeP 1 98 (x := ?xz_1) rfl rfl (by kernel_rfl) (by kernel_rfl) (by kernel_rfl) (by kernel_rfl) (fun _ _ _ h => h) (.inr ⟨C5.out.drew.cell, XA5.out.drew.cell, XB5.out.drew.cell⟩) (Or.inl ⟨by rfl, ?yz_1⟩) ?rz_1
            case yz_1 => (intro w _; go_simp <;> with_reducible rfl)
            simp only [List.setIfInBounds_toArray, List.set_cons_zero, List.set_cons_succ]
            refine Zreg.takeS 2 99 (x := ?xz_2) rfl rfl (by kernel_rfl) (by kernel_rfl) (by kernel_rfl) (by kernel_rfl) (by kernel_rfl) (by kernel_rfl) (fun _ _ _ h => h) (.inr ⟨C5.out.drew.cell, XA5.out.drew.cell, XB5.out.drew.cell⟩) (Or.inl ⟨by rfl, ?yz_2⟩) ?rz_2
            case yz_2 => (intro w hSw; (try dsimp only at hSw); go_simp <;> with_reducible rfl)
            simp only [List.setIfInBounds_toArray, List.set_cons_zero, List.set_cons_succ]
            refine Zreg.takeP 3 100 (x := ?xz_3) rfl rfl (by kernel_rfl) (by kernel_rfl) (by kernel_rfl) (by kernel_rfl) (fun _ _ _ h => h) (.inr ⟨C5.out.drew.cell, XA5.out.drew.cell, XB5.out.drew.cell⟩) (Or.inl ⟨by rfl, ?yz_3⟩) ?rz_3
            case yz_3 => (intro w _; go_simp <;> with_reducible rfl)
            simp only [List.setIfInBounds_toArray, List.set_cons_zero, List.set_cons_succ]
            refine Zreg.takeS 4 101 (x := ?xz_4) rfl rfl (by kernel_rfl) (by kernel_rfl) (by kernel_rfl) (by kernel_rfl) (by kernel_rfl) (by kernel_rfl) (fun _ _ _ h => h) (.inr ⟨C5.out.drew.cell, XA5.out.drew.cell, XB5.out.drew.cell⟩) (Or.inl ⟨by rfl, ?yz_4⟩) ?rz_4
            case yz_4 => (intro w hSw; (try dsimp only at hSw); go_simp <;> with_reducible rfl)
            simp only [List.setIfInBounds_toArray, List.set_cons_zero, List.set_cons_succ]
            refine Zreg.takeP 5 102 (x := ?xz_5) rfl rfl (by kernel_rfl) (by kernel_rfl) (by kernel_rfl) (by kernel_rfl) (fun _ _ _ h => h) (.inr ⟨C5.out.drew.cell, XA5.out.drew.cell, XB5.out.drew.cell⟩) (Or.inl ⟨by rfl, ?yz_5⟩) ?rz_5
            case yz_5 => (intro w _; go_simp <;> with_reducible rfl)
            simp only [List.setIfInBounds_toArray, List.set_cons_zero, List.set_cons_succ]
            refine Zreg.takeP 6 103 (x := ?xz_6) rfl rfl (by kernel_rfl) (by kernel_rfl) (by kernel_rfl) (by kernel_rfl) (fun _ _ _ h => h) (.inr ⟨C5.out.drew.cell, XA5.out.drew.cell, XB5.out.drew.cell⟩) (Or.inl ⟨by rfl, ?yz_6⟩) ?rz_6
            case yz_6 => (intro w _; go_simp <;> with_reducible rfl)
            simp only [List.setIfInBounds_toArray, List.set_cons_zero, List.set_cons_succ]
            refine Zreg.two 7 11 (by kernel_rfl) rfl rfl rfl rfl (fun K_ hK => ?cz_7) (fun K_ hK => ?cz_11)
            case cz_7 =>
              go_simp
              go_at_call 22
              (with_reducible refine (replayed2_c V5.drew k K sn M ⟨qSA, sSn, qSc⟩ (runs ⟨newM k K sn M, ls, [], []⟩ (ps.take kk)).steps (runs ⟨newM k K sn M, ls, [], []⟩ (ps.take kk)).m N8.out.1 N8.out.2.1 N8.out.2.2.1 N8.out.2.2.2.1 N8.out.2.2.2.2.1 N8.out.2.2.2.2.2.1 N8.out.2.2.2.2.2.2.1 N8.out.2.2.2.2.2.2.2 QSD.out HG1.out.rep).mono ?_)
              rintro e w6 ⟨r9, rfl, hr9, hof, hb⟩
              have D6 : Hid (Below V5.heap.size V5 w6) := Lib.hid ((Below.refl _ _).drew.trans hb)
              have R9 := Lib.hid hr9
              clear hr9 hb hof
              refine hK.out _ _ (.inr ⟨(C5.out.below D6.out C5.out.lt).cell, (XA5.out.below D6.out XA5.out.lt).cell, (XB5.out.below D6.out XB5.out.lt).cell⟩) fun _ => ?_
              clear hK
              simp only [List.setIfInBounds_toArray, List.set_cons_zero, List.set_cons_succ]
              refine Zreg.takeP 8 96 (x := ?xzA_8) rfl rfl (by kernel_rfl) (by kernel_rfl) (by kernel_rfl) (by kernel_rfl) (fun _ _ _ h => h) (.inr ⟨(C5.out.below D6.out C5.out.lt).cell, (XA5.out.below D6.out XA5.out.lt).cell, (XB5.out.below D6.out XB5.out.lt).cell⟩) (Or.inl ⟨by rfl, ?yzA_8⟩) ?rzA_8
              case yzA_8 => (intro w _; go_simp <;> with_reducible rfl)
              simp only [List.setIfInBounds_toArray, List.set_cons_zero, List.set_cons_succ]
              refine Zreg.takeP 9 105 (x := ?xzA_9) rfl rfl (by kernel_rfl) (by kernel_rfl) (by kernel_rfl) (by kernel_rfl) (fun _ _ _ h => h) (.inr ⟨(C5.out.below D6.out C5.out.lt).cell, (XA5.out.below D6.out XA5.out.lt).cell, (XB5.out.below D6.out XB5.out.lt).cell⟩) (Or.inl ⟨by rfl, ?yzA_9⟩) ?rzA_9
              case yzA_9 => (intro w _; go_simp <;> with_reducible rfl)
              simp only [List.setIfInBounds_toArray, List.set_cons_zero, List.set_cons_succ]
              refine Zreg.takeP 10 106 (x := ?xzA_10) rfl rfl (by kernel_rfl) (by kernel_rfl) (by kernel_rfl) (by kernel_rfl) (fun _ _ _ h => h) (.inr ⟨(C5.out.below D6.out C5.out.lt).cell, (XA5.out.below D6.out XA5.out.lt).cell, (XB5.out.below D6.out XB5.out.lt).cell⟩) (Or.inl ⟨by rfl, ?yzA_10⟩) ?rzA_10
              case yzA_10 => (intro w _; go_simp <;> with_reducible rfl)
              simp only [List.setIfInBounds_toArray, List.set_cons_zero, List.set_cons_succ]
              refine Zreg.one 11 (by kernel_rfl) rfl rfl fun K_ hK => ?_
              go_simp
              refine hK.out _ _ (.inr ⟨((C5.out.below D6.out C5.out.lt).alloc _).cell, ((XA5.out.below D6.out XA5.out.lt).alloc _).cell, ((XB5.out.below D6.out XB5.out.lt).alloc _).cell⟩) fun _ => ?_
              clear hK
              simp only [List.setIfInBounds_toArray, List.set_cons_zero, List.set_cons_succ]
              refine Zreg.one 12 (by kernel_rfl) rfl rfl fun K_ hK => ?_
              go_simp
              refine hK.out _ _ (.inl (by kernel_rfl)) fun _ => ?_
              clear hK
              simp only [List.setIfInBounds_toArray, List.set_cons_zero, List.set_cons_succ]
              refine Zreg.one 13 (by kernel_rfl) rfl rfl fun K_ hK => ?_
              go_simp
              refine hK.out _ _ (.inl (by kernel_rfl)) fun _ => ?_
              clear hK
              simp only [List.setIfInBounds_toArray, List.set_cons_zero, List.set_cons_succ]
              refine Zreg.done (by kernel_rfl) ?_ _
              have XM : Hid (Blk (w6.alloc (.cells #[.int .u64 r9.e, .int .u64 r9.f, .slice r9.L.A r9.L.n r9.L.c, .slice r9.P.A r9.P.n r9.P.c, .int .u64 r9.h, .int .u64 r9.t, .slice r9.K.A r9.K.n r9.K.c, .slice r9.X.A r9.X.n r9.X.c, .slice r9.S.A r9.S.n r9.S.c] 25)) w6.heap.size 25 #[.int .u64 r9.e, .int .u64 r9.f, .slice r9.L.A r9.L.n r9.L.c, .slice r9.P.A r9.P.n r9.P.c, .int .u64 r9.h, .int .u64 r9.t, .slice r9.K.A r9.K.n r9.K.c, .slice r9.X.A r9.X.n r9.X.c, .slice r9.S.A r9.S.n r9.S.c]) := Lib.hid (Blk.new _ _ _)
              have D7 : Hid (Below V5.heap.size V5 (w6.alloc (.cells #[.int .u64 r9.e, .int .u64 r9.f, .slice r9.L.A r9.L.n r9.L.c, .slice r9.P.A r9.P.n r9.P.c, .int .u64 r9.h, .int .u64 r9.t, .slice r9.K.A r9.K.n r9.K.c, .slice r9.X.A r9.X.n r9.X.c, .slice r9.S.A r9.S.n r9.S.c] 25))) := Lib.hid (D6.out.alloc D6.out.size _)
              have R7 : Hid (Rm (w6.alloc (.cells #[.int .u64 r9.e, .int .u64 r9.f, .slice r9.L.A r9.L.n r9.L.c, .slice r9.P.A r9.P.n r9.P.c, .int .u64 r9.h, .int .u64 r9.t, .slice r9.K.A r9.K.n r9.K.c, .slice r9.X.A r9.X.n r9.X.c, .slice r9.S.A r9.S.n r9.S.c] 25)) (w6.alloc (.cells #[.int .u64 r9.e, .int .u64 r9.f, .slice r9.L.A r9.L.n r9.L.c, .slice r9.P.A r9.P.n r9.P.c, .int .u64 r9.h, .int .u64 r9.t, .slice r9.K.A r9.K.n r9.K.c, .slice r9.X.A r9.X.n r9.X.c, .slice r9.S.A r9.S.n r9.S.c] 25)).heap.size r9 (runs ⟨newM k K sn M, ls, [], []⟩ (ps.take kk)).m) := Lib.hid ((R9.out.alloc (Nat.le_refl _) _).more (by simp))
              generalize (w6.alloc (.cells #[.int .u64 r9.e, .int .u64 r9.f, .slice r9.L.A r9.L.n r9.L.c, .slice r9.P.A r9.P.n r9.P.c, .int .u64 r9.h, .int .u64 r9.t, .slice r9.K.A r9.K.n r9.K.c, .slice r9.X.A r9.X.n r9.X.c, .slice r9.S.A r9.S.n r9.S.c] 25)) = V7 at XM D7 R7 ⊢
              obtain ⟨gM, hgM⟩ : ∃ g, w6.heap.size = g := ⟨_, rfl⟩
              rw [hgM] at XM
              simp only [hgM]
              clear hgM R9 D6
              go_wp2_with fail
              go_meet
              exact ⟨gM, r9, rfl, rfl, XM.out, D7.out, R7.out⟩
            case cz_11 =>
              go_simp
              refine hK.out _ _ (.inr ⟨(C5.out.drew.alloc _).cell, (XA5.out.drew.alloc _).cell, (XB5.out.drew.alloc _).cell⟩) fun _ => ?_
              clear hK
              simp only [List.setIfInBounds_toArray, List.set_cons_zero, List.set_cons_succ]
              refine Zreg.one 7 (by kernel_rfl) rfl rfl fun K_ hK => ?_
              go_simp
              go_at_call 22
              (with_reducible refine (replayed2_c (V5.alloc (.cells #[.int .u64 0, .int .u64 0, .slice none 0 0, .slice none 0 0, .int .u64 0, .int .u64 0, .slice none 0 0, .slice none 0 0, .slice none 0 0] 25)).drew k K sn M ⟨qSA, sSn, qSc⟩ (runs ⟨newM k K sn M, ls, [], []⟩ (ps.take kk)).steps (runs ⟨newM k K sn M, ls, [], []⟩ (ps.take kk)).m N8.out.1 N8.out.2.1 N8.out.2.2.1 N8.out.2.2.2.1 N8.out.2.2.2.2.1 N8.out.2.2.2.2.2.1 N8.out.2.2.2.2.2.2.1 N8.out.2.2.2.2.2.2.2 QSE.out HG1.out.rep).mono ?_)
              rintro e w6 ⟨r9, rfl, hr9, hof, hb⟩
              have D6 : Hid (Below V5.heap.size V5 w6) := Lib.hid (((Below.refl _ _).alloc (Nat.le_refl _) (.cells #[.int .u64 0, .int .u64 0, .slice none 0 0, .slice none 0 0, .int .u64 0, .int .u64 0, .slice none 0 0, .slice none 0 0, .slice none 0 0] 25)).drew.trans (hb.mono (show V5.heap.size ≤ (V5.alloc (.cells #[.int .u64 0, .int .u64 0, .slice none 0 0, .slice none 0 0, .int .u64 0, .int .u64 0, .slice none 0 0, .slice none 0 0, .slice none 0 0] 25)).heap.size by simp)))
              have R9 := Lib.hid hr9
              have O9 : Hid (Off r9 V5.heap.size) := Lib.hid (hof _ (show V5.heap.size < (V5.alloc (.cells #[.int .u64 0, .int .u64 0, .slice none 0 0, .slice none 0 0, .int .u64 0, .int .u64 0, .slice none 0 0, .slice none 0 0, .slice none 0 0] 25)).heap.size by simp))
              have X6 : Hid (Blk w6 V5.heap.size 25 #[.int .u64 0, .int .u64 0, .slice none 0 0, .slice none 0 0, .int .u64 0, .int .u64 0, .slice none 0 0, .slice none 0 0, .slice none 0 0]) := Lib.hid ((Blk.new V5 25 #[.int .u64 0, .int .u64 0, .slice none 0 0, .slice none 0 0, .int .u64 0, .int .u64 0, .slice none 0 0, .slice none 0 0, .slice none 0 0]).drew.below hb (show V5.heap.size < (V5.alloc (.cells #[.int .u64 0, .int .u64 0, .slice none 0 0, .slice none 0 0, .int .u64 0, .int .u64 0, .slice none 0 0, .slice none 0 0, .slice none 0 0] 25)).heap.size by simp))
              have hx6 := X6.out.cell
              have hf6 := X6.out.frozen
              clear hr9 hb hof
              refine hK.out _ _ (.inr ⟨(C5.out.below D6.out C5.out.lt).cell, (XA5.out.below D6.out XA5.out.lt).cell, (XB5.out.below D6.out XB5.out.lt).cell⟩) fun _ => ?_
              clear hK
              simp only [List.setIfInBounds_toArray, List.set_cons_zero, List.set_cons_succ]
              refine Zreg.takeP 8 96 (x := ?xzB_8) rfl rfl (by kernel_rfl) (by kernel_rfl) (by kernel_rfl) (by kernel_rfl) (fun _ _ _ h => h) (.inr ⟨(C5.out.below D6.out C5.out.lt).cell, (XA5.out.below D6.out XA5.out.lt).cell, (XB5.out.below D6.out XB5.out.lt).cell⟩) (Or.inl ⟨by rfl, ?yzB_8⟩) ?rzB_8
              case yzB_8 => (intro w _; go_simp <;> with_reducible rfl)
              simp only [List.setIfInBounds_toArray, List.set_cons_zero, List.set_cons_succ]
              refine Zreg.takeP 9 105 (x := ?xzB_9) rfl rfl (by kernel_rfl) (by kernel_rfl) (by kernel_rfl) (by kernel_rfl) (fun _ _ _ h => h) (.inr ⟨(C5.out.below D6.out C5.out.lt).cell, (XA5.out.below D6.out XA5.out.lt).cell, (XB5.out.below D6.out XB5.out.lt).cell⟩) (Or.inl ⟨by rfl, ?yzB_9⟩) ?rzB_9
              case yzB_9 => (intro w _; go_simp <;> with_reducible rfl)
              simp only [List.setIfInBounds_toArray, List.set_cons_zero, List.set_cons_succ]
              refine Zreg.takeP 10 106 (x := ?xzB_10) rfl rfl (by kernel_rfl) (by kernel_rfl) (by kernel_rfl) (by kernel_rfl) (fun _ _ _ h => h) (.inr ⟨(C5.out.below D6.out C5.out.lt).cell, (XA5.out.below D6.out XA5.out.lt).cell, (XB5.out.below D6.out XB5.out.lt).cell⟩) (Or.inl ⟨by rfl, ?yzB_10⟩) ?rzB_10
              case yzB_10 => (intro w _; go_simp <;> with_reducible rfl)
              simp only [List.setIfInBounds_toArray, List.set_cons_zero, List.set_cons_succ]
              refine Zreg.one 12 (by kernel_rfl) rfl rfl fun K_ hK => ?_
              go_simp
              refine hK.out _ _ (.inl (by kernel_rfl)) fun _ => ?_
              clear hK
              simp only [List.setIfInBounds_toArray, List.set_cons_zero, List.set_cons_succ]
              refine Zreg.one 13 (by kernel_rfl) rfl rfl fun K_ hK => ?_
              go_simp
              refine hK.out _ _ (.inl (by kernel_rfl)) fun _ => ?_
              clear hK
              simp only [List.setIfInBounds_toArray, List.set_cons_zero, List.set_cons_succ]
              refine Zreg.done (by kernel_rfl) ?_ _
              have XM : Hid (Blk (((((((((w6.setCell ⟨V5.heap.size, 0, none⟩ (.int .u64 r9.e)).setCell ⟨V5.heap.size, 1, none⟩ (.int .u64 r9.f)).setCell ⟨V5.heap.size, 2, none⟩ (.slice r9.L.A r9.L.n r9.L.c)).setCell ⟨V5.heap.size, 3, none⟩ (.slice r9.P.A r9.P.n r9.P.c)).setCell ⟨V5.heap.size, 4, none⟩ (.int .u64 r9.h)).setCell ⟨V5.heap.size, 5, none⟩ (.int .u64 r9.t)).setCell ⟨V5.heap.size, 6, none⟩ (.slice r9.K.A r9.K.n r9.K.c)).setCell ⟨V5.heap.size, 7, none⟩ (.slice r9.X.A r9.X.n r9.X.c)).setCell ⟨V5.heap.size, 8, none⟩ (.slice r9.S.A r9.S.n r9.S.c)) V5.heap.size 25 #[.int .u64 r9.e, .int .u64 r9.f, .slice r9.L.A r9.L.n r9.L.c, .slice r9.P.A r9.P.n r9.P.c, .int .u64 r9.h, .int .u64 r9.t, .slice r9.K.A r9.K.n r9.K.c, .slice r9.X.A r9.X.n r9.X.c, .slice r9.S.A r9.S.n r9.S.c]) := Lib.hid (blk_nine X6.out)
              have D7 : Hid (Below V5.heap.size V5 (((((((((w6.setCell ⟨V5.heap.size, 0, none⟩ (.int .u64 r9.e)).setCell ⟨V5.heap.size, 1, none⟩ (.int .u64 r9.f)).setCell ⟨V5.heap.size, 2, none⟩ (.slice r9.L.A r9.L.n r9.L.c)).setCell ⟨V5.heap.size, 3, none⟩ (.slice r9.P.A r9.P.n r9.P.c)).setCell ⟨V5.heap.size, 4, none⟩ (.int .u64 r9.h)).setCell ⟨V5.heap.size, 5, none⟩ (.int .u64 r9.t)).setCell ⟨V5.heap.size, 6, none⟩ (.slice r9.K.A r9.K.n r9.K.c)).setCell ⟨V5.heap.size, 7, none⟩ (.slice r9.X.A r9.X.n r9.X.c)).setCell ⟨V5.heap.size, 8, none⟩ (.slice r9.S.A r9.S.n r9.S.c))) := Lib.hid (below_nine D6.out (Nat.le_refl _) _ _ _ _ _ _ _ _ _)
              have R7 : Hid (Rm (((((((((w6.setCell ⟨V5.heap.size, 0, none⟩ (.int .u64 r9.e)).setCell ⟨V5.heap.size, 1, none⟩ (.int .u64 r9.f)).setCell ⟨V5.heap.size, 2, none⟩ (.slice r9.L.A r9.L.n r9.L.c)).setCell ⟨V5.heap.size, 3, none⟩ (.slice r9.P.A r9.P.n r9.P.c)).setCell ⟨V5.heap.size, 4, none⟩ (.int .u64 r9.h)).setCell ⟨V5.heap.size, 5, none⟩ (.int .u64 r9.t)).setCell ⟨V5.heap.size, 6, none⟩ (.slice r9.K.A r9.K.n r9.K.c)).setCell ⟨V5.heap.size, 7, none⟩ (.slice r9.X.A r9.X.n r9.X.c)).setCell ⟨V5.heap.size, 8, none⟩ (.slice r9.S.A r9.S.n r9.S.c)) (((((((((w6.setCell ⟨V5.heap.size, 0, none⟩ (.int .u64 r9.e)).setCell ⟨V5.heap.size, 1, none⟩ (.int .u64 r9.f)).setCell ⟨V5.heap.size, 2, none⟩ (.slice r9.L.A r9.L.n r9.L.c)).setCell ⟨V5.heap.size, 3, none⟩ (.slice r9.P.A r9.P.n r9.P.c)).setCell ⟨V5.heap.size, 4, none⟩ (.int .u64 r9.h)).setCell ⟨V5.heap.size, 5, none⟩ (.int .u64 r9.t)).setCell ⟨V5.heap.size, 6, none⟩ (.slice r9.K.A r9.K.n r9.K.c)).setCell ⟨V5.heap.size, 7, none⟩ (.slice r9.X.A r9.X.n r9.X.c)).setCell ⟨V5.heap.size, 8, none⟩ (.slice r9.S.A r9.S.n r9.S.c)).heap.size r9 (runs ⟨newM k K sn M, ls, [], []⟩ (ps.take kk)).m) := Lib.hid (by
                have h_ := rm_nine R9.out O9.out r9
                simpa only [size_set] using h_)
              clear hx6 hf6 X6
              generalize (((((((((w6.setCell ⟨V5.heap.size, 0, none⟩ (.int .u64 r9.e)).setCell ⟨V5.heap.size, 1, none⟩ (.int .u64 r9.f)).setCell ⟨V5.heap.size, 2, none⟩ (.slice r9.L.A r9.L.n r9.L.c)).setCell ⟨V5.heap.size, 3, none⟩ (.slice r9.P.A r9.P.n r9.P.c)).setCell ⟨V5.heap.size, 4, none⟩ (.int .u64 r9.h)).setCell ⟨V5.heap.size, 5, none⟩ (.int .u64 r9.t)).setCell ⟨V5.heap.size, 6, none⟩ (.slice r9.K.A r9.K.n r9.K.c)).setCell ⟨V5.heap.size, 7, none⟩ (.slice r9.X.A r9.X.n r9.X.c)).setCell ⟨V5.heap.size, 8, none⟩ (.slice r9.S.A r9.S.n r9.S.c)) = V7 at XM D7 R7 ⊢
              obtain ⟨gM, hgM⟩ : ∃ g, V5.heap.size = g := ⟨_, rfl⟩
              rw [hgM] at XM
              simp only [hgM]
              clear hgM R9 D6
              go_wp2_with fail
              go_meet
              exact ⟨gM, r9, rfl, rfl, XM.out, D7.out, R7.out⟩
          case rest =>
            obtain ⟨gM, r9, rfl, rfl, hxm, hd7, hr7⟩ := hcut
            have XM := Lib.hid hxm
            have D7 := Lib.hid hd7
            have R7 := Lib.hid hr7
            clear hxm hd7 hr7
            generalize wc = V7 at XM D7 R7 ⊢
            have XA7 := Lib.hid (XA5.out.below D7.out XA5.out.lt)
            have XB7 := Lib.hid (XB5.out.below D7.out XB5.out.lt)
            have W7 := Lib.hid (W5.out.trans (D7.out.mono W5.out.size))
            have QS7 := Lib.hid (((cut_s QS5.out EXS.out EN1.out).below D7.out).more D7.out.size)
            have QK7 := Lib.hid (((cut_k QK5.out EXK.out EN3.out).below D7.out).more D7.out.size)
            have S7 := Lib.hid ((S5.out.below D7.out).more D7.out.size)
            have K7 := Lib.hid ((K5.out.below D7.out).more D7.out.size)
            have RR7 := Lib.hid ((R5.out.below D7.out).more D7.out.size)
            have hm7 := XM.out.cell
            have hm7l := XM.out.lt
            have ha7 := XA7.out.cell
            have ha7l := XA7.out.lt
            have hb7 := XB7.out.cell
            have hb7l := XB7.out.lt
            clear hc5 hc5l ha5 ha5l hb5 hb5l
            go_wp2_with fail
            refine Zreg.begin_ (S := (fun w' => (∀ j, w'.cell? ⟨gA, j, none⟩ = (#[.slice sSA sSn sSc, .slice sKA sKn sKc, .int .u64 r.e, .int .u64 r.f, .slice r.L.A r.L.n r.L.c, .slice r.P.A r.P.n r.P.c, .int .u64 r.h, .int .u64 r.t, .slice r.K.A r.K.n r.K.c, .slice r.X.A r.X.n r.X.c, .slice r.S.A r.S.n r.S.c] : Array Value)[j]?) ∧ (∀ j, w'.cell? ⟨gB, j, none⟩ = (#[.slice qSA qSn qSc, .slice qKA qKn qKc, .int .u64 q.e, .int .u64 q.f, .slice q.L.A q.L.n q.L.c, .slice q.P.A q.P.n q.P.c, .int .u64 q.h, .int .u64 q.t, .slice q.K.A q.K.n q.K.c, .slice q.X.A q.X.n q.X.c, .slice q.S.A q.S.n q.S.c] : Array Value)[j]?) ∧ (∀ j, w'.cell? ⟨gM, j, none⟩ = (#[.int .u64 r9.e, .int .u64 r9.f, .slice r9.L.A r9.L.n r9.L.c, .slice r9.P.A r9.P.n r9.P.c, .int .u64 r9.h, .int .u64 r9.t, .slice r9.K.A r9.K.n r9.K.c, .slice r9.X.A r9.X.n r9.X.c, .slice r9.S.A r9.S.n r9.S.c] : Array Value)[j]?))) (zs := [15]) (by kernel_rfl) ?_
            show Zreg.After _ _ _ _ _ _ 16 #[false, false, false, false, false, false, false, false, false, false, false, false, false, false, false, false] _ _
            refine Zreg.takeP 0 107 (x := ?xp_0) rfl rfl (by kernel_rfl) (by kernel_rfl) (by kernel_rfl) (by kernel_rfl) (fun _ _ _ h => h) (.inr ⟨XA7.out.drew.cell, XB7.out.drew.cell, XM.out.drew.cell⟩) (Or.inl ⟨by rfl, ?yp_0⟩) ?rp_0
            case yp_0 => (intro w _; go_simp <;> with_reducible rfl)
            simp only [List.setIfInBounds_toArray, List.set_cons_zero, List.set_cons_succ]
            refine Zreg.takeS 1 108 (x := ?xp_1) rfl rfl (by kernel_rfl) (by kernel_rfl) (by kernel_rfl) (by kernel_rfl) (by kernel_rfl) (by kernel_rfl) (fun _ _ _ h => h) (.inr ⟨XA7.out.drew.cell, XB7.out.drew.cell, XM.out.drew.cell⟩) (Or.inl ⟨by rfl, ?yp_1⟩) ?rp_1
            case yp_1 => (intro w hSw; (try dsimp only at hSw); go_simp <;> with_reducible rfl)
            simp only [List.setIfInBounds_toArray, List.set_cons_zero, List.set_cons_succ]
            refine Zreg.takeP 2 109 (x := ?xp_2) rfl rfl (by kernel_rfl) (by kernel_rfl) (by kernel_rfl) (by kernel_rfl) (fun _ _ _ h => h) (.inr ⟨XA7.out.drew.cell, XB7.out.drew.cell, XM.out.drew.cell⟩) (Or.inl ⟨by rfl, ?yp_2⟩) ?rp_2
            case yp_2 => (intro w _; go_simp <;> with_reducible rfl)
            simp only [List.setIfInBounds_toArray, List.set_cons_zero, List.set_cons_succ]
            refine Zreg.takeS 3 110 (x := ?xp_3) rfl rfl (by kernel_rfl) (by kernel_rfl) (by kernel_rfl) (by kernel_rfl) (by kernel_rfl) (by kernel_rfl) (fun _ _ _ h => h) (.inr ⟨XA7.out.drew.cell, XB7.out.drew.cell, XM.out.drew.cell⟩) (Or.inl ⟨by rfl, ?yp_3⟩) ?rp_3
            case yp_3 => (intro w hSw; (try dsimp only at hSw); go_simp <;> with_reducible rfl)
            simp only [List.setIfInBounds_toArray, List.set_cons_zero, List.set_cons_succ]
            refine Zreg.takeP 4 111 (x := ?xp_4) rfl rfl (by kernel_rfl) (by kernel_rfl) (by kernel_rfl) (by kernel_rfl) (fun _ _ _ h => h) (.inr ⟨XA7.out.drew.cell, XB7.out.drew.cell, XM.out.drew.cell⟩) (Or.inl ⟨by rfl, ?yp_4⟩) ?rp_4
            case yp_4 => (intro w _; go_simp <;> with_reducible rfl)
            simp only [List.setIfInBounds_toArray, List.set_cons_zero, List.set_cons_succ]
            refine Zreg.takeP 5 112 (x := ?xp_5) rfl rfl (by kernel_rfl) (by kernel_rfl) (by kernel_rfl) (by kernel_rfl) (fun _ _ _ h => h) (.inr ⟨XA7.out.drew.cell, XB7.out.drew.cell, XM.out.drew.cell⟩) (Or.inl ⟨by rfl, ?yp_5⟩) ?rp_5
            case yp_5 => (intro w _; go_simp <;> with_reducible rfl)
            simp only [List.setIfInBounds_toArray, List.set_cons_zero, List.set_cons_succ]
            refine Zreg.takeP 6 113 (x := ?xp_6) rfl rfl (by kernel_rfl) (by kernel_rfl) (by kernel_rfl) (by kernel_rfl) (fun _ _ _ h => h) (.inr ⟨XA7.out.drew.cell, XB7.out.drew.cell, XM.out.drew.cell⟩) (Or.inl ⟨by rfl, ?yp_6⟩) ?rp_6
            case yp_6 => (intro w _; go_simp <;> with_reducible rfl)
            simp only [List.setIfInBounds_toArray, List.set_cons_zero, List.set_cons_succ]
            refine Zreg.takeS 7 114 (x := ?xp_7) rfl rfl (by kernel_rfl) (by kernel_rfl) (by kernel_rfl) (by kernel_rfl) (by kernel_rfl) (by kernel_rfl) (fun _ _ _ h => h) (.inr ⟨XA7.out.drew.cell, XB7.out.drew.cell, XM.out.drew.cell⟩) (Or.inl ⟨by rfl, ?yp_7⟩) ?rp_7
            case yp_7 => (intro w hSw; (try dsimp only at hSw); go_simp <;> with_reducible rfl)
            simp only [List.setIfInBounds_toArray, List.set_cons_zero, List.set_cons_succ]
            refine Zreg.takeP 8 115 (x := ?xp_8) rfl rfl (by kernel_rfl) (by kernel_rfl) (by kernel_rfl) (by kernel_rfl) (fun _ _ _ h => h) (.inr ⟨XA7.out.drew.cell, XB7.out.drew.cell, XM.out.drew.cell⟩) (Or.inl ⟨by rfl, ?yp_8⟩) ?rp_8
            case yp_8 => (intro w _; go_simp <;> with_reducible rfl)
            simp only [List.setIfInBounds_toArray, List.set_cons_zero, List.set_cons_succ]
            refine Zreg.takeS 9 116 (x := ?xp_9) rfl rfl (by kernel_rfl) (by kernel_rfl) (by kernel_rfl) (by kernel_rfl) (by kernel_rfl) (by kernel_rfl) (fun _ _ _ h => h) (.inr ⟨XA7.out.drew.cell, XB7.out.drew.cell, XM.out.drew.cell⟩) (Or.inl ⟨by rfl, ?yp_9⟩) ?rp_9
            case yp_9 => (intro w hSw; (try dsimp only at hSw); go_simp <;> with_reducible rfl)
            simp only [List.setIfInBounds_toArray, List.set_cons_zero, List.set_cons_succ]
            refine Zreg.takeP 10 117 (x := ?xp_10) rfl rfl (by kernel_rfl) (by kernel_rfl) (by kernel_rfl) (by kernel_rfl) (fun _ _ _ h => h) (.inr ⟨XA7.out.drew.cell, XB7.out.drew.cell, XM.out.drew.cell⟩) (Or.inl ⟨by rfl, ?yp_10⟩) ?rp_10
            case yp_10 => (intro w _; go_simp <;> with_reducible rfl)
            simp only [List.setIfInBounds_toArray, List.set_cons_zero, List.set_cons_succ]
            refine Zreg.takeP 11 118 (x := ?xp_11) rfl rfl (by kernel_rfl) (by kernel_rfl) (by kernel_rfl) (by kernel_rfl) (fun _ _ _ h => h) (.inr ⟨XA7.out.drew.cell, XB7.out.drew.cell, XM.out.drew.cell⟩) (Or.inl ⟨by rfl, ?yp_11⟩) ?rp_11
            case yp_11 => (intro w _; go_simp <;> with_reducible rfl)
            simp only [List.setIfInBounds_toArray, List.set_cons_zero, List.set_cons_succ]
            refine Zreg.takeS 12 119 (x := ?xp_12) rfl rfl (by kernel_rfl) (by kernel_rfl) (by kernel_rfl) (by kernel_rfl) (by kernel_rfl) (by kernel_rfl) (fun _ _ _ h => h) (.inr ⟨XA7.out.drew.cell, XB7.out.drew.cell, XM.out.drew.cell⟩) (Or.inl ⟨by rfl, ?yp_12⟩) ?rp_12
            case yp_12 => (intro w hSw; (try dsimp only at hSw); go_simp <;> with_reducible rfl)
            simp only [List.setIfInBounds_toArray, List.set_cons_zero, List.set_cons_succ]
            refine Zreg.takeP 13 120 (x := ?xp_13) rfl rfl (by kernel_rfl) (by kernel_rfl) (by kernel_rfl) (by kernel_rfl) (fun _ _ _ h => h) (.inr ⟨XA7.out.drew.cell, XB7.out.drew.cell, XM.out.drew.cell⟩) (Or.inl ⟨by rfl, ?yp_13⟩) ?rp_13
            case yp_13 => (intro w _; go_simp <;> with_reducible rfl)
            simp only [List.setIfInBounds_toArray, List.set_cons_zero, List.set_cons_succ]
            refine Zreg.one 14 (by kernel_rfl) rfl rfl fun K_ hK => ?_
            go_simp
            refine hK.out _ _ (.inr ⟨(XA7.out.drew.alloc _).cell, (XB7.out.drew.alloc _).cell, (XM.out.drew.alloc _).cell⟩) fun _ => ?_
            clear hK
            simp only [List.setIfInBounds_toArray, List.set_cons_zero, List.set_cons_succ]
            refine Zreg.one 15 (by kernel_rfl) rfl rfl fun K_ hK => ?_
            go_simp
            refine hK.out _ _ (.inl (by kernel_rfl)) fun _ => ?_
            clear hK
            simp only [List.setIfInBounds_toArray, List.set_cons_zero, List.set_cons_succ]
            refine Zreg.done (by kernel_rfl) ?_ _
            have BB : Below V7.heap.size V7 (V7.alloc (.cells #[.slice qSA sSn qSc, .slice qKA sKn qKc, .int .u64 r9.e, .int .u64 r9.f, .slice r9.L.A r9.L.n r9.L.c, .slice r9.P.A r9.P.n r9.P.c, .int .u64 r9.h, .int .u64 r9.t, .slice r9.K.A r9.K.n r9.K.c, .slice r9.X.A r9.X.n r9.X.c, .slice r9.S.A r9.S.n r9.S.c] 54)).drew := ((Below.refl _ _).alloc (Nat.le_refl _) _).drew
            have XA8 := Lib.hid (XA7.out.below BB XA7.out.lt)
            have XT8 : Hid (Blk (V7.alloc (.cells #[.slice qSA sSn qSc, .slice qKA sKn qKc, .int .u64 r9.e, .int .u64 r9.f, .slice r9.L.A r9.L.n r9.L.c, .slice r9.P.A r9.P.n r9.P.c, .int .u64 r9.h, .int .u64 r9.t, .slice r9.K.A r9.K.n r9.K.c, .slice r9.X.A r9.X.n r9.X.c, .slice r9.S.A r9.S.n r9.S.c] 54)).drew V7.heap.size 54 #[.slice qSA sSn qSc, .slice qKA sKn qKc, .int .u64 r9.e, .int .u64 r9.f, .slice r9.L.A r9.L.n r9.L.c, .slice r9.P.A r9.P.n r9.P.c, .int .u64 r9.h, .int .u64 r9.t, .slice r9.K.A r9.K.n r9.K.c, .slice r9.X.A r9.X.n r9.X.c, .slice r9.S.A r9.S.n r9.S.c]) := Lib.hid (Blk.new V7 54 #[.slice qSA sSn qSc, .slice qKA sKn qKc, .int .u64 r9.e, .int .u64 r9.f, .slice r9.L.A r9.L.n r9.L.c, .slice r9.P.A r9.P.n r9.P.c, .int .u64 r9.h, .int .u64 r9.t, .slice r9.K.A r9.K.n r9.K.c, .slice r9.X.A r9.X.n r9.X.c, .slice r9.S.A r9.S.n r9.S.c]).drew
            have S9 := Lib.hid ((S7.out.below BB).more BB.size)
            have K9 := Lib.hid ((K7.out.below BB).more BB.size)
            have RR9 := Lib.hid ((RR7.out.below BB).more BB.size)
            have QS9 := Lib.hid ((QS7.out.below BB).more BB.size)
            have QK9 := Lib.hid ((QK7.out.below BB).more BB.size)
            have R9 := Lib.hid ((R7.out.below BB).more BB.size)
            have W9 := Lib.hid (W7.out.trans (BB.mono W7.out.size))
            clear BB hm7 hm7l ha7 ha7l hb7 hb7l
            generalize (V7.alloc (.cells #[.slice qSA sSn qSc, .slice qKA sKn qKc, .int .u64 r9.e, .int .u64 r9.f, .slice r9.L.A r9.L.n r9.L.c, .slice r9.P.A r9.P.n r9.P.c, .int .u64 r9.h, .int .u64 r9.t, .slice r9.K.A r9.K.n r9.K.c, .slice r9.X.A r9.X.n r9.X.c, .slice r9.S.A r9.S.n r9.S.c] 54)).drew = V8 at XA8 XT8 S9 K9 RR9 QS9 QK9 R9 W9 ⊢
            obtain ⟨gT, hgT⟩ : ∃ g, V7.heap.size = g := ⟨_, rfl⟩
            rw [hgT] at XT8
            simp only [hgT]
            clear hgT
            have ha8 := XA8.out.cell
            have ht8 := XT8.out.cell
            go_wp2_with (go_at_call 28; (with_reducible refine (same3_yes _ r r9 (runs ⟨newM k K sn M, ls, [], []⟩ (ps.take kk)).m ⟨sSA, sSn, sSc⟩ ⟨sKA, sKn, sKc⟩ ⟨qSA, sSn, qSc⟩ ⟨qKA, sKn, qKc⟩ (runs ⟨newM k K sn M, ls, [], []⟩ (ps.take kk)).steps ((runs ⟨newM k K sn M, ls, [], []⟩ (ps.take kk)).calls.map Cl.ck) RR9.out R9.out S9.out QS9.out K9.out QK9.out).mono ?_); rintro e w10 ⟨rfl, hb⟩; go_must (have W10 := Lib.hid (W9.out.trans (hb.mono W9.out.size))); clear hb)
            go_ret
            exact ⟨rfl, W10.out⟩



end Go.Proofs.Ytjjndniphnfcgaa.Drivec
