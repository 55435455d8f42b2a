/- A run of accesses by the document's answer: it goes as the program's. -/
import Derived.Test.YtjgbgjkjnlaloaaMach
import Derived.Test.YtjgbgjkjnlaloaaIrU
import Derived.Test.YtjgbgjkjnlaloaaTwo
import Derived.Test.YtjgbgjkjnlaloaaRepW
namespace Go.Proofs.Ytjgbgjkjnlaloaa.Machc
open Go.RowKit Go.Proofs.Ytjgbgjkjnlaloaa.Memc Go.Proofs.Ytjgbgjkjnlaloaa.Newc Go.Proofs.Ytjgbgjkjnlaloaa.Drivec Go.Proofs.Ytjgbgjkjnlaloaa.Procc
set_option linter.unusedVariables false
set_option maxRecDepth 100000

/-- what a run comes to -/
def Ran3 (w : World) (d : D) (e : Ending) (w' : World) : Prop :=
  ∃ (r : R) (sS sK : Sl), e = .returned (.tuple #[.agg #[.slice sS.A sS.n sS.c, .slice sK.A sK.n sK.c, .int .u64 r.e, .int .u64 r.f, .slice r.L.A r.L.n r.L.c, .slice r.P.A r.P.n r.P.c, .int .u64 r.h, .int .u64 r.t, .slice r.K.A r.K.n r.K.c, .slice r.X.A r.X.n r.X.c, .slice r.S.A r.S.n r.S.c], .bool true]) ∧ Rm w' w'.heap.size r d.m ∧ RdS w' w'.heap.size sS d.steps ∧ RdK w' w'.heap.size sK (d.calls.map Cl.ck) ∧ Below w.heap.size w w'
theorem flatK_ck (l : List Cl) : flatK (l.map Cl.ck) = flatC l := by
  unfold flatK flatC
  rw [List.map_map]
  rfl
set_option maxHeartbeats 8000000 in
theorem raw3_yes (w : World) (k : Int) (K T M : Nat) (b off c : Nat) (pA : Option Addr) (pn pc : Nat) (ls : List (List Acc)) (ps : List (Int × Int))
    (k1 : 1 ≤ k) (k2 : k ≤ 3) (a1 : 1 ≤ K) (a2 : K ≤ 64) (t1 : 1 ≤ T) (t2 : T ≤ 8) (m1 : 2 ≤ M) (m2 : M ≤ 64)
    (hl : RdLA w w.heap.size ⟨some ⟨b, off, none⟩, T, c⟩ ls) (hle : ∀ x ∈ ls, x.length ≤ 1000) (hp : RdP w w.heap.size ⟨pA, pn, pc⟩ ps) (hpn : ps.length ≤ 20000) :
    Calls Try.prog 29 #[.agg #[.int .i64 k, .int .i64 K, .int .i64 T, .int .i64 M], .slice (some ⟨b, off, none⟩) T c, .slice pA pn pc] w (Ran3 w (runs ⟨newM k K T M, ls, [], []⟩ ps)) := by
  have W0 : Hid (Below w.heap.size w ((w.alloc (.cells #[.int .i64 k, .int .i64 K, .int .i64 T, .int .i64 M] 36)).alloc (.cells #[.slice none 0 0, .slice none 0 0, .int .u64 0, .int .u64 0, .slice none 0 0, .slice none 0 0, .int .u64 0, .int .u64 0, .slice none 0 0, .slice none 0 0, .slice none 0 0] 54))) := Lib.hid (((Below.refl _ _).alloc (Nat.le_refl _) _).alloc (by simp) _)
  have C0 : Hid (Blk ((w.alloc (.cells #[.int .i64 k, .int .i64 K, .int .i64 T, .int .i64 M] 36)).alloc (.cells #[.slice none 0 0, .slice none 0 0, .int .u64 0, .int .u64 0, .slice none 0 0, .slice none 0 0, .int .u64 0, .int .u64 0, .slice none 0 0, .slice none 0 0, .slice none 0 0] 54)) w.heap.size 36 #[.int .i64 k, .int .i64 K, .int .i64 T, .int .i64 M]) := Lib.hid ((Blk.new _ _ _).alloc _)
  have Y0 : Hid (Blk ((w.alloc (.cells #[.int .i64 k, .int .i64 K, .int .i64 T, .int .i64 M] 36)).alloc (.cells #[.slice none 0 0, .slice none 0 0, .int .u64 0, .int .u64 0, .slice none 0 0, .slice none 0 0, .int .u64 0, .int .u64 0, .slice none 0 0, .slice none 0 0, .slice none 0 0] 54)) (w.heap.size + 1) 54 #[.slice none 0 0, .slice none 0 0, .int .u64 0, .int .u64 0, .slice none 0 0, .slice none 0 0, .int .u64 0, .int .u64 0, .slice none 0 0, .slice none 0 0, .slice none 0 0]) := Lib.hid (blk_at (by simp))
  have HL := Lib.hid hl
  have HP := Lib.hid hp
  have HPN := Lib.hid hpn
  have HLE := Lib.hid hle
  have hls : T = ls.length := hl.1
  obtain ⟨ns, hns⟩ : ∃ ns, ns = ls.map List.length := ⟨_, rfl⟩
  have HLN : Hid (Drivec.Lens w ⟨some ⟨b, off, none⟩, T, c⟩ ns) := Lib.hid (by rw [hns]; exact hl.lens (Nat.le_refl _))
  have HNS : Hid (∀ y ∈ ns, y ≤ 1000) := Lib.hid (by
    rw [hns]
    intro y hy
    obtain ⟨x, hx, rfl⟩ := List.mem_map.1 hy
    exact hle x hx)
  have HLS := Lib.hid hls
  have HOKS : Hid (∀ l ∈ ls, ∀ a ∈ l, Acc.ok a) := Lib.hid (fun l hl1 a ha => by
    obtain ⟨i, hi, rfl⟩ := List.getElem_of_mem hl1
    obtain ⟨_, _, _, _, hcc⟩ := hl.2.2.2 (by show 0 < T; omega)
    obtain ⟨sa, _, hsa⟩ := hcc i _ (List.getElem?_eq_getElem hi)
    exact hsa.2.2.2.1 a ha)
  have hsn2 : (T : Int) ≤ 9223372036854775807 := by omega
  have HPL : Hid (pn = ps.length) := Lib.hid hp.1
  have hp20 : pn ≤ 20000 := by have := hp.1; simp only at this; omega
  have hp2 : (pn : Int) ≤ 9223372036854775807 := by omega
  have HMAY : Hid ((Cfg.mk k K T M).may) := Lib.hid ⟨⟨k1, k2⟩, ⟨by show (1 : Int) ≤ (K : Int); omega, by show (K : Int) ≤ 64; omega⟩, ⟨by show (1 : Int) ≤ (T : Int); omega, by show (T : Int) ≤ 8; omega⟩, ⟨by show (2 : Int) ≤ (M : Int); omega, by show (M : Int) ≤ 64; omega⟩⟩
  have N8 := Lib.hid (And.intro k1 (And.intro k2 (And.intro a1 (And.intro a2 (And.intro t1 (And.intro t2 m2))))))
  clear hl hp hpn hls hns hle
  go_enter Try.func29, Try.ntmps29
  go_upto_region 1 with fail
  generalize ((w.alloc (.cells #[.int .i64 k, .int .i64 K, .int .i64 T, .int .i64 M] 36)).alloc (.cells #[.slice none 0 0, .slice none 0 0, .int .u64 0, .int .u64 0, .slice none 0 0, .slice none 0 0, .int .u64 0, .int .u64 0, .slice none 0 0, .slice none 0 0, .slice none 0 0] 54)) = V at W0 C0 Y0 ⊢
  go_wp2
  go_loopw [8, 9] (fun x i wr => ∃ (m j : Nat), x = .int .i64 m ∧ i = .int .i64 j ∧ j ≤ T ∧ m ≤ maxLen ∧ (m ≤ 1000 ↔ ∀ y ∈ ns.take j, y ≤ 1000) ∧ wr = V) (fun _ i _ => T - (intOf i).toNat)
  case atStart => exact ⟨0, 0, rfl, rfl, Nat.zero_le _, Nat.zero_le _, (by simp), rfl⟩
  case round =>
  obtain ⟨m, j, rfl, rfl, hj, hm, hall, rfl⟩ := hrel
  have m0 : (0 : Int) ≤ m := Int.natCast_nonneg _
  have i0 : (0 : Int) ≤ j := Int.natCast_nonneg _
  have hTL := HLN.out.1
  simp only at hTL
  by_cases hlt : j < T
  · obtain ⟨b', off', hA, hbB, hcc⟩ := HLN.out.2.2.2.2 (by show 0 < T; omega)
    injection hA with hA
    injection hA with hA1 hA2
    subst hA1
    subst hA2
    obtain ⟨n, hn⟩ : ∃ n, ns[j]? = some n := ⟨_, List.getElem?_eq_getElem (by omega)⟩
    obtain ⟨q, hqn, hq⟩ := hcc j n hn
    have hq1 := (W0.out.cell (p := ⟨b, off + j, none⟩) hbB).trans hq
    have i1 : (j : Int) < T := by omega
    have htk : ns.take (j + 1) = ns.take j ++ [n] := by rw [List.take_add_one, hn]; rfl
    have hnm : n ≤ maxLen := HLN.out.2.2.2.1 n (List.mem_of_getElem? hn)
    have HALL := Lib.hid hall
    have HTK := Lib.hid htk
    have HNM := Lib.hid hnm
    have HM := Lib.hid hm
    clear hcc hq hn hall htk hnm hm hTL
    by_cases hgt : m < n
    · have hgt' : (m : Int) < q.n := by omega
      go_wp2
      go_roundw
      case rel => exact ⟨n, j + 1, rfl, by go_num, hlt, HNM.out, (by
        rw [HTK.out]
        have h1 := HALL.out
        constructor
        · intro h2 y hy
          rcases List.mem_append.1 hy with h3 | h3
          · exact h1.1 (by omega) y h3
          · rw [List.mem_singleton.1 h3]; exact h2
        · intro h2
          exact h2 n (List.mem_append.2 (.inr (List.mem_singleton.2 rfl)))), trivial⟩
      case measure => simp [intOf]; omega
    · have hgt' : ¬ (m : Int) < q.n := by omega
      go_wp2
      go_roundw
      case rel => exact ⟨m, j + 1, rfl, by go_num, hlt, HM.out, (by
        rw [HTK.out]
        have h1 := HALL.out
        constructor
        · intro h2 y hy
          rcases List.mem_append.1 hy with h3 | h3
          · exact h1.1 h2 y h3
          · rw [List.mem_singleton.1 h3]; omega
        · intro h2
          exact h1.2 (fun y hy => h2 y (List.mem_append.2 (.inl hy)))), trivial⟩
      case measure => simp [intOf]; omega
  · obtain rfl : T = j := by omega
    rw [List.take_of_length_le (show ns.length ≤ T by omega)] at hall
    have i1 : ¬ (T : Int) < T := by omega
    have HSN := Lib.hid hTL
    clear hTL
    have hcc := C0.out.cell
    have HM2 : Hid ((m : Int) ≤ 1000) := Lib.hid (by have := hall.2 HNS.out; omega)
    clear hall hm
    go_upto_region 9 with (go_at_call 54; (with_reducible refine (may3_yes _ k K T M T m ⟨pA, pn, pc⟩ HMAY.out rfl HM2.out hp20).mono ?_); rintro e w1 ⟨rfl, hb⟩; go_must (have W1 := Lib.hid (W0.out.trans (hb.mono W0.out.size)); have C1 := Lib.hid (C0.out.below hb C0.out.lt); have Y1 := Lib.hid (Y0.out.below hb Y0.out.lt)); clear hb hcc)
    clear hp20
    have hcc1 := C1.out.cell
    go_wp2_with (go_at_call 55; (with_reducible refine (new3_c _ k K T M k1 k2 a1 a2 t1 t2 m1 m2).mono ?_); rintro e w2 ⟨gR, gO, gC, gA, co, cc, ca, r0, cO0, cC0, cA0, rfl, hi, hb⟩; go_must (have W2 := Lib.hid (W1.out.trans (hb.mono W1.out.size)); have C2 := Lib.hid (C1.out.below hb C1.out.lt); have Y2 := Lib.hid (Y1.out.below hb Y1.out.lt); have I2 := Lib.hid hi; have BS : Hid (w.heap.size + 2 ≤ w1.heap.size) := Lib.hid Y1.out.lt); clear hb hi hcc1)
    generalize w1.heap.size = base at I2 BS ⊢
    clear W0 C0 Y0 W1 C1 Y1 HM2 HMAY hsn2 m0 i0 i1
    have N9 := Lib.hid (And.intro m1 m2)
    go_loopw [11] (fun n wr => ∃ (j : Nat) (r1 : R) (sS sK : Sl) (cO cC cA : Array Value) (qs : List Sl) (s1 : RS), n = .int .i64 j ∧ j ≤ pn ∧ Ir wr base gR gO gC gA co cc ca k K T M r1 sS sK cO cC cA qs s1 ∧ Sim ls (runs ⟨newM k K T M, ls, [], []⟩ (ps.take j)) s1 ∧ (runs ⟨newM k K T M, ls, [], []⟩ (ps.take j)).steps.length ≤ j ∧ (runs ⟨newM k K T M, ls, [], []⟩ (ps.take j)).calls.length ≤ j ∧ Blk wr w.heap.size 36 #[.int .i64 k, .int .i64 K, .int .i64 T, .int .i64 M] ∧ Blk wr (w.heap.size + 1) 54 #[.slice none 0 0, .slice none 0 0, .int .u64 0, .int .u64 0, .slice none 0 0, .slice none 0 0, .int .u64 0, .int .u64 0, .slice none 0 0, .slice none 0 0, .slice none 0 0] ∧ Below w.heap.size w wr) (fun n _ => pn - (intOf n).toNat)
    case atStart => exact ⟨0, r0, nilS, nilS, cO0, cC0, cA0, _, _, rfl, Nat.zero_le _, I2.out, sim_first _ _ _ HLS.out, Nat.le_refl _, Nat.le_refl _, C2.out, Y2.out, W2.out⟩
    case round =>
    clear I2 W2 C2 Y2
    obtain ⟨j, r1, sS, sK, cO, cC, cA, qs, s1, rfl, hj, hi, hsim, hst, hca, hcb, hyb, hwb⟩ := hrel
    have I3 := Lib.hid hi
    have SM := Lib.hid hsim
    have HST := Lib.hid hst
    have HCA := Lib.hid hca
    have C3 := Lib.hid hcb
    have Y3 := Lib.hid hyb
    have W3 := Lib.hid hwb
    clear hi hsim hst hca hcb hyb hwb
    by_cases hlt : j < pn
    · obtain ⟨b1, off1, hpA, hbp, hcp⟩ := HP.out.2.2.2.2 (by show 0 < pn; omega)
      simp only at hpA
      subst hpA
      obtain ⟨p, hpj⟩ : ∃ p, ps[j]? = some p := ⟨_, List.getElem?_eq_getElem (by have := HPL.out; omega)⟩
      have hp0 := (W3.out.cell (p := ⟨b1, off1 + j * 2, none⟩) hbp).trans (hcp j p hpj).1
      have hpr := HP.out.2.2.2.1 p (List.mem_of_getElem? hpj)
      have HPJ := Lib.hid hpj
      have hcc := C3.out.cell
      have j0 : (0 : Int) ≤ j := Int.natCast_nonneg _
      have j1 : (j : Int) < pn := Int.ofNat_lt.2 hlt
      obtain ⟨p1, p2⟩ := p
      simp only at hp0 hpr
      obtain ⟨hpr1, hpr2⟩ := hpr
      clear hcp hpj
      by_cases hneg : p1 < 0
      · have HNEG := Lib.hid hneg
        go_wp2
        go_roundw
        case rel => exact ⟨j + 1, r1, sS, sK, cO, cC, cA, qs, s1, by go_num, hlt, I3.out, (by rw [runs_take HPJ.out, SM.out.off (.inl HNEG.out)]; exact SM.out), (by rw [runs_take HPJ.out, SM.out.off (.inl HNEG.out)]; exact Nat.le_succ_of_le HST.out), (by rw [runs_take HPJ.out, SM.out.off (.inl HNEG.out)]; exact Nat.le_succ_of_le HCA.out), C3.out, Y3.out, W3.out⟩
        case measure => simp [intOf]; omega
      · by_cases hge : (T : Int) ≤ p1
        · have HGE : Hid ((ls.length : Int) ≤ p1) := Lib.hid (by rw [← HLS.out]; exact hge)
          go_wp2
          go_roundw
          case rel => exact ⟨j + 1, r1, sS, sK, cO, cC, cA, qs, s1, by go_num, hlt, I3.out, (by rw [runs_take HPJ.out, SM.out.off (.inr HGE.out)]; exact SM.out), (by rw [runs_take HPJ.out, SM.out.off (.inr HGE.out)]; exact Nat.le_succ_of_le HST.out), (by rw [runs_take HPJ.out, SM.out.off (.inr HGE.out)]; exact Nat.le_succ_of_le HCA.out), C3.out, Y3.out, W3.out⟩
          case measure => simp [intOf]; omega
        · obtain ⟨t, rfl⟩ : ∃ t : Nat, p1 = t := ⟨p1.toNat, by omega⟩
          have htT : t < T := by omega
          have HTN := Lib.hid htT
          obtain ⟨l, hl⟩ : ∃ l, ls[t]? = some l := ⟨_, List.getElem?_eq_getElem (by rw [← HLS.out]; exact htT)⟩
          obtain ⟨n, hnl, hat, hleft⟩ := SM.out.left t l hl
          obtain ⟨b', off', hA, hbB, hcc2⟩ := HL.out.2.2.2 (by show 0 < T; omega)
          injection hA with hA
          injection hA with hA1 hA2
          subst hA1
          subst hA2
          obtain ⟨⟨saA, san, sac⟩, hsc, hsa⟩ := hcc2 t l hl
          have hsl := (W3.out.cell (p := ⟨b, off + t, none⟩) hbB).trans hsc
          have hsan : san = l.length := hsa.1
          subst hsan
          simp only at hsl
          have HLL := Lib.hid hl
          have HAT0 := Lib.hid hat
          have HLF := Lib.hid hleft
          have HSA := Lib.hid hsa
          have HNL := Lib.hid hnl
          have hr3 := I3.out.hR.cell
          have hr3l := I3.out.hR.lt
          have hac := (I3.out.hA.cell t).trans (I3.out.at_ t _ hat)
          have t0 : (0 : Int) ≤ t := Int.natCast_nonneg _
          have t3 : (t : Int) < T := Int.ofNat_lt.2 htT
          have n0 : (0 : Int) ≤ n := Int.natCast_nonneg _
          clear hcc2 hsc hsa hl hat hleft hnl hneg hge
          by_cases hnl : n < l.length
          · have n1 : (n : Int) < l.length := Int.ofNat_lt.2 hnl
            obtain ⟨b2, off2, hsA, hb2, hcs⟩ := HSA.out.2.2.2.2 (by show 0 < l.length; omega)
            simp only at hsA
            subst hsA
            obtain ⟨a, ha⟩ : ∃ a, l[n]? = some a := ⟨_, List.getElem?_eq_getElem hnl⟩
            obtain ⟨ha0, ha1, ha2, ha3, ha4⟩ := hcs n a ha
            have hb0 := (W3.out.cell (p := ⟨b2, off2 + n * 5, none⟩) hb2).trans ha0
            have hb1 := (W3.out.cell (p := ⟨b2, off2 + n * 5 + 1, none⟩) hb2).trans ha1
            have hb2' := (W3.out.cell (p := ⟨b2, off2 + n * 5 + 2, none⟩) hb2).trans ha2
            have hb3 := (W3.out.cell (p := ⟨b2, off2 + n * 5 + 3, none⟩) hb2).trans ha3
            have hb4 := (W3.out.cell (p := ⟨b2, off2 + n * 5 + 4, none⟩) hb2).trans ha4
            have HA := Lib.hid ha
            clear ha0 ha1 ha2 ha3 ha4 hcs ha
            go_wp2
            go_quiet (fail)
            go_wp2
            have HLN2 := Lib.hid SM.out.len
            have HNEG : Hid (s1.call.getD t 0 < 0) := Lib.hid (by rw [SM.out.call, List.getD_eq_getElem?_getD, List.getElem?_replicate, if_pos (by rw [← HLS.out]; exact HTN.out)]; decide)
            have HON : Hid ((begR s1 t (raw99 a) 0 0).on[t]? = some (raw99 a)) := Lib.hid (beg_at (by rw [SM.out.len.2.1, ← HLS.out]; exact HTN.out))
            have HOK : Hid ((askR (raw99 a)).ok) := Lib.hid (HSA.out.2.2.2.1 a (List.mem_of_getElem? HA.out))
            have HCALL : Hid (∃ k0 : Nat, (begR s1 t (raw99 a) 0 0).call[t]? = some (k0 : Int) ∧ k0 < (begR s1 t (raw99 a) 0 0).calls.length) := Lib.hid ⟨s1.calls.length, List.getElem?_set_self (by rw [SM.out.call, List.length_replicate, ← HLS.out]; exact HTN.out), by show _ < (s1.calls ++ [_]).length; simp⟩
            have HAT : Hid (∃ a0 : Nat, s1.at_[t]? = some (a0 : Int) ∧ a0 ≤ 100000) := Lib.hid ⟨n, HAT0.out, Nat.le_trans HNL.out (Nat.le_trans (HLE.out l (List.mem_of_getElem? HLL.out)) (by decide))⟩
            have HCAP : Hid ((begR s1 t (raw99 a) 0 0).steps.length ≤ 40000 ∧ (begR s1 t (raw99 a) 0 0).calls.length ≤ 40000) := Lib.hid ⟨by show s1.steps.length ≤ 40000; rw [SM.out.steps]; have := HST.out; have := HPL.out; have := HPN.out; omega, by show (s1.calls ++ [_]).length ≤ 40000; rw [List.length_append, SM.out.calls, List.length_map]; have := HCA.out; have := HPL.out; have := HPN.out; simp only [List.length_cons, List.length_nil]; omega⟩
            have hstep : ∀ N : Nat, Calls Try.prog 56 #[.pointer (some ⟨gR, 0, none⟩), .int .i64 t, .agg #[.int .i64 0, .int .u32 0, .int .i64 0, .int .i64 0, .int .i64 99, .int .u64 0, .int .u64 0, .int .u64 0, .int .u64 0, .int .i64 0, .slice none 0 0, .bool false, .int .u64 0, .int .u64 0, .int .i64 0, .int .u32 0, .int .i64 0, .int .i64 a.d, .int .i64 a.ar, .int .i64 a.at_, .int .u64 a.old, .int .u64 a.new, .int .i64 0, .int .u32 0], .int .i64 0, .int .u32 0, .bool true] (wr.drewN N) (fun e w' => (∃ r' sS' sK' cO' cC' cA' qs', Ir w' base gR gO gC gA co cc ca k K T M r' sS' sK' cO' cC' cA' qs' (turnR ls s1 t a)) ∧ e = .returned (.bool true) ∧ Below base (wr.drewN N) w') := fun N => step_c (wr.drewN N) base gR gO gC gA co cc ca k K T M r1 sS sK cO cC cA qs s1 (begR s1 t (raw99 a) 0 0) askR tellR t (raw99 a) nilS 0 0 true (raw99 a) (I3.out.below (below_drawn (Below.refl _ _) _)) HTN.out (.inr ⟨HNEG.out, rfl, rfl⟩) HON.out ⟨Rd.nil _ _ none, fun b _ ad hn _ => absurd hn (Nat.lt_irrefl 0)⟩ (fun W q _ => ask99_c W k K T M (raw99 a) q rfl (Int.le_refl 0) (show (0 : Int) ≤ 18446744073709551615 by decide) N9.out.1 N9.out.2) HOK.out (fun W q was dn hr => (tell99_c W k K T M (raw99 a) q was dn rfl (Int.le_refl 0) (show (0 : Int) ≤ 18446744073709551615 by decide) N9.out.1 N9.out.2).mono (fun e W' he => ⟨q, he.1, (hr.below he.2).more he.2.size, he.2, fun _ _ h => h⟩)) HCALL.out HAT.out HCAP.out
            have HSTEP := Lib.hid hstep
            clear hstep
            refine Zreg.begin_ (S := (fun w' => (∀ j, w'.cell? ⟨gR, j, none⟩ = (#[.int .i64 k, .int .i64 K, .int .i64 T, .int .i64 M, .int .u64 r1.e, .int .u64 r1.f, .slice r1.L.A r1.L.n r1.L.c, .slice r1.P.A r1.P.n r1.P.c, .int .u64 r1.h, .int .u64 r1.t, .slice r1.K.A r1.K.n r1.K.c, .slice r1.X.A r1.X.n r1.X.c, .slice r1.S.A r1.S.n r1.S.c, .slice (some ⟨gO, 0, none⟩) T co, .slice (some ⟨gC, 0, none⟩) T cc, .slice (some ⟨gA, 0, none⟩) T ca, .slice sS.A sS.n sS.c, .slice sK.A sK.n sK.c, .int .u64 0, .int .u64 0, .slice none 0 0, .slice none 0 0, .int .u64 0, .int .u64 0, .slice none 0 0, .slice none 0 0, .slice none 0 0] : Array Value)[j]?) ∧ w'.cell? ⟨gA, t, none⟩ = some (.int .i64 n) ∧ w'.cell? ⟨b, off + t, none⟩ = some (.slice (some ⟨b2, off2, none⟩) l.length sac) ∧ w'.cell? ⟨b2, off2 + n * 5, none⟩ = some (.int .i64 a.d) ∧ w'.cell? ⟨b2, off2 + n * 5 + 1, none⟩ = some (.int .i64 a.ar) ∧ w'.cell? ⟨b2, off2 + n * 5 + 2, none⟩ = some (.int .i64 a.at_) ∧ w'.cell? ⟨b2, off2 + n * 5 + 3, none⟩ = some (.int .u64 a.old) ∧ w'.cell? ⟨b2, off2 + n * 5 + 4, none⟩ = some (.int .u64 a.new))) (zs := [16]) (by kernel_rfl) ?_
            show Zreg.After _ _ _ _ _ _ 17 #[false, false, false, false, false, false, false, false, false, false, false, false, false, false, false, false, false] _ _
            refine Zreg.takeP 0 73 (x := ?xp_0) rfl rfl (by kernel_rfl) (by kernel_rfl) (by kernel_rfl) (by kernel_rfl) (fun _ _ _ h => h) (.inr ⟨I3.out.hR.cell, hac, hsl, hb0, hb1, hb2', hb3, hb4⟩) (Or.inl ⟨by rfl, ?yp_0⟩) ?rp_0
            case yp_0 => (intro w _; go_simp <;> with_reducible rfl)
            simp only [List.setIfInBounds_toArray, List.set_cons_zero, List.set_cons_succ]
            refine Zreg.takeP 1 74 (x := ?xp_1) rfl rfl (by kernel_rfl) (by kernel_rfl) (by kernel_rfl) (by kernel_rfl) (fun _ _ _ h => h) (.inr ⟨I3.out.hR.cell, hac, hsl, hb0, hb1, hb2', hb3, hb4⟩) (Or.inl ⟨by rfl, ?yp_1⟩) ?rp_1
            case yp_1 => (intro w _; go_simp <;> with_reducible rfl)
            simp only [List.setIfInBounds_toArray, List.set_cons_zero, List.set_cons_succ]
            refine Zreg.takeP 2 75 (x := ?xp_2) rfl rfl (by kernel_rfl) (by kernel_rfl) (by kernel_rfl) (by kernel_rfl) (fun _ _ _ h => h) (.inr ⟨I3.out.hR.cell, hac, hsl, hb0, hb1, hb2', hb3, hb4⟩) (Or.inl ⟨by rfl, ?yp_2⟩) ?rp_2
            case yp_2 => (intro w _; go_simp <;> with_reducible rfl)
            simp only [List.setIfInBounds_toArray, List.set_cons_zero, List.set_cons_succ]
            refine Zreg.takeP 3 76 (x := ?xp_3) rfl rfl (by kernel_rfl) (by kernel_rfl) (by kernel_rfl) (by kernel_rfl) (fun _ _ _ h => h) (.inr ⟨I3.out.hR.cell, hac, hsl, hb0, hb1, hb2', hb3, hb4⟩) (Or.inl ⟨by rfl, ?yp_3⟩) ?rp_3
            case yp_3 => (intro w _; go_simp <;> with_reducible rfl)
            simp only [List.setIfInBounds_toArray, List.set_cons_zero, List.set_cons_succ]
            refine Zreg.takeP 4 77 (x := ?xp_4) rfl rfl (by kernel_rfl) (by kernel_rfl) (by kernel_rfl) (by kernel_rfl) (fun _ _ _ h => h) (.inr ⟨I3.out.hR.cell, hac, hsl, hb0, hb1, hb2', hb3, hb4⟩) (Or.inl ⟨by rfl, ?yp_4⟩) ?rp_4
            case yp_4 => (intro w _; go_simp <;> with_reducible rfl)
            simp only [List.setIfInBounds_toArray, List.set_cons_zero, List.set_cons_succ]
            refine Zreg.takeD 5 78 (x := ?xp_5) rfl rfl (by kernel_rfl) (by kernel_rfl) (by kernel_rfl) (by kernel_rfl) (by kernel_rfl) (by kernel_rfl) (by kernel_rfl) (fun _ _ _ h => h) (.inr ⟨I3.out.hR.cell, hac, hsl, hb0, hb1, hb2', hb3, hb4⟩) (Or.inl ⟨by rfl, ?yp_5⟩) ?rp_5
            case yp_5 => (intro w hSw; (try dsimp only at hSw); go_simp <;> with_reducible rfl)
            simp only [List.setIfInBounds_toArray, List.set_cons_zero, List.set_cons_succ]
            refine Zreg.takeP 6 79 (x := ?xp_6) rfl rfl (by kernel_rfl) (by kernel_rfl) (by kernel_rfl) (by kernel_rfl) (fun _ _ _ h => h) (.inr ⟨I3.out.hR.cell, hac, hsl, hb0, hb1, hb2', hb3, hb4⟩) (Or.inl ⟨by rfl, ?yp_6⟩) ?rp_6
            case yp_6 => (intro w _; go_simp <;> with_reducible rfl)
            simp only [List.setIfInBounds_toArray, List.set_cons_zero, List.set_cons_succ]
            refine Zreg.takeP 7 80 (x := ?xp_7) rfl rfl (by kernel_rfl) (by kernel_rfl) (by kernel_rfl) (by kernel_rfl) (fun _ _ _ h => h) (.inr ⟨I3.out.hR.cell, hac, hsl, hb0, hb1, hb2', hb3, hb4⟩) (Or.inl ⟨by rfl, ?yp_7⟩) ?rp_7
            case yp_7 => (intro w _; go_simp <;> with_reducible rfl)
            simp only [List.setIfInBounds_toArray, List.set_cons_zero, List.set_cons_succ]
            refine Zreg.takeP 8 81 (x := ?xp_8) rfl rfl (by kernel_rfl) (by kernel_rfl) (by kernel_rfl) (by kernel_rfl) (fun _ _ _ h => h) (.inr ⟨I3.out.hR.cell, hac, hsl, hb0, hb1, hb2', hb3, hb4⟩) (Or.inl ⟨by rfl, ?yp_8⟩) ?rp_8
            case yp_8 => (intro w _; go_simp <;> with_reducible rfl)
            simp only [List.setIfInBounds_toArray, List.set_cons_zero, List.set_cons_succ]
            refine Zreg.takeD 9 82 (x := ?xp_9) rfl rfl (by kernel_rfl) (by kernel_rfl) (by kernel_rfl) (by kernel_rfl) (by kernel_rfl) (by kernel_rfl) (by kernel_rfl) (fun _ _ _ h => h) (.inr ⟨I3.out.hR.cell, hac, hsl, hb0, hb1, hb2', hb3, hb4⟩) (Or.inl ⟨by rfl, ?yp_9⟩) ?rp_9
            case yp_9 => (intro w hSw; (try dsimp only at hSw); go_simp <;> with_reducible rfl)
            simp only [List.setIfInBounds_toArray, List.set_cons_zero, List.set_cons_succ]
            refine Zreg.takeP 10 83 (x := ?xp_10) rfl rfl (by kernel_rfl) (by kernel_rfl) (by kernel_rfl) (by kernel_rfl) (fun _ _ _ h => h) (.inr ⟨I3.out.hR.cell, hac, hsl, hb0, hb1, hb2', hb3, hb4⟩) (Or.inl ⟨by rfl, ?yp_10⟩) ?rp_10
            case yp_10 => (intro w _; go_simp <;> with_reducible rfl)
            simp only [List.setIfInBounds_toArray, List.set_cons_zero, List.set_cons_succ]
            refine Zreg.takeP 11 84 (x := ?xp_11) rfl rfl (by kernel_rfl) (by kernel_rfl) (by kernel_rfl) (by kernel_rfl) (fun _ _ _ h => h) (.inr ⟨I3.out.hR.cell, hac, hsl, hb0, hb1, hb2', hb3, hb4⟩) (Or.inl ⟨by rfl, ?yp_11⟩) ?rp_11
            case yp_11 => (intro w _; go_simp <;> with_reducible rfl)
            simp only [List.setIfInBounds_toArray, List.set_cons_zero, List.set_cons_succ]
            refine Zreg.takeD 12 85 (x := ?xp_12) rfl rfl (by kernel_rfl) (by kernel_rfl) (by kernel_rfl) (by kernel_rfl) (by kernel_rfl) (by kernel_rfl) (by kernel_rfl) (fun _ _ _ h => h) (.inr ⟨I3.out.hR.cell, hac, hsl, hb0, hb1, hb2', hb3, hb4⟩) (Or.inl ⟨by rfl, ?yp_12⟩) ?rp_12
            case yp_12 => (intro w hSw; (try dsimp only at hSw); go_simp <;> with_reducible rfl)
            simp only [List.setIfInBounds_toArray, List.set_cons_zero, List.set_cons_succ]
            refine Zreg.takeP 13 86 (x := ?xp_13) rfl rfl (by kernel_rfl) (by kernel_rfl) (by kernel_rfl) (by kernel_rfl) (fun _ _ _ h => h) (.inr ⟨I3.out.hR.cell, hac, hsl, hb0, hb1, hb2', hb3, hb4⟩) (Or.inl ⟨by rfl, ?yp_13⟩) ?rp_13
            case yp_13 => (intro w _; go_simp <;> with_reducible rfl)
            simp only [List.setIfInBounds_toArray, List.set_cons_zero, List.set_cons_succ]
            refine Zreg.takeD 14 87 (x := ?xp_14) rfl rfl (by kernel_rfl) (by kernel_rfl) (by kernel_rfl) (by kernel_rfl) (by kernel_rfl) (by kernel_rfl) (by kernel_rfl) (fun _ _ _ h => h) (.inr ⟨I3.out.hR.cell, hac, hsl, hb0, hb1, hb2', hb3, hb4⟩) (Or.inl ⟨by rfl, ?yp_14⟩) ?rp_14
            case yp_14 => (intro w hSw; (try dsimp only at hSw); go_simp <;> with_reducible rfl)
            simp only [List.setIfInBounds_toArray, List.set_cons_zero, List.set_cons_succ]
            refine Zreg.takeP 15 88 (x := ?xp_15) rfl rfl (by kernel_rfl) (by kernel_rfl) (by kernel_rfl) (by kernel_rfl) (fun _ _ _ h => h) (.inr ⟨I3.out.hR.cell, hac, hsl, hb0, hb1, hb2', hb3, hb4⟩) (Or.inl ⟨by rfl, ?yp_15⟩) ?rp_15
            case yp_15 => (intro w _; go_simp <;> with_reducible rfl)
            simp only [List.setIfInBounds_toArray, List.set_cons_zero, List.set_cons_succ]
            refine Zreg.one 16 (by kernel_rfl) rfl rfl fun K_ hK => ?_
            go_simp
            go_at_call 56
            (with_reducible refine (HSTEP.out _).mono ?_)
            rintro e w6 ⟨⟨r2, sS2, sK2, cO2, cC2, cA2, qs2, hi2⟩, rfl, hb⟩
            have I6 := Lib.hid hi2
            have B6 := Lib.hid hb
            clear hi2 hb
            refine hK.out _ _ (.inl (by kernel_rfl)) fun _ => ?_
            clear hK
            simp only [List.setIfInBounds_toArray, List.set_cons_zero, List.set_cons_succ]
            refine Zreg.done (by kernel_rfl) ?_ _
            go_wp2
            go_roundw
            case rel =>
              have hTL := turn_len (runs ⟨newM k K T M, ls, [], []⟩ (ps.take j)) t
              exact ⟨j + 1, r2, sS2, sK2, cO2, cC2, cA2, qs2, turnR ls s1 t a, by go_num, hlt, I6.out, (by rw [runs_take HPJ.out]; exact SM.out.went HLL.out HAT0.out HA.out), (by rw [runs_take HPJ.out]; exact Nat.le_trans hTL.1 (Nat.succ_le_succ HST.out)), (by rw [runs_take HPJ.out]; exact Nat.le_trans hTL.2 (Nat.succ_le_succ HCA.out)), Blk.below (C3.out.below (below_drawn (Below.refl _ _) _) C3.out.lt) B6.out (by have := BS.out; omega), Blk.below (Y3.out.below (below_drawn (Below.refl _ _) _) Y3.out.lt) B6.out (by have := BS.out; omega), (below_drawn W3.out _).trans (B6.out.mono (by have := BS.out; omega))⟩
            case measure => simp [intOf]; omega
          · have n1 : ¬ (n : Int) < l.length := by omega
            have HNI := Lib.hid (Nat.le_of_not_lt hnl)
            have hidle : ∀ N : Nat, Calls Try.prog 56 #[.pointer (some ⟨gR, 0, none⟩), .int .i64 t, .agg #[.int .i64 0, .int .u32 0, .int .i64 0, .int .i64 0, .int .i64 0, .int .u64 0, .int .u64 0, .int .u64 0, .int .u64 0, .int .i64 0, .slice none 0 0, .bool false, .int .u64 0, .int .u64 0, .int .i64 0, .int .u32 0, .int .i64 0, .int .i64 0, .int .i64 0, .int .i64 0, .int .u64 0, .int .u64 0, .int .i64 0, .int .u32 0], .int .i64 0, .int .u32 0, .bool false] (wr.drewN N) (fun e w' => Ir w' base gR gO gC gA co cc ca k K T M r1 sS sK cO cC cA qs s1 ∧ e = .returned (.bool false) ∧ Below base (wr.drewN N) w') := fun N => step_idle (wr.drewN N) base gR gO gC gA co cc ca k K T M r1 sS sK cO cC cA qs s1 t FS.none nilS 0 0 (-1) (I3.out.below (below_drawn (Below.refl _ _) _)) HTN.out (by rw [SM.out.call, List.getElem?_replicate, if_pos (by rw [← HLS.out]; exact HTN.out)]) (by decide)
            have HIDLE := Lib.hid hidle
            clear hidle
            go_wp2
            go_quiet (fail)
            go_wp2_with (go_at_call 56; (with_reducible refine (HIDLE.out _).mono ?_); rintro e w6 ⟨hi2, rfl, hb⟩; go_must (have I6 := Lib.hid hi2; have B6 := Lib.hid hb); clear hi2 hb)
            go_roundw
            case rel => exact ⟨j + 1, r1, sS, sK, cO, cC, cA, qs, s1, by go_num, hlt, I6.out, (by rw [runs_take HPJ.out, SM.out.idle HLL.out HAT0.out HNI.out]; exact SM.out), (by rw [runs_take HPJ.out, SM.out.idle HLL.out HAT0.out HNI.out]; exact Nat.le_succ_of_le HST.out), (by rw [runs_take HPJ.out, SM.out.idle HLL.out HAT0.out HNI.out]; exact Nat.le_succ_of_le HCA.out), Blk.below (C3.out.below (below_drawn (Below.refl _ _) _) C3.out.lt) B6.out (by have := BS.out; omega), Blk.below (Y3.out.below (below_drawn (Below.refl _ _) _) Y3.out.lt) B6.out (by have := BS.out; omega), (below_drawn W3.out _).trans (B6.out.mono (by have := BS.out; omega))⟩
            case measure => simp [intOf]; omega
    · obtain rfl : j = pn := by omega
      have hr3 := I3.out.hR.cell
      have hr3f := I3.out.hR.frozen
      go_upto_region 19 with fail
      have O4 : Hid (Only (fun g => g = gR) wr (((((((((wr.setCell ⟨gR, 18, none⟩ (.int .u64 r1.e)).setCell ⟨gR, 19, none⟩ (.int .u64 r1.f)).setCell ⟨gR, 20, none⟩ (.slice r1.L.A r1.L.n r1.L.c)).setCell ⟨gR, 21, none⟩ (.slice r1.P.A r1.P.n r1.P.c)).setCell ⟨gR, 22, none⟩ (.int .u64 r1.h)).setCell ⟨gR, 23, none⟩ (.int .u64 r1.t)).setCell ⟨gR, 24, none⟩ (.slice r1.K.A r1.K.n r1.K.c)).setCell ⟨gR, 25, none⟩ (.slice r1.X.A r1.X.n r1.X.c)).setCell ⟨gR, 26, none⟩ (.slice r1.S.A r1.S.n r1.S.c))) := Lib.hid (Only.set_ (Only.set_ (Only.set_ (Only.set_ (Only.set_ (Only.set_ (Only.set_ (Only.set_ (Only.set_ (Only.refl (fun g => g = gR) wr) ⟨gR, 18, none⟩ (.inl rfl) (.int .u64 r1.e)) ⟨gR, 19, none⟩ (.inl rfl) (.int .u64 r1.f)) ⟨gR, 20, none⟩ (.inl rfl) (.slice r1.L.A r1.L.n r1.L.c)) ⟨gR, 21, none⟩ (.inl rfl) (.slice r1.P.A r1.P.n r1.P.c)) ⟨gR, 22, none⟩ (.inl rfl) (.int .u64 r1.h)) ⟨gR, 23, none⟩ (.inl rfl) (.int .u64 r1.t)) ⟨gR, 24, none⟩ (.inl rfl) (.slice r1.K.A r1.K.n r1.K.c)) ⟨gR, 25, none⟩ (.inl rfl) (.slice r1.X.A r1.X.n r1.X.c)) ⟨gR, 26, none⟩ (.inl rfl) (.slice r1.S.A r1.S.n r1.S.c))
      have R4 : Hid (Blk (((((((((wr.setCell ⟨gR, 18, none⟩ (.int .u64 r1.e)).setCell ⟨gR, 19, none⟩ (.int .u64 r1.f)).setCell ⟨gR, 20, none⟩ (.slice r1.L.A r1.L.n r1.L.c)).setCell ⟨gR, 21, none⟩ (.slice r1.P.A r1.P.n r1.P.c)).setCell ⟨gR, 22, none⟩ (.int .u64 r1.h)).setCell ⟨gR, 23, none⟩ (.int .u64 r1.t)).setCell ⟨gR, 24, none⟩ (.slice r1.K.A r1.K.n r1.K.c)).setCell ⟨gR, 25, none⟩ (.slice r1.X.A r1.X.n r1.X.c)).setCell ⟨gR, 26, none⟩ (.slice r1.S.A r1.S.n r1.S.c)) gR 106 #[.int .i64 k, .int .i64 K, .int .i64 T, .int .i64 M, .int .u64 r1.e, .int .u64 r1.f, .slice r1.L.A r1.L.n r1.L.c, .slice r1.P.A r1.P.n r1.P.c, .int .u64 r1.h, .int .u64 r1.t, .slice r1.K.A r1.K.n r1.K.c, .slice r1.X.A r1.X.n r1.X.c, .slice r1.S.A r1.S.n r1.S.c, .slice (some ⟨gO, 0, none⟩) T co, .slice (some ⟨gC, 0, none⟩) T cc, .slice (some ⟨gA, 0, none⟩) T ca, .slice sS.A sS.n sS.c, .slice sK.A sK.n sK.c, .int .u64 r1.e, .int .u64 r1.f, .slice r1.L.A r1.L.n r1.L.c, .slice r1.P.A r1.P.n r1.P.c, .int .u64 r1.h, .int .u64 r1.t, .slice r1.K.A r1.K.n r1.K.c, .slice r1.X.A r1.X.n r1.X.c, .slice r1.S.A r1.S.n r1.S.c]) := Lib.hid (by
        have h_ := (Blk.set_ (Blk.set_ (Blk.set_ (Blk.set_ (Blk.set_ (Blk.set_ (Blk.set_ (Blk.set_ (Blk.set_ I3.out.hR 18 (.int .u64 r1.e)) 19 (.int .u64 r1.f)) 20 (.slice r1.L.A r1.L.n r1.L.c)) 21 (.slice r1.P.A r1.P.n r1.P.c)) 22 (.int .u64 r1.h)) 23 (.int .u64 r1.t)) 24 (.slice r1.K.A r1.K.n r1.K.c)) 25 (.slice r1.X.A r1.X.n r1.X.c)) 26 (.slice r1.S.A r1.S.n r1.S.c))
        simpa only [List.setIfInBounds_toArray, List.set_cons_zero, List.set_cons_succ] using h_)
      have Y4 := Lib.hid (Blk.only Y3.out O4.out (Blk.ne Y3.out I3.out.hR (by decide)))
      clear hr3 hr3f
      generalize (((((((((wr.setCell ⟨gR, 18, none⟩ (.int .u64 r1.e)).setCell ⟨gR, 19, none⟩ (.int .u64 r1.f)).setCell ⟨gR, 20, none⟩ (.slice r1.L.A r1.L.n r1.L.c)).setCell ⟨gR, 21, none⟩ (.slice r1.P.A r1.P.n r1.P.c)).setCell ⟨gR, 22, none⟩ (.int .u64 r1.h)).setCell ⟨gR, 23, none⟩ (.int .u64 r1.t)).setCell ⟨gR, 24, none⟩ (.slice r1.K.A r1.K.n r1.K.c)).setCell ⟨gR, 25, none⟩ (.slice r1.X.A r1.X.n r1.X.c)).setCell ⟨gR, 26, none⟩ (.slice r1.S.A r1.S.n r1.S.c)) = V4 at O4 R4 Y4 ⊢
      have hr4 := R4.out.cell
      have hy4 := Y4.out.cell
      have hy4f := Y4.out.frozen
      go_wp2
      have O5 : Hid (Only (fun g => g = w.heap.size + 1) V4 (((((((((((V4.setCell ⟨w.heap.size + 1, 0, none⟩ (.slice sS.A sS.n sS.c)).setCell ⟨w.heap.size + 1, 1, none⟩ (.slice sK.A sK.n sK.c)).setCell ⟨w.heap.size + 1, 2, none⟩ (.int .u64 r1.e)).setCell ⟨w.heap.size + 1, 3, none⟩ (.int .u64 r1.f)).setCell ⟨w.heap.size + 1, 4, none⟩ (.slice r1.L.A r1.L.n r1.L.c)).setCell ⟨w.heap.size + 1, 5, none⟩ (.slice r1.P.A r1.P.n r1.P.c)).setCell ⟨w.heap.size + 1, 6, none⟩ (.int .u64 r1.h)).setCell ⟨w.heap.size + 1, 7, none⟩ (.int .u64 r1.t)).setCell ⟨w.heap.size + 1, 8, none⟩ (.slice r1.K.A r1.K.n r1.K.c)).setCell ⟨w.heap.size + 1, 9, none⟩ (.slice r1.X.A r1.X.n r1.X.c)).setCell ⟨w.heap.size + 1, 10, none⟩ (.slice r1.S.A r1.S.n r1.S.c))) := Lib.hid (Only.set_ (Only.set_ (Only.set_ (Only.set_ (Only.set_ (Only.set_ (Only.set_ (Only.set_ (Only.set_ (Only.set_ (Only.set_ (Only.refl (fun g => g = w.heap.size + 1) V4) ⟨w.heap.size + 1, 0, none⟩ (.inl rfl) (.slice sS.A sS.n sS.c)) ⟨w.heap.size + 1, 1, none⟩ (.inl rfl) (.slice sK.A sK.n sK.c)) ⟨w.heap.size + 1, 2, none⟩ (.inl rfl) (.int .u64 r1.e)) ⟨w.heap.size + 1, 3, none⟩ (.inl rfl) (.int .u64 r1.f)) ⟨w.heap.size + 1, 4, none⟩ (.inl rfl) (.slice r1.L.A r1.L.n r1.L.c)) ⟨w.heap.size + 1, 5, none⟩ (.inl rfl) (.slice r1.P.A r1.P.n r1.P.c)) ⟨w.heap.size + 1, 6, none⟩ (.inl rfl) (.int .u64 r1.h)) ⟨w.heap.size + 1, 7, none⟩ (.inl rfl) (.int .u64 r1.t)) ⟨w.heap.size + 1, 8, none⟩ (.inl rfl) (.slice r1.K.A r1.K.n r1.K.c)) ⟨w.heap.size + 1, 9, none⟩ (.inl rfl) (.slice r1.X.A r1.X.n r1.X.c)) ⟨w.heap.size + 1, 10, none⟩ (.inl rfl) (.slice r1.S.A r1.S.n r1.S.c))
      have Y5 : Hid (Blk (((((((((((V4.setCell ⟨w.heap.size + 1, 0, none⟩ (.slice sS.A sS.n sS.c)).setCell ⟨w.heap.size + 1, 1, none⟩ (.slice sK.A sK.n sK.c)).setCell ⟨w.heap.size + 1, 2, none⟩ (.int .u64 r1.e)).setCell ⟨w.heap.size + 1, 3, none⟩ (.int .u64 r1.f)).setCell ⟨w.heap.size + 1, 4, none⟩ (.slice r1.L.A r1.L.n r1.L.c)).setCell ⟨w.heap.size + 1, 5, none⟩ (.slice r1.P.A r1.P.n r1.P.c)).setCell ⟨w.heap.size + 1, 6, none⟩ (.int .u64 r1.h)).setCell ⟨w.heap.size + 1, 7, none⟩ (.int .u64 r1.t)).setCell ⟨w.heap.size + 1, 8, none⟩ (.slice r1.K.A r1.K.n r1.K.c)).setCell ⟨w.heap.size + 1, 9, none⟩ (.slice r1.X.A r1.X.n r1.X.c)).setCell ⟨w.heap.size + 1, 10, none⟩ (.slice r1.S.A r1.S.n r1.S.c)) (w.heap.size + 1) 54 #[.slice sS.A sS.n sS.c, .slice sK.A sK.n sK.c, .int .u64 r1.e, .int .u64 r1.f, .slice r1.L.A r1.L.n r1.L.c, .slice r1.P.A r1.P.n r1.P.c, .int .u64 r1.h, .int .u64 r1.t, .slice r1.K.A r1.K.n r1.K.c, .slice r1.X.A r1.X.n r1.X.c, .slice r1.S.A r1.S.n r1.S.c]) := Lib.hid (by
        have h_ := (Blk.set_ (Blk.set_ (Blk.set_ (Blk.set_ (Blk.set_ (Blk.set_ (Blk.set_ (Blk.set_ (Blk.set_ (Blk.set_ (Blk.set_ Y4.out 0 (.slice sS.A sS.n sS.c)) 1 (.slice sK.A sK.n sK.c)) 2 (.int .u64 r1.e)) 3 (.int .u64 r1.f)) 4 (.slice r1.L.A r1.L.n r1.L.c)) 5 (.slice r1.P.A r1.P.n r1.P.c)) 6 (.int .u64 r1.h)) 7 (.int .u64 r1.t)) 8 (.slice r1.K.A r1.K.n r1.K.c)) 9 (.slice r1.X.A r1.X.n r1.X.c)) 10 (.slice r1.S.A r1.S.n r1.S.c))
        simpa only [List.setIfInBounds_toArray, List.set_cons_zero, List.set_cons_succ] using h_)
      clear hr4 hy4 hy4f
      generalize (((((((((((V4.setCell ⟨w.heap.size + 1, 0, none⟩ (.slice sS.A sS.n sS.c)).setCell ⟨w.heap.size + 1, 1, none⟩ (.slice sK.A sK.n sK.c)).setCell ⟨w.heap.size + 1, 2, none⟩ (.int .u64 r1.e)).setCell ⟨w.heap.size + 1, 3, none⟩ (.int .u64 r1.f)).setCell ⟨w.heap.size + 1, 4, none⟩ (.slice r1.L.A r1.L.n r1.L.c)).setCell ⟨w.heap.size + 1, 5, none⟩ (.slice r1.P.A r1.P.n r1.P.c)).setCell ⟨w.heap.size + 1, 6, none⟩ (.int .u64 r1.h)).setCell ⟨w.heap.size + 1, 7, none⟩ (.int .u64 r1.t)).setCell ⟨w.heap.size + 1, 8, none⟩ (.slice r1.K.A r1.K.n r1.K.c)).setCell ⟨w.heap.size + 1, 9, none⟩ (.slice r1.X.A r1.X.n r1.X.c)).setCell ⟨w.heap.size + 1, 10, none⟩ (.slice r1.S.A r1.S.n r1.S.c)) = V5 at O5 Y5 ⊢
      obtain ⟨d, hd⟩ : ∃ d, d = runs ⟨newM k K T M, ls, [], []⟩ ps := ⟨_, rfl⟩
      have SM2 : Sim ls d s1 := by
        have h_ := SM.out
        rw [List.take_of_length_le (by have := HPL.out; omega)] at h_
        rw [hd]; exact h_
      have HG : Drivec.Good (newM k K T M) (ps.map Prod.fst) d := by rw [hd]; exact good_run k K T M m2 m1 ls HOKS.out (newM_ok k K T M m2) ps
      have HO : Only (fun g => g = gR ∨ g = w.heap.size + 1) wr V5 := Only.next (O4.out.mono (fun g hg => .inl hg)) O5.out (fun k_ _ e => .inr e)
      have hbs := BS.out
      have hne : ∀ {E : TypeId} {size n : Nat} {q : Sl} {xs : List Value}, Row wr base E size q n xs → E ≠ 106 → ∀ g, bl q g → ¬ (g = gR ∨ g = w.heap.size + 1) := fun hr he g hg e => by
        rcases e with e | e
        · exact hr.ne I3.out.hR he g hg e
        · have := (hr.lt hg).1; omega
      have hS5 := I3.out.hS.only HO (hne I3.out.hS (by decide))
      have hK5 := I3.out.hK.only HO (hne I3.out.hK (by decide))
      have hm5 : Rm V5 V5.heap.size r1 s1.m := Rm.only I3.out.hm HO (Nat.le_refl _) (fun b hb => by
        rcases hb with e | e
        · exact I3.out.offm b (.inl e)
        · exact I3.out.offb b (by omega))
      rw [SM2.steps] at hS5
      rw [SM2.calls, List.length_map, flatK_ck] at hK5
      rw [SM2.m] at hm5
      rw [← hd]
      refine bodyPost_ret (results_cell2 (a := 6) (b := 7) Try.results29 rfl (resTr Y5.out rfl)) rfl ?_
      exact ⟨r1, sS, sK, rfl, hm5, row_rds hS5 HG.sok, row_rdk hK5, W3.out.trans (HO.below W3.out.size (fun g hg => by
        rcases hg with e | e
        · have := I3.out.low.2.1; omega
        · omega))⟩

end Go.Proofs.Ytjgbgjkjnlaloaa.Machc
