/- Where calls only take, in whatever order, no segment is taken twice, and the free list has all others; NoMem is told just where at some access of the call the list is empty (P4.3). No condition. · Where calls only take: the law's walk, the run being granted. · ArenaOnce, where there are too many calls or picks, or others than Take, or a ring's config, or the run is refused. -/
import Derived.Test.YtffppdcpiieapaaQ15
import Derived.Test.YtffppdcpiieapaaQ16
import Derived.Test.YtffppdcpiieapaaQ17
import Derived.Test.YtffppdcpiieapaaQ19
import Derived.Test.YtffppdcpiieapaaQ32
namespace Go.Proofs.Ytffppdcpiieapaa.Machc
open Go.RowKit Go.Proofs.Ytffppdcpiieapaa.Memc Go.Proofs.Ytffppdcpiieapaa.Newc Go.Proofs.Ytffppdcpiieapaa.Drivec Go.Proofs.Ytffppdcpiieapaa.Procc Go.Proofs.Ytffppdcpiieapaa.Arenac Go.Proofs.Ytffppdcpiieapaa.Refc
set_option linter.unusedVariables false
set_option maxRecDepth 100000

set_option maxHeartbeats 4000000 in
theorem once_yes (w : World) (k : Int) (K T M h : Nat) (sA : Option Addr) (sn sc : Nat) (pA : Option Addr) (pn pc : Nat) (rs : RS) (fl : List Int) (hk : k = 1 ∧ h = 1 ∨ k = 3 ∧ h = 0) (m1 : 2 ≤ M) (m2 : M ≤ 64) (hlk : rs.m.lk.length = M) (hE : OnceE h M rs fl) (hso : ∀ st, st ∈ rs.steps → 0 ≤ st.was) (hz : ∀ W, Below w.heap.size w W → Calls Try.prog 15 #[.slice sA sn sc, .slice pA pn pc, .int .i64 1000] W fun e w' => e = .returned (.bool true) ∧ W = w')
    (hy : ∀ W, Below w.heap.size w W → Calls Try.prog 18 #[.slice sA sn sc, .int .i64 4, .int .i64 4, .int .u32 4294967295] W fun e w' => e = .returned (.bool true) ∧ W = w') (hk2 : (k == 2) = false)
    (hA : ∀ W, Below w.heap.size w W → Calls Try.prog 16 #[.agg #[.int .i64 k, .int .i64 K, .int .i64 T, .int .i64 M], .slice sA sn sc, .slice pA pn pc] W (RanL W rs)) :
    Calls Try.prog 5 #[.agg #[.int .i64 k, .int .i64 K, .int .i64 T, .int .i64 M], .slice sA sn sc, .slice pA pn pc] w fun e w' => e = .returned (.bool true) ∧ Below w.heap.size w w' := by
  have HA := Lib.hid hA
  have HE := Lib.hid hE
  have hhM : h ≤ M := by omega
  have HSO := Lib.hid hso
  clear hA hE hso
  have C0 : Hid (Blk (w.alloc (.cells #[.int .i64 k, .int .i64 K, .int .i64 T, .int .i64 M] 23)) w.heap.size 23 #[.int .i64 k, .int .i64 K, .int .i64 T, .int .i64 M]) := Lib.hid (Blk.new _ _ _)
  have W0 : Hid (Below w.heap.size w (w.alloc (.cells #[.int .i64 k, .int .i64 K, .int .i64 T, .int .i64 M] 23))) := Lib.hid ((Below.refl _ _).alloc (Nat.le_refl _) _)
  have HZ := Lib.hid hz
  have HY := Lib.hid hy
  clear hz hy
  go_enter Try.func5, Try.ntmps5
  go_upto_region 5 with (first
    | (go_at_call 14; (with_reducible refine (awake4_c _).mono ?_); rintro e w1 ⟨rfl, hb⟩; go_must (have C1 := Lib.hid (C0.out.below hb C0.out.lt); have W1 := Lib.hid (W0.out.trans (hb.mono W0.out.size))); have hc1 := C1.out.cell; clear hb)
    | (go_at_call 15; (with_reducible refine (HZ.out _ W1.out).mono ?_); rintro e w2 ⟨rfl, rfl⟩)
    | (go_at_call 18; (with_reducible refine (HY.out _ W1.out).mono ?_); rintro e w2 ⟨rfl, rfl⟩))
  clear C0 W0 HZ HY
  go_upto_region 6 with (go_at_call 16; (with_reducible refine (HA.out _ W1.out).mono ?_); rintro e w2 ⟨r, sS, sK, base, rfl, hS, hK, hE, hb⟩; go_must (have W2 := Lib.hid (W1.out.trans (hb.mono W1.out.size)); have C2 := Lib.hid (C1.out.below hb C1.out.lt); have S2 := Lib.hid hS; have K2 := Lib.hid hK; have E2 := Lib.hid hE); clear hb hc1 hS hK hE)
  have bb : Below w2.heap.size w2 (w2.alloc (.cells #[.slice sS.A sS.n sS.c, .slice sK.A sK.n sK.c, .int .u64 r.e, .int .u64 r.f, .slice r.L.A r.L.n r.L.c, .slice r.P.A r.P.n r.P.c, .int .u64 r.h, .int .u64 r.t, .slice r.K.A r.K.n r.K.c, .slice r.X.A r.X.n r.X.c, .slice r.S.A r.S.n r.S.c] 35)) := (Below.refl _ _).alloc (Nat.le_refl _) _
  have X3 : Hid (Blk (w2.alloc (.cells #[.slice sS.A sS.n sS.c, .slice sK.A sK.n sK.c, .int .u64 r.e, .int .u64 r.f, .slice r.L.A r.L.n r.L.c, .slice r.P.A r.P.n r.P.c, .int .u64 r.h, .int .u64 r.t, .slice r.K.A r.K.n r.K.c, .slice r.X.A r.X.n r.X.c, .slice r.S.A r.S.n r.S.c] 35)) w2.heap.size 35 #[.slice sS.A sS.n sS.c, .slice sK.A sK.n sK.c, .int .u64 r.e, .int .u64 r.f, .slice r.L.A r.L.n r.L.c, .slice r.P.A r.P.n r.P.c, .int .u64 r.h, .int .u64 r.t, .slice r.K.A r.K.n r.K.c, .slice r.X.A r.X.n r.X.c, .slice r.S.A r.S.n r.S.c]) := Lib.hid (Blk.new _ _ _)
  have W3 := Lib.hid (W2.out.alloc W2.out.size (.cells #[.slice sS.A sS.n sS.c, .slice sK.A sK.n sK.c, .int .u64 r.e, .int .u64 r.f, .slice r.L.A r.L.n r.L.c, .slice r.P.A r.P.n r.P.c, .int .u64 r.h, .int .u64 r.t, .slice r.K.A r.K.n r.K.c, .slice r.X.A r.X.n r.X.c, .slice r.S.A r.S.n r.S.c] 35))
  have C3 := Lib.hid (C2.out.alloc (.cells #[.slice sS.A sS.n sS.c, .slice sK.A sK.n sK.c, .int .u64 r.e, .int .u64 r.f, .slice r.L.A r.L.n r.L.c, .slice r.P.A r.P.n r.P.c, .int .u64 r.h, .int .u64 r.t, .slice r.K.A r.K.n r.K.c, .slice r.X.A r.X.n r.X.c, .slice r.S.A r.S.n r.S.c] 35))
  have S3 := Lib.hid (Row.alloc S2.out (.cells #[.slice sS.A sS.n sS.c, .slice sK.A sK.n sK.c, .int .u64 r.e, .int .u64 r.f, .slice r.L.A r.L.n r.L.c, .slice r.P.A r.P.n r.P.c, .int .u64 r.h, .int .u64 r.t, .slice r.K.A r.K.n r.K.c, .slice r.X.A r.X.n r.X.c, .slice r.S.A r.S.n r.S.c] 35))
  have K3 := Lib.hid (Row.alloc K2.out (.cells #[.slice sS.A sS.n sS.c, .slice sK.A sK.n sK.c, .int .u64 r.e, .int .u64 r.f, .slice r.L.A r.L.n r.L.c, .slice r.P.A r.P.n r.P.c, .int .u64 r.h, .int .u64 r.t, .slice r.K.A r.K.n r.K.c, .slice r.X.A r.X.n r.X.c, .slice r.S.A r.S.n r.S.c] 35))
  have E3 := Lib.hid (E2.out.alloc (.cells #[.slice sS.A sS.n sS.c, .slice sK.A sK.n sK.c, .int .u64 r.e, .int .u64 r.f, .slice r.L.A r.L.n r.L.c, .slice r.P.A r.P.n r.P.c, .int .u64 r.h, .int .u64 r.t, .slice r.K.A r.K.n r.K.c, .slice r.X.A r.X.n r.X.c, .slice r.S.A r.S.n r.S.c] 35))
  clear W2 C2 S2 K2 E2 bb C1 W1 HA
  generalize w2.heap.size = gA at X3 ⊢
  generalize w2.alloc (.cells #[.slice sS.A sS.n sS.c, .slice sK.A sK.n sK.c, .int .u64 r.e, .int .u64 r.f, .slice r.L.A r.L.n r.L.c, .slice r.P.A r.P.n r.P.c, .int .u64 r.h, .int .u64 r.t, .slice r.K.A r.K.n r.K.c, .slice r.X.A r.X.n r.X.c, .slice r.S.A r.S.n r.S.c] 35) = V3 at X3 W3 C3 S3 K3 E3 ⊢
  have hcc := C3.out.cell
  have hxx := X3.out.cell
  obtain ⟨gN, hNA, hNlt, hNc⟩ := own_cells (E3.out.2.2 7 (.inr (.inr (.inl rfl)))) (show 0 < rs.m.lk.length by omega)
  have hNn : r.K.n = rs.m.lk.length := (Own.n_ (E3.out.2.2 7 (.inr (.inr (.inl rfl))))).1
  have hNA' : r.K.A = some ⟨gN, 0, none⟩ := hNA
  have hNm : rs.m.lk.length ≤ maxLen := by unfold maxLen; omega
  have HNU : Hid (u64s rs.m.lk) := Lib.hid (E3.out.2.2 7 (.inr (.inr (.inl rfl)))).1
  have hrf : r.f = rs.m.f := E3.out.1.2.1
  obtain ⟨hf0, hf1⟩ : 0 ≤ rs.m.f ∧ rs.m.f ≤ 18446744073709551615 := E3.out.2.1 2 rs.m.f (by show rs.m.f ∈ [rs.m.f]; simp)
  have hlo0 : 0 ≤ lo rs.m.f := by unfold lo; omega
  have hlo1 : lo rs.m.f ≤ 4294967295 := by unfold lo; omega
  have hcv : IntKind.u32.wrap (rs.m.f.tmod 4294967296) = lo rs.m.f := by rw [IntKind.wrap_u32, Int.tmod_eq_emod_of_nonneg hf0]; unfold lo; omega
  have hcw : rs.m.f % 4294967296 % 4294967296 = lo rs.m.f := by unfold lo; omega
  have hcw1 : rs.m.f % 4294967296 = lo rs.m.f := rfl
  have hcw2 : lo rs.m.f % 4294967296 = lo rs.m.f := by unfold lo; omega
  have hmk := fun W => run_mkB M m2 W
  have hM0 : (0 : Int) ≤ M := Int.natCast_nonneg _
  have U4 : Hid (Blk (V3.alloc (.cells (marksA M []) 4)) V3.heap.size 4 (marksA M [])) := Lib.hid (Blk.new _ _ _)
  have B4 : Hid (Below V3.heap.size V3 (V3.alloc (.cells (marksA M []) 4))) := Lib.hid ((Below.refl _ _).alloc (Nat.le_refl _) _)
  have HNC : Hid (∀ (j : Nat) (x : Int), rs.m.lk[j]? = some x → (V3.alloc (.cells (marksA M []) 4)).cell? ⟨gN, j, none⟩ = some (.int .u64 x)) := Lib.hid (fun j x hx => (B4.out.cell (p := ⟨gN, j, none⟩) hNlt).trans (hNc j x hx))
  have hNd : gN < (V3.alloc (.cells (marksA M []) 4)).heap.size := Nat.lt_of_lt_of_le hNlt B4.out.size
  clear hNA hNc E3 hlk
  go_upto_region 9 with fail
  have X4 := Lib.hid (X3.out.below B4.out X3.out.lt)
  have C4 := Lib.hid (C3.out.below B4.out C3.out.lt)
  have S4 := Lib.hid (S3.out.below B4.out (Nat.le_refl _))
  have K4 := Lib.hid (K3.out.below B4.out (Nat.le_refl _))
  have G4 : Hid (w.heap.size ≤ V3.heap.size) := Lib.hid W3.out.size
  have W4 := Lib.hid (W3.out.trans (B4.out.mono W3.out.size))
  clear hcc hxx X3 C3 S3 K3 W3 B4 hmk hNlt
  generalize V3.heap.size = gU at U4 G4 ⊢
  generalize V3.alloc (.cells (marksA M []) 4) = V4 at X4 C4 S4 K4 W4 U4 HNC hNd ⊢
  have hxx := X4.out.cell
  go_upto_region 10 with (go_at_call 19; (with_reducible refine (list100_c V4 ⟨r.e, rs.m.f, r.L, r.P, r.h, r.t, ⟨some ⟨gN, 0, none⟩, rs.m.lk.length, r.K.c⟩, r.X, r.S⟩ rs.m.lk gN r.K.c rfl hNd HNC.out HNU.out hNm (lo rs.m.f) hlo0 hlo1).mono ?_); rintro e w5 ⟨q5, rfl, hr5, hb5⟩; go_must (have B5 := Lib.hid hb5; have F5 := Lib.hid hr5); clear hr5 hb5)
  clear hxx HNC hNd hNm HNU hlo0 hlo1 hcv hcw hcw1 hcw2 hf0 hf1 hrf hNA' hNn
  have F6 := F5.out
  rw [HE.out.free] at F6
  obtain ⟨hqn, _, _, _⟩ := F6.n_
  obtain ⟨hkn, _, hkm, _⟩ := K4.out.n_
  obtain ⟨qA, qn, qc⟩ := q5
  obtain ⟨kA, kn, kc⟩ := sK
  simp only at hqn hkn hkm
  subst hqn hkn
  have I5 : Hid (OnS w w5 gU gA M [] #[.int .i64 k, .int .i64 K, .int .i64 T, .int .i64 M] #[.slice sS.A sS.n sS.c, .slice kA rs.calls.length kc, .int .u64 r.e, .int .u64 r.f, .slice r.L.A r.L.n r.L.c, .slice r.P.A r.P.n r.P.c, .int .u64 r.h, .int .u64 r.t, .slice r.K.A r.K.n r.K.c, .slice r.X.A r.X.n r.X.c, .slice r.S.A r.S.n r.S.c] ⟨qA, fl.length, qc⟩ fl sS ⟨kA, rs.calls.length, kc⟩ base base rs) := Lib.hid ⟨U4.out.below B5.out U4.out.lt, X4.out.below B5.out X4.out.lt, C4.out.below B5.out C4.out.lt, ⟨_, F6⟩, S4.out.below B5.out (Nat.le_refl _), K4.out.below B5.out (Nat.le_refl _), W4.out.trans (B5.out.mono W4.out.size), G4.out⟩
  clear F5 F6 U4 X4 C4 S4 K4 W4 B5 G4
  have hf3 : (fl.length : Int) ≤ 64 := by have := HE.out.len; omega
  go_upto_region 11 with fail
  go_loopw [11] (fun i wr => ∃ j : Nat, i = .int .i64 j ∧ j ≤ fl.length ∧ OnS w wr gU gA M (fl.take j) #[.int .i64 k, .int .i64 K, .int .i64 T, .int .i64 M] #[.slice sS.A sS.n sS.c, .slice kA rs.calls.length kc, .int .u64 r.e, .int .u64 r.f, .slice r.L.A r.L.n r.L.c, .slice r.P.A r.P.n r.P.c, .int .u64 r.h, .int .u64 r.t, .slice r.K.A r.K.n r.K.c, .slice r.X.A r.X.n r.X.c, .slice r.S.A r.S.n r.S.c] ⟨qA, fl.length, qc⟩ fl sS ⟨kA, rs.calls.length, kc⟩ base base rs) (fun i _ => fl.length - (intOf i).toNat)
  case atStart => exact ⟨0, rfl, Nat.zero_le _, by rw [List.take_zero]; exact I5.out⟩
  case round =>
  clear I5
  obtain ⟨j, rfl, hj, hi⟩ := hrel
  have I0 := Lib.hid hi
  clear hi
  generalize wr = V5 at I0 ⊢
  have j0 : (0 : Int) ≤ j := Int.natCast_nonneg _
  by_cases hjn : j < fl.length
  · have j1 : (j : Int) < fl.length := by omega
    obtain ⟨bF, hF⟩ := I0.out.f
    obtain ⟨gF, hqA, _, _, hcF, _⟩ := hF.at_ (by omega)
    simp only at hqA
    subst hqA
    obtain ⟨v, hv⟩ : ∃ v, fl[j]? = some v := ⟨_, List.getElem?_eq_getElem hjn⟩
    obtain ⟨x0, x1⟩ := HE.out.mem hhM (List.mem_append_left _ (List.mem_of_getElem? hv))
    obtain ⟨n, rfl⟩ : ∃ n : Nat, v = n := ⟨v.toNat, by omega⟩
    have n1 : (n : Int) < M := x1
    have cf : V5.cell? ⟨gF, j, none⟩ = some (.int .i64 n) := (hcF j (by omega)).trans (by unfold intsV; rw [List.getElem?_map, hv]; rfl)
    have cu : V5.cell? ⟨gU, n, none⟩ = some (.bool false) := (I0.out.u.cell n).trans ((marksA_get (by omega)).trans (by rw [decide_eq_false (HE.out.fl_new hv)]))
    have fu := I0.out.u.frozen n
    have I1 : Hid (OnS w (V5.setCell ⟨gU, n, none⟩ (.bool true)) gU gA M (fl.take (j + 1)) #[.int .i64 k, .int .i64 K, .int .i64 T, .int .i64 M] #[.slice sS.A sS.n sS.c, .slice kA rs.calls.length kc, .int .u64 r.e, .int .u64 r.f, .slice r.L.A r.L.n r.L.c, .slice r.P.A r.P.n r.P.c, .int .u64 r.h, .int .u64 r.t, .slice r.K.A r.K.n r.K.c, .slice r.X.A r.X.n r.X.c, .slice r.S.A r.S.n r.S.c] ⟨some ⟨gF, 0, none⟩, fl.length, qc⟩ fl sS ⟨kA, rs.calls.length, kc⟩ base base rs) := Lib.hid (by
      have h9 := I0.out.mark n
      rw [List.take_add_one, hv]
      exact h9)
    clear hF hcF hv x0 x1 I0
    go_wp2
    go_roundw
    case rel => exact ⟨j + 1, rfl, hjn, I1.out⟩
    case measure => simp [intOf]; omega
  · have hje : j = fl.length := by omega
    have I6 : Hid (OnS w V5 gU gA M (fl ++ outsOf (rs.calls.take 0)) #[.int .i64 k, .int .i64 K, .int .i64 T, .int .i64 M] #[.slice sS.A sS.n sS.c, .slice kA rs.calls.length kc, .int .u64 r.e, .int .u64 r.f, .slice r.L.A r.L.n r.L.c, .slice r.P.A r.P.n r.P.c, .int .u64 r.h, .int .u64 r.t, .slice r.K.A r.K.n r.K.c, .slice r.X.A r.X.n r.X.c, .slice r.S.A r.S.n r.S.c] ⟨qA, fl.length, qc⟩ fl sS ⟨kA, rs.calls.length, kc⟩ base base rs) := Lib.hid (by
      have h9 := I0.out
      rw [hje, List.take_length] at h9
      rw [List.take_zero]
      show OnS w V5 gU gA M (fl ++ []) _ _ _ _ _ _ _ _ _
      rw [List.append_nil]
      exact h9)
    have j1 : ¬ (j : Int) < fl.length := by omega
    clear I0
    go_upto_region 18 with fail
    go_loopw [12, 13] (fun n i wr => ∃ (j N : Nat), i = .int .i64 j ∧ j ≤ rs.calls.length ∧ n = .int .i64 N ∧ N = fl.length + (outsOf (rs.calls.take j)).length ∧ OnS w wr gU gA M (fl ++ outsOf (rs.calls.take j)) #[.int .i64 k, .int .i64 K, .int .i64 T, .int .i64 M] #[.slice sS.A sS.n sS.c, .slice kA rs.calls.length kc, .int .u64 r.e, .int .u64 r.f, .slice r.L.A r.L.n r.L.c, .slice r.P.A r.P.n r.P.c, .int .u64 r.h, .int .u64 r.t, .slice r.K.A r.K.n r.K.c, .slice r.X.A r.X.n r.X.c, .slice r.S.A r.S.n r.S.c] ⟨qA, fl.length, qc⟩ fl sS ⟨kA, rs.calls.length, kc⟩ base base rs) (fun _ i _ => rs.calls.length - (intOf i).toNat)
    case atStart => exact ⟨0, fl.length, rfl, Nat.zero_le _, rfl, rfl, I6.out⟩
    case round =>
    clear I6 hje j1 j0 hj hjn
    obtain ⟨j, N, rfl, hj, rfl, hN, hi⟩ := hrel
    have I0 := Lib.hid hi
    clear hi
    have HN := Lib.hid hN
    generalize wr = V6 at I0 ⊢
    have j0 : (0 : Int) ≤ j := Int.natCast_nonneg _
    have hxx := I0.out.x.cell
    have hcc := I0.out.c.cell
    have hkl : (rs.calls.length : Int) ≤ 9223372036854775807 := by unfold maxLen at hkm; omega
    have hN6 : N ≤ 64 := by
      have h1 := HE.out.len
      have h2 : (outsOf (rs.calls.take j)).length ≤ (outsOf rs.calls).length := by
        unfold outsOf
        exact ((List.take_sublist j rs.calls).filterMap _).length_le
      omega
    clear hN
    by_cases hjn : j < rs.calls.length
    · have j1 : (j : Int) < rs.calls.length := by omega
      obtain ⟨gK, hkA, _, _, hcK, _⟩ := I0.out.k.at_ (by omega)
      simp only at hkA
      subst hkA
      obtain ⟨c, hc⟩ : ∃ c, rs.calls[j]? = some c := ⟨_, List.getElem?_eq_getElem hjn⟩
      have hen := HE.out.ends c (List.mem_of_getElem? hc)
      have hot := outs_take hc
      obtain ⟨th, kd, vl, fr, to_, cd, ou⟩ := c
      simp only at hen
      have q0 : V6.cell? ⟨gK, j * 7, none⟩ = some (.int .i64 th) := (hcK _ (by omega)).trans (flatK_get _ _ _ 0 _ hc rfl)
      have q1 : V6.cell? ⟨gK, j * 7 + 1, none⟩ = some (.int .i64 kd) := (hcK _ (by omega)).trans (flatK_get _ _ _ 1 _ hc rfl)
      have q2 : V6.cell? ⟨gK, j * 7 + 2, none⟩ = some (.int .u32 vl) := (hcK _ (by omega)).trans (flatK_get _ _ _ 2 _ hc rfl)
      have q3 : V6.cell? ⟨gK, j * 7 + 3, none⟩ = some (.int .i64 fr) := (hcK _ (by omega)).trans (flatK_get _ _ _ 3 _ hc rfl)
      have q4 : V6.cell? ⟨gK, j * 7 + 4, none⟩ = some (.int .i64 to_) := (hcK _ (by omega)).trans (flatK_get _ _ _ 4 _ hc rfl)
      have q5 : V6.cell? ⟨gK, j * 7 + 5, none⟩ = some (.int .i64 cd) := (hcK _ (by omega)).trans (flatK_get _ _ _ 5 _ hc rfl)
      have q6 : V6.cell? ⟨gK, j * 7 + 6, none⟩ = some (.int .u32 ou) := (hcK _ (by omega)).trans (flatK_get _ _ _ 6 _ hc rfl)
      rcases hen with rfl | ⟨ht, rfl⟩ | ⟨ht, rfl, st, hst, hsl⟩
      · have hno : outOf ⟨th, kd, vl, fr, -1, cd, ou⟩ = none := by unfold outOf; rw [if_pos (.inl (by show (-1 : Int) < 0; decide))]
        rw [hno] at hot
        have I1 : Hid (OnS w (V6.alloc (.cells #[.int .i64 th, .int .i64 kd, .int .u32 vl, .int .i64 fr, .int .i64 (-1), .int .i64 cd, .int .u32 ou] 55)) gU gA M (fl ++ outsOf (rs.calls.take (j + 1))) #[.int .i64 k, .int .i64 K, .int .i64 T, .int .i64 M] #[.slice sS.A sS.n sS.c, .slice (some ⟨gK, 0, none⟩) rs.calls.length kc, .int .u64 r.e, .int .u64 r.f, .slice r.L.A r.L.n r.L.c, .slice r.P.A r.P.n r.P.c, .int .u64 r.h, .int .u64 r.t, .slice r.K.A r.K.n r.K.c, .slice r.X.A r.X.n r.X.c, .slice r.S.A r.S.n r.S.c] ⟨qA, fl.length, qc⟩ fl sS ⟨some ⟨gK, 0, none⟩, rs.calls.length, kc⟩ base base rs) := Lib.hid (by
          have h9 := I0.out.alloc (.cells #[.int .i64 th, .int .i64 kd, .int .u32 vl, .int .i64 fr, .int .i64 (-1), .int .i64 cd, .int .u32 ou] 55)
          rw [hot]
          show OnS w _ gU gA M (fl ++ (outsOf (rs.calls.take j) ++ [])) _ _ _ _ _ _ _ _ _
          rw [List.append_nil]
          exact h9)
        have HN1 : Hid (N = fl.length + (outsOf (rs.calls.take (j + 1))).length) := Lib.hid (by
          rw [hot]
          show N = fl.length + (outsOf (rs.calls.take j) ++ []).length
          rw [List.append_nil]
          exact HN.out)
        clear hc hcK I0 hot hno HN
        go_wp2
        go_roundw
        case rel => exact ⟨j + 1, N, rfl, hjn, rfl, HN1.out, I1.out⟩
        case measure => simp [intOf]; omega
      · have hno : outOf ⟨th, kd, vl, fr, to_, 0, ou⟩ = some ou := by unfold outOf; rw [if_neg (by show ¬ (to_ < 0 ∨ ¬ (0 : Int) = 0); omega)]
        obtain ⟨hnew, hin⟩ := HE.out.out_new hc hno
        obtain ⟨x0, x1⟩ := HE.out.mem hhM hin
        rw [hno] at hot
        obtain ⟨n, rfl⟩ : ∃ n : Nat, ou = n := ⟨ou.toNat, by omega⟩
        have t0 : ¬ to_ < 0 := by omega
        have n1 : ¬ (M : Int) ≤ n := by omega
        have n2 : (n : Int) < M := x1
        have cu : V6.cell? ⟨gU, n, none⟩ = some (.bool false) := (I0.out.u.cell n).trans ((marksA_get (by omega)).trans (by rw [decide_eq_false hnew]))
        have I1 := Lib.hid (I0.out.alloc (.cells #[.int .i64 th, .int .i64 kd, .int .u32 vl, .int .i64 fr, .int .i64 to_, .int .i64 0, .int .u32 n] 55))
        have fu := I1.out.u.frozen n
        have hxx1 := I1.out.x.cell
        have HN1 : Hid (N + 1 = fl.length + (outsOf (rs.calls.take (j + 1))).length) := Lib.hid (by
          rw [hot, List.length_append, HN.out]; rfl)
        have HOT := Lib.hid hot
        clear hc hcK hot hno HN hnew hin x0 x1 hxx1
        go_upto_region 21 with fail
        have Y7 : Hid (Blk (V6.alloc (.cells #[.int .i64 th, .int .i64 kd, .int .u32 vl, .int .i64 fr, .int .i64 to_, .int .i64 0, .int .u32 n] 55)) V6.heap.size 55 #[.int .i64 th, .int .i64 kd, .int .u32 vl, .int .i64 fr, .int .i64 to_, .int .i64 0, .int .u32 n]) := Lib.hid (Blk.new _ _ _)
        have cu7 : (V6.alloc (.cells #[.int .i64 th, .int .i64 kd, .int .u32 vl, .int .i64 fr, .int .i64 to_, .int .i64 0, .int .u32 n] 55)).cell? ⟨gU, n, none⟩ = some (.bool false) := (((Below.refl V6.heap.size V6).alloc (Nat.le_refl _) _).cell (p := ⟨gU, n, none⟩) I0.out.u.lt).trans cu
        clear cu I0 hxx hcc q0 q1 q2 q3 q4 q5 q6
        generalize V6.heap.size = gC at Y7 ⊢
        generalize V6.alloc (.cells #[.int .i64 th, .int .i64 kd, .int .u32 vl, .int .i64 fr, .int .i64 to_, .int .i64 0, .int .u32 n] 55) = V7 at Y7 I1 cu7 fu ⊢
        have hyy := Y7.out.cell
        have hcc := I1.out.c.cell
        have hnw : IntKind.i64.wrap (n : Int) = n := by clear hyy hcc; rw [IntKind.wrap_i64]; omega
        go_upto_region 26 with fail
        have I2 : Hid (OnS w (V7.setCell ⟨gU, n, none⟩ (.bool true)) gU gA M (fl ++ outsOf (rs.calls.take (j + 1))) #[.int .i64 k, .int .i64 K, .int .i64 T, .int .i64 M] #[.slice sS.A sS.n sS.c, .slice (some ⟨gK, 0, none⟩) rs.calls.length kc, .int .u64 r.e, .int .u64 r.f, .slice r.L.A r.L.n r.L.c, .slice r.P.A r.P.n r.P.c, .int .u64 r.h, .int .u64 r.t, .slice r.K.A r.K.n r.K.c, .slice r.X.A r.X.n r.X.c, .slice r.S.A r.S.n r.S.c] ⟨qA, fl.length, qc⟩ fl sS ⟨some ⟨gK, 0, none⟩, rs.calls.length, kc⟩ base base rs) := Lib.hid (by
          have h9 := I1.out.mark n
          rw [HOT.out]
          rw [List.append_assoc] at h9
          exact h9)
        clear I1 Y7 cu7 fu hyy hcc HOT
        generalize V7.setCell ⟨gU, n, none⟩ (.bool true) = V8 at I2 ⊢
        have hxx := I2.out.x.cell
        go_wp2
        go_roundw
        case rel => exact ⟨j + 1, N + 1, rfl, hjn, by go_num, HN1.out, I2.out⟩
        case measure => simp [intOf]; omega
      · have hno : outOf ⟨th, kd, vl, fr, to_, 4, ou⟩ = none := by unfold outOf; rw [if_pos (.inr (by show ¬ (4 : Int) = 0; decide))]
        rw [hno] at hot
        have t0 : ¬ to_ < 0 := by omega
        obtain ⟨t, rfl⟩ : ∃ t : Nat, to_ = t := ⟨to_.toNat, by omega⟩
        have hst' : rs.steps[t]? = some st := hst
        have htl : t < rs.steps.length := (List.getElem?_eq_some_iff.1 hst').1
        obtain ⟨gS, hsA, _, hSlt, hcS, _⟩ := I0.out.s.at_ (by omega)
        obtain ⟨hsn, _, hsm, _⟩ := I0.out.s.n_
        have I1 := Lib.hid (I0.out.alloc (.cells #[.int .i64 th, .int .i64 kd, .int .u32 vl, .int .i64 fr, .int .i64 t, .int .i64 4, .int .u32 ou] 55))
        have cs : (V6.alloc (.cells #[.int .i64 th, .int .i64 kd, .int .u32 vl, .int .i64 fr, .int .i64 t, .int .i64 4, .int .u32 ou] 55)).cell? ⟨gS, t * 8 + 6, none⟩ = some (.int .u64 st.was) := (((Below.refl V6.heap.size V6).alloc (Nat.le_refl _) _).cell (p := ⟨gS, t * 8 + 6, none⟩) hSlt).trans ((hcS _ (by omega)).trans (flatT_get _ _ _ 6 _ hst' rfl))
        have HN1 : Hid (N = fl.length + (outsOf (rs.calls.take (j + 1))).length) := Lib.hid (by
          rw [hot]
          show N = fl.length + (outsOf (rs.calls.take j) ++ []).length
          rw [List.append_nil]
          exact HN.out)
        have HOT := Lib.hid hot
        have t1 : (t : Int) < rs.steps.length := by omega
        have hsl2 : (rs.steps.length : Int) ≤ 9223372036854775807 := by unfold maxLen at hsm; omega
        have hw1 : st.was % 4294967296 = 0 := hsl
        have hw2 : st.was.tmod 4294967296 = 0 := by rw [Int.tmod_eq_emod_of_nonneg (HSO.out st (List.mem_of_getElem? hst'))]; exact hw1
        have htt : ¬ (t : Int) < 0 := by omega
        clear hc hcK hno HN hsm hst hst' hcS htl hsl
        go_upto_region 21 with fail
        have Y7 : Hid (Blk (V6.alloc (.cells #[.int .i64 th, .int .i64 kd, .int .u32 vl, .int .i64 fr, .int .i64 t, .int .i64 4, .int .u32 ou] 55)) V6.heap.size 55 #[.int .i64 th, .int .i64 kd, .int .u32 vl, .int .i64 fr, .int .i64 t, .int .i64 4, .int .u32 ou]) := Lib.hid (Blk.new _ _ _)
        clear I0 hxx hcc q0 q1 q2 q3 q4 q5 q6 hot
        generalize V6.heap.size = gC at Y7 ⊢
        generalize V6.alloc (.cells #[.int .i64 th, .int .i64 kd, .int .u32 vl, .int .i64 fr, .int .i64 t, .int .i64 4, .int .u32 ou] 55) = V7 at Y7 I1 cs ⊢
        have hyy := Y7.out.cell
        have hxx := I1.out.x.cell
        have I2 : Hid (OnS w V7 gU gA M (fl ++ outsOf (rs.calls.take (j + 1))) #[.int .i64 k, .int .i64 K, .int .i64 T, .int .i64 M] #[.slice sS.A sS.n sS.c, .slice (some ⟨gK, 0, none⟩) rs.calls.length kc, .int .u64 r.e, .int .u64 r.f, .slice r.L.A r.L.n r.L.c, .slice r.P.A r.P.n r.P.c, .int .u64 r.h, .int .u64 r.t, .slice r.K.A r.K.n r.K.c, .slice r.X.A r.X.n r.X.c, .slice r.S.A r.S.n r.S.c] ⟨qA, fl.length, qc⟩ fl sS ⟨some ⟨gK, 0, none⟩, rs.calls.length, kc⟩ base base rs) := Lib.hid (by
          have h9 := I1.out
          rw [HOT.out]
          show OnS w _ gU gA M (fl ++ (outsOf (rs.calls.take j) ++ [])) _ _ _ _ _ _ _ _ _
          rw [List.append_nil]
          exact h9)
        clear I1 HOT
        go_wp2
        go_roundw
        case rel => exact ⟨j + 1, N, rfl, hjn, rfl, HN1.out, I2.out⟩
        case measure => simp [intOf]; omega
    · have hje : j = rs.calls.length := by omega
      have j1 : ¬ (j : Int) < rs.calls.length := by omega
      have hNM : N + h = M := by
        have h1 := HN.out
        rw [hje, List.take_length] at h1
        have h2 := HE.out.len
        omega
      have W9 := Lib.hid I0.out.b
      rcases hk with ⟨rfl, rfl⟩ | ⟨rfl, rfl⟩
      · have g1 : (N : Int) = (M : Int) - 1 := by omega
        have g2 : ((N : Int) == (M : Int)) = false := beq_false_of_ne (by omega)
        have g3 : IntKind.i64.wrap ((M : Int) - 1) = (M : Int) - 1 := by rw [IntKind.wrap_i64]; omega
        have g4 : ((N : Int) == (M : Int) - 1) = true := by rw [g1]; exact beq_self_eq_true _
        clear g1 hNM
        go_wp2_with fail
        go_ret
        exact ⟨rfl, W9.out⟩
      · obtain rfl : N = M := by omega
        go_wp2_with fail
        go_ret
        exact ⟨rfl, W9.out⟩
end Go.Proofs.Ytffppdcpiieapaa.Machc

namespace Go.Proofs.Ytffppdcpiieapaa.Machc
open Go.RowKit Go.Proofs.Ytffppdcpiieapaa.Memc Go.Proofs.Ytffppdcpiieapaa.Newc Go.Proofs.Ytffppdcpiieapaa.Drivec Go.Proofs.Ytffppdcpiieapaa.Procc Go.Proofs.Ytffppdcpiieapaa.Arenac Go.Proofs.Ytffppdcpiieapaa.Refc
set_option linter.unusedVariables false
set_option maxRecDepth 100000

set_option maxHeartbeats 1000000 in
theorem ono_few (w : World) (k K T M : Int) (sA : Option Addr) (sn sc : Nat) (pA : Option Addr) (pn pc : Nat) (hz : ∀ W, Below w.heap.size w W → Calls Try.prog 15 #[.slice sA sn sc, .slice pA pn pc, .int .i64 1000] W fun e w' => e = .returned (.bool false) ∧ W = w') : Calls Try.prog 5 #[.agg #[.int .i64 k, .int .i64 K, .int .i64 T, .int .i64 M], .slice sA sn sc, .slice pA pn pc] w fun e w' => e = .returned (.bool true) ∧ Below w.heap.size w w' := by
  have C0 : Hid (Blk (w.alloc (.cells #[.int .i64 k, .int .i64 K, .int .i64 T, .int .i64 M] 23)) w.heap.size 23 #[.int .i64 k, .int .i64 K, .int .i64 T, .int .i64 M]) := Lib.hid (Blk.new _ _ _)
  have W0 : Hid (Below w.heap.size w (w.alloc (.cells #[.int .i64 k, .int .i64 K, .int .i64 T, .int .i64 M] 23))) := Lib.hid ((Below.refl _ _).alloc (Nat.le_refl _) _)
  have HZ := Lib.hid hz
  clear hz
  go_enter Try.func5, Try.ntmps5
  go_wp2_with (first
    | (go_at_call 14; (with_reducible refine (awake4_c _).mono ?_); rintro e w1 ⟨rfl, hb⟩; go_must (have C1 := Lib.hid (C0.out.below hb C0.out.lt); have W1 := Lib.hid (W0.out.trans (hb.mono W0.out.size))); have hc1 := C1.out.cell; clear hb)
    | (go_at_call 15; (with_reducible refine (HZ.out _ W1.out).mono ?_); rintro e w2 ⟨rfl, rfl⟩))
  go_ret
  exact ⟨rfl, W1.out⟩
set_option maxHeartbeats 1000000 in
theorem ono_kinds (w : World) (k K T M : Int) (sA : Option Addr) (sn sc : Nat) (pA : Option Addr) (pn pc : Nat) (hz : ∀ W, Below w.heap.size w W → Calls Try.prog 15 #[.slice sA sn sc, .slice pA pn pc, .int .i64 1000] W fun e w' => e = .returned (.bool true) ∧ W = w') (hy : ∀ W, Below w.heap.size w W → Calls Try.prog 18 #[.slice sA sn sc, .int .i64 4, .int .i64 4, .int .u32 4294967295] W fun e w' => e = .returned (.bool false) ∧ W = w') : Calls Try.prog 5 #[.agg #[.int .i64 k, .int .i64 K, .int .i64 T, .int .i64 M], .slice sA sn sc, .slice pA pn pc] w fun e w' => e = .returned (.bool true) ∧ Below w.heap.size w w' := by
  have C0 : Hid (Blk (w.alloc (.cells #[.int .i64 k, .int .i64 K, .int .i64 T, .int .i64 M] 23)) w.heap.size 23 #[.int .i64 k, .int .i64 K, .int .i64 T, .int .i64 M]) := Lib.hid (Blk.new _ _ _)
  have W0 : Hid (Below w.heap.size w (w.alloc (.cells #[.int .i64 k, .int .i64 K, .int .i64 T, .int .i64 M] 23))) := Lib.hid ((Below.refl _ _).alloc (Nat.le_refl _) _)
  have HZ := Lib.hid hz
  have HY := Lib.hid hy
  clear hz hy
  go_enter Try.func5, Try.ntmps5
  go_wp2_with (first
    | (go_at_call 14; (with_reducible refine (awake4_c _).mono ?_); rintro e w1 ⟨rfl, hb⟩; go_must (have C1 := Lib.hid (C0.out.below hb C0.out.lt); have W1 := Lib.hid (W0.out.trans (hb.mono W0.out.size))); have hc1 := C1.out.cell; clear hb)
    | (go_at_call 15; (with_reducible refine (HZ.out _ W1.out).mono ?_); rintro e w2 ⟨rfl, rfl⟩)
    | (go_at_call 18; (with_reducible refine (HY.out _ W1.out).mono ?_); rintro e w2 ⟨rfl, rfl⟩))
  go_ret
  exact ⟨rfl, W1.out⟩
set_option maxHeartbeats 1000000 in
theorem ono_ring (w : World) (k K T M : Int) (sA : Option Addr) (sn sc : Nat) (pA : Option Addr) (pn pc : Nat) (hz : ∀ W, Below w.heap.size w W → Calls Try.prog 15 #[.slice sA sn sc, .slice pA pn pc, .int .i64 1000] W fun e w' => e = .returned (.bool true) ∧ W = w') (hy : ∀ W, Below w.heap.size w W → Calls Try.prog 18 #[.slice sA sn sc, .int .i64 4, .int .i64 4, .int .u32 4294967295] W fun e w' => e = .returned (.bool true) ∧ W = w') (hk2 : (k == 2) = true) : Calls Try.prog 5 #[.agg #[.int .i64 k, .int .i64 K, .int .i64 T, .int .i64 M], .slice sA sn sc, .slice pA pn pc] w fun e w' => e = .returned (.bool true) ∧ Below w.heap.size w w' := by
  have C0 : Hid (Blk (w.alloc (.cells #[.int .i64 k, .int .i64 K, .int .i64 T, .int .i64 M] 23)) w.heap.size 23 #[.int .i64 k, .int .i64 K, .int .i64 T, .int .i64 M]) := Lib.hid (Blk.new _ _ _)
  have W0 : Hid (Below w.heap.size w (w.alloc (.cells #[.int .i64 k, .int .i64 K, .int .i64 T, .int .i64 M] 23))) := Lib.hid ((Below.refl _ _).alloc (Nat.le_refl _) _)
  have HZ := Lib.hid hz
  have HY := Lib.hid hy
  clear hz hy
  go_enter Try.func5, Try.ntmps5
  go_wp2_with (first
    | (go_at_call 14; (with_reducible refine (awake4_c _).mono ?_); rintro e w1 ⟨rfl, hb⟩; go_must (have C1 := Lib.hid (C0.out.below hb C0.out.lt); have W1 := Lib.hid (W0.out.trans (hb.mono W0.out.size))); have hc1 := C1.out.cell; clear hb)
    | (go_at_call 15; (with_reducible refine (HZ.out _ W1.out).mono ?_); rintro e w2 ⟨rfl, rfl⟩)
    | (go_at_call 18; (with_reducible refine (HY.out _ W1.out).mono ?_); rintro e w2 ⟨rfl, rfl⟩))
  go_ret
  exact ⟨rfl, W1.out⟩
set_option maxHeartbeats 1000000 in
theorem ono_run (w : World) (k K T M : Int) (sA : Option Addr) (sn sc : Nat) (pA : Option Addr) (pn pc : Nat) (hz : ∀ W, Below w.heap.size w W → Calls Try.prog 15 #[.slice sA sn sc, .slice pA pn pc, .int .i64 1000] W fun e w' => e = .returned (.bool true) ∧ W = w') (hy : ∀ W, Below w.heap.size w W → Calls Try.prog 18 #[.slice sA sn sc, .int .i64 4, .int .i64 4, .int .u32 4294967295] W fun e w' => e = .returned (.bool true) ∧ W = w') (hk2 : (k == 2) = false)
    (hA : ∀ W, Below w.heap.size w W → Calls Try.prog 16 #[.agg #[.int .i64 k, .int .i64 K, .int .i64 T, .int .i64 M], .slice sA sn sc, .slice pA pn pc] W fun e w' => e = .returned (.tuple #[.agg #[.slice none 0 0, .slice none 0 0, .int .u64 0, .int .u64 0, .slice none 0 0, .slice none 0 0, .int .u64 0, .int .u64 0, .slice none 0 0, .slice none 0 0, .slice none 0 0], .int .i64 1]) ∧ Below W.heap.size W w') : Calls Try.prog 5 #[.agg #[.int .i64 k, .int .i64 K, .int .i64 T, .int .i64 M], .slice sA sn sc, .slice pA pn pc] w fun e w' => e = .returned (.bool true) ∧ Below w.heap.size w w' := by
  have C0 : Hid (Blk (w.alloc (.cells #[.int .i64 k, .int .i64 K, .int .i64 T, .int .i64 M] 23)) w.heap.size 23 #[.int .i64 k, .int .i64 K, .int .i64 T, .int .i64 M]) := Lib.hid (Blk.new _ _ _)
  have W0 : Hid (Below w.heap.size w (w.alloc (.cells #[.int .i64 k, .int .i64 K, .int .i64 T, .int .i64 M] 23))) := Lib.hid ((Below.refl _ _).alloc (Nat.le_refl _) _)
  have HZ := Lib.hid hz
  have HY := Lib.hid hy
  have HA := Lib.hid hA
  clear hz hy hA
  go_enter Try.func5, Try.ntmps5
  go_upto_region 6 with (first
    | (go_at_call 14; (with_reducible refine (awake4_c _).mono ?_); rintro e w1 ⟨rfl, hb⟩; go_must (have C1 := Lib.hid (C0.out.below hb C0.out.lt); have W1 := Lib.hid (W0.out.trans (hb.mono W0.out.size))); have hc1 := C1.out.cell; clear hb)
    | (go_at_call 15; (with_reducible refine (HZ.out _ W1.out).mono ?_); rintro e w2 ⟨rfl, rfl⟩)
    | (go_at_call 18; (with_reducible refine (HY.out _ W1.out).mono ?_); rintro e w2 ⟨rfl, rfl⟩)
    | (go_at_call 16; (with_reducible refine (HA.out _ W1.out).mono ?_); rintro e w2 ⟨rfl, hb⟩; go_must (have W2 := Lib.hid (W1.out.trans (hb.mono W1.out.size))); clear hb))
  have X3 : Hid (Blk (w2.alloc (.cells #[.slice none 0 0, .slice none 0 0, .int .u64 0, .int .u64 0, .slice none 0 0, .slice none 0 0, .int .u64 0, .int .u64 0, .slice none 0 0, .slice none 0 0, .slice none 0 0] 35)) w2.heap.size 35 #[.slice none 0 0, .slice none 0 0, .int .u64 0, .int .u64 0, .slice none 0 0, .slice none 0 0, .int .u64 0, .int .u64 0, .slice none 0 0, .slice none 0 0, .slice none 0 0]) := Lib.hid (Blk.new _ _ _)
  have W3 := Lib.hid (W2.out.alloc W2.out.size (.cells #[.slice none 0 0, .slice none 0 0, .int .u64 0, .int .u64 0, .slice none 0 0, .slice none 0 0, .int .u64 0, .int .u64 0, .slice none 0 0, .slice none 0 0, .slice none 0 0] 35))
  clear W2
  generalize w2.heap.size = gA at X3 ⊢
  generalize w2.alloc (.cells #[.slice none 0 0, .slice none 0 0, .int .u64 0, .int .u64 0, .slice none 0 0, .slice none 0 0, .int .u64 0, .int .u64 0, .slice none 0 0, .slice none 0 0, .slice none 0 0] 35) = V3 at X3 W3 ⊢
  have hxx := X3.out.cell
  go_wp2_with fail
  go_ret
  exact ⟨rfl, W3.out⟩
end Go.Proofs.Ytffppdcpiieapaa.Machc

namespace Go.Proofs.Ytffppdcpiieapaa.arenaOnce
open Go.ChangeShapes Go.WideShapes Go.ChangeAt Go.RowKit Go.Proofs.Ytffppdcpiieapaa.Memc Go.Proofs.Ytffppdcpiieapaa.Refc Go.Proofs.Ytffppdcpiieapaa.Newc Go.Proofs.Ytffppdcpiieapaa.Drivec Go.Proofs.Ytffppdcpiieapaa.Machc Go.Proofs.Ytffppdcpiieapaa.Arenac Go.Proofs.Ytffppdcpiieapaa.Opencfg
set_option linter.unusedVariables false
set_option maxRecDepth 100000

theorem own : ownKnob Try.prog.godebug = none := by kernel_rfl
theorem laidOut : laidOutB Try.prog = true := by kernel_rfl

theorem kind4 {o : Int × Int} (h : Machc.kindOk 4 4 4294967295 o = true) : o.1 = 4 := by
  unfold Machc.kindOk at h
  rw [Bool.and_eq_true, Bool.and_eq_true] at h
  have h1 := of_decide_eq_true h.1.1
  have h2 := of_decide_eq_true h.1.2
  omega
theorem walk (k K T M : Int) (s p : Sl) (ls : List (List (Int × Int))) (ps : List (Int × Int)) (w : World) (hl : RdLO w w.heap.size s ls) (hv : ∀ x ∈ ls, Val32 x) (hp : RdP w w.heap.size p ps) (hpv : Val32 ps) :
    Calls Try.prog 5 #[.agg #[.int .i64 k, .int .i64 K, .int .i64 T, .int .i64 M], .slice s.A s.n s.c, .slice p.A p.n p.c] w fun e w' => e = .returned (.bool true) ∧ Below w.heap.size w w' := by
  obtain ⟨sA, sn, sc⟩ := s
  obtain ⟨pA, pn, pc⟩ := p
  have hpm : pn ≤ maxLen := Nat.le_trans hp.2.1 hp.2.2.1
  have hln := Machc.RdLO.lens hl (Nat.le_refl _)
  have hup : ∀ W, Below w.heap.size w W → RdLO W W.heap.size ⟨sA, sn, sc⟩ ls := fun W hW => Arenac.RdLO.up (hl.below hW) hW.size
  have hpup : ∀ W, Below w.heap.size w W → RdP W W.heap.size ⟨pA, pn, pc⟩ ps := fun W hW => Arenac.RdP.up (hp.below hW) hW.size
  have hz : ∀ W, Below w.heap.size w W → Calls Try.prog 15 #[.slice sA sn sc, .slice pA pn pc, .int .i64 1000] W fun e w' => e = .returned (.bool (fewB (ls.map List.length) sn pn)) ∧ W = w' := fun W hW => few_c W sA sn sc pA pn pc _ (hln.below hW) hpm
  have hy : ∀ W, Below w.heap.size w W → Calls Try.prog 18 #[.slice sA sn sc, .int .i64 4, .int .i64 4, .int .u32 4294967295] W fun e w' => e = .returned (.bool (ls.all fun l => l.all (Machc.kindOk 4 4 4294967295))) ∧ W = w' := fun W hW => kinds_c W _ sA sn sc ls 4 4 4294967295 (hup W hW)
  by_cases h1 : fewB (ls.map List.length) sn pn = true
  · rw [h1] at hz
    by_cases h2 : (ls.all fun l => l.all (Machc.kindOk 4 4 4294967295)) = true
    · rw [h2] at hy
      have h4 : ∀ l, l ∈ ls → ∀ o, o ∈ l → o.1 = 4 := fun l hl' o ho => kind4 (List.all_eq_true.1 (List.all_eq_true.1 h2 l hl') o ho)
      by_cases h3 : k = 2
      · exact ono_ring w k K T M sA sn sc pA pn pc hz hy (by rw [h3]; rfl)
      · have hk2 : (k == 2) = false := beq_false_of_ne h3
        by_cases hm : (Cfg.mk k K T M).may ∧ (sn : Int) = T ∧ (ls.map List.length).any (fun x => decide (1000 < x)) = false ∧ pn ≤ 20000
        · obtain ⟨⟨⟨k1, k2⟩, ⟨a1, a2⟩, ⟨t1, t2⟩, ⟨m1, m2⟩⟩, hT, hany, hpn⟩ := hm
          simp only at k1 k2 a1 a2 t1 t2 m1 m2
          obtain ⟨K, rfl⟩ : ∃ n : Nat, K = n := ⟨K.toNat, by omega⟩
          obtain ⟨M, rfl⟩ : ∃ n : Nat, M = n := ⟨M.toNat, by omega⟩
          subst hT
          obtain ⟨b, off, hA, _⟩ := hl.2.2.2 (by show 0 < sn; omega)
          simp only at hA
          subst hA
          have hle : ∀ x ∈ ls, x.length ≤ 1000 := fun x hx => by
            rw [List.any_eq_false] at hany
            have := hany x.length (List.mem_map_of_mem hx)
            simpa using this
          have hpl : ps.length ≤ 20000 := by have := hp.1; simp only at this; omega
          have hls : ls.length = sn := hl.1.symm
          have hf : ∀ l ∈ ls, l.any fgn = false := fun l hl' => List.any_eq_false.2 fun o ho => by
            unfold fgn
            simp [h4 l hl' o ho]
          have hops : ∀ q ∈ ps, OkOps okA ls q.2 := fun q _ i l n o hi hn => by
            have hlm := List.mem_of_getElem? hi
            have hom := List.mem_of_getElem? hn
            exact ⟨.inl (h4 l hlm o hom), hv l hlm o hom⟩
          have hZ := ar_ok k K sn M (by omega) (by omega)
          have hRO : RunOk GA sn ls (runM (docZ k K sn M) ls (RS.first (newM k K sn M) sn) ps) := RunOk.run hZ hls ps _ (RunOk.first (newM_ok k K sn M (by omega)) hls) hops
          have hk13 : k = 1 ∨ k = 3 := by omega
          obtain ⟨n, hs⟩ := once_run (k := k) (K := K) (T := sn) (M := M) hk13 (by omega) (by omega) hls h4 ps
          have hE := hs.fin (by omega)
          refine once_yes w k K sn M (if k = 1 then 1 else 0) _ sn sc pA pn pc _ _ ?_ (by omega) (by omega) (runO_area 7 _ _ (by show (newM k K sn M).lk.length = M; exact linked_len _ _ _)) hE (fun st hst => (hRO.steps st hst).2.1) hz hy hk2 (fun W hW => ?_)
          · rcases hk13 with rfl | rfl
            · exact .inl ⟨rfl, rfl⟩
            · exact .inr ⟨rfl, rfl⟩
          · exact arun_c W k K sn M b off sc pA pn pc ls ps k1 k2 (by omega) (by omega) (by omega) (by omega) (by omega) (by omega) (hup W hW) hle (hpup W hW) hpl hf hv
        · exact ono_run w k K T M sA sn sc pA pn pc hz hy hk2 (fun W hW => arun_no W k K T M sA sn sc ⟨pA, pn, pc⟩ ls (hup W hW) hpm (.inr hm))
    · have h2' : (ls.all fun l => l.all (Machc.kindOk 4 4 4294967295)) = false := by simpa using h2
      rw [h2'] at hy
      exact ono_kinds w k K T M sA sn sc pA pn pc hz hy
  · have h1' : fewB (ls.map List.length) sn pn = false := by simpa using h1
    rw [h1'] at hz
    exact ono_few w k K T M sA sn sc pA pn pc hz

/-! ### THE ROW's STEP -/
set_option maxRecDepth 100000 in
theorem lifted (os : Os) (started : os.Started) (H : Type) (enc : TypeId × Value → H) :
    ReturnsInHanded {} Try.checked os 5 .any (Rows.arenaOnceSpec.pre6 enc Try.prog Try.f5 Rows.arenaOnceRow.domain false) (Rows.arenaOnceSpec.post enc Try.prog Try.f5 false true false false) := by
  refine returnsInHanded_of_change (C := Try.checked) own started (by kernel_rfl) Try.func5
    (ChangeSpec.witness6 (enc := enc) (C := Try.checked) false ⟨#[], #[.agg #[.int .i64 0, .int .i64 0, .int .i64 0, .int .i64 0], .slice none 0 0, .slice none 0 0], []⟩ 8 (by kernel_rfl) (by kernel_rfl) (by kernel_rfl) (by kernel_rfl)) ?_
  intro W base args ds gs before hval0 hW hcnd _
  have hval : ∀ (j : Nat) t v, Try.f5.params[j]? = some t → args[j]? = some v → Value.okWide Try.prog W .any base t v := hval0
  have hW' := hW
  obtain ⟨p, q, hA0, hV, rfl, hfz, hnd⟩ := hW
  have hA : DataW.TrodAll enc Try.prog W 0 (fun _ => true) true Try.f5.params.toList args.toList ds p := hA0
  rw [Try.params5] at hA hval
  obtain ⟨v0, vs0, d0, ds0, p0, q0, hargs, rfl, rfl, h0, r0⟩ := trodAll_cons hA
  obtain ⟨v1, vs1, d1, ds1, p1, q1, rfl, rfl, rfl, h1, r1⟩ := trodAll_cons r0
  obtain ⟨v2, vs2, d2, ds2, p2, q2, rfl, rfl, rfl, h2, r2⟩ := trodAll_cons r1
  obtain ⟨rfl, rfl, rfl⟩ := trodAll_nil r2
  obtain rfl : args = #[v0, v1, v2] := by cases args; simp_all
  obtain ⟨rfl, rfl⟩ := trodVars_none hV
  have k0 := h0
  have lt0 : ∀ x ∈ p0, x.block < W.heap.size := by obtain ⟨m, hm⟩ := k0; exact DataW.trod_lt m _ _ _ hm
  have k1 := h1
  have lt1 : ∀ x ∈ p1, x.block < W.heap.size := by obtain ⟨m, hm⟩ := k1; exact DataW.trod_lt m _ _ _ hm
  have k2 := h2
  have lt2 : ∀ x ∈ p2, x.block < W.heap.size := by obtain ⟨m, hm⟩ := k2; exact DataW.trod_lt m _ _ _ hm
  obtain ⟨k, K, T, M, rfl, hk⟩ := open_cfg (hval 0 23 v0 rfl rfl) h0
  obtain ⟨s, ls, rfl, hl, hlv⟩ := open_ops (hval 1 44 v1 rfl rfl) h1
  obtain ⟨q, ps, rfl, hq, hqv⟩ := open_picks2 (hval 2 25 v2 rfl rfl) h2
  clear hA0 hval0
  refine (walk k K T M s q ls ps W hl hlv hq hqv).mono fun e W' ⟨he, bel⟩ => ?_
  subst he
  exact ⟨_, rfl, _, _, _, [], _, [], hW', trodAll_mk1 (shut_bool Try.underlying4 _), (trodAll_cons_mk (Below.trod laidOut (by kernel_rfl) (of_decide_eq_true (by kernel_rfl)) k0 bel lt0) (trodAll_cons_mk (Below.trod laidOut (by kernel_rfl) (of_decide_eq_true (by kernel_rfl)) k1 bel lt1) (trodAll_cons_mk (Below.trod laidOut (by kernel_rfl) (of_decide_eq_true (by kernel_rfl)) k2 bel lt2) trodAll_mk0))), rfl, bel.frame _, fun h => by cases h⟩

theorem over : Rows.arenaOnceRow.holds Try.pinned (OpenSpec.ofChange Rows.arenaOnceSpec) :=
  OpenClaim.holds_of_wide 5 Try.f5 rfl rfl rfl rfl rfl rfl rfl ⟨rfl, rfl, rfl, rfl, rfl⟩ rfl rfl rfl rfl rfl (by kernel_rfl) Try.func5 (by kernel_rfl)
    (of_decide_eq_true (by kernel_rfl)) (by unfold Func.isWrapper; first | (rw [if_pos (by decide +kernel)]; kernel_rfl) | (rw [if_neg (by decide +kernel)]; exact ⟨rfl, rfl⟩))
    (fun os started H enc _ => lifted os started H enc)

/-- ████ THE STATEMENT ████ -/
theorem proved : Rows.ArenaOnceSaid :=
  over
end Go.Proofs.Ytffppdcpiieapaa.arenaOnce
