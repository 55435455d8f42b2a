/- ArenaBack: the walk, of kind 3. -/
import Derived.Deep.QuietTactic
import Derived.BigQuiet
import Derived.Test.YtffppdcpiieapaaQ27
namespace Go.Proofs.Ytffppdcpiieapaa.Machc
open Go.RowKit Go.Proofs.Ytffppdcpiieapaa.Memc Go.Proofs.Ytffppdcpiieapaa.Newc Go.Proofs.Ytffppdcpiieapaa.Drivec Go.Proofs.Ytffppdcpiieapaa.Procc Go.Proofs.Ytffppdcpiieapaa.Arenac
set_option linter.unusedVariables false
set_option maxRecDepth 100000

set_option maxHeartbeats 4000000 in
theorem back3_c (w : World) (K tu : Nat) (n : Nat) (a1 : 1 ≤ K) (a2 : K ≤ 64) (m1 : 2 ≤ n) (m2 : n ≤ 64) (htu : tu ≤ 255) :
    Calls Try.prog 6 #[.agg #[.int .i64 3, .int .i64 K, .int .i64 1, .int .i64 n], .int .u8 tu] w fun e w' => e = .returned (.bool true) ∧ Below w.heap.size w w' := by
  have C0 : Hid (Blk (w.alloc (.cells #[.int .i64 3, .int .i64 K, .int .i64 1, .int .i64 n] 23)) w.heap.size 23 #[.int .i64 3, .int .i64 K, .int .i64 1, .int .i64 n]) := Lib.hid (Blk.new _ _ _)
  have W0 : Hid (Below w.heap.size w (w.alloc (.cells #[.int .i64 3, .int .i64 K, .int .i64 1, .int .i64 n] 23))) := Lib.hid ((Below.refl _ _).alloc (Nat.le_refl _) _)
  have f2 : (n : Int) - n = 0 := by omega
  have n1 : 1 ≤ n := by omega
  have n2 : n ≤ 64 := by omega
  go_enter Try.func6, Try.ntmps6
  go_upto_region 5 with (first
    | (go_at_call 14; (with_reducible refine (awake4_c _).mono ?_); rintro e w1 ⟨rfl, hb⟩; go_must (have C1 := Lib.hid (C0.out.below hb C0.out.lt); have W1 := Lib.hid (W0.out.trans (hb.mono W0.out.size))); have hc1 := C1.out.cell; have hf1 := C1.out.frozen; clear hb)
    | (go_at_call 20; (with_reducible refine (refmay_yes _ 3 K 1 n (by omega) (by omega) (by omega) (by omega) (by omega) (by omega) (by omega) (by omega)).mono ?_); rintro e w2 ⟨rfl, hb⟩; go_must (have C2 := Lib.hid (C1.out.below hb C1.out.lt); have W2 := Lib.hid (W1.out.trans (hb.mono W1.out.size))); have hc2 := C2.out.cell; have hf2 := C2.out.frozen; clear hb hc1 hf1))
  go_upto_region 11 with fail
  clear C0 W0 C1 W1 hf2
  go_loopw [7, 8] (fun l i wr => ∃ (j : Nat) (q : Sl), l = .slice q.A q.n q.c ∧ i = .int .i64 j ∧ j ≤ n ∧ BkI wr q j (List.replicate j (4, 0)) #[.int .i64 3, .int .i64 K, .int .i64 1, .int .i64 n] w) (fun _ i _ => n - (intOf i).toNat)
  case atStart => exact ⟨0, nilS, rfl, rfl, Nat.zero_le _, row_nil _ _ _ _, C2.out, W2.out⟩
  case round =>
  clear C2 W2 hc2
  obtain ⟨j, q, rfl, rfl, hj, hi⟩ := hrel
  have I0 := Lib.hid hi
  clear hi
  have hc0 : True := trivial
  generalize wr = V0 at I0 ⊢
  have j0 : (0 : Int) ≤ j := Int.natCast_nonneg _
  obtain ⟨oi, hoi, hoz0, hoz1, hoz2⟩ := info_parts op_cell
  by_cases hjn : j < n
  · have j1 : (j : Int) < n := by omega
    go_upto_region 12 with (at_builtin; refine wpList_app2 rfl _ _ 61 rfl (w.heap.size + 1) 63 oi _ 2 16 Try.underlying61 hoi hoz0 hoz1 hoz2 rfl (by decide) q j _ rfl (I0.out.alloc (.cells #[.int .i64 4, .int .u32 0] 63)).l V0.heap.size [.int .i64 4, .int .u32 0] rfl rfl (fun j u hj => (Blk.cell (Arenac.blk_at2 _ _ _ _ rfl) j).trans (by simpa using hj)) (by simp [Value.oneCell']) (by omega) (by decide) (Nat.le_trans I0.out.c.lt (by simp)) ?_; intro q2 w7 hr7 ho7 hw7; go_must (have I1 := Lib.hid (I0.out.add (x := (4, 0)) hr7 ho7)); clear hr7 ho7 hw7 hc0)
    clear hoi hoz0 hoz1 hoz2
    go_wp2
    go_roundw
    case rel => exact ⟨j + 1, q2, rfl, by go_num, hjn, by rw [List.replicate_succ']; exact I1.out⟩
    case measure => simp [intOf]; omega
  · obtain rfl : j = n := by omega
    clear hoi hoz0 hoz1 hoz2 hc0
    go_upto_region 15 with fail
    go_loopw [7, 9] (fun l i wr => ∃ (i' : Nat) (q : Sl), l = .slice q.A q.n q.c ∧ i = .int .i64 i' ∧ i' ≤ j ∧ BkI wr q (j + i') (List.replicate j (4, 0) ++ givO 0 j tu i') #[.int .i64 3, .int .i64 K, .int .i64 1, .int .i64 j] w) (fun _ i _ => j - (intOf i).toNat)
    case atStart => exact ⟨0, q, rfl, rfl, Nat.zero_le _, by show BkI V0 q j (List.replicate j (4, 0) ++ []) _ w; rw [List.append_nil]; exact I0.out⟩
    case round =>
    clear I0
    obtain ⟨i, q1, rfl, rfl, hij, hi⟩ := hrel
    have I0 := Lib.hid hi
    clear hi
    have hc0 : True := trivial
    generalize wr = V1 at I0 ⊢
    have i0 : (0 : Int) ≤ i := Int.natCast_nonneg _
    obtain ⟨oi, hoi, hoz0, hoz1, hoz2⟩ := info_parts op_cell
    by_cases hin : i < j
    · have i1 : (i : Int) < j := by omega
      obtain ⟨X, hX⟩ : ∃ X : Int, X = ((0 + (i + tu) % j : Nat) : Int) := ⟨_, rfl⟩
      have u0 : wrap64 (((i : Int) + tu) % j) % 4294967296 = X := (giv_val0 i tu j (by omega) (by omega)).trans hX.symm
      have HX := Lib.hid hX
      clear hX
      go_upto_region 16 with (at_builtin; refine wpList_app2 rfl _ _ 61 rfl (w.heap.size + 1) 63 oi _ 2 16 Try.underlying61 hoi hoz0 hoz1 hoz2 rfl (by decide) q1 (j + i) _ rfl (I0.out.alloc (.cells #[.int .i64 5, .int .u32 X] 63)).l V1.heap.size [.int .i64 5, .int .u32 X] rfl rfl (fun j u hj => (Blk.cell (Arenac.blk_at2 _ _ _ _ rfl) j).trans (by simpa using hj)) (by simp [Value.oneCell']) (by omega) (by decide) (Nat.le_trans I0.out.c.lt (by simp)) ?_; intro q2 w7 hr7 ho7 hw7; go_must (have I1 := Lib.hid (I0.out.add (x := (5, X)) hr7 ho7)); clear hr7 ho7 hw7 hc0)
      clear hoi hoz0 hoz1 hoz2
      go_wp2
      go_roundw
      case rel => exact ⟨i + 1, q2, rfl, by go_num, hin, by rw [givO_succ, ← List.append_assoc, ← HX.out]; exact I1.out⟩
      case measure => simp [intOf]; omega
    · obtain rfl : i = j := by omega
      clear hoi hoz0 hoz1 hoz2 hc0
      go_upto_region 19 with fail
      go_loopw [7, 10] (fun l p wr => ∃ (p' : Nat) (q : Sl), l = .slice q.A q.n q.c ∧ p = .int .i64 p' ∧ p' ≤ i + 1 ∧ BkI wr q (i + i + p') (List.replicate i (4, 0) ++ givO 0 i tu i ++ List.replicate p' (4, 0)) #[.int .i64 3, .int .i64 K, .int .i64 1, .int .i64 i] w) (fun _ p _ => i + 1 - (intOf p).toNat)
      case atStart => exact ⟨0, q1, rfl, rfl, Nat.zero_le _, by rw [List.replicate_zero, List.append_nil]; exact I0.out⟩
      case round =>
      clear I0
      obtain ⟨p, q3, rfl, rfl, hpi, hi⟩ := hrel
      have I0 := Lib.hid hi
      clear hi
      have hc0 : True := trivial
      generalize wr = V2 at I0 ⊢
      have p0 : (0 : Int) ≤ p := Int.natCast_nonneg _
      obtain ⟨oi, hoi, hoz0, hoz1, hoz2⟩ := info_parts op_cell
      by_cases hpn : p ≤ i
      · have p1 : (p : Int) ≤ i := by omega
        go_upto_region 20 with (at_builtin; refine wpList_app2 rfl _ _ 61 rfl (w.heap.size + 1) 63 oi _ 2 16 Try.underlying61 hoi hoz0 hoz1 hoz2 rfl (by decide) q3 (i + i + p) _ rfl (I0.out.alloc (.cells #[.int .i64 4, .int .u32 0] 63)).l V2.heap.size [.int .i64 4, .int .u32 0] rfl rfl (fun j u hj => (Blk.cell (Arenac.blk_at2 _ _ _ _ rfl) j).trans (by simpa using hj)) (by simp [Value.oneCell']) (by omega) (by decide) (Nat.le_trans I0.out.c.lt (by simp)) ?_; intro q2 w7 hr7 ho7 hw7; go_must (have I1 := Lib.hid (I0.out.add (x := (4, 0)) hr7 ho7)); clear hr7 ho7 hw7 hc0)
        clear hoi hoz0 hoz1 hoz2
        go_wp2
        go_roundw
        case rel => exact ⟨p + 1, q2, rfl, by go_num, by omega, by rw [List.replicate_succ', ← List.append_assoc]; exact I1.out⟩
        case measure => simp [intOf]; omega
      · obtain rfl : p = i + 1 := by omega
        clear hoi hoz0 hoz1 hoz2 hc0 p0
        have hops : List.replicate i (4, 0) ++ givO 0 i tu i ++ List.replicate (i + 1) (4, 0) = backOps i (givN 0 i tu) := by rw [givO_all]; rfl
        have I3 := I0.out
        rw [hops] at I3
        have I4 := Lib.hid I3
        clear I0 I3 hops
        have hpi' : ¬ ((i : Int) + 1 ≤ i) := by omega
        go_upto_region 24 with fail
        have I5 : Hid (BkI V2 q3 (3 * i + 1) (backOps i (givN 0 i tu)) #[.int .i64 3, .int .i64 K, .int .i64 1, .int .i64 i] w) := Lib.hid (by
          have h5 := I4.out
          rw [show i + i + (i + 1) = 3 * i + 1 by omega] at h5
          exact h5)
        clear I4 hpi'
        have w9 : wrap64 (9 * (i : Int)) = 9 * i := by clear I5; unfold wrap64; omega
        have w9' : wrap64 (9 * (i : Int) + 9) = 9 * i + 9 := by clear I5; unfold wrap64; omega
        go_loopw [11, 12] (fun l p wr => ∃ (c : Nat) (qp : Sl), l = .slice qp.A qp.n qp.c ∧ p = .int .i64 c ∧ c ≤ 9 * i + 9 ∧ BkI wr q3 (3 * i + 1) (backOps i (givN 0 i tu)) #[.int .i64 3, .int .i64 K, .int .i64 1, .int .i64 i] w ∧ Row wr (w.heap.size + 1) 65 2 qp c (flatP (List.replicate c (0, 0)))) (fun _ p _ => 9 * i + 9 - (intOf p).toNat)
        case atStart => exact ⟨0, nilS, rfl, rfl, Nat.zero_le _, I5.out, row_nil _ _ _ _⟩
        case round =>
        clear I5
        obtain ⟨c, qp, rfl, rfl, hcn, hi, hr⟩ := hrel
        have I0 := Lib.hid hi
        have R0 := Lib.hid hr
        clear hi hr
        generalize wr = V3 at I0 R0 ⊢
        have c0 : (0 : Int) ≤ c := Int.natCast_nonneg _
        obtain ⟨pi, hpi, hpz0, hpz1, hpz2⟩ := info_parts pick_cell
        by_cases hc9 : c < 9 * i + 9
        · have c1 : (c : Int) < 9 * i + 9 := by omega
          go_upto_region 25 with (at_builtin; refine wpList_app2 rfl _ _ 25 rfl (w.heap.size + 1) 65 pi _ 2 16 Try.underlying25 hpi hpz0 hpz1 hpz2 rfl (by decide) qp c _ rfl (Row.alloc R0.out (.cells #[.int .i64 0, .int .u32 0] 65)) V3.heap.size [.int .i64 0, .int .u32 0] rfl rfl (fun j u hj => (Blk.cell (Arenac.blk_at2 _ _ _ _ rfl) j).trans (by simpa using hj)) (by simp [Value.oneCell']) (by omega) (by decide) (Nat.le_trans I0.out.c.lt (by simp)) ?_; intro q2 w7 hr7 ho7 hw7; go_must (have I1 := Lib.hid (I0.out.pick R0.out ho7); have R1 : Hid (Row w7 (w.heap.size + 1) 65 2 q2 (c + 1) (flatP (List.replicate (c + 1) (0, 0)))) := Lib.hid (by rw [List.replicate_succ', flatP_app]; exact hr7)); clear hr7 ho7 hw7)
          clear hpi hpz0 hpz1 hpz2
          go_wp2
          go_roundw
          case rel => exact ⟨c + 1, q2, rfl, by go_num, hc9, I1.out, R1.out⟩
          case measure => simp [intOf]; omega
        · have hce : c = 9 * i + 9 := by omega
          have c1 : ¬ (c : Int) < 9 * i + 9 := by omega
          clear hpi hpz0 hpz1 hpz2
          have hgM : ∀ x ∈ givN 0 i tu, x < i := fun x hx => by have h1 := givN_lt (h := 0) (tu := tu) (show 0 < i by omega) x hx; omega
          have hbl : (backOps i (givN 0 i tu)).length = 3 * i + 1 := by unfold backOps; simp [givN_len]; omega
          have R2 : Hid (Row V3 (w.heap.size + 1) 65 2 qp (List.replicate (9 * i + 9) ((0 : Int), (0 : Int))).length (flatP (List.replicate (9 * i + 9) (0, 0)))) := Lib.hid (by
            rw [List.length_replicate, ← hce]; exact R0.out)
          have L3 : Hid (RdLO (V3.alloc (.cells #[.slice q3.A q3.n q3.c] 61)) (V3.alloc (.cells #[.slice q3.A q3.n q3.c] 61)).heap.size ⟨some ⟨V3.heap.size, 0, none⟩, 1, 1⟩ [backOps i (givN 0 i tu)]) := Lib.hid ((I0.out.alloc _).lists hbl (Blk.new _ _ _))
          have P3 : Hid (RdP (V3.alloc (.cells #[.slice q3.A q3.n q3.c] 61)) (V3.alloc (.cells #[.slice q3.A q3.n q3.c] 61)).heap.size qp (List.replicate (9 * i + 9) (0, 0))) := Lib.hid (row_rdp (Row.alloc R2.out _) (fun x hx => by rw [List.eq_of_mem_replicate hx]; simp))
          have W3 : Hid (Below w.heap.size w (V3.alloc (.cells #[.slice q3.A q3.n q3.c] 61))) := Lib.hid (I0.out.alloc _).b
          have hcc := I0.out.c.cell
          clear R0 R2 I0 c1 hc9 hcn
          go_upto_region 28 with (go_at_call 16; (with_reducible refine (arun1_c _ 3 K i V3.heap.size 1 qp.A _ qp.c (backOps i (givN 0 i tu)) (List.replicate (9 * i + 9) (0, 0)) (by omega) (by omega) a1 a2 m1 m2 L3.out (by omega) P3.out (by rw [List.length_replicate]; omega) (backOps_fgn _ _) (backOps_val m2 hgM)).mono ?_); rintro e w11 ⟨r, sS, sK, base, rfl, hS, hK, hE, hb⟩; go_must (have E11 := Lib.hid hE; have K11 := Lib.hid hK; have W11 := Lib.hid (W3.out.trans (hb.mono W3.out.size))); clear hb hS hK hE hcc)
          clear L3 P3 W3
          have bb : Below w11.heap.size w11 (w11.alloc (.cells #[.slice sS.A sS.n sS.c, .slice sK.A sK.n sK.c, .int .u64 r.e, .int .u64 r.f, .slice r.L.A r.L.n r.L.c, .slice r.P.A r.P.n r.P.c, .int .u64 r.h, .int .u64 r.t, .slice r.K.A r.K.n r.K.c, .slice r.X.A r.X.n r.X.c, .slice r.S.A r.S.n r.S.c] 35)) := (Below.refl _ _).alloc (Nat.le_refl _) _
          have X4 : Hid (Blk (w11.alloc (.cells #[.slice sS.A sS.n sS.c, .slice sK.A sK.n sK.c, .int .u64 r.e, .int .u64 r.f, .slice r.L.A r.L.n r.L.c, .slice r.P.A r.P.n r.P.c, .int .u64 r.h, .int .u64 r.t, .slice r.K.A r.K.n r.K.c, .slice r.X.A r.X.n r.X.c, .slice r.S.A r.S.n r.S.c] 35)) w11.heap.size 35 #[.slice sS.A sS.n sS.c, .slice sK.A sK.n sK.c, .int .u64 r.e, .int .u64 r.f, .slice r.L.A r.L.n r.L.c, .slice r.P.A r.P.n r.P.c, .int .u64 r.h, .int .u64 r.t, .slice r.K.A r.K.n r.K.c, .slice r.X.A r.X.n r.X.c, .slice r.S.A r.S.n r.S.c]) := Lib.hid (Blk.new _ _ _)
          have W4 := Lib.hid (W11.out.alloc W11.out.size (.cells #[.slice sS.A sS.n sS.c, .slice sK.A sK.n sK.c, .int .u64 r.e, .int .u64 r.f, .slice r.L.A r.L.n r.L.c, .slice r.P.A r.P.n r.P.c, .int .u64 r.h, .int .u64 r.t, .slice r.K.A r.K.n r.K.c, .slice r.X.A r.X.n r.X.c, .slice r.S.A r.S.n r.S.c] 35))
          have K4 := Lib.hid ((K11.out).below bb (Nat.le_refl _))
          have E4 := Lib.hid (E11.out.alloc (.cells #[.slice sS.A sS.n sS.c, .slice sK.A sK.n sK.c, .int .u64 r.e, .int .u64 r.f, .slice r.L.A r.L.n r.L.c, .slice r.P.A r.P.n r.P.c, .int .u64 r.h, .int .u64 r.t, .slice r.K.A r.K.n r.K.c, .slice r.X.A r.X.n r.X.c, .slice r.S.A r.S.n r.S.c] 35))
          clear W11 E11 K11 bb
          generalize w11.heap.size = gA at X4 ⊢
          generalize w11.alloc (.cells #[.slice sS.A sS.n sS.c, .slice sK.A sK.n sK.c, .int .u64 r.e, .int .u64 r.f, .slice r.L.A r.L.n r.L.c, .slice r.P.A r.P.n r.P.c, .int .u64 r.h, .int .u64 r.t, .slice r.K.A r.K.n r.K.c, .slice r.X.A r.X.n r.X.c, .slice r.S.A r.S.n r.S.c] 35) = V4 at X4 W4 K4 E4 ⊢
          obtain ⟨rs, hrs, hkeys, hf⟩ := back_run (k := 3) (K := K) (M := i) (n := i) (g := givN 0 i tu) (.inr rfl) m1 m2 (by show 0 + i = i; omega) (givN_len _ _ _) hgM (givN_nodup _ _ _)
          have hlk : (runM (docZ 3 K 1 i) [backOps i (givN 0 i tu)] (RS.first (newM 3 K 1 i) 1) (List.replicate (9 * i + 9) (0, 0))).m.lk.length = i := runB_area 7 _ _ (by show (newM 3 K 1 i).lk.length = i; exact linked_len _ _ _)
          rw [hrs] at K4 E4 hlk
          clear hrs hbl hgM
          have HK : Hid (rs.calls.map Ck.key = backKeys 0 i (givN 0 i tu)) := Lib.hid hkeys
          have hcl : rs.calls.length = 3 * i + 1 := by
            have h5 := congrArg List.length HK.out
            rw [List.length_map, backKeys_len] at h5
            exact h5
          have hcl' : (rs.calls.length : Int) = 3 * i + 1 := by omega
          have HCL := Lib.hid hcl
          obtain ⟨hKn, hKn1, hKn2, _⟩ := K4.out.n_
          obtain ⟨gK, hKA, _, hKlt, hKc, _⟩ := K4.out.at_ (by omega)
          obtain ⟨kA, kn, kc⟩ := sK
          simp only at hKA hKn hKn1 hKn2
          subst hKA hKn
          obtain ⟨gN, hNA, hNlt, hNc⟩ := own_cells (E4.out.2.2 7 (.inr (.inr (.inl rfl)))) (show 0 < rs.m.lk.length by omega)
          have hNn : r.K.n = rs.m.lk.length := (Own.n_ (E4.out.2.2 7 (.inr (.inr (.inl rfl))))).1
          have hNA' : r.K.A = some ⟨gN, 0, none⟩ := hNA
          have hNm : rs.m.lk.length ≤ maxLen := by unfold maxLen; omega
          have HNU : Hid (u64s rs.m.lk) := Lib.hid (E4.out.2.2 7 (.inr (.inr (.inl rfl)))).1
          have HNC : Hid (∀ (j : Nat) (x : Int), rs.m.lk[j]? = some x → V4.cell? ⟨gN, j, none⟩ = some (.int .u64 x)) := Lib.hid hNc
          have hrf : r.f = rs.m.f := E4.out.1.2.1
          have hfb := E4.out.2.1 2 rs.m.f (by show rs.m.f ∈ [rs.m.f]; simp)
          have hcw : r.f % 4294967296 = 0 := by rw [hrf]; exact hf
          have hcx : r.f.tmod 4294967296 = 0 := by rw [Int.tmod_eq_emod_of_nonneg (by rw [hrf]; exact hfb.1)]; exact hcw
          have hcv : IntKind.u32.wrap 0 = 0 := by rw [IntKind.wrap_u32]; rfl
          have w3 : wrap64 (3 * (i : Int)) = 3 * i := giv_w3 i n2
          have w3' : wrap64 (3 * (i : Int) + 1) = 3 * i + 1 := giv_w31 i n2
          have HKC0 : Hid (∀ j, j < rs.calls.length * 7 → V4.cell? ⟨gK, j, none⟩ = (flatK rs.calls)[j]?) := Lib.hid hKc
          clear hNA hNc hlk hcl hKc hrf hfb hf hKn1 hKn2 E4 K4 w9 w9'
          have hxx := X4.out.cell
          go_upto_region 31 with (go_at_call 19; (with_reducible refine (listB_c V4 ⟨r.e, r.f, r.L, r.P, r.h, r.t, ⟨some ⟨gN, 0, none⟩, rs.m.lk.length, r.K.c⟩, r.X, r.S⟩ rs.m.lk gN r.K.c rfl hNlt HNC.out HNU.out hNm 0 (by decide) (by decide)).mono ?_); rintro e w5 ⟨q5, rfl, hr5, hb5⟩; go_must (have X5 := Lib.hid (X4.out.below hb5 X4.out.lt); have W5 := Lib.hid (W4.out.trans (hb5.mono W4.out.size)); have HKC : Hid (∀ j, j < rs.calls.length * 7 → w5.cell? ⟨gK, j, none⟩ = (flatK rs.calls)[j]?) := Lib.hid (fun j hj => (hb5.cell (p := ⟨gK, j, none⟩) hKlt).trans (HKC0.out j hj))); have hq5 : q5.n = 0 := hr5.n_.1.trans (by rw [listN_end (fun h => absurd h.1 (by decide))]; rfl); clear hr5 hb5 hxx)
          have hxx := X5.out.cell
          clear X4 W4 HKC0 HNC HNU hq5
          generalize w5 = V5 at X5 W5 HKC hxx ⊢
          go_loopw [15] (fun p wr => ∃ j : Nat, p = .int .i64 j ∧ j ≤ i ∧ BkE w wr gA gK #[.slice sS.A sS.n sS.c, .slice (some ⟨gK, 0, none⟩) rs.calls.length kc, .int .u64 r.e, .int .u64 r.f, .slice r.L.A r.L.n r.L.c, .slice r.P.A r.P.n r.P.c, .int .u64 r.h, .int .u64 r.t, .slice r.K.A r.K.n r.K.c, .slice r.X.A r.X.n r.X.c, .slice r.S.A r.S.n r.S.c] (flatK rs.calls) (rs.calls.length * 7)) (fun p _ => i - (intOf p).toNat)
          case atStart => exact ⟨0, rfl, Nat.zero_le _, X5.out, W5.out, HKC.out⟩
          case round =>
          clear X5 W5 HKC hxx
          obtain ⟨j, rfl, hj5, hE5⟩ := hrel
          have X5 := Lib.hid hE5.x
          have HKC := Lib.hid hE5.k
          have E5 := Lib.hid hE5
          have hxx := hE5.x.cell
          clear hE5
          have j0 : (0 : Int) ≤ j := Int.natCast_nonneg _
          by_cases hji : j < i
          · have j1 : (j : Int) < i := by omega
            obtain ⟨xa, ha, _, _, hao⟩ := key_at HK.out (backKeys_a (h := 0) (n := i) (tu := tu) hji)
            obtain ⟨xb, hb, hbv, _, _⟩ := key_at HK.out (backKeys_b (h := 0) (n := i) (tu := tu) hji)
            obtain ⟨xc, hc, _, hcc, hco⟩ := key_at HK.out (backKeys_c (h := 0) (n := i) (tu := tu) hji)
            obtain ⟨G, hG⟩ : ∃ G : Int, G = ((0 + (i - 1 - j + tu) % i : Nat) : Int) := ⟨_, rfl⟩
            obtain ⟨Y, hY⟩ : ∃ Y : Int, Y = ((0 + j : Nat) : Int) := ⟨_, rfl⟩
            rw [← hY] at hao
            rw [← hG] at hbv hco
            have HY := Lib.hid hY
            clear hG hY
            obtain ⟨a, hae⟩ : ∃ a : Nat, a = 2 * i + j := ⟨_, rfl⟩
            obtain ⟨b, hbe⟩ : ∃ b : Nat, b = 2 * i - 1 - j := ⟨_, rfl⟩
            rw [← hae] at hc
            rw [← hbe] at hb
            have hl3 := HCL.out
            have ca : wr.cell? ⟨gK, j * 7 + 6, none⟩ = some (.int .u32 Y) := (HKC.out _ (by omega)).trans ((flatK_get _ _ _ 6 _ ha rfl).trans (by rw [hao]))
            have cb : wr.cell? ⟨gK, b * 7 + 2, none⟩ = some (.int .u32 G) := (HKC.out _ (by omega)).trans ((flatK_get _ _ _ 2 _ hb rfl).trans (by rw [hbv]))
            have cc : wr.cell? ⟨gK, a * 7 + 6, none⟩ = some (.int .u32 G) := (HKC.out _ (by omega)).trans ((flatK_get _ _ _ 6 _ hc rfl).trans (by rw [hco]))
            have cd : wr.cell? ⟨gK, a * 7 + 5, none⟩ = some (.int .i64 0) := (HKC.out _ (by omega)).trans ((flatK_get _ _ _ 5 _ hc rfl).trans (by rw [hcc]))
            have e1 : 2 * (i : Int) + j = (a : Int) := by omega
            have e2 : 2 * (i : Int) - 1 - j = (b : Int) := by omega
            have b1 : a ≤ 1000 := by omega
            have b2 : b ≤ 1000 := by omega
            have b3 : j ≤ 1000 := by omega
            have b4 : j ≤ 64 := by omega
            have l1 : (a : Int) < 3 * i + 1 := by omega
            have l2 : (b : Int) < 3 * i + 1 := by omega
            have l3 : (j : Int) < 3 * i + 1 := by omega
            have l4 : a < rs.calls.length := by omega
            have l5 : b < rs.calls.length := by omega
            have l6 : j < rs.calls.length := by omega
            have e3 : IntKind.i64.wrap (2 * (i : Int)) = 2 * i := (wrapI _).trans (giv_w2 i n2)
            have e4 : IntKind.i64.wrap (2 * (i : Int) - 1) = 2 * i - 1 := (wrapI _).trans (giv_w21 i n2)
            have e5 : IntKind.i64.wrap (a : Int) = a := (wrapI _).trans (giv_wn a b1)
            have e6 : IntKind.i64.wrap (b : Int) = b := (wrapI _).trans (giv_wn b b2)
            have e7 : IntKind.u32.wrap ((j : Int)) = Y := by rw [HY.out, IntKind.wrap_u32]; exact giv_z0 j b4
            have e8 : IntKind.i64.wrap (j : Int) = j := (wrapI _).trans (giv_wn j b3)
            clear ha hb hc hao hbv hcc hco hae hbe hl3 b1 b2 b3 b4
            go_upto_region 33 with fail
            refine Zreg.begin_ (S := (fun w' => (∀ q, w'.cell? ⟨gA, q, none⟩ = (#[.slice sS.A sS.n sS.c, .slice (some ⟨gK, 0, none⟩) rs.calls.length kc, .int .u64 r.e, .int .u64 r.f, .slice r.L.A r.L.n r.L.c, .slice r.P.A r.P.n r.P.c, .int .u64 r.h, .int .u64 r.t, .slice r.K.A r.K.n r.K.c, .slice r.X.A r.X.n r.X.c, .slice r.S.A r.S.n r.S.c] : Array Value)[q]?) ∧ w'.cell? ⟨gK, j * 7 + 6, none⟩ = some (.int .u32 Y) ∧ w'.cell? ⟨gK, b * 7 + 2, none⟩ = some (.int .u32 G) ∧ w'.cell? ⟨gK, a * 7 + 6, none⟩ = some (.int .u32 G) ∧ w'.cell? ⟨gK, a * 7 + 5, none⟩ = some (.int .i64 0))) (zs := []) (by kernel_rfl) ?_
            show Zreg.After _ _ _ _ _ _ 45 #[false, false, false, false, false, false, false, false, false, false, false, false, false, false, false, false, false, false, false, false, false, false, false, false, false, false, false, false, false, false, false, false, false, false, false, false, false, false, false, false, false, false, false, false, false] _ _
            refine Zreg.takeP 0 125 (x := ?xy_0) rfl rfl (by kernel_rfl) (by kernel_rfl) (by kernel_rfl) (by kernel_rfl) (fun _ _ _ h => h) (.inr ⟨X5.out.drew.cell, ca, cb, cc, cd⟩) (Or.inl ⟨by rfl, ?yy_0⟩) ?ry_0
            case yy_0 => (intro w _; go_simp <;> with_reducible rfl)
            simp only [List.setIfInBounds_toArray, List.set_cons_zero, List.set_cons_succ]
            refine Zreg.takeS 1 126 (x := ?xy_1) rfl rfl (by kernel_rfl) (by kernel_rfl) (by kernel_rfl) (by kernel_rfl) (by kernel_rfl) (by kernel_rfl) (fun _ _ _ h => h) (.inr ⟨X5.out.drew.cell, ca, cb, cc, cd⟩) (Or.inl ⟨by rfl, ?yy_1⟩) ?ry_1
            case yy_1 => (intro w hSw; (try dsimp only at hSw); go_simp <;> with_reducible rfl)
            simp only [List.setIfInBounds_toArray, List.set_cons_zero, List.set_cons_succ]
            refine Zreg.takeP 2 127 (x := ?xy_2) rfl rfl (by kernel_rfl) (by kernel_rfl) (by kernel_rfl) (by kernel_rfl) (fun _ _ _ h => h) (.inr ⟨X5.out.drew.cell, ca, cb, cc, cd⟩) (Or.inl ⟨by rfl, ?yy_2⟩) ?ry_2
            case yy_2 => (intro w _; go_simp <;> with_reducible rfl)
            simp only [List.setIfInBounds_toArray, List.set_cons_zero, List.set_cons_succ]
            refine Zreg.takeP 3 128 (x := ?xy_3) rfl rfl (by kernel_rfl) (by kernel_rfl) (by kernel_rfl) (by kernel_rfl) (fun _ _ _ h => h) (.inr ⟨X5.out.drew.cell, ca, cb, cc, cd⟩) (Or.inl ⟨by rfl, ?yy_3⟩) ?ry_3
            case yy_3 => (intro w _; go_simp <;> with_reducible rfl)
            simp only [List.setIfInBounds_toArray, List.set_cons_zero, List.set_cons_succ]
            refine Zreg.takeP 4 129 (x := ?xy_4) rfl rfl (by kernel_rfl) (by kernel_rfl) (by kernel_rfl) (by kernel_rfl) (fun _ _ _ h => h) (.inr ⟨X5.out.drew.cell, ca, cb, cc, cd⟩) (Or.inl ⟨by rfl, ?yy_4⟩) ?ry_4
            case yy_4 => (intro w _; go_simp <;> with_reducible rfl)
            simp only [List.setIfInBounds_toArray, List.set_cons_zero, List.set_cons_succ]
            refine Zreg.takeS 5 130 (x := ?xy_5) rfl rfl (by kernel_rfl) (by kernel_rfl) (by kernel_rfl) (by kernel_rfl) (by kernel_rfl) (by kernel_rfl) (fun _ _ _ h => h) (.inr ⟨X5.out.drew.cell, ca, cb, cc, cd⟩) (Or.inl ⟨by rfl, ?yy_5⟩) ?ry_5
            case yy_5 => (intro w hSw; (try dsimp only at hSw); go_simp <;> with_reducible rfl)
            simp only [List.setIfInBounds_toArray, List.set_cons_zero, List.set_cons_succ]
            refine Zreg.takeP 6 131 (x := ?xy_6) rfl rfl (by kernel_rfl) (by kernel_rfl) (by kernel_rfl) (by kernel_rfl) (fun _ _ _ h => h) (.inr ⟨X5.out.drew.cell, ca, cb, cc, cd⟩) (Or.inl ⟨by rfl, ?yy_6⟩) ?ry_6
            case yy_6 => (intro w _; go_simp <;> with_reducible rfl)
            simp only [List.setIfInBounds_toArray, List.set_cons_zero, List.set_cons_succ]
            refine Zreg.takeP 7 132 (x := ?xy_7) rfl rfl (by kernel_rfl) (by kernel_rfl) (by kernel_rfl) (by kernel_rfl) (fun _ _ _ h => h) (.inr ⟨X5.out.drew.cell, ca, cb, cc, cd⟩) (Or.inl ⟨by rfl, ?yy_7⟩) ?ry_7
            case yy_7 => (intro w _; go_simp <;> with_reducible rfl)
            simp only [List.setIfInBounds_toArray, List.set_cons_zero, List.set_cons_succ]
            refine Zreg.takeP 8 133 (x := ?xy_8) rfl rfl (by kernel_rfl) (by kernel_rfl) (by kernel_rfl) (by kernel_rfl) (fun _ _ _ h => h) (.inr ⟨X5.out.drew.cell, ca, cb, cc, cd⟩) (Or.inl ⟨by rfl, ?yy_8⟩) ?ry_8
            case yy_8 => (intro w _; go_simp <;> with_reducible rfl)
            simp only [List.setIfInBounds_toArray, List.set_cons_zero, List.set_cons_succ]
            refine Zreg.takeP 9 134 (x := ?xy_9) rfl rfl (by kernel_rfl) (by kernel_rfl) (by kernel_rfl) (by kernel_rfl) (fun _ _ _ h => h) (.inr ⟨X5.out.drew.cell, ca, cb, cc, cd⟩) (Or.inl ⟨by rfl, ?yy_9⟩) ?ry_9
            case yy_9 => (intro w _; go_simp <;> with_reducible rfl)
            simp only [List.setIfInBounds_toArray, List.set_cons_zero, List.set_cons_succ]
            refine Zreg.takeP 10 135 (x := ?xy_10) rfl rfl (by kernel_rfl) (by kernel_rfl) (by kernel_rfl) (by kernel_rfl) (fun _ _ _ h => h) (.inr ⟨X5.out.drew.cell, ca, cb, cc, cd⟩) (Or.inl ⟨by rfl, ?yy_10⟩) ?ry_10
            case yy_10 => (intro w _; go_simp <;> with_reducible rfl)
            simp only [List.setIfInBounds_toArray, List.set_cons_zero, List.set_cons_succ]
            refine Zreg.takeP 11 136 (x := ?xy_11) rfl rfl (by kernel_rfl) (by kernel_rfl) (by kernel_rfl) (by kernel_rfl) (fun _ _ _ h => h) (.inr ⟨X5.out.drew.cell, ca, cb, cc, cd⟩) (Or.inl ⟨by rfl, ?yy_11⟩) ?ry_11
            case yy_11 => (intro w _; go_simp <;> with_reducible rfl)
            simp only [List.setIfInBounds_toArray, List.set_cons_zero, List.set_cons_succ]
            refine Zreg.takeP 12 137 (x := ?xy_12) rfl rfl (by kernel_rfl) (by kernel_rfl) (by kernel_rfl) (by kernel_rfl) (fun _ _ _ h => h) (.inr ⟨X5.out.drew.cell, ca, cb, cc, cd⟩) (Or.inl ⟨by rfl, ?yy_12⟩) ?ry_12
            case yy_12 => (intro w _; go_simp <;> with_reducible rfl)
            simp only [List.setIfInBounds_toArray, List.set_cons_zero, List.set_cons_succ]
            refine Zreg.takeS 13 138 (x := ?xy_13) rfl rfl (by kernel_rfl) (by kernel_rfl) (by kernel_rfl) (by kernel_rfl) (by kernel_rfl) (by kernel_rfl) (fun _ _ _ h => h) (.inr ⟨X5.out.drew.cell, ca, cb, cc, cd⟩) (Or.inl ⟨by rfl, ?yy_13⟩) ?ry_13
            case yy_13 => (intro w hSw; (try dsimp only at hSw); go_simp <;> with_reducible rfl)
            simp only [List.setIfInBounds_toArray, List.set_cons_zero, List.set_cons_succ]
            refine Zreg.takeP 14 139 (x := ?xy_14) rfl rfl (by kernel_rfl) (by kernel_rfl) (by kernel_rfl) (by kernel_rfl) (fun _ _ _ h => h) (.inr ⟨X5.out.drew.cell, ca, cb, cc, cd⟩) (Or.inl ⟨by rfl, ?yy_14⟩) ?ry_14
            case yy_14 => (intro w _; go_simp <;> with_reducible rfl)
            simp only [List.setIfInBounds_toArray, List.set_cons_zero, List.set_cons_succ]
            refine Zreg.takeP 15 140 (x := ?xy_15) rfl rfl (by kernel_rfl) (by kernel_rfl) (by kernel_rfl) (by kernel_rfl) (fun _ _ _ h => h) (.inr ⟨X5.out.drew.cell, ca, cb, cc, cd⟩) (Or.inl ⟨by rfl, ?yy_15⟩) ?ry_15
            case yy_15 => (intro w _; go_simp <;> with_reducible rfl)
            simp only [List.setIfInBounds_toArray, List.set_cons_zero, List.set_cons_succ]
            refine Zreg.takeP 16 141 (x := ?xy_16) rfl rfl (by kernel_rfl) (by kernel_rfl) (by kernel_rfl) (by kernel_rfl) (fun _ _ _ h => h) (.inr ⟨X5.out.drew.cell, ca, cb, cc, cd⟩) (Or.inl ⟨by rfl, ?yy_16⟩) ?ry_16
            case yy_16 => (intro w _; go_simp <;> with_reducible rfl)
            simp only [List.setIfInBounds_toArray, List.set_cons_zero, List.set_cons_succ]
            refine Zreg.takeP 17 142 (x := ?xy_17) rfl rfl (by kernel_rfl) (by kernel_rfl) (by kernel_rfl) (by kernel_rfl) (fun _ _ _ h => h) (.inr ⟨X5.out.drew.cell, ca, cb, cc, cd⟩) (Or.inl ⟨by rfl, ?yy_17⟩) ?ry_17
            case yy_17 => (intro w _; go_simp <;> with_reducible rfl)
            simp only [List.setIfInBounds_toArray, List.set_cons_zero, List.set_cons_succ]
            refine Zreg.takeP 18 143 (x := ?xy_18) rfl rfl (by kernel_rfl) (by kernel_rfl) (by kernel_rfl) (by kernel_rfl) (fun _ _ _ h => h) (.inr ⟨X5.out.drew.cell, ca, cb, cc, cd⟩) (Or.inl ⟨by rfl, ?yy_18⟩) ?ry_18
            case yy_18 => (intro w _; go_simp <;> with_reducible rfl)
            simp only [List.setIfInBounds_toArray, List.set_cons_zero, List.set_cons_succ]
            refine Zreg.takeP 19 144 (x := ?xy_19) rfl rfl (by kernel_rfl) (by kernel_rfl) (by kernel_rfl) (by kernel_rfl) (fun _ _ _ h => h) (.inr ⟨X5.out.drew.cell, ca, cb, cc, cd⟩) (Or.inl ⟨by rfl, ?yy_19⟩) ?ry_19
            case yy_19 => (intro w _; go_simp <;> with_reducible rfl)
            simp only [List.setIfInBounds_toArray, List.set_cons_zero, List.set_cons_succ]
            refine Zreg.takeS 20 145 (x := ?xy_20) rfl rfl (by kernel_rfl) (by kernel_rfl) (by kernel_rfl) (by kernel_rfl) (by kernel_rfl) (by kernel_rfl) (fun _ _ _ h => h) (.inr ⟨X5.out.drew.cell, ca, cb, cc, cd⟩) (Or.inl ⟨by rfl, ?yy_20⟩) ?ry_20
            case yy_20 => (intro w hSw; (try dsimp only at hSw); go_simp <;> with_reducible rfl)
            simp only [List.setIfInBounds_toArray, List.set_cons_zero, List.set_cons_succ]
            refine Zreg.takeP 21 146 (x := ?xy_21) rfl rfl (by kernel_rfl) (by kernel_rfl) (by kernel_rfl) (by kernel_rfl) (fun _ _ _ h => h) (.inr ⟨X5.out.drew.cell, ca, cb, cc, cd⟩) (Or.inl ⟨by rfl, ?yy_21⟩) ?ry_21
            case yy_21 => (intro w _; go_simp <;> with_reducible rfl)
            simp only [List.setIfInBounds_toArray, List.set_cons_zero, List.set_cons_succ]
            refine Zreg.takeS 22 147 (x := ?xy_22) rfl rfl (by kernel_rfl) (by kernel_rfl) (by kernel_rfl) (by kernel_rfl) (by kernel_rfl) (by kernel_rfl) (fun _ _ _ h => h) (.inr ⟨X5.out.drew.cell, ca, cb, cc, cd⟩) (Or.inl ⟨by rfl, ?yy_22⟩) ?ry_22
            case yy_22 => (intro w hSw; (try dsimp only at hSw); go_simp <;> with_reducible rfl)
            simp only [List.setIfInBounds_toArray, List.set_cons_zero, List.set_cons_succ]
            refine Zreg.takeP 23 148 (x := ?xy_23) rfl rfl (by kernel_rfl) (by kernel_rfl) (by kernel_rfl) (by kernel_rfl) (fun _ _ _ h => h) (.inr ⟨X5.out.drew.cell, ca, cb, cc, cd⟩) (Or.inl ⟨by rfl, ?yy_23⟩) ?ry_23
            case yy_23 => (intro w _; go_simp <;> with_reducible rfl)
            simp only [List.setIfInBounds_toArray, List.set_cons_zero, List.set_cons_succ]
            refine Zreg.takeP 24 149 (x := ?xy_24) rfl rfl (by kernel_rfl) (by kernel_rfl) (by kernel_rfl) (by kernel_rfl) (fun _ _ _ h => h) (.inr ⟨X5.out.drew.cell, ca, cb, cc, cd⟩) (Or.inl ⟨by rfl, ?yy_24⟩) ?ry_24
            case yy_24 => (intro w _; go_simp <;> with_reducible rfl)
            simp only [List.setIfInBounds_toArray, List.set_cons_zero, List.set_cons_succ]
            refine Zreg.takeP 25 150 (x := ?xy_25) rfl rfl (by kernel_rfl) (by kernel_rfl) (by kernel_rfl) (by kernel_rfl) (fun _ _ _ h => h) (.inr ⟨X5.out.drew.cell, ca, cb, cc, cd⟩) (Or.inl ⟨by rfl, ?yy_25⟩) ?ry_25
            case yy_25 => (intro w _; go_simp <;> with_reducible rfl)
            simp only [List.setIfInBounds_toArray, List.set_cons_zero, List.set_cons_succ]
            refine Zreg.takeP 26 151 (x := ?xy_26) rfl rfl (by kernel_rfl) (by kernel_rfl) (by kernel_rfl) (by kernel_rfl) (fun _ _ _ h => h) (.inr ⟨X5.out.drew.cell, ca, cb, cc, cd⟩) (Or.inl ⟨by rfl, ?yy_26⟩) ?ry_26
            case yy_26 => (intro w _; go_simp <;> with_reducible rfl)
            simp only [List.setIfInBounds_toArray, List.set_cons_zero, List.set_cons_succ]
            refine Zreg.takeP 27 152 (x := ?xy_27) rfl rfl (by kernel_rfl) (by kernel_rfl) (by kernel_rfl) (by kernel_rfl) (fun _ _ _ h => h) (.inr ⟨X5.out.drew.cell, ca, cb, cc, cd⟩) (Or.inl ⟨by rfl, ?yy_27⟩) ?ry_27
            case yy_27 => (intro w _; go_simp <;> with_reducible rfl)
            simp only [List.setIfInBounds_toArray, List.set_cons_zero, List.set_cons_succ]
            refine Zreg.takeP 28 153 (x := ?xy_28) rfl rfl (by kernel_rfl) (by kernel_rfl) (by kernel_rfl) (by kernel_rfl) (fun _ _ _ h => h) (.inr ⟨X5.out.drew.cell, ca, cb, cc, cd⟩) (Or.inl ⟨by rfl, ?yy_28⟩) ?ry_28
            case yy_28 => (intro w _; go_simp <;> with_reducible rfl)
            simp only [List.setIfInBounds_toArray, List.set_cons_zero, List.set_cons_succ]
            refine Zreg.takeP 29 154 (x := ?xy_29) rfl rfl (by kernel_rfl) (by kernel_rfl) (by kernel_rfl) (by kernel_rfl) (fun _ _ _ h => h) (.inr ⟨X5.out.drew.cell, ca, cb, cc, cd⟩) (Or.inl ⟨by rfl, ?yy_29⟩) ?ry_29
            case yy_29 => (intro w _; go_simp <;> with_reducible rfl)
            simp only [List.setIfInBounds_toArray, List.set_cons_zero, List.set_cons_succ]
            refine Zreg.takeS 30 155 (x := ?xy_30) rfl rfl (by kernel_rfl) (by kernel_rfl) (by kernel_rfl) (by kernel_rfl) (by kernel_rfl) (by kernel_rfl) (fun _ _ _ h => h) (.inr ⟨X5.out.drew.cell, ca, cb, cc, cd⟩) (Or.inl ⟨by rfl, ?yy_30⟩) ?ry_30
            case yy_30 => (intro w hSw; (try dsimp only at hSw); go_simp <;> with_reducible rfl)
            simp only [List.setIfInBounds_toArray, List.set_cons_zero, List.set_cons_succ]
            refine Zreg.takeP 31 156 (x := ?xy_31) rfl rfl (by kernel_rfl) (by kernel_rfl) (by kernel_rfl) (by kernel_rfl) (fun _ _ _ h => h) (.inr ⟨X5.out.drew.cell, ca, cb, cc, cd⟩) (Or.inl ⟨by rfl, ?yy_31⟩) ?ry_31
            case yy_31 => (intro w _; go_simp <;> with_reducible rfl)
            simp only [List.setIfInBounds_toArray, List.set_cons_zero, List.set_cons_succ]
            refine Zreg.takeP 32 157 (x := ?xy_32) rfl rfl (by kernel_rfl) (by kernel_rfl) (by kernel_rfl) (by kernel_rfl) (fun _ _ _ h => h) (.inr ⟨X5.out.drew.cell, ca, cb, cc, cd⟩) (Or.inl ⟨by rfl, ?yy_32⟩) ?ry_32
            case yy_32 => (intro w _; go_simp <;> with_reducible rfl)
            simp only [List.setIfInBounds_toArray, List.set_cons_zero, List.set_cons_succ]
            refine Zreg.takeP 33 158 (x := ?xy_33) rfl rfl (by kernel_rfl) (by kernel_rfl) (by kernel_rfl) (by kernel_rfl) (fun _ _ _ h => h) (.inr ⟨X5.out.drew.cell, ca, cb, cc, cd⟩) (Or.inl ⟨by rfl, ?yy_33⟩) ?ry_33
            case yy_33 => (intro w _; go_simp <;> with_reducible rfl)
            simp only [List.setIfInBounds_toArray, List.set_cons_zero, List.set_cons_succ]
            refine Zreg.takeP 34 159 (x := ?xy_34) rfl rfl (by kernel_rfl) (by kernel_rfl) (by kernel_rfl) (by kernel_rfl) (fun _ _ _ h => h) (.inr ⟨X5.out.drew.cell, ca, cb, cc, cd⟩) (Or.inl ⟨by rfl, ?yy_34⟩) ?ry_34
            case yy_34 => (intro w _; go_simp <;> with_reducible rfl)
            simp only [List.setIfInBounds_toArray, List.set_cons_zero, List.set_cons_succ]
            refine Zreg.takeS 35 160 (x := ?xy_35) rfl rfl (by kernel_rfl) (by kernel_rfl) (by kernel_rfl) (by kernel_rfl) (by kernel_rfl) (by kernel_rfl) (fun _ _ _ h => h) (.inr ⟨X5.out.drew.cell, ca, cb, cc, cd⟩) (Or.inl ⟨by rfl, ?yy_35⟩) ?ry_35
            case yy_35 => (intro w hSw; (try dsimp only at hSw); go_simp <;> with_reducible rfl)
            simp only [List.setIfInBounds_toArray, List.set_cons_zero, List.set_cons_succ]
            refine Zreg.takeP 36 161 (x := ?xy_36) rfl rfl (by kernel_rfl) (by kernel_rfl) (by kernel_rfl) (by kernel_rfl) (fun _ _ _ h => h) (.inr ⟨X5.out.drew.cell, ca, cb, cc, cd⟩) (Or.inl ⟨by rfl, ?yy_36⟩) ?ry_36
            case yy_36 => (intro w _; go_simp <;> with_reducible rfl)
            simp only [List.setIfInBounds_toArray, List.set_cons_zero, List.set_cons_succ]
            refine Zreg.takeP 37 162 (x := ?xy_37) rfl rfl (by kernel_rfl) (by kernel_rfl) (by kernel_rfl) (by kernel_rfl) (fun _ _ _ h => h) (.inr ⟨X5.out.drew.cell, ca, cb, cc, cd⟩) (Or.inl ⟨by rfl, ?yy_37⟩) ?ry_37
            case yy_37 => (intro w _; go_simp <;> with_reducible rfl)
            simp only [List.setIfInBounds_toArray, List.set_cons_zero, List.set_cons_succ]
            refine Zreg.takeP 38 163 (x := ?xy_38) rfl rfl (by kernel_rfl) (by kernel_rfl) (by kernel_rfl) (by kernel_rfl) (fun _ _ _ h => h) (.inr ⟨X5.out.drew.cell, ca, cb, cc, cd⟩) (Or.inl ⟨by rfl, ?yy_38⟩) ?ry_38
            case yy_38 => (intro w _; go_simp <;> with_reducible rfl)
            simp only [List.setIfInBounds_toArray, List.set_cons_zero, List.set_cons_succ]
            refine Zreg.takeP 39 164 (x := ?xy_39) rfl rfl (by kernel_rfl) (by kernel_rfl) (by kernel_rfl) (by kernel_rfl) (fun _ _ _ h => h) (.inr ⟨X5.out.drew.cell, ca, cb, cc, cd⟩) (Or.inl ⟨by rfl, ?yy_39⟩) ?ry_39
            case yy_39 => (intro w _; go_simp <;> with_reducible rfl)
            simp only [List.setIfInBounds_toArray, List.set_cons_zero, List.set_cons_succ]
            refine Zreg.takeP 40 165 (x := ?xy_40) rfl rfl (by kernel_rfl) (by kernel_rfl) (by kernel_rfl) (by kernel_rfl) (fun _ _ _ h => h) (.inr ⟨X5.out.drew.cell, ca, cb, cc, cd⟩) (Or.inl ⟨by rfl, ?yy_40⟩) ?ry_40
            case yy_40 => (intro w _; go_simp <;> with_reducible rfl)
            simp only [List.setIfInBounds_toArray, List.set_cons_zero, List.set_cons_succ]
            refine Zreg.takeP 41 166 (x := ?xy_41) rfl rfl (by kernel_rfl) (by kernel_rfl) (by kernel_rfl) (by kernel_rfl) (fun _ _ _ h => h) (.inr ⟨X5.out.drew.cell, ca, cb, cc, cd⟩) (Or.inl ⟨by rfl, ?yy_41⟩) ?ry_41
            case yy_41 => (intro w _; go_simp <;> with_reducible rfl)
            simp only [List.setIfInBounds_toArray, List.set_cons_zero, List.set_cons_succ]
            refine Zreg.takeS 42 167 (x := ?xy_42) rfl rfl (by kernel_rfl) (by kernel_rfl) (by kernel_rfl) (by kernel_rfl) (by kernel_rfl) (by kernel_rfl) (fun _ _ _ h => h) (.inr ⟨X5.out.drew.cell, ca, cb, cc, cd⟩) (Or.inl ⟨by rfl, ?yy_42⟩) ?ry_42
            case yy_42 => (intro w hSw; (try dsimp only at hSw); go_simp <;> with_reducible rfl)
            simp only [List.setIfInBounds_toArray, List.set_cons_zero, List.set_cons_succ]
            refine Zreg.takeP 43 168 (x := ?xy_43) rfl rfl (by kernel_rfl) (by kernel_rfl) (by kernel_rfl) (by kernel_rfl) (fun _ _ _ h => h) (.inr ⟨X5.out.drew.cell, ca, cb, cc, cd⟩) (Or.inl ⟨by rfl, ?yy_43⟩) ?ry_43
            case yy_43 => (intro w _; go_simp <;> with_reducible rfl)
            simp only [List.setIfInBounds_toArray, List.set_cons_zero, List.set_cons_succ]
            refine Zreg.takeP 44 169 (x := ?xy_44) rfl rfl (by kernel_rfl) (by kernel_rfl) (by kernel_rfl) (by kernel_rfl) (fun _ _ _ h => h) (.inr ⟨X5.out.drew.cell, ca, cb, cc, cd⟩) (Or.inl ⟨by rfl, ?yy_44⟩) ?ry_44
            case yy_44 => (intro w _; go_simp <;> with_reducible rfl)
            simp only [List.setIfInBounds_toArray, List.set_cons_zero, List.set_cons_succ]
            refine Zreg.done (by kernel_rfl) ?_ _
            clear ca cb cc cd e1 e2 e3 e4 e5 e6 e7 l1 l2 l3 l4 l5 l6
            go_wp2
            go_roundw
            case rel => exact ⟨j + 1, rfl, hji, E5.out.drew⟩
            case measure => simp [intOf]; omega
          · obtain rfl : j = i := by omega
            obtain ⟨xd, hd, _, hdc, _⟩ := key_at HK.out (backKeys_d (h := 0) (n := j) (tu := tu))
            have hl3 := HCL.out
            obtain ⟨a, hae⟩ : ∃ a : Nat, a = 3 * j := ⟨_, rfl⟩
            rw [← hae] at hd
            have cd : wr.cell? ⟨gK, a * 7 + 5, none⟩ = some (.int .i64 4) := (HKC.out _ (by omega)).trans ((flatK_get _ _ _ 5 _ hd rfl).trans (by rw [hdc]))
            have e1 : 3 * (j : Int) = (a : Int) := by omega
            have l1 : (a : Int) < 3 * j + 1 := by omega
            have l4 : a < rs.calls.length := by omega
            have b1 : a ≤ 1000 := by omega
            have e5 : wrap64 (a : Int) = a := giv_wn a b1
            clear hd hdc hae hl3
            go_wp2_with fail
            go_ret
            exact ⟨rfl, E5.out.b⟩
end Go.Proofs.Ytffppdcpiieapaa.Machc
