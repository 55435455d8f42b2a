/- After threads one by one, alone, hold, retire each a segment of its own, and drop, three times Collect frees them all: the law's walk. -/
import Derived.Test.YtffppdcpiieapaaQ17
namespace Go.Proofs.Ytffppdcpiieapaa.Machc
open Go.RowKit Go.Proofs.Ytffppdcpiieapaa.Memc Go.Proofs.Ytffppdcpiieapaa.Newc Go.Proofs.Ytffppdcpiieapaa.Drivec Go.Proofs.Ytffppdcpiieapaa.Procc Go.Proofs.Ytffppdcpiieapaa.Arenac
set_option linter.unusedVariables false
set_option maxRecDepth 100000

theorem listE_c (w : World) (r : R) (lk : List Int) (g c : Nat) (hK : r.K = ⟨some ⟨g, 0, none⟩, lk.length, c⟩) (hg : g < w.heap.size) (hgc : ∀ (j : Nat) (x : Int), lk[j]? = some x → w.cell? ⟨g, j, none⟩ = some (.int .u64 x)) (hu : u64s lk) (hlm : lk.length ≤ maxLen) (first : Int) (f0 : 0 ≤ first) (f1 : first ≤ 4294967295) :
    Calls Try.prog 19 #[.agg #[.int .u64 r.e, .int .u64 r.f, .slice r.L.A r.L.n r.L.c, .slice r.P.A r.P.n r.P.c, .int .u64 r.h, .int .u64 r.t, .slice r.K.A lk.length r.K.c, .slice r.X.A r.X.n r.X.c, .slice r.S.A r.S.n r.S.c], .int .u32 first, .int .i64 99] w fun e w' => ∃ q : Sl, e = .returned (.slice q.A q.n q.c) ∧ Row w' (w.heap.size + 1) 3 1 q (listN 99 lk first).length (intsV (listN 99 lk first)) ∧ Below w.heap.size w w' :=
  list_c w r lk g c hK hg hgc hu hlm first f0 f1 99 (by decide)
set_option maxHeartbeats 4000000 in
theorem frees_c (w : World) (k : Int) (K T M : Nat) (k1 : 1 ≤ k) (k2 : k ≤ 3) (a1 : 1 ≤ K) (a2 : K ≤ 64) (t1 : 1 ≤ T) (t2 : T ≤ 8) (m1 : 2 ≤ M) (m2 : M ≤ 64) (hTM : T ≤ M) (hE : FrEnd (runM (docZ 2 K T M) ((List.range T).map callsT) (RS.first (newM 2 K T M) T) (picksT T ++ List.replicate 400 (0, 0))) T) :
    Calls Try.prog 8 #[.agg #[.int .i64 k, .int .i64 K, .int .i64 T, .int .i64 M]] w fun e w' => e = .returned (.bool true) ∧ Below w.heap.size w w' := by
  have HE := Lib.hid hE
  clear hE
  have C0 : Hid (Blk (w.alloc (.cells #[.int .i64 k, .int .i64 K, .int .i64 T, .int .i64 M] 23)) w.heap.size 23 #[.int .i64 k, .int .i64 K, .int .i64 T, .int .i64 M]) := Lib.hid (Blk.new _ _ _)
  have W0 : Hid (Below w.heap.size w (w.alloc (.cells #[.int .i64 k, .int .i64 K, .int .i64 T, .int .i64 M] 23))) := Lib.hid ((Below.refl _ _).alloc (Nat.le_refl _) _)
  have hmt : ¬ (M : Int) < (T : Int) := by omega
  have hmt2 : decide (M < T) = false := decide_eq_false (by omega)
  go_enter Try.func8, Try.ntmps8
  go_upto_region 5 with (first
    | (go_at_call 21; (with_reducible refine (awake5_c _).mono ?_); rintro e w1 ⟨rfl, hb⟩; go_must (have C1 := Lib.hid (C0.out.below hb C0.out.lt); have W1 := Lib.hid (W0.out.trans (hb.mono W0.out.size))); have hc1 := C1.out.cell; have hf1 := C1.out.frozen; clear hb)
    | (go_at_call 20; (with_reducible refine (refmay_yes _ k K T M k1 k2 (by omega) (by omega) (by omega) (by omega) (by omega) (by omega)).mono ?_); rintro e w2 ⟨rfl, hb⟩; go_must (have C2 := Lib.hid (C1.out.below hb C1.out.lt); have W2 := Lib.hid (W1.out.trans (hb.mono W1.out.size))); have hc2 := C2.out.cell; have hf2 := C2.out.frozen; clear hb hc1 hf1))
  go_upto_region 9 with fail
  have C3 : Hid (Blk (w2.setCell ⟨w.heap.size, 0, none⟩ (.int .i64 2)) w.heap.size 23 #[.int .i64 2, .int .i64 K, .int .i64 T, .int .i64 M]) := Lib.hid (by
    have h_ := C2.out.set_ 0 (.int .i64 2)
    simpa only [List.setIfInBounds_toArray, List.set_cons_zero, List.set_cons_succ] using h_)
  have W3 : Hid (Below w.heap.size w (w2.setCell ⟨w.heap.size, 0, none⟩ (.int .i64 2))) := Lib.hid (Below.setCell W2.out (p := ⟨w.heap.size, 0, none⟩) (Nat.le_refl _) (.int .i64 2))
  clear hc2 hf2 C0 W0 C1 W1 C2 W2
  generalize w2.setCell ⟨w.heap.size, 0, none⟩ (.int .i64 2) = V3 at C3 W3 ⊢
  go_loopw [3, 4, 5] (fun l p i wr => ∃ (t : Nat) (q pq : Sl) (gs : List Nat), l = .slice q.A q.n q.c ∧ p = .slice pq.A pq.n pq.c ∧ i = .int .i64 t ∧ t ≤ T ∧ FrI wr t t q pq gs K T M w) (fun _ _ i _ => T - (intOf i).toNat)
  case atStart => exact ⟨0, nilS, nilS, [], rfl, rfl, rfl, Nat.zero_le _, rfl, row_nil _ _ _ _, (fun i g h => by cases h), row_nil _ _ _ _, C3.out, W3.out, List.Pairwise.nil, (fun g h => by cases h)⟩
  case round =>
  clear C3 W3
  obtain ⟨t, q, pq, gs, rfl, rfl, rfl, ht, hi⟩ := hrel
  have I0 := Lib.hid hi
  have hc0 := hi.c.cell
  clear hi
  generalize wr = V0 at I0 hc0 ⊢
  have i0 : (0 : Int) ≤ t := Int.natCast_nonneg _
  by_cases hlt : t < T
  · have i1 : (t : Int) < T := by omega
    have cu : (t : Int) % 4294967296 = t := by omega
    obtain ⟨ji, hji, hjz0, hjz1, hjz2⟩ := info_parts ops_cell
    obtain ⟨pi, hpi, hpz0, hpz1, hpz2⟩ := info_parts pick_cell
    go_upto_region 12 with (at_builtin; refine wpList_app2 rfl _ _ 44 rfl (w.heap.size + 1) 61 ji _ 1 24 Try.underlying44 hji hjz0 hjz1 hjz2 rfl (by decide) q t _ rfl (((I0.out.alloc (.cells #[.int .i64 6, .int .u32 0, .int .i64 8, .int .u32 t, .int .i64 7, .int .u32 0] 63)).alloc (.cells #[.slice (some ⟨V0.heap.size, 0, none⟩) 3 3] 61)).l) (V0.heap.size + 1) [.slice (some ⟨V0.heap.size, 0, none⟩) 3 3] rfl rfl (fun j u hj => (Blk.cell (Arenac.blk_at2 _ _ _ _ (by simp)) j).trans (by simpa using hj)) (by simp [Value.oneCell']) (by omega) (by decide) (Nat.le_trans I0.out.c.lt (by simp; omega)) ?_; intro q2 w7 hr7 ho7 hw7; go_must (have I1 := Lib.hid (I0.out.addl hr7 ho7)); clear hr7 ho7 hw7 hc0)
    clear hji hjz0 hjz1 hjz2
    go_upto_region 10 with (first
      | (go_at_call 22; (with_reducible refine (picked_8 _ t (by omega) (by omega)).mono ?_); rintro e w8 ⟨g8, c8, rfl, hn8, hb⟩; go_must (have I2 := Lib.hid (I1.out.below hb); have N8 := Lib.hid hn8); clear hb hn8)
      | (at_builtin; refine wpList_appN rfl _ _ 25 rfl (w.heap.size + 1) 65 pi _ 2 16 Try.underlying25 hpi hpz0 hpz1 hpz2 rfl (by decide) pq (8 * t) _ rfl I2.out.p g8 8 c8 (by decide) (flatP (List.replicate 8 ((t : Int), 0))) rfl (flatP_len2 8 t) N8.out (flatP_one _) (by omega) (by decide) (Nat.le_trans I2.out.c.lt (Nat.le_refl _)) ?_; intro q3 w9 hr9 ho9 hw9; go_must (have I3 := Lib.hid (I2.out.addp (by rw [picksT, flatP_app]; exact hr9) ho9)); clear hr9 ho9 hw9))
    clear hpi hpz0 hpz1 hpz2
    go_wp2
    go_roundw
    case rel => exact ⟨t + 1, q2, q3, gs ++ [V0.heap.size], rfl, rfl, by go_num, by omega, I3.out⟩
    case measure => simp [intOf]; omega
  · obtain rfl : t = T := by omega
    obtain ⟨gl, hA, _, _, hcl, _⟩ := I0.out.l.at_ (by omega)
    have hn := I0.out.l.n_
    obtain ⟨qA, qn, qc⟩ := q
    simp only at hA hn
    obtain ⟨hn, hn1, hn2, hn3⟩ := hn
    subst hA hn
    obtain ⟨g0, h0⟩ : ∃ g, gs[0]? = some g := ⟨_, List.getElem?_eq_getElem (by rw [I0.out.len]; omega)⟩
    have hl0 : V0.cell? ⟨gl, 0, none⟩ = some (.slice (some ⟨g0, 0, none⟩) 3 3) := (hcl 0 (by omega)).trans (by rw [List.getElem?_map, h0]; rfl)
    clear hcl
    obtain ⟨oi, hoi, hoz0, hoz1, hoz2⟩ := info_parts op_cell
    have hdum : True := trivial
    go_upto_region 14 with (at_builtin; refine wpList_appN rfl _ _ 61 rfl g0 63 oi _ 2 16 Try.underlying61 hoi hoz0 hoz1 hoz2 rfl (by decide) ⟨some ⟨g0, 0, none⟩, 3, 3⟩ 3 _ rfl ((I0.out.alloc _).o 0 g0 h0) V0.heap.size 3 3 (by decide) (flatP [(3, 0), (3, 0), (3, 0)]) rfl rfl (fun j u hj => (Blk.cell (Blk.new _ _ _) j).trans (by simpa [flatP, Drivec.pcells] using hj)) (flatP_one _) (by omega) (by decide) (Nat.le_trans (Nat.le_of_lt (I0.out.lt (List.mem_of_getElem? h0))) (by simp)) ?_; intro s2 w7 hr7 ho7 hw7; go_must (have hs7 := (I0.out.at0 rfl (by omega) h0 ((Below.refl _ _).alloc (Nat.le_refl _) _) ho7)); have hs7c := hs7.1; have hs7f := hs7.2; clear hs7)
    have J0 := Lib.hid (I0.out.close rfl (by omega) h0 ((Below.refl _ _).alloc (Nat.le_refl _) _) hr7 ho7)
    clear hr7 ho7 hw7 hs7c hs7f hl0 h0 hoi hoz0 hoz1 hoz2 I0 hc0
    generalize w7.setCell ⟨gl, 0, none⟩ (.slice s2.A s2.n s2.c) = V8 at J0 ⊢
    obtain ⟨pi, hpi, hpz0, hpz1, hpz2⟩ := info_parts pick_cell
    have hpl : (picksT qn).length = 8 * qn := picksT_len qn
    go_upto_region 15 with (first
      | (go_at_call 22; (with_reducible refine (picked_400 _).mono ?_); rintro e w9 ⟨g9, c9, rfl, hn9, hb⟩; go_must (have J1 := Lib.hid (J0.out.below hb); have N9 := Lib.hid hn9); clear hb hn9)
      | (at_builtin; refine wpList_appN rfl _ _ 25 rfl (w.heap.size + 1) 65 pi _ 2 16 Try.underlying25 hpi hpz0 hpz1 hpz2 rfl (by decide) pq (picksT qn).length _ rfl J1.out.p g9 400 c9 (by decide) (flatP (List.replicate 400 (0, 0))) rfl (flatP_len2 400 0) N9.out (flatP_one _) (by omega) (by decide) (Nat.le_trans J1.out.c.lt (Nat.le_refl _)) ?_; intro q4 w10 hr9 ho9 hw9; go_must (have J2 := Lib.hid (J1.out.addp (by rw [flatP_app, List.length_append, List.length_replicate]; exact hr9) ho9)); clear hr9 ho9 hw9))
    clear hpi hpz0 hpz1 hpz2
    have hcc := J2.out.c.cell
    have hcap : qn ≤ qc ∧ qc ≤ maxLen := ⟨by first | exact hn1 | omega, by first | exact hn2 | omega⟩
    have hv4 : ∀ l ∈ (List.range qn).map callsT, ∀ o ∈ l, 0 ≤ o.2 ∧ o.2 ≤ 4294967295 := callsT_val qn t2
    have hpb : ∀ x ∈ picksT qn ++ List.replicate 400 (0, 0), -9223372036854775808 ≤ x.1 ∧ x.1 ≤ 9223372036854775807 := picksT_b qn t2
    have hpn : (picksT qn ++ List.replicate 400 ((0 : Int), (0 : Int))).length ≤ 20000 := by rw [List.length_append, hpl, List.length_replicate]; omega
    clear hpl
    go_upto_region 16 with (go_at_call 23; (with_reducible refine (erun_c _ 2 K qn M gl 0 qc q4.A _ q4.c _ _ (by omega) (by omega) a1 a2 t1 t2 m1 m2 (J2.out.lists qc hcap) (callsT_len qn) (row_rdp J2.out.p hpb) hpn (callsT_fgn qn) hv4).mono ?_); rintro e w11 ⟨r, sS, sK, base, rfl, hS, hK, hE, hb⟩; go_must (have S11 := Lib.hid hS; have K11 := Lib.hid hK; have E11 := Lib.hid hE; have C11 := Lib.hid (J2.out.c.below hb J2.out.c.lt); have W11 := Lib.hid (J2.out.b.trans (hb.mono J2.out.b.size))); clear hb hS hK hE hcc)
    have bb : Below w11.heap.size w11 (w11.alloc (.cells #[.slice sS.A sS.n sS.c, .slice sK.A sK.n sK.c, .int .u64 r.e, .int .u64 r.f, .slice r.L.A r.L.n r.L.c, .slice r.P.A r.P.n r.P.c, .int .u64 r.h, .int .u64 r.t, .slice r.K.A r.K.n r.K.c, .slice r.X.A r.X.n r.X.c, .slice r.S.A r.S.n r.S.c] 35)) := (Below.refl _ _).alloc (Nat.le_refl _) _
    have X3 : Hid (Blk (w11.alloc (.cells #[.slice sS.A sS.n sS.c, .slice sK.A sK.n sK.c, .int .u64 r.e, .int .u64 r.f, .slice r.L.A r.L.n r.L.c, .slice r.P.A r.P.n r.P.c, .int .u64 r.h, .int .u64 r.t, .slice r.K.A r.K.n r.K.c, .slice r.X.A r.X.n r.X.c, .slice r.S.A r.S.n r.S.c] 35)) w11.heap.size 35 #[.slice sS.A sS.n sS.c, .slice sK.A sK.n sK.c, .int .u64 r.e, .int .u64 r.f, .slice r.L.A r.L.n r.L.c, .slice r.P.A r.P.n r.P.c, .int .u64 r.h, .int .u64 r.t, .slice r.K.A r.K.n r.K.c, .slice r.X.A r.X.n r.X.c, .slice r.S.A r.S.n r.S.c]) := Lib.hid (Blk.new _ _ _)
    have W3 := Lib.hid (W11.out.alloc W11.out.size (.cells #[.slice sS.A sS.n sS.c, .slice sK.A sK.n sK.c, .int .u64 r.e, .int .u64 r.f, .slice r.L.A r.L.n r.L.c, .slice r.P.A r.P.n r.P.c, .int .u64 r.h, .int .u64 r.t, .slice r.K.A r.K.n r.K.c, .slice r.X.A r.X.n r.X.c, .slice r.S.A r.S.n r.S.c] 35))
    have C3 := Lib.hid (C11.out.alloc (.cells #[.slice sS.A sS.n sS.c, .slice sK.A sK.n sK.c, .int .u64 r.e, .int .u64 r.f, .slice r.L.A r.L.n r.L.c, .slice r.P.A r.P.n r.P.c, .int .u64 r.h, .int .u64 r.t, .slice r.K.A r.K.n r.K.c, .slice r.X.A r.X.n r.X.c, .slice r.S.A r.S.n r.S.c] 35))
    have K3 := Lib.hid ((K11.out).below bb (Nat.le_refl _))
    have E3 := Lib.hid (E11.out.alloc (.cells #[.slice sS.A sS.n sS.c, .slice sK.A sK.n sK.c, .int .u64 r.e, .int .u64 r.f, .slice r.L.A r.L.n r.L.c, .slice r.P.A r.P.n r.P.c, .int .u64 r.h, .int .u64 r.t, .slice r.K.A r.K.n r.K.c, .slice r.X.A r.X.n r.X.c, .slice r.S.A r.S.n r.S.c] 35))
    clear W11 C11 S11 K11 E11 bb J2
    generalize w11.heap.size = gA at X3 ⊢
    generalize w11.alloc (.cells #[.slice sS.A sS.n sS.c, .slice sK.A sK.n sK.c, .int .u64 r.e, .int .u64 r.f, .slice r.L.A r.L.n r.L.c, .slice r.P.A r.P.n r.P.c, .int .u64 r.h, .int .u64 r.t, .slice r.K.A r.K.n r.K.c, .slice r.X.A r.X.n r.X.c, .slice r.S.A r.S.n r.S.c] 35) = V3 at X3 W3 C3 K3 E3 ⊢
    generalize runM (docZ 2 K qn M) ((List.range qn).map callsT) (RS.first (newM 2 K qn M) qn) (picksT qn ++ List.replicate 400 (0, 0)) = rs at K3 E3 HE
    have hcc := C3.out.cell
    have hxx := X3.out.cell
    obtain ⟨nC, hnC, x, hx, hx0⟩ := HE.out.lst
    have hKn := K3.out.n_
    obtain ⟨gK, hKA, _, _, hKc, _⟩ := K3.out.at_ (by omega)
    obtain ⟨kA, kn, kc⟩ := sK
    simp only at hKA hKn
    obtain ⟨hKn, hKn1, hKn2, _⟩ := hKn
    subst hKA hKn
    have hto : V3.cell? ⟨gK, nC * 7 + 4, none⟩ = some (.int .i64 x.to) := (hKc (nC * 7 + 4) (by omega)).trans (flatK_get _ _ _ 4 _ hx rfl)
    clear hKc
    rw [hnC] at hKn1 ⊢
    have hnm : (nC : Int) ≤ 9223372036854775807 := by unfold maxLen at hKn2; omega
    have hwn : wrap64 (nC : Int) = nC := by unfold wrap64; omega
    have hx1 : ¬ x.to < 0 := by omega
    go_upto_region 18 with fail
    clear hto hx hwn hx1 hnm hKn1 hKn2
    obtain ⟨la, lb, lc, hli, hla, hlb, hlc⟩ := HE.out.lim
    obtain ⟨gL, hLA, hLlt, hLc⟩ := own_cells (E3.out.2.2 3 (.inl rfl)) (show 0 < rs.m.li.length by rw [hli]; exact Nat.zero_lt_succ _)
    have hLn : r.L.n = 3 := by have := (Own.n_ (E3.out.2.2 3 (.inl rfl))).1; exact this.trans (by show rs.m.li.length = 3; rw [hli]; rfl)
    have hL0 := hLc 0 la (by show rs.m.li[0]? = some la; rw [hli]; rfl)
    have hL1 := hLc 1 lb (by show rs.m.li[1]? = some lb; rw [hli]; rfl)
    have hL2 := hLc 2 lc (by show rs.m.li[2]? = some lc; rw [hli]; rfl)
    have hLA' : r.L.A = some ⟨gL, 0, none⟩ := hLA
    clear hLc hLA
    have hu := (E3.out.2.2 3 (.inl rfl)).1
    have hta : (la.tmod 4294967296 != 0) = false := tmod_lo (hu la (by show la ∈ rs.m.li; rw [hli]; simp)).1 hla
    have htb : (lb.tmod 4294967296 != 0) = false := tmod_lo (hu lb (by show lb ∈ rs.m.li; rw [hli]; simp)).1 hlb
    have htc : (lc.tmod 4294967296 != 0) = false := tmod_lo (hu lc (by show lc ∈ rs.m.li; rw [hli]; simp)).1 hlc
    clear hu
    rw [hLA', hLn] at hxx
    go_upto_region 19 with fail
    go_loopw [8] (fun i wr => ∃ (j : Nat), i = .int .i64 j ∧ j ≤ 3 ∧ wr = V3) (fun i _ => 3 - (intOf i).toNat)
    case atStart => exact ⟨0, rfl, by omega, rfl⟩
    case round =>
    obtain ⟨j, rfl, hj, rfl⟩ := hrel
    have hj4 : j = 0 ∨ j = 1 ∨ j = 2 ∨ j = 3 := by omega
    rcases hj4 with rfl | rfl | rfl | rfl
    · go_wp2
      go_roundw
      case rel => first | exact ⟨1, rfl, by omega, rfl⟩ | exact ⟨1, rfl, by omega, trivial⟩ | rfl
      case measure => first | exact ⟨⟨1, rfl, by omega, trivial⟩, by simp [intOf]⟩ | exact ⟨⟨1, rfl, by omega, rfl⟩, by simp [intOf]⟩ | simp [intOf]
    · go_wp2
      go_roundw
      case rel => first | exact ⟨2, rfl, by omega, rfl⟩ | exact ⟨2, rfl, by omega, trivial⟩ | rfl
      case measure => first | exact ⟨⟨2, rfl, by omega, trivial⟩, by simp [intOf]⟩ | exact ⟨⟨2, rfl, by omega, rfl⟩, by simp [intOf]⟩ | simp [intOf]
    · go_wp2
      go_roundw
      case rel => first | exact ⟨3, rfl, by omega, rfl⟩ | exact ⟨3, rfl, by omega, trivial⟩ | rfl
      case measure => first | exact ⟨⟨3, rfl, by omega, trivial⟩, by simp [intOf]⟩ | exact ⟨⟨3, rfl, by omega, rfl⟩, by simp [intOf]⟩ | simp [intOf]
    · go_upto_region 23 with fail
      clear hL0 hL1 hL2 hLA' hta htb htc hli hla hlb hlc hLlt hLn hcc hxx
      have hlkp : 0 < rs.m.lk.length := by
        rcases Nat.eq_zero_or_pos rs.m.lk.length with h | h
        · have h2 := HE.out.fre
          rw [listN_end (fun hh => by have h3 := hh.2; rw [h] at h3; omega)] at h2
          rw [List.length_nil] at h2
          omega
        · exact h
      obtain ⟨gN, hNA, hNlt, hNc⟩ := own_cells (E3.out.2.2 7 (.inr (.inr (.inl rfl)))) (show 0 < rs.m.lk.length from hlkp)
      have hNn : r.K.n = rs.m.lk.length := (Own.n_ (E3.out.2.2 7 (.inr (.inr (.inl rfl))))).1
      have hNA' : r.K.A = some ⟨gN, 0, none⟩ := hNA
      have hNm : rs.m.lk.length ≤ maxLen := by
        have h3 := Own.n_ (E3.out.2.2 7 (.inr (.inr (.inl rfl))))
        have h4 := h3.2.1
        have h5 := h3.2.2.1
        rw [← hNn]
        exact Nat.le_trans h4 h5
      have hNu : u64s rs.m.lk := (E3.out.2.2 7 (.inr (.inr (.inl rfl)))).1
      have hrf : r.f = rs.m.f := E3.out.1.2.1
      obtain ⟨hf0, hf1⟩ : 0 ≤ rs.m.f ∧ rs.m.f ≤ 18446744073709551615 := E3.out.2.1 2 rs.m.f (by show rs.m.f ∈ [rs.m.f]; simp)
      have HNC : Hid (∀ (j : Nat) (x : Int), rs.m.lk[j]? = some x → wr.drew.cell? ⟨gN, j, none⟩ = some (.int .u64 x)) := Lib.hid hNc
      have hNd : gN < wr.drew.heap.size := hNlt
      have HNU := Lib.hid hNu
      clear hNA hNc hNu
      have hlo0 : 0 ≤ lo rs.m.f := by unfold lo; omega
      have hlo1 : lo rs.m.f ≤ 4294967295 := by unfold lo; omega
      have hcv : IntKind.u32.wrap (rs.m.f.tmod 4294967296) = lo rs.m.f := by rw [IntKind.wrap_u32, Int.tmod_eq_emod_of_nonneg hf0]; unfold lo; omega
      have hln : (listN 99 rs.m.lk (lo rs.m.f)).length = qn := HE.out.fre
      refine Zreg.begin_ (S := (fun w' => (∀ j, w'.cell? ⟨gA, j, none⟩ = (#[.slice sS.A sS.n sS.c, .slice (some ⟨gK, 0, none⟩) rs.calls.length kc, .int .u64 r.e, .int .u64 r.f, .slice r.L.A r.L.n r.L.c, .slice r.P.A r.P.n r.P.c, .int .u64 r.h, .int .u64 r.t, .slice r.K.A r.K.n r.K.c, .slice r.X.A r.X.n r.X.c, .slice r.S.A r.S.n r.S.c] : Array Value)[j]?) ∧ (∀ j, w'.cell? ⟨w.heap.size, j, none⟩ = (#[.int .i64 2, .int .i64 K, .int .i64 qn, .int .i64 M] : Array Value)[j]?))) (zs := []) (by kernel_rfl) ?_
      show Zreg.After _ _ _ _ _ _ 13 #[false, false, false, false, false, false, false, false, false, false, false, false, false] _ _
      refine Zreg.takeP 0 87 (x := ?xy_0) rfl rfl (by kernel_rfl) (by kernel_rfl) (by kernel_rfl) (by kernel_rfl) (fun _ _ _ h => h) (.inr ⟨X3.out.drew.cell, C3.out.drew.cell⟩) (Or.inl ⟨by rfl, ?yy_0⟩) ?ry_0
      case yy_0 => (intro w _; go_simp <;> with_reducible rfl)
      simp only [List.setIfInBounds_toArray, List.set_cons_zero, List.set_cons_succ]
      refine Zreg.takeS 1 88 (x := ?xy_1) rfl rfl (by kernel_rfl) (by kernel_rfl) (by kernel_rfl) (by kernel_rfl) (by kernel_rfl) (by kernel_rfl) (fun _ _ _ h => h) (.inr ⟨X3.out.drew.cell, C3.out.drew.cell⟩) (Or.inl ⟨by rfl, ?yy_1⟩) ?ry_1
      case yy_1 => (intro w hSw; (try dsimp only at hSw); go_simp <;> with_reducible rfl)
      simp only [List.setIfInBounds_toArray, List.set_cons_zero, List.set_cons_succ]
      refine Zreg.takeP 2 89 (x := ?xy_2) rfl rfl (by kernel_rfl) (by kernel_rfl) (by kernel_rfl) (by kernel_rfl) (fun _ _ _ h => h) (.inr ⟨X3.out.drew.cell, C3.out.drew.cell⟩) (Or.inl ⟨by rfl, ?yy_2⟩) ?ry_2
      case yy_2 => (intro w _; go_simp <;> with_reducible rfl)
      simp only [List.setIfInBounds_toArray, List.set_cons_zero, List.set_cons_succ]
      refine Zreg.takeP 3 90 (x := ?xy_3) rfl rfl (by kernel_rfl) (by kernel_rfl) (by kernel_rfl) (by kernel_rfl) (fun _ _ _ h => h) (.inr ⟨X3.out.drew.cell, C3.out.drew.cell⟩) (Or.inl ⟨by rfl, ?yy_3⟩) ?ry_3
      case yy_3 => (intro w _; go_simp <;> with_reducible rfl)
      simp only [List.setIfInBounds_toArray, List.set_cons_zero, List.set_cons_succ]
      refine Zreg.takeS 4 91 (x := ?xy_4) rfl rfl (by kernel_rfl) (by kernel_rfl) (by kernel_rfl) (by kernel_rfl) (by kernel_rfl) (by kernel_rfl) (fun _ _ _ h => h) (.inr ⟨X3.out.drew.cell, C3.out.drew.cell⟩) (Or.inl ⟨by rfl, ?yy_4⟩) ?ry_4
      case yy_4 => (intro w hSw; (try dsimp only at hSw); go_simp <;> with_reducible rfl)
      simp only [List.setIfInBounds_toArray, List.set_cons_zero, List.set_cons_succ]
      refine Zreg.takeP 5 92 (x := ?xy_5) rfl rfl (by kernel_rfl) (by kernel_rfl) (by kernel_rfl) (by kernel_rfl) (fun _ _ _ h => h) (.inr ⟨X3.out.drew.cell, C3.out.drew.cell⟩) (Or.inl ⟨by rfl, ?yy_5⟩) ?ry_5
      case yy_5 => (intro w _; go_simp <;> with_reducible rfl)
      simp only [List.setIfInBounds_toArray, List.set_cons_zero, List.set_cons_succ]
      refine Zreg.takeP 6 93 (x := ?xy_6) rfl rfl (by kernel_rfl) (by kernel_rfl) (by kernel_rfl) (by kernel_rfl) (fun _ _ _ h => h) (.inr ⟨X3.out.drew.cell, C3.out.drew.cell⟩) (Or.inl ⟨by rfl, ?yy_6⟩) ?ry_6
      case yy_6 => (intro w _; go_simp <;> with_reducible rfl)
      simp only [List.setIfInBounds_toArray, List.set_cons_zero, List.set_cons_succ]
      refine Zreg.takeP 9 96 (x := ?xy_9) rfl rfl (by kernel_rfl) (by kernel_rfl) (by kernel_rfl) (by kernel_rfl) (fun _ _ _ h => h) (.inr ⟨X3.out.drew.cell, C3.out.drew.cell⟩) (Or.inl ⟨by rfl, ?yy_9⟩) ?ry_9
      case yy_9 => (intro w _; go_simp <;> with_reducible rfl)
      simp only [List.setIfInBounds_toArray, List.set_cons_zero, List.set_cons_succ]
      refine Zreg.takeS 10 97 (x := ?xy_10) rfl rfl (by kernel_rfl) (by kernel_rfl) (by kernel_rfl) (by kernel_rfl) (by kernel_rfl) (by kernel_rfl) (fun _ _ _ h => h) (.inr ⟨X3.out.drew.cell, C3.out.drew.cell⟩) (Or.inl ⟨by rfl, ?yy_10⟩) ?ry_10
      case yy_10 => (intro w hSw; (try dsimp only at hSw); go_simp <;> with_reducible rfl)
      simp only [List.setIfInBounds_toArray, List.set_cons_zero, List.set_cons_succ]
      refine Zreg.one 7 (by kernel_rfl) rfl rfl fun K_ hK => ?_
      go_simp
      go_at_call 19
      (with_reducible refine (listE_c wr.drew ⟨r.e, rs.m.f, r.L, r.P, r.h, r.t, ⟨some ⟨gN, 0, none⟩, rs.m.lk.length, r.K.c⟩, r.X, r.S⟩ rs.m.lk gN r.K.c rfl hNd HNC.out HNU.out hNm (lo rs.m.f) hlo0 hlo1).mono ?_)
      rintro e w5 ⟨q5, rfl, hr5, hb5⟩
      have X5 := Lib.hid (X3.out.drew.below hb5 X3.out.lt)
      have C5 := Lib.hid (C3.out.drew.below hb5 C3.out.lt)
      have W5 := Lib.hid (W3.out.drew.trans (hb5.mono W3.out.size))
      have hq5 : q5.n = qn := hr5.n_.1.trans hln
      clear hr5 hb5
      refine hK.out _ _ (.inr ⟨X5.out.cell, C5.out.cell⟩) fun _ => ?_
      clear hK
      simp only [List.setIfInBounds_toArray, List.set_cons_zero, List.set_cons_succ]
      refine Zreg.takeP 8 95 (x := ?xy_8) rfl rfl (by kernel_rfl) (by kernel_rfl) (by kernel_rfl) (by kernel_rfl) (fun _ _ _ h => h) (.inr ⟨X5.out.cell, C5.out.cell⟩) (Or.inl ⟨by rfl, ?yy_8⟩) ?ry_8
      case yy_8 => (intro w _; go_simp <;> with_reducible rfl)
      simp only [List.setIfInBounds_toArray, List.set_cons_zero, List.set_cons_succ]
      refine Zreg.takeP 11 98 (x := ?xy_11) rfl rfl (by kernel_rfl) (by kernel_rfl) (by kernel_rfl) (by kernel_rfl) (fun _ _ _ h => h) (.inr ⟨X5.out.cell, C5.out.cell⟩) (Or.inl ⟨by rfl, ?yy_11⟩) ?ry_11
      case yy_11 => (intro w _; go_simp <;> with_reducible rfl)
      simp only [List.setIfInBounds_toArray, List.set_cons_zero, List.set_cons_succ]
      refine Zreg.takeP 12 2 (x := ?xy_12) rfl rfl (by kernel_rfl) (by kernel_rfl) (by kernel_rfl) (by kernel_rfl) (fun _ _ _ h => h) (.inr ⟨X5.out.cell, C5.out.cell⟩) (Or.inl ⟨by rfl, ?yy_12⟩) ?ry_12
      case yy_12 => (intro w _; go_simp <;> with_reducible rfl)
      simp only [List.setIfInBounds_toArray, List.set_cons_zero, List.set_cons_succ]
      refine Zreg.done (by kernel_rfl) ?_ _
      go_wp2_with fail
      go_ret
      exact ⟨rfl, W5.out⟩
end Go.Proofs.Ytffppdcpiieapaa.Machc
