/- Picks that are appended one by one, and lists of calls: how they are read. Whether the program of the arena is awake. · Picks of one thread, so often; whether the program of layer 5 is awake. -/
import Derived.Deep.DeepCutAuto
import Derived.Test.YtffppdcpiieapaaQ5
import Derived.Test.YtffppdcpiieapaaQ8
import Derived.Test.YtffppdcpiieapaaQ15
namespace Go.Proofs.Ytffppdcpiieapaa.Machc
open Go.RowKit Go.Proofs.Ytffppdcpiieapaa.Memc Go.Proofs.Ytffppdcpiieapaa.Newc Go.Proofs.Ytffppdcpiieapaa.Drivec Go.Proofs.Ytffppdcpiieapaa.Procc Go.Proofs.Ytffppdcpiieapaa.Arenac
set_option linter.unusedVariables false
set_option maxRecDepth 100000

def flatP (l : List (Int × Int)) : List Value := (l.map Drivec.pcells).flatten
theorem flatP_len (l : List (Int × Int)) : (flatP l).length = l.length * 2 := by
  induction l with
  | nil => rfl
  | cons x l ih => simp only [flatP, List.map_cons, List.flatten_cons, List.length_append] at *; rw [ih]; simp [Drivec.pcells]; omega
theorem flatP_snoc (l : List (Int × Int)) (x : Int × Int) : flatP (l ++ [x]) = flatP l ++ Drivec.pcells x := by simp [flatP]
theorem flatP_get : ∀ (l : List (Int × Int)) (i : Nat) (x : Int × Int) (j : Nat) (v : Value), l[i]? = some x → (Drivec.pcells x)[j]? = some v → (flatP l)[i * 2 + j]? = some v
  | [], i, x, j, v, h, _ => by simp at h
  | y :: l, 0, x, j, v, h, hv => by
    injection h with h
    subst h
    have hj : j < (Drivec.pcells y).length := (List.getElem?_eq_some_iff.1 hv).1
    show (Drivec.pcells y ++ flatP l)[0 * 2 + j]? = some v
    rw [Nat.zero_mul, Nat.zero_add, List.getElem?_append_left hj]
    exact hv
  | y :: l, i + 1, x, j, v, h, hv => by
    have := flatP_get l i x j v h hv
    show (Drivec.pcells y ++ flatP l)[(i + 1) * 2 + j]? = some v
    have h7 : (Drivec.pcells y).length = 2 := rfl
    rw [List.getElem?_append_right (by omega), h7, show (i + 1) * 2 + j - 2 = i * 2 + j by omega]
    exact this
theorem row_rdp {w : World} {base : Nat} {s : Sl} {l : List (Int × Int)} (h : Row w base 65 2 s l.length (flatP l)) (hb : ∀ x ∈ l, -9223372036854775808 ≤ x.1 ∧ x.1 ≤ 9223372036854775807) : RdP w w.heap.size s l := by
  refine ⟨h.n_.1, h.n_.2.1, h.n_.2.2.1, hb, fun hn => ?_⟩
  obtain ⟨g, hA, _, hlt, hc, _⟩ := h.at_ (by have := h.n_.1; omega)
  refine ⟨g, 0, hA, hlt, fun i x hx => ?_⟩
  have hi : i < l.length := (List.getElem?_eq_some_iff.1 hx).1
  have h0 := hc (i * 2) (by omega)
  have h1 := hc (i * 2 + 1) (by omega)
  have e0 := flatP_get l i x 0 _ hx rfl
  rw [Nat.add_zero] at e0
  rw [e0] at h0
  rw [flatP_get l i x 1 _ hx rfl] at h1
  rw [Nat.zero_add]
  exact ⟨h0, h1⟩
theorem row_rdo {w : World} {base : Nat} {s : Sl} {l : List (Int × Int)} (h : Row w base 63 2 s l.length (flatP l)) : RdO w w.heap.size s l := by
  refine ⟨h.n_.1, h.n_.2.1, h.n_.2.2.1, fun hn => ?_⟩
  obtain ⟨g, hA, _, hlt, hc, _⟩ := h.at_ (by have := h.n_.1; omega)
  refine ⟨g, 0, hA, hlt, fun i x hx => ?_⟩
  have hi : i < l.length := (List.getElem?_eq_some_iff.1 hx).1
  have h0 := hc (i * 2) (by omega)
  have h1 := hc (i * 2 + 1) (by omega)
  have e0 := flatP_get l i x 0 _ hx rfl
  rw [Nat.add_zero] at e0
  rw [e0] at h0
  rw [flatP_get l i x 1 _ hx rfl] at h1
  rw [Nat.zero_add]
  exact ⟨h0, h1⟩
theorem blk_rdo {w : World} {g : Nat} {l : List (Int × Int)} (h : Blk w g 63 (flatP l).toArray) (hl : l.length ≤ maxLen) : RdO w w.heap.size ⟨some ⟨g, 0, none⟩, l.length, l.length⟩ l := by
  refine ⟨rfl, Nat.le_refl _, hl, fun hn => ⟨g, 0, rfl, h.lt, fun i x hx => ?_⟩⟩
  have e0 := flatP_get l i x 0 _ hx rfl
  have e1 := flatP_get l i x 1 _ hx rfl
  rw [Nat.add_zero] at e0
  rw [Nat.zero_add]
  exact ⟨(h.cell _).trans (by simpa using e0), (h.cell _).trans (by simpa using e1)⟩
theorem pick_cell : (Try.prog.info? 65).map (fun i => (i.zero, i.size, i.bytes)) = some (some (.agg #[.int .i64 0, .int .u32 0]), 2, 16) := by kernel_rfl
def a6 : RS := runM (docZ 3 1 1 2) [[(4, 0), (4, 0), (4, 0)]] (RS.first (newM 3 1 1 2) 1) (List.replicate 7 (0, 0))
theorem a6_steps : a6.steps.length = 7 := by kernel_rfl
theorem a6_calls : a6.calls = [⟨0, 4, 0, 0, 2, 0, 0⟩, ⟨0, 4, 0, 3, 5, 0, 1⟩, ⟨0, 4, 0, 6, 6, 4, 0⟩] := by kernel_rfl
/-- what the program comes to -/
def Run6 (V : World) (e : Ending) (w' : World) : Prop :=
  ∃ (r : R) (sSA : Option Addr) (cS gK cK : Nat), e = .returned (.tuple #[.agg #[.slice sSA 7 cS, .slice (some ⟨gK, 0, none⟩) 3 cK, .int .u64 r.e, .int .u64 r.f, .slice r.L.A r.L.n r.L.c, .slice r.P.A r.P.n r.P.c, .int .u64 r.h, .int .u64 r.t, .slice r.K.A r.K.n r.K.c, .slice r.X.A r.X.n r.X.c, .slice r.S.A r.S.n r.S.c], .int .i64 0]) ∧ gK < w'.heap.size ∧ w'.cell? ⟨gK, 6, none⟩ = some (.int .u32 0) ∧ w'.cell? ⟨gK, 13, none⟩ = some (.int .u32 1) ∧ w'.cell? ⟨gK, 19, none⟩ = some (.int .i64 4) ∧ Below V.heap.size V w'
theorem run_6 (V : World) (g2 g3 : Nat) (q : Sl) (base : Nat) (h2 : Blk V g2 63 #[.int .i64 4, .int .u32 0, .int .i64 4, .int .u32 0, .int .i64 4, .int .u32 0]) (h3 : Blk V g3 61 #[.slice (some ⟨g2, 0, none⟩) 3 3]) (hq : Row V base 65 2 q 7 (flatP (List.replicate 7 (0, 0)))) :
    Calls Try.prog 16 #[.agg #[.int .i64 3, .int .i64 1, .int .i64 1, .int .i64 2], .slice (some ⟨g3, 0, none⟩) 1 1, .slice q.A q.n q.c] V (Run6 V) := by
  have ho : RdO V V.heap.size ⟨some ⟨g2, 0, none⟩, 3, 3⟩ [(4, 0), (4, 0), (4, 0)] := blk_rdo (l := [(4, 0), (4, 0), (4, 0)]) h2 (by unfold maxLen; decide)
  have hp : RdP V V.heap.size q (List.replicate 7 (0, 0)) := row_rdp hq (by intro x hx; rw [(List.mem_replicate.1 hx).2]; decide)
  obtain ⟨qA, qn, qc⟩ := q
  refine (arun_c V 3 1 1 2 g3 0 1 qA qn qc [[(4, 0), (4, 0), (4, 0)]] (List.replicate 7 (0, 0)) (by omega) (by omega) (by omega) (by omega) (by omega) (by omega) (by omega) (by omega) ?_ ?_ hp (by simp) ?_ ?_).mono ?_
  · refine ⟨rfl, Nat.le_refl _, by show 1 ≤ maxLen; unfold maxLen; omega, fun _ => ⟨g3, 0, rfl, h3.lt, fun i x hx => ?_⟩⟩
    match i, hx with
    | 0, hx => injection hx with hx; subst hx; exact ⟨⟨some ⟨g2, 0, none⟩, 3, 3⟩, h3.cell 0, ho⟩
  · intro x hx
    rw [List.mem_singleton.1 hx]
    decide
  · intro x hx
    rw [List.mem_singleton.1 hx]
    decide
  · intro x hx o ho
    rw [List.mem_singleton.1 hx] at ho
    simp only [List.mem_cons, List.not_mem_nil, or_false, or_self] at ho
    rw [ho]
    decide
  · rintro e w' ⟨r, sS, sK, base', he, hS, hK, hE, hF⟩
    change Row w' base' 59 8 sS a6.steps.length _ at hS
    change Row w' base' 55 7 sK a6.calls.length (flatK a6.calls) at hK
    rw [a6_steps] at hS
    rw [a6_calls] at hK
    obtain ⟨gK, hgK, _, hlK, hcK, _⟩ := hK.at_ (by decide)
    have hnS := hS.n_.1
    have hnK := hK.n_.1
    obtain ⟨sSA, sSn, sSc⟩ := sS
    obtain ⟨sKA, sKn, sKc⟩ := sK
    simp only at hgK hnS hnK
    subst hgK hnS hnK
    exact ⟨r, sSA, sSc, gK, sKc, he, hlK, hcK 6 (by decide), hcK 13 (by decide), hcK 19 (by decide), hF⟩
set_option maxHeartbeats 4000000 in
theorem awake4_c (w : World) : Calls Try.prog 14 #[] w fun e w' => e = .returned (.bool true) ∧ Below w.heap.size w w' := by
  have C0 : Hid (Blk (w.alloc (.cells #[.int .i64 3, .int .i64 1, .int .i64 1, .int .i64 2] 23)) w.heap.size 23 #[.int .i64 3, .int .i64 1, .int .i64 1, .int .i64 2]) := Lib.hid (Blk.new _ _ _)
  have W0 : Hid (Below w.heap.size w (w.alloc (.cells #[.int .i64 3, .int .i64 1, .int .i64 1, .int .i64 2] 23))) := Lib.hid ((Below.refl _ _).alloc (Nat.le_refl _) _)
  go_enter Try.func14, Try.ntmps14
  go_upto_region 4 with fail
  generalize (w.alloc (.cells #[.int .i64 3, .int .i64 1, .int .i64 1, .int .i64 2] 23)) = V at C0 W0 ⊢
  go_loopw [2, 3] (fun p i wr => ∃ (j : Nat) (q : Sl), p = .slice q.A q.n q.c ∧ i = .int .i64 j ∧ j ≤ 7 ∧ Row wr (w.heap.size + 1) 65 2 q j (flatP (List.replicate j (0, 0))) ∧ Blk wr w.heap.size 23 #[.int .i64 3, .int .i64 1, .int .i64 1, .int .i64 2] ∧ Below w.heap.size w wr) (fun _ i _ => 7 - (intOf i).toNat)
  case atStart => exact ⟨0, nilS, rfl, rfl, Nat.zero_le _, row_nil _ _ _ _, C0.out, W0.out⟩
  case round =>
  clear C0 W0
  obtain ⟨j, q, rfl, rfl, hj, hr, hc, hb⟩ := hrel
  have R0 := Lib.hid hr
  have C0 := Lib.hid hc
  have W0 := Lib.hid hb
  clear hr hc hb
  generalize wr = V0 at R0 C0 W0 ⊢
  have i0 : (0 : Int) ≤ j := Int.natCast_nonneg _
  by_cases hlt : j < 7
  · have i1 : (j : Int) < 7 := by omega
    obtain ⟨ji, hji, hjz0, hjz1, hjz2⟩ := info_parts pick_cell
    go_upto_region 5 with (at_builtin; refine wpList_app2 rfl _ _ 25 rfl (w.heap.size + 1) 65 ji _ 2 16 Try.underlying25 hji hjz0 hjz1 hjz2 rfl (by decide) q j (flatP (List.replicate j (0, 0))) rfl (Row.alloc R0.out (.cells #[.int .i64 0, .int .u32 0] 65)) V0.heap.size [.int .i64 0, .int .u32 0] rfl rfl (fun j u hj => (Blk.cell (Arenac.blk_at2 _ _ _ _ rfl) j).trans (by simpa using hj)) (by simp [Value.oneCell']) (by omega) (by decide) (Nat.le_trans C0.out.lt (by simp)) ?_; intro q2 w7 hr7 ho7 hw7; go_must (have R7 := Lib.hid hr7; have A7 : Hid (Only (fun g => bl q g) V0 w7) := Lib.hid (Only.next ((Only.refl (fun g => bl q g) V0).alloc (.cells #[.int .i64 0, .int .u32 0] 65)) ho7 (fun k _ h => h)); have C7 := Lib.hid (C0.out.only A7.out (fun h => by have := (R0.out.lt h).1; omega)); have W7 := Lib.hid (W0.out.trans (A7.out.below W0.out.size (fun g hg => by have := (R0.out.lt hg).1; omega)))); clear hr7 ho7 hw7)
    have e7 : flatP (List.replicate j (0, 0)) ++ [.int .i64 0, .int .u32 0] = flatP (List.replicate (j + 1) (0, 0)) := by
      rw [List.replicate_succ', flatP_snoc]; rfl
    have R8 := R7.out
    rw [e7] at R8
    have R9 := Lib.hid R8
    clear e7 R8
    go_wp2
    go_roundw
    case rel => exact ⟨j + 1, q2, rfl, by go_num, hlt, R9.out, C7.out, W7.out⟩
    case measure => simp [intOf]; omega
  · obtain rfl : j = 7 := by omega
    have hcc := C0.out.cell
    go_upto_region 8 with (go_at_call 16; go_must (refine (run_6 _ V0.heap.size (V0.heap.size + 1) q (w.heap.size + 1) ((Arenac.blk_at2 _ _ _ _ rfl).alloc _) (Arenac.blk_at2 _ _ _ _ (by simp)) ((R0.out.alloc _).alloc _)).mono ?_); rintro e w1 ⟨r, sSA, cS, gK, cK, rfl, hlK, hc1, hc2, hc3, hb⟩; go_must (have W1 := Lib.hid ((((W0.out.alloc W0.out.size _).alloc (Nat.le_trans W0.out.size (by simp)) _)).trans (hb.mono (Nat.le_trans W0.out.size (by simp; omega))))); clear hb hcc)
    go_wp2
    go_ret
    exact ⟨rfl, W1.out.alloc W1.out.size _⟩

end Go.Proofs.Ytffppdcpiieapaa.Machc

namespace Go.Proofs.Ytffppdcpiieapaa.Machc
open Go.RowKit Go.Proofs.Ytffppdcpiieapaa.Memc Go.Proofs.Ytffppdcpiieapaa.Newc Go.Proofs.Ytffppdcpiieapaa.Drivec Go.Proofs.Ytffppdcpiieapaa.Procc Go.Proofs.Ytffppdcpiieapaa.Arenac
set_option linter.unusedVariables false
set_option maxRecDepth 100000

set_option maxHeartbeats 1000000 in
theorem picked_c (w : World) (t : Int) (n : Nat) (t0 : -9223372036854775808 ≤ t) (t1 : t ≤ 9223372036854775807) (hn : n ≤ 100000) :
    Calls Try.prog 22 #[.int .i64 t, .int .i64 n] w fun e w' => ∃ q : Sl, e = .returned (.slice q.A q.n q.c) ∧ Row w' w.heap.size 65 2 q n (flatP (List.replicate n (t, 0))) ∧ Below w.heap.size w w' := by
  go_enter Try.func22, Try.ntmps22
  go_wp2_with fail
  go_loopw [5, 6] (fun p i wr => ∃ (j : Nat) (q : Sl), p = .slice q.A q.n q.c ∧ i = .int .i64 j ∧ j ≤ n ∧ Row wr w.heap.size 65 2 q j (flatP (List.replicate j (t, 0))) ∧ Below w.heap.size w wr) (fun _ i _ => n - (intOf i).toNat)
  case atStart => exact ⟨0, nilS, rfl, rfl, Nat.zero_le _, row_nil _ _ _ _, Below.refl _ _⟩
  case round =>
  obtain ⟨j, q, rfl, rfl, hj, hr, hb⟩ := hrel
  have R0 := Lib.hid hr
  have W0 := Lib.hid hb
  clear hr hb
  generalize wr = V0 at R0 W0 ⊢
  have i0 : (0 : Int) ≤ j := Int.natCast_nonneg _
  by_cases hlt : j < n
  · have i1 : (j : Int) < n := by omega
    obtain ⟨ji, hji, hjz0, hjz1, hjz2⟩ := info_parts pick_cell
    go_upto_region 4 with (at_builtin; refine wpList_app2 rfl _ _ 25 rfl w.heap.size 65 ji _ 2 16 Try.underlying25 hji hjz0 hjz1 hjz2 rfl (by decide) q j (flatP (List.replicate j (t, 0))) rfl (Row.alloc R0.out (.cells #[.int .i64 t, .int .u32 0] 65)) V0.heap.size [.int .i64 t, .int .u32 0] rfl rfl (fun j u hj => (Blk.cell (Arenac.blk_at2 _ _ _ _ rfl) j).trans (by simpa using hj)) (by simp [Value.oneCell']) (by omega) (by decide) (Nat.le_trans W0.out.size (by simp)) ?_; intro q2 w7 hr7 ho7 hw7; go_must (have R7 := Lib.hid hr7; have A7 : Hid (Only (fun g => bl q g) V0 w7) := Lib.hid (Only.next ((Only.refl (fun g => bl q g) V0).alloc (.cells #[.int .i64 t, .int .u32 0] 65)) ho7 (fun k _ h => h)); have W7 := Lib.hid (W0.out.trans (A7.out.below W0.out.size (fun g hg => by have := (R0.out.lt hg).1; omega)))); clear hr7 ho7 hw7)
    have e7 : flatP (List.replicate j (t, 0)) ++ [.int .i64 t, .int .u32 0] = flatP (List.replicate (j + 1) (t, 0)) := by
      rw [List.replicate_succ', flatP_snoc]; rfl
    have R8 := R7.out
    rw [e7] at R8
    have R9 := Lib.hid R8
    clear e7 R8
    go_wp2
    go_roundw
    case rel => exact ⟨j + 1, q2, rfl, by go_num, hlt, R9.out, W7.out⟩
    case measure => simp [intOf]; omega
  · obtain rfl : j = n := by omega
    go_wp2
    go_ret
    exact ⟨q, rfl, R0.out, W0.out⟩
theorem picked_40 (w : World) : Calls Try.prog 22 #[.int .i64 0, .int .i64 40] w fun e w' => ∃ q : Sl, e = .returned (.slice q.A q.n q.c) ∧ Row w' w.heap.size 65 2 q 40 (flatP (List.replicate 40 (0, 0))) ∧ Below w.heap.size w w' :=
  picked_c w 0 40 (by omega) (by omega) (by omega)
def a40 : RS := runM (docZ 2 1 1 2) [[(6, 0), (8, 1), (7, 0), (3, 0), (3, 0), (3, 0)]] (RS.first (newM 2 1 1 2) 1) (List.replicate 40 (0, 0))
theorem a40_calls : a40.calls = [⟨0, 6, 0, 0, 2, 0, 0⟩, ⟨0, 8, 1, 3, 6, 0, 0⟩, ⟨0, 7, 0, 7, 7, 0, 0⟩, ⟨0, 3, 0, 8, 12, 0, 0⟩, ⟨0, 3, 0, 13, 22, 0, 0⟩, ⟨0, 3, 0, 23, 27, 0, 0⟩] := by kernel_rfl
theorem a40_e : a40.m.e = 3 := by kernel_rfl
theorem a40_f : a40.m.f = 4294967298 := by kernel_rfl
theorem a40_lk : a40.m.lk = [0, 4294967296] := by kernel_rfl
def k40 : List Value := flatK [⟨0, 6, 0, 0, 2, 0, 0⟩, ⟨0, 8, 1, 3, 6, 0, 0⟩, ⟨0, 7, 0, 7, 7, 0, 0⟩, ⟨0, 3, 0, 8, 12, 0, 0⟩, ⟨0, 3, 0, 13, 22, 0, 0⟩, ⟨0, 3, 0, 23, 27, 0, 0⟩]
/-- what the program comes to -/
def Run40 (V : World) (e : Ending) (w' : World) : Prop :=
  ∃ (r : R) (sS : Sl) (gK cK gL cL : Nat), e = .returned (.tuple #[.agg #[.slice sS.A sS.n sS.c, .slice (some ⟨gK, 0, none⟩) 6 cK, .int .u64 3, .int .u64 4294967298, .slice r.L.A r.L.n r.L.c, .slice r.P.A r.P.n r.P.c, .int .u64 r.h, .int .u64 r.t, .slice (some ⟨gL, 0, none⟩) 2 cL, .slice r.X.A r.X.n r.X.c, .slice r.S.A r.S.n r.S.c], .int .i64 0]) ∧ (∃ b1, Row w' b1 55 7 ⟨some ⟨gK, 0, none⟩, 6, cK⟩ 6 k40) ∧ (∃ b2, Row w' b2 30 1 ⟨some ⟨gL, 0, none⟩, 2, cL⟩ 2 [.int .u64 0, .int .u64 4294967296]) ∧ Below V.heap.size V w'
theorem run_40 (V : World) (g2 g3 : Nat) (q : Sl) (base : Nat) (h2 : Blk V g2 63 #[.int .i64 6, .int .u32 0, .int .i64 8, .int .u32 1, .int .i64 7, .int .u32 0, .int .i64 3, .int .u32 0, .int .i64 3, .int .u32 0, .int .i64 3, .int .u32 0]) (h3 : Blk V g3 61 #[.slice (some ⟨g2, 0, none⟩) 6 6]) (hq : Row V base 65 2 q 40 (flatP (List.replicate 40 (0, 0)))) :
    Calls Try.prog 23 #[.agg #[.int .i64 2, .int .i64 1, .int .i64 1, .int .i64 2], .slice (some ⟨g3, 0, none⟩) 1 1, .slice q.A q.n q.c] V (Run40 V) := by
  have ho : RdO V V.heap.size ⟨some ⟨g2, 0, none⟩, 6, 6⟩ [(6, 0), (8, 1), (7, 0), (3, 0), (3, 0), (3, 0)] := blk_rdo (l := [(6, 0), (8, 1), (7, 0), (3, 0), (3, 0), (3, 0)]) h2 (by unfold maxLen; decide)
  have hp : RdP V V.heap.size q (List.replicate 40 (0, 0)) := row_rdp hq (by intro x hx; rw [(List.mem_replicate.1 hx).2]; decide)
  obtain ⟨qA, qn, qc⟩ := q
  refine (erun_c V 2 1 1 2 g3 0 1 qA qn qc [[(6, 0), (8, 1), (7, 0), (3, 0), (3, 0), (3, 0)]] (List.replicate 40 (0, 0)) (by omega) (by omega) (by omega) (by omega) (by omega) (by omega) (by omega) (by omega) ?_ ?_ hp (by simp) ?_ ?_).mono ?_
  · refine ⟨rfl, Nat.le_refl _, by show 1 ≤ maxLen; unfold maxLen; omega, fun _ => ⟨g3, 0, rfl, h3.lt, fun i x hx => ?_⟩⟩
    match i, hx with
    | 0, hx => injection hx with hx; subst hx; exact ⟨⟨some ⟨g2, 0, none⟩, 6, 6⟩, h3.cell 0, ho⟩
  · intro x hx
    rw [List.mem_singleton.1 hx]
    decide
  · intro x hx
    rw [List.mem_singleton.1 hx]
    decide
  · intro x hx o ho
    rw [List.mem_singleton.1 hx] at ho
    simp only [List.mem_cons, List.not_mem_nil, or_false] at ho
    rcases ho with rfl | rfl | rfl | rfl | rfl | rfl
    all_goals decide
  · rintro e w' ⟨r, sS, sK, base', he, hS, hK, hE, hF⟩
    change Row w' base' 55 7 sK a40.calls.length (flatK a40.calls) at hK
    change Endw w' base' r a40.m at hE
    rw [a40_calls] at hK
    obtain ⟨gK, hgK, _, hlK, hcK, _⟩ := hK.at_ (by decide)
    have hnK := hK.n_.1
    have he3 : r.e = 3 := hE.1.1.trans a40_e
    have hf3 : r.f = 4294967298 := hE.1.2.1.trans a40_f
    have hl0 := (hE.2.2 7 (.inr (.inr (.inl rfl)))).2
    have hl1 : Row w' base' 30 1 r.K a40.m.lk.length (a40.m.lk.map (Value.int .u64)) := hl0
    rw [a40_lk] at hl1
    obtain ⟨gL, hgL, _, hlL, hcL, _⟩ := hl1.at_ (by decide)
    have hnL := hl1.n_.1
    obtain ⟨sKA, sKn, sKc⟩ := sK
    obtain ⟨re, rf, rL, rP, rh, rt, ⟨rKA, rKn, rKc⟩, rX, rS⟩ := r
    simp only at hgK hnK he3 hf3 hgL hnL
    subst hgK hnK he3 hf3 hgL hnL
    exact ⟨⟨3, 4294967298, rL, rP, rh, rt, ⟨some ⟨gL, 0, none⟩, 2, rKc⟩, rX, rS⟩, sS, gK, sKc, gL, rKc, he, ⟨_, hK⟩, ⟨_, hl1⟩, hF⟩
end Go.Proofs.Ytffppdcpiieapaa.Machc
