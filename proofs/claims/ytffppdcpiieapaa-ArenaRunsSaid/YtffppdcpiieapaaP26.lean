/- Any threads' calls of Take and Give, in any order that is picked, come to the trace that the document says, access by access; or are refused (P4.1, P4.2). No condition. · Picks that are appended one by one, and lists of calls: how they are read. Whether the program of the arena is awake. · Lists of calls, lists of such lists, and picks with what is drawn: how they are read in memory when they are handed over. · Words that are none are told to be the same. · Any threads' calls of the arena come to the trace that the document says, or are refused: the law's walk. · A config: how it is read when it is handed over. -/
import Derived.Test.YtffppdcpiieapaaP9
import Derived.Test.YtffppdcpiieapaaP10
import Derived.Test.YtffppdcpiieapaaP14
import Derived.Test.YtffppdcpiieapaaP19
import Derived.Test.YtffppdcpiieapaaP24
import Derived.Test.YtffppdcpiieapaaP25
namespace Go.Proofs.Ytffppdcpiieapaa.Machc
open Go.RowKit Go.Proofs.Ytffppdcpiieapaa.Memc Go.Proofs.Ytffppdcpiieapaa.Newc Go.Proofs.Ytffppdcpiieapaa.Drivec Go.Proofs.Ytffppdcpiieapaa.Procc Go.Proofs.Ytffppdcpiieapaa.Arenac
set_option linter.unusedVariables false
set_option maxRecDepth 100000

def flatP (l : List (Int × Int)) : List Value := (l.map Drivec.pcells).flatten
theorem flatP_snoc (l : List (Int × Int)) (x : Int × Int) : flatP (l ++ [x]) = flatP l ++ Drivec.pcells x := by simp [flatP]
theorem flatP_get : ∀ (l : List (Int × Int)) (i : Nat) (x : Int × Int) (j : Nat) (v : Value), l[i]? = some x → (Drivec.pcells x)[j]? = some v → (flatP l)[i * 2 + j]? = some v
  | [], i, x, j, v, h, _ => by simp at h
  | y :: l, 0, x, j, v, h, hv => by
    injection h with h
    subst h
    have hj : j < (Drivec.pcells y).length := (List.getElem?_eq_some_iff.1 hv).1
    show (Drivec.pcells y ++ flatP l)[0 * 2 + j]? = some v
    rw [Nat.zero_mul, Nat.zero_add, List.getElem?_append_left hj]
    exact hv
  | y :: l, i + 1, x, j, v, h, hv => by
    have := flatP_get l i x j v h hv
    show (Drivec.pcells y ++ flatP l)[(i + 1) * 2 + j]? = some v
    have h7 : (Drivec.pcells y).length = 2 := rfl
    rw [List.getElem?_append_right (by omega), h7, show (i + 1) * 2 + j - 2 = i * 2 + j by omega]
    exact this
theorem row_rdp {w : World} {base : Nat} {s : Sl} {l : List (Int × Int)} (h : Row w base 65 2 s l.length (flatP l)) (hb : ∀ x ∈ l, -9223372036854775808 ≤ x.1 ∧ x.1 ≤ 9223372036854775807) : RdP w w.heap.size s l := by
  refine ⟨h.n_.1, h.n_.2.1, h.n_.2.2.1, hb, fun hn => ?_⟩
  obtain ⟨g, hA, _, hlt, hc, _⟩ := h.at_ (by have := h.n_.1; omega)
  refine ⟨g, 0, hA, hlt, fun i x hx => ?_⟩
  have hi : i < l.length := (List.getElem?_eq_some_iff.1 hx).1
  have h0 := hc (i * 2) (by omega)
  have h1 := hc (i * 2 + 1) (by omega)
  have e0 := flatP_get l i x 0 _ hx rfl
  rw [Nat.add_zero] at e0
  rw [e0] at h0
  rw [flatP_get l i x 1 _ hx rfl] at h1
  rw [Nat.zero_add]
  exact ⟨h0, h1⟩
theorem blk_rdo {w : World} {g : Nat} {l : List (Int × Int)} (h : Blk w g 63 (flatP l).toArray) (hl : l.length ≤ maxLen) : RdO w w.heap.size ⟨some ⟨g, 0, none⟩, l.length, l.length⟩ l := by
  refine ⟨rfl, Nat.le_refl _, hl, fun hn => ⟨g, 0, rfl, h.lt, fun i x hx => ?_⟩⟩
  have e0 := flatP_get l i x 0 _ hx rfl
  have e1 := flatP_get l i x 1 _ hx rfl
  rw [Nat.add_zero] at e0
  rw [Nat.zero_add]
  exact ⟨(h.cell _).trans (by simpa using e0), (h.cell _).trans (by simpa using e1)⟩
theorem pick_cell : (Try.prog.info? 65).map (fun i => (i.zero, i.size, i.bytes)) = some (some (.agg #[.int .i64 0, .int .u32 0]), 2, 16) := by kernel_rfl
def a6 : RS := runM (docZ 3 1 1 2) [[(4, 0), (4, 0), (4, 0)]] (RS.first (newM 3 1 1 2) 1) (List.replicate 7 (0, 0))
theorem a6_steps : a6.steps.length = 7 := by kernel_rfl
theorem a6_calls : a6.calls = [⟨0, 4, 0, 0, 2, 0, 0⟩, ⟨0, 4, 0, 3, 5, 0, 1⟩, ⟨0, 4, 0, 6, 6, 4, 0⟩] := by kernel_rfl
/-- what the program comes to -/
def Run6 (V : World) (e : Ending) (w' : World) : Prop :=
  ∃ (r : R) (sSA : Option Addr) (cS gK cK : Nat), e = .returned (.tuple #[.agg #[.slice sSA 7 cS, .slice (some ⟨gK, 0, none⟩) 3 cK, .int .u64 r.e, .int .u64 r.f, .slice r.L.A r.L.n r.L.c, .slice r.P.A r.P.n r.P.c, .int .u64 r.h, .int .u64 r.t, .slice r.K.A r.K.n r.K.c, .slice r.X.A r.X.n r.X.c, .slice r.S.A r.S.n r.S.c], .int .i64 0]) ∧ gK < w'.heap.size ∧ w'.cell? ⟨gK, 6, none⟩ = some (.int .u32 0) ∧ w'.cell? ⟨gK, 13, none⟩ = some (.int .u32 1) ∧ w'.cell? ⟨gK, 19, none⟩ = some (.int .i64 4) ∧ Below V.heap.size V w'
theorem run_6 (V : World) (g2 g3 : Nat) (q : Sl) (base : Nat) (h2 : Blk V g2 63 #[.int .i64 4, .int .u32 0, .int .i64 4, .int .u32 0, .int .i64 4, .int .u32 0]) (h3 : Blk V g3 61 #[.slice (some ⟨g2, 0, none⟩) 3 3]) (hq : Row V base 65 2 q 7 (flatP (List.replicate 7 (0, 0)))) :
    Calls Try.prog 16 #[.agg #[.int .i64 3, .int .i64 1, .int .i64 1, .int .i64 2], .slice (some ⟨g3, 0, none⟩) 1 1, .slice q.A q.n q.c] V (Run6 V) := by
  have ho : RdO V V.heap.size ⟨some ⟨g2, 0, none⟩, 3, 3⟩ [(4, 0), (4, 0), (4, 0)] := blk_rdo (l := [(4, 0), (4, 0), (4, 0)]) h2 (by unfold maxLen; decide)
  have hp : RdP V V.heap.size q (List.replicate 7 (0, 0)) := row_rdp hq (by intro x hx; rw [(List.mem_replicate.1 hx).2]; decide)
  obtain ⟨qA, qn, qc⟩ := q
  refine (arun_c V 3 1 1 2 g3 0 1 qA qn qc [[(4, 0), (4, 0), (4, 0)]] (List.replicate 7 (0, 0)) (by omega) (by omega) (by omega) (by omega) (by omega) (by omega) (by omega) (by omega) ?_ ?_ hp (by simp) ?_ ?_).mono ?_
  · refine ⟨rfl, Nat.le_refl _, by show 1 ≤ maxLen; unfold maxLen; omega, fun _ => ⟨g3, 0, rfl, h3.lt, fun i x hx => ?_⟩⟩
    match i, hx with
    | 0, hx => injection hx with hx; subst hx; exact ⟨⟨some ⟨g2, 0, none⟩, 3, 3⟩, h3.cell 0, ho⟩
  · intro x hx
    rw [List.mem_singleton.1 hx]
    decide
  · intro x hx
    rw [List.mem_singleton.1 hx]
    decide
  · intro x hx o ho
    rw [List.mem_singleton.1 hx] at ho
    simp only [List.mem_cons, List.not_mem_nil, or_false, or_self] at ho
    rw [ho]
    decide
  · rintro e w' ⟨r, sS, sK, base', he, hS, hK, hE, hF⟩
    change Row w' base' 59 8 sS a6.steps.length _ at hS
    change Row w' base' 55 7 sK a6.calls.length (flatK a6.calls) at hK
    rw [a6_steps] at hS
    rw [a6_calls] at hK
    obtain ⟨gK, hgK, _, hlK, hcK, _⟩ := hK.at_ (by decide)
    have hnS := hS.n_.1
    have hnK := hK.n_.1
    obtain ⟨sSA, sSn, sSc⟩ := sS
    obtain ⟨sKA, sKn, sKc⟩ := sK
    simp only at hgK hnS hnK
    subst hgK hnS hnK
    exact ⟨r, sSA, sSc, gK, sKc, he, hlK, hcK 6 (by decide), hcK 13 (by decide), hcK 19 (by decide), hF⟩
set_option maxHeartbeats 4000000 in
theorem awake4_c (w : World) : Calls Try.prog 14 #[] w fun e w' => e = .returned (.bool true) ∧ Below w.heap.size w w' := by
  have C0 : Hid (Blk (w.alloc (.cells #[.int .i64 3, .int .i64 1, .int .i64 1, .int .i64 2] 23)) w.heap.size 23 #[.int .i64 3, .int .i64 1, .int .i64 1, .int .i64 2]) := Lib.hid (Blk.new _ _ _)
  have W0 : Hid (Below w.heap.size w (w.alloc (.cells #[.int .i64 3, .int .i64 1, .int .i64 1, .int .i64 2] 23))) := Lib.hid ((Below.refl _ _).alloc (Nat.le_refl _) _)
  go_enter Try.func14, Try.ntmps14
  go_upto_region 4 with fail
  generalize (w.alloc (.cells #[.int .i64 3, .int .i64 1, .int .i64 1, .int .i64 2] 23)) = V at C0 W0 ⊢
  go_loopw [2, 3] (fun p i wr => ∃ (j : Nat) (q : Sl), p = .slice q.A q.n q.c ∧ i = .int .i64 j ∧ j ≤ 7 ∧ Row wr (w.heap.size + 1) 65 2 q j (flatP (List.replicate j (0, 0))) ∧ Blk wr w.heap.size 23 #[.int .i64 3, .int .i64 1, .int .i64 1, .int .i64 2] ∧ Below w.heap.size w wr) (fun _ i _ => 7 - (intOf i).toNat)
  case atStart => exact ⟨0, nilS, rfl, rfl, Nat.zero_le _, row_nil _ _ _ _, C0.out, W0.out⟩
  case round =>
  clear C0 W0
  obtain ⟨j, q, rfl, rfl, hj, hr, hc, hb⟩ := hrel
  have R0 := Lib.hid hr
  have C0 := Lib.hid hc
  have W0 := Lib.hid hb
  clear hr hc hb
  generalize wr = V0 at R0 C0 W0 ⊢
  have i0 : (0 : Int) ≤ j := Int.natCast_nonneg _
  by_cases hlt : j < 7
  · have i1 : (j : Int) < 7 := by omega
    obtain ⟨ji, hji, hjz0, hjz1, hjz2⟩ := info_parts pick_cell
    go_upto_region 5 with (at_builtin; refine wpList_app2 rfl _ _ 25 rfl (w.heap.size + 1) 65 ji _ 2 16 Try.underlying25 hji hjz0 hjz1 hjz2 rfl (by decide) q j (flatP (List.replicate j (0, 0))) rfl (Row.alloc R0.out (.cells #[.int .i64 0, .int .u32 0] 65)) V0.heap.size [.int .i64 0, .int .u32 0] rfl rfl (fun j u hj => (Blk.cell (Arenac.blk_at2 _ _ _ _ rfl) j).trans (by simpa using hj)) (by simp [Value.oneCell']) (by omega) (by decide) (Nat.le_trans C0.out.lt (by simp)) ?_; intro q2 w7 hr7 ho7 hw7; go_must (have R7 := Lib.hid hr7; have A7 : Hid (Only (fun g => bl q g) V0 w7) := Lib.hid (Only.next ((Only.refl (fun g => bl q g) V0).alloc (.cells #[.int .i64 0, .int .u32 0] 65)) ho7 (fun k _ h => h)); have C7 := Lib.hid (C0.out.only A7.out (fun h => by have := (R0.out.lt h).1; omega)); have W7 := Lib.hid (W0.out.trans (A7.out.below W0.out.size (fun g hg => by have := (R0.out.lt hg).1; omega)))); clear hr7 ho7 hw7)
    have e7 : flatP (List.replicate j (0, 0)) ++ [.int .i64 0, .int .u32 0] = flatP (List.replicate (j + 1) (0, 0)) := by
      rw [List.replicate_succ', flatP_snoc]; rfl
    have R8 := R7.out
    rw [e7] at R8
    have R9 := Lib.hid R8
    clear e7 R8
    go_wp2
    go_roundw
    case rel => exact ⟨j + 1, q2, rfl, by go_num, hlt, R9.out, C7.out, W7.out⟩
    case measure => simp [intOf]; omega
  · obtain rfl : j = 7 := by omega
    have hcc := C0.out.cell
    go_upto_region 8 with (go_at_call 16; go_must (refine (run_6 _ V0.heap.size (V0.heap.size + 1) q (w.heap.size + 1) ((Arenac.blk_at2 _ _ _ _ rfl).alloc _) (Arenac.blk_at2 _ _ _ _ (by simp)) ((R0.out.alloc _).alloc _)).mono ?_); rintro e w1 ⟨r, sSA, cS, gK, cK, rfl, hlK, hc1, hc2, hc3, hb⟩; go_must (have W1 := Lib.hid ((((W0.out.alloc W0.out.size _).alloc (Nat.le_trans W0.out.size (by simp)) _)).trans (hb.mono (Nat.le_trans W0.out.size (by simp; omega))))); clear hb hcc)
    go_wp2
    go_ret
    exact ⟨rfl, W1.out.alloc W1.out.size _⟩

end Go.Proofs.Ytffppdcpiieapaa.Machc

namespace Go.Proofs.Ytffppdcpiieapaa.Drivec
open Go.ChangeShapes Go.WideShapes Go.RowKit Go.Deep Go.Proofs.Ytffppdcpiieapaa.Wordc Go.Proofs.Ytffppdcpiieapaa.Memc Go.Proofs.Ytffppdcpiieapaa.Procc
set_option linter.unusedVariables false
set_option maxRecDepth 100000

section
variable {H : Type} {enc : TypeId × Value → H} {w : World} {base : Nat} {spare : Nat → Bool} {held : Bool}
theorem open_op {n : Nat} {cs : List Value} {x : DataW H × List MemPlace} (h : DataW.trod enc Try.prog w base spare held n 63 cs = some x) : ∃ p : Int × Int, cs = pcells p ∧ (-9223372036854775808 ≤ p.1 ∧ p.1 ≤ 9223372036854775807) ∧ (0 ≤ p.2 ∧ p.2 ≤ 4294967295) := by
  obtain ⟨zs, n2, _, _, hcl2, hlen2, hg2⟩ := DataW.trod_struct Try.underlying63 h
  have hc2 : Try.prog.cellsOf 63 = 2 := by kernel_rfl
  have ki : Try.prog.cellsOf 3 = 1 := by kernel_rfl
  have ku : Try.prog.cellsOf 50 = 1 := by kernel_rfl
  rw [hc2] at hcl2
  match cs, hcl2 with
  | [a1, a2], _ =>
    match zs, hlen2 with
    | [z0, z1], _ =>
        have f0 : DataW.trod enc Try.prog w base spare held n2 3 (([a1, a2].drop 0).take (Try.prog.cellsOf 3)) = some z0 := hg2 0 _ rfl
        rw [ki] at f0
        have f1 : DataW.trod enc Try.prog w base spare held n2 50 (([a1, a2].drop 1).take (Try.prog.cellsOf 50)) = some z1 := hg2 1 _ rfl
        rw [ku] at f1
        obtain ⟨x1, e1, w1⟩ := open_num Try.underlying3 f0
        obtain ⟨x2, e2, w2⟩ := open_num Try.underlying50 f1
        exact ⟨⟨x1, x2⟩, by simp [pcells, e1, e2], fit_i64 w1, fit_u32 w2⟩
theorem open_pick2 {n : Nat} {cs : List Value} {x : DataW H × List MemPlace} (h : DataW.trod enc Try.prog w base spare held n 65 cs = some x) : ∃ p : Int × Int, cs = pcells p ∧ (-9223372036854775808 ≤ p.1 ∧ p.1 ≤ 9223372036854775807) ∧ (0 ≤ p.2 ∧ p.2 ≤ 4294967295) := by
  obtain ⟨zs, n2, _, _, hcl2, hlen2, hg2⟩ := DataW.trod_struct Try.underlying65 h
  have hc2 : Try.prog.cellsOf 65 = 2 := by kernel_rfl
  have ki : Try.prog.cellsOf 3 = 1 := by kernel_rfl
  have ku : Try.prog.cellsOf 50 = 1 := by kernel_rfl
  rw [hc2] at hcl2
  match cs, hcl2 with
  | [a1, a2], _ =>
    match zs, hlen2 with
    | [z0, z1], _ =>
        have f0 : DataW.trod enc Try.prog w base spare held n2 3 (([a1, a2].drop 0).take (Try.prog.cellsOf 3)) = some z0 := hg2 0 _ rfl
        rw [ki] at f0
        have f1 : DataW.trod enc Try.prog w base spare held n2 50 (([a1, a2].drop 1).take (Try.prog.cellsOf 50)) = some z1 := hg2 1 _ rfl
        rw [ku] at f1
        obtain ⟨x1, e1, w1⟩ := open_num Try.underlying3 f0
        obtain ⟨x2, e2, w2⟩ := open_num Try.underlying50 f1
        exact ⟨⟨x1, x2⟩, by simp [pcells, e1, e2], fit_i64 w1, fit_u32 w2⟩
/-- values that are numbers of 32 bits -/
def Val32 (l : List (Int × Int)) : Prop := ∀ o ∈ l, 0 ≤ o.2 ∧ o.2 ≤ 4294967295
theorem open_opl {n : Nat} {cs : List Value} {x : DataW H × List MemPlace} (h : DataW.trod enc Try.prog w base spare held n 61 cs = some x) : ∃ y : Sl × List (Int × Int), cs = [.slice y.1.A y.1.n y.1.c] ∧ RdO w w.heap.size y.1 y.2 ∧ Val32 y.2 := by
  obtain ⟨s, l, hcs, h1, h2, h3, h4, h5⟩ := open_rows Try.underlying61 pcells 2 (by kernel_rfl) (by omega) (fun p => (-9223372036854775808 ≤ p.1 ∧ p.1 ≤ 9223372036854775807) ∧ (0 ≤ p.2 ∧ p.2 ≤ 4294967295)) (fun n cs x h => open_op h) (fun _ => rfl) h
  refine ⟨⟨s, l⟩, hcs, ⟨h1, h2, h3, fun hn => ?_⟩, fun o ho => (h4 o ho).2⟩
  obtain ⟨b, off, e, hlt, hc⟩ := h5 hn
  exact ⟨b, off, e, hlt, fun i x hx => ⟨hc i x hx 0 _ rfl, hc i x hx 1 _ rfl⟩⟩
theorem open_ops {r : Reach} {b0 : Nat} {v : Value} {d : DataW H} {p : List MemPlace} (hv : Value.okWide Try.prog w r b0 44 v) (h : DataW.Trod enc Try.prog w base spare held 44 v d p) :
    ∃ (s : Sl) (l : List (List (Int × Int))), v = .slice s.A s.n s.c ∧ RdLO w w.heap.size s l ∧ ∀ x ∈ l, Val32 x := by
  obtain ⟨a0, len0, cap0, rfl⟩ := okWide_slice Try.underlying44 hv
  obtain ⟨fuel, hf⟩ := h
  obtain ⟨s, l, hcs, h1, h2, h3, h4, h5⟩ := open_rows Try.underlying44 (fun y : Sl × List (Int × Int) => [.slice y.1.A y.1.n y.1.c]) 1 (by kernel_rfl) (by omega) (fun y => RdO w w.heap.size y.1 y.2 ∧ Val32 y.2) (fun n cs x h => open_opl h) (fun _ => rfl) hf
  simp [Value.cells] at hcs
  obtain ⟨rfl, rfl, rfl⟩ := hcs
  refine ⟨s, l.map (·.2), rfl, ⟨by rw [List.length_map]; exact h1, h2, h3, fun hn => ?_⟩, fun x hx => ?_⟩
  · obtain ⟨b, off, e, hlt, hc⟩ := h5 hn
    refine ⟨b, off, e, hlt, fun i x hx => ?_⟩
    rw [List.getElem?_map] at hx
    rcases hy : l[i]? with _ | y
    · rw [hy] at hx; cases hx
    · rw [hy] at hx
      injection hx with hx
      subst hx
      have := hc i y hy 0 _ rfl
      rw [Nat.mul_one, Nat.add_zero] at this
      exact ⟨y.1, this, (h4 y (List.mem_of_getElem? hy)).1⟩
  · obtain ⟨y, hy, rfl⟩ := List.mem_map.1 hx
    exact (h4 y hy).2
theorem open_picks2 {r : Reach} {b0 : Nat} {v : Value} {d : DataW H} {p : List MemPlace} (hv : Value.okWide Try.prog w r b0 25 v) (h : DataW.Trod enc Try.prog w base spare held 25 v d p) :
    ∃ (s : Sl) (l : List (Int × Int)), v = .slice s.A s.n s.c ∧ RdP w w.heap.size s l ∧ Val32 l := by
  obtain ⟨a0, len0, cap0, rfl⟩ := okWide_slice Try.underlying25 hv
  obtain ⟨fuel, hf⟩ := h
  obtain ⟨s, l, hcs, h1, h2, h3, h4, h5⟩ := open_rows Try.underlying25 pcells 2 (by kernel_rfl) (by omega) (fun p => (-9223372036854775808 ≤ p.1 ∧ p.1 ≤ 9223372036854775807) ∧ (0 ≤ p.2 ∧ p.2 ≤ 4294967295)) (fun n cs x h => open_pick2 h) (fun _ => rfl) hf
  simp [Value.cells] at hcs
  obtain ⟨rfl, rfl, rfl⟩ := hcs
  refine ⟨s, l, rfl, ⟨h1, h2, h3, fun x hx => (h4 x hx).1, fun hn => ?_⟩, fun x hx => (h4 x hx).2⟩
  obtain ⟨b, off, e, hlt, hc⟩ := h5 hn
  exact ⟨b, off, e, hlt, fun i x hx => ⟨hc i x hx 0 _ rfl, hc i x hx 1 _ rfl⟩⟩
end
end Go.Proofs.Ytffppdcpiieapaa.Drivec

namespace Go.Proofs.Ytffppdcpiieapaa.Samez
open Go.RowKit Go.Proofs.Ytffppdcpiieapaa.Memc Go.Proofs.Ytffppdcpiieapaa.Refc
set_option linter.unusedVariables false
set_option maxRecDepth 100000

abbrev zR : R := ⟨0, 0, ⟨none, 0, 0⟩, ⟨none, 0, 0⟩, 0, 0, ⟨none, 0, 0⟩, ⟨none, 0, 0⟩, ⟨none, 0, 0⟩⟩
def zM : Memc.M := { e := 0, f := 0, li := [], pi := [], h := 0, t := 0, lk := [], nx := [], sl := [] }
theorem rm_zero (w : World) (B : Nat) : Rm w B zR zM := by
  refine ⟨rfl, rfl, rfl, rfl, ?_, Rd.nil _ _ _, Rd.nil _ _ _, Rd.nil _ _ _, Rd.nil _ _ _, Rd.nil _ _ _⟩
  intro a y hy
  have h0 : y = 0 := by
    by_cases ho : a < 1 ∨ 9 < a
    · rw [area_no _ _ ho] at hy; cases hy
    · rcases nine ho with rfl | rfl | rfl | rfl | rfl | rfl | rfl | rfl | rfl <;> first | exact List.mem_singleton.1 hy | cases hy
  subst h0
  exact ⟨Int.le_refl 0, by decide⟩
theorem same_zz (w : World) : Calls Try.prog 12 #[.agg #[.int .u64 0, .int .u64 0, .slice none 0 0, .slice none 0 0, .int .u64 0, .int .u64 0, .slice none 0 0, .slice none 0 0, .slice none 0 0], .agg #[.int .u64 0, .int .u64 0, .slice none 0 0, .slice none 0 0, .int .u64 0, .int .u64 0, .slice none 0 0, .slice none 0 0, .slice none 0 0]] w (Refc.Tells w true) :=
  same_yes w 0 0 zR zR zM (rm_zero w 0) (Nat.zero_le _) (rm_zero w 0) (Nat.zero_le _)
end Go.Proofs.Ytffppdcpiieapaa.Samez

namespace Go.Proofs.Ytffppdcpiieapaa.Machc
open Go.RowKit Go.Proofs.Ytffppdcpiieapaa.Memc Go.Proofs.Ytffppdcpiieapaa.Newc Go.Proofs.Ytffppdcpiieapaa.Drivec Go.Proofs.Ytffppdcpiieapaa.Procc Go.Proofs.Ytffppdcpiieapaa.Refc Go.Proofs.Ytffppdcpiieapaa.Arenac
set_option linter.unusedVariables false
set_option maxRecDepth 100000

/-- what the program's run is refused with -/
def NoP (w : World) (e : Ending) (w' : World) : Prop := e = .returned (.tuple #[.agg #[.slice none 0 0, .slice none 0 0, .int .u64 0, .int .u64 0, .slice none 0 0, .slice none 0 0, .int .u64 0, .int .u64 0, .slice none 0 0, .slice none 0 0, .slice none 0 0], .int .i64 1]) ∧ Below w.heap.size w w'
set_option maxHeartbeats 4000000 in
theorem aruns_no (w : World) (k K T M : Int) (sA : Option Addr) (sn sc : Nat) (pA : Option Addr) (pn pc : Nat) (ns : List Nat) (h : Lens w ⟨sA, sn, sc⟩ ns) (hps : pn ≤ maxLen)
    (hA : ∀ W, Below w.heap.size w W → Calls Try.prog 16 #[.agg #[.int .i64 k, .int .i64 K, .int .i64 T, .int .i64 M], .slice sA sn sc, .slice pA pn pc] W (NoP W)) (hR : ∀ W, Below w.heap.size w W → Calls Try.prog 17 #[.agg #[.int .i64 k, .int .i64 K, .int .i64 T, .int .i64 M], .slice sA sn sc, .slice pA pn pc] W (No4 W)) :
    Calls Try.prog 4 #[.agg #[.int .i64 k, .int .i64 K, .int .i64 T, .int .i64 M], .slice sA sn sc, .slice pA pn pc] w fun e w' => e = .returned (.bool true) ∧ Below w.heap.size w w' := by
  have HLN := Lib.hid h
  have HPL := Lib.hid hps
  have HA := Lib.hid hA
  have HR := Lib.hid hR
  clear h hps hA hR
  have W0 : Hid (Below w.heap.size w (w.alloc (.cells #[.int .i64 k, .int .i64 K, .int .i64 T, .int .i64 M] 23))) := Lib.hid ((Below.refl _ _).alloc (Nat.le_refl _) _)
  have C0 : Hid (Blk (w.alloc (.cells #[.int .i64 k, .int .i64 K, .int .i64 T, .int .i64 M] 23)) w.heap.size 23 #[.int .i64 k, .int .i64 K, .int .i64 T, .int .i64 M]) := Lib.hid (Blk.new _ _ _)
  go_enter Try.func4, Try.ntmps4
  go_upto_region 3 with (go_at_call 14; refine (awake4_c _).mono ?_; rintro e w1 ⟨rfl, hb1⟩; go_must (have C1 := Lib.hid (C0.out.below hb1 C0.out.lt); have W1 := Lib.hid (W0.out.trans (hb1.mono W0.out.size))); clear hb1)
  clear C0 W0
  obtain ⟨z, hz⟩ : ∃ z : Bool, Calls Try.prog 15 #[.slice sA sn sc, .slice pA pn pc, .int .i64 1000] w1 fun e w' => e = .returned (.bool z) ∧ w1 = w' := ⟨fewB ns sn pn, few_c w1 sA sn sc pA pn pc ns (HLN.out.below W1.out) HPL.out⟩
  have HFZ := Lib.hid hz
  clear hz
  cases z
  case false =>
    go_wp2_with (go_at_call 15; refine HFZ.out.mono ?_; rintro e w2 ⟨rfl, rfl⟩)
    go_ret
    exact ⟨rfl, W1.out⟩
  case true =>
    have hcc := C1.out.cell
    go_upto_region 6 with (first
      | (go_at_call 15; refine HFZ.out.mono ?_; rintro e w2 ⟨rfl, rfl⟩)
      | (go_at_call 16; (with_reducible refine (HA.out _ W1.out).mono ?_); rintro e w2 ⟨rfl, hb⟩; go_must (have W2 := Lib.hid (W1.out.trans (hb.mono W1.out.size)); have C2 := Lib.hid (C1.out.below hb C1.out.lt)); clear hb hcc))
    have X3 : Hid (Blk (w2.alloc (.cells #[.slice none 0 0, .slice none 0 0, .int .u64 0, .int .u64 0, .slice none 0 0, .slice none 0 0, .int .u64 0, .int .u64 0, .slice none 0 0, .slice none 0 0, .slice none 0 0] 35)) w2.heap.size 35 #[.slice none 0 0, .slice none 0 0, .int .u64 0, .int .u64 0, .slice none 0 0, .slice none 0 0, .int .u64 0, .int .u64 0, .slice none 0 0, .slice none 0 0, .slice none 0 0]) := Lib.hid (Blk.new _ _ _)
    have W3 := Lib.hid (W2.out.alloc W2.out.size (.cells #[.slice none 0 0, .slice none 0 0, .int .u64 0, .int .u64 0, .slice none 0 0, .slice none 0 0, .int .u64 0, .int .u64 0, .slice none 0 0, .slice none 0 0, .slice none 0 0] 35))
    have C3 := Lib.hid (C2.out.alloc (.cells #[.slice none 0 0, .slice none 0 0, .int .u64 0, .int .u64 0, .slice none 0 0, .slice none 0 0, .int .u64 0, .int .u64 0, .slice none 0 0, .slice none 0 0, .slice none 0 0] 35))
    clear W2 C2
    generalize w2.heap.size = gA at X3 ⊢
    generalize w2.alloc (.cells #[.slice none 0 0, .slice none 0 0, .int .u64 0, .int .u64 0, .slice none 0 0, .slice none 0 0, .int .u64 0, .int .u64 0, .slice none 0 0, .slice none 0 0, .slice none 0 0] 35) = V3 at X3 W3 C3 ⊢
    have hcc := C3.out.cell
    go_wp2_with (first | (go_at_call 17; (with_reducible refine (HR.out _ W3.out).mono ?_); rintro e w4 ⟨rfl, hb⟩; go_must (have W4 := Lib.hid (W3.out.trans (hb.mono W3.out.size)); have X4 := Lib.hid (X3.out.below hb X3.out.lt)); have hx4 := X4.out.cell; have hx4l := X4.out.lt; clear hb hcc) | (go_at_call 12; refine (Go.Proofs.Ytffppdcpiieapaa.Samez.same_zz _).mono ?_; rintro e w5 ⟨rfl, hb⟩; go_must (have W5 := Lib.hid ((W4.out.alloc W4.out.size (.cells #[.slice none 0 0, .slice none 0 0, .int .u64 0, .int .u64 0, .slice none 0 0, .slice none 0 0, .int .u64 0, .int .u64 0, .slice none 0 0, .slice none 0 0, .slice none 0 0] 35)).trans (hb.mono (W4.out.alloc W4.out.size (.cells #[.slice none 0 0, .slice none 0 0, .int .u64 0, .int .u64 0, .slice none 0 0, .slice none 0 0, .int .u64 0, .int .u64 0, .slice none 0 0, .slice none 0 0, .slice none 0 0] 35)).size))); clear hb))
    go_ret
    exact ⟨rfl, W5.out⟩
set_option maxHeartbeats 4000000 in
theorem aruns_yes (w : World) (k : Int) (K M : Nat) (sA : Option Addr) (sn sc : Nat) (pA : Option Addr) (pn pc : Nat) (ns : List Nat) (s : RS) (h : Lens w ⟨sA, sn, sc⟩ ns) (hps : pn ≤ maxLen) (hst : StepsOk s)
    (hA : ∀ W, Below w.heap.size w W → Calls Try.prog 16 #[.agg #[.int .i64 k, .int .i64 K, .int .i64 sn, .int .i64 M], .slice sA sn sc, .slice pA pn pc] W (RanL W s)) (hR : ∀ W, Below w.heap.size w W → Calls Try.prog 17 #[.agg #[.int .i64 k, .int .i64 K, .int .i64 sn, .int .i64 M], .slice sA sn sc, .slice pA pn pc] W (Ran4 W s)) :
    Calls Try.prog 4 #[.agg #[.int .i64 k, .int .i64 K, .int .i64 sn, .int .i64 M], .slice sA sn sc, .slice pA pn pc] w fun e w' => e = .returned (.bool true) ∧ Below w.heap.size w w' := by
  have HLN := Lib.hid h
  have HPL := Lib.hid hps
  have HA := Lib.hid hA
  have HR := Lib.hid hR
  have HST := Lib.hid hst
  clear h hps hA hR hst
  have W0 : Hid (Below w.heap.size w (w.alloc (.cells #[.int .i64 k, .int .i64 K, .int .i64 sn, .int .i64 M] 23))) := Lib.hid ((Below.refl _ _).alloc (Nat.le_refl _) _)
  have C0 : Hid (Blk (w.alloc (.cells #[.int .i64 k, .int .i64 K, .int .i64 sn, .int .i64 M] 23)) w.heap.size 23 #[.int .i64 k, .int .i64 K, .int .i64 sn, .int .i64 M]) := Lib.hid (Blk.new _ _ _)
  go_enter Try.func4, Try.ntmps4
  go_upto_region 3 with (go_at_call 14; refine (awake4_c _).mono ?_; rintro e w1 ⟨rfl, hb1⟩; go_must (have C1 := Lib.hid (C0.out.below hb1 C0.out.lt); have W1 := Lib.hid (W0.out.trans (hb1.mono W0.out.size))); clear hb1)
  clear C0 W0
  obtain ⟨z, hz⟩ : ∃ z : Bool, Calls Try.prog 15 #[.slice sA sn sc, .slice pA pn pc, .int .i64 1000] w1 fun e w' => e = .returned (.bool z) ∧ w1 = w' := ⟨fewB ns sn pn, few_c w1 sA sn sc pA pn pc ns (HLN.out.below W1.out) HPL.out⟩
  have HFZ := Lib.hid hz
  clear hz
  cases z
  case false =>
    go_wp2_with (go_at_call 15; refine HFZ.out.mono ?_; rintro e w2 ⟨rfl, rfl⟩)
    go_ret
    exact ⟨rfl, W1.out⟩
  case true =>
    have hcc := C1.out.cell
    go_upto_region 6 with (first
      | (go_at_call 15; refine HFZ.out.mono ?_; rintro e w2 ⟨rfl, rfl⟩)
      | (go_at_call 16; (with_reducible refine (HA.out _ W1.out).mono ?_); rintro e w2 ⟨r, sS, sK, base, rfl, hS, hK, hE, hb⟩; go_must (have W2 := Lib.hid (W1.out.trans (hb.mono W1.out.size)); have C2 := Lib.hid (C1.out.below hb C1.out.lt); have S2 := Lib.hid (row_rdT hS HST.out); have K2 := Lib.hid (row_rdK hK); have R2 := Lib.hid hE.rm); clear hb hcc hS hK hE))
    have bb : Below w2.heap.size w2 (w2.alloc (.cells #[.slice sS.A sS.n sS.c, .slice sK.A sK.n sK.c, .int .u64 r.e, .int .u64 r.f, .slice r.L.A r.L.n r.L.c, .slice r.P.A r.P.n r.P.c, .int .u64 r.h, .int .u64 r.t, .slice r.K.A r.K.n r.K.c, .slice r.X.A r.X.n r.X.c, .slice r.S.A r.S.n r.S.c] 35)) := (Below.refl _ _).alloc (Nat.le_refl _) _
    have X3 : Hid (Blk (w2.alloc (.cells #[.slice sS.A sS.n sS.c, .slice sK.A sK.n sK.c, .int .u64 r.e, .int .u64 r.f, .slice r.L.A r.L.n r.L.c, .slice r.P.A r.P.n r.P.c, .int .u64 r.h, .int .u64 r.t, .slice r.K.A r.K.n r.K.c, .slice r.X.A r.X.n r.X.c, .slice r.S.A r.S.n r.S.c] 35)) w2.heap.size 35 #[.slice sS.A sS.n sS.c, .slice sK.A sK.n sK.c, .int .u64 r.e, .int .u64 r.f, .slice r.L.A r.L.n r.L.c, .slice r.P.A r.P.n r.P.c, .int .u64 r.h, .int .u64 r.t, .slice r.K.A r.K.n r.K.c, .slice r.X.A r.X.n r.X.c, .slice r.S.A r.S.n r.S.c]) := Lib.hid (Blk.new _ _ _)
    have W3 := Lib.hid (W2.out.alloc W2.out.size (.cells #[.slice sS.A sS.n sS.c, .slice sK.A sK.n sK.c, .int .u64 r.e, .int .u64 r.f, .slice r.L.A r.L.n r.L.c, .slice r.P.A r.P.n r.P.c, .int .u64 r.h, .int .u64 r.t, .slice r.K.A r.K.n r.K.c, .slice r.X.A r.X.n r.X.c, .slice r.S.A r.S.n r.S.c] 35))
    have C3 := Lib.hid (C2.out.alloc (.cells #[.slice sS.A sS.n sS.c, .slice sK.A sK.n sK.c, .int .u64 r.e, .int .u64 r.f, .slice r.L.A r.L.n r.L.c, .slice r.P.A r.P.n r.P.c, .int .u64 r.h, .int .u64 r.t, .slice r.K.A r.K.n r.K.c, .slice r.X.A r.X.n r.X.c, .slice r.S.A r.S.n r.S.c] 35))
    have S3 := Lib.hid ((S2.out.below bb).more bb.size)
    have K3 := Lib.hid ((K2.out.below bb).more bb.size)
    have R3 := Lib.hid ((R2.out.below bb).more bb.size)
    clear W2 C2 S2 K2 R2 bb
    generalize w2.heap.size = gA at X3 ⊢
    generalize w2.alloc (.cells #[.slice sS.A sS.n sS.c, .slice sK.A sK.n sK.c, .int .u64 r.e, .int .u64 r.f, .slice r.L.A r.L.n r.L.c, .slice r.P.A r.P.n r.P.c, .int .u64 r.h, .int .u64 r.t, .slice r.K.A r.K.n r.K.c, .slice r.X.A r.X.n r.X.c, .slice r.S.A r.S.n r.S.c] 35) = V3 at X3 W3 C3 S3 K3 R3 ⊢
    have hcc := C3.out.cell
    go_upto_region 7 with (go_at_call 17; (with_reducible refine (HR.out _ W3.out).mono ?_); rintro e w4 ⟨q, qS, qK, base2, rfl, hm, hoff, hs, hk, hst2, hbase, hb⟩; go_must (have W4 := Lib.hid (W3.out.trans (hb.mono W3.out.size)); have X4 := Lib.hid (X3.out.below hb X3.out.lt); have S4 := Lib.hid ((S3.out.below hb).more hb.size); have K4 := Lib.hid ((K3.out.below hb).more hb.size); have R4 := Lib.hid ((R3.out.below hb).more hb.size); have M4 := Lib.hid hm; have QS4 := Lib.hid (row_rdT hs hst2); have QK4 := Lib.hid (row_rdK hk)); clear hb hcc hm hoff hs hk hst2 hbase)
    have bb : Below w4.heap.size w4 (w4.alloc (.cells #[.slice qS.A qS.n qS.c, .slice qK.A qK.n qK.c, .int .u64 q.e, .int .u64 q.f, .slice q.L.A q.L.n q.L.c, .slice q.P.A q.P.n q.P.c, .int .u64 q.h, .int .u64 q.t, .slice q.K.A q.K.n q.K.c, .slice q.X.A q.X.n q.X.c, .slice q.S.A q.S.n q.S.c] 35)) := (Below.refl _ _).alloc (Nat.le_refl _) _
    have Y5 : Hid (Blk (w4.alloc (.cells #[.slice qS.A qS.n qS.c, .slice qK.A qK.n qK.c, .int .u64 q.e, .int .u64 q.f, .slice q.L.A q.L.n q.L.c, .slice q.P.A q.P.n q.P.c, .int .u64 q.h, .int .u64 q.t, .slice q.K.A q.K.n q.K.c, .slice q.X.A q.X.n q.X.c, .slice q.S.A q.S.n q.S.c] 35)) w4.heap.size 35 #[.slice qS.A qS.n qS.c, .slice qK.A qK.n qK.c, .int .u64 q.e, .int .u64 q.f, .slice q.L.A q.L.n q.L.c, .slice q.P.A q.P.n q.P.c, .int .u64 q.h, .int .u64 q.t, .slice q.K.A q.K.n q.K.c, .slice q.X.A q.X.n q.X.c, .slice q.S.A q.S.n q.S.c]) := Lib.hid (Blk.new _ _ _)
    have X5 := Lib.hid (X4.out.alloc (.cells #[.slice qS.A qS.n qS.c, .slice qK.A qK.n qK.c, .int .u64 q.e, .int .u64 q.f, .slice q.L.A q.L.n q.L.c, .slice q.P.A q.P.n q.P.c, .int .u64 q.h, .int .u64 q.t, .slice q.K.A q.K.n q.K.c, .slice q.X.A q.X.n q.X.c, .slice q.S.A q.S.n q.S.c] 35))
    have W5 := Lib.hid (W4.out.alloc W4.out.size (.cells #[.slice qS.A qS.n qS.c, .slice qK.A qK.n qK.c, .int .u64 q.e, .int .u64 q.f, .slice q.L.A q.L.n q.L.c, .slice q.P.A q.P.n q.P.c, .int .u64 q.h, .int .u64 q.t, .slice q.K.A q.K.n q.K.c, .slice q.X.A q.X.n q.X.c, .slice q.S.A q.S.n q.S.c] 35))
    have S5 := Lib.hid ((S4.out.below bb).more bb.size)
    have K5 := Lib.hid ((K4.out.below bb).more bb.size)
    have R5 := Lib.hid ((R4.out.below bb).more bb.size)
    have M5 := Lib.hid ((M4.out.below bb).more bb.size)
    have QS5 := Lib.hid ((QS4.out.below bb).more bb.size)
    have QK5 := Lib.hid ((QK4.out.below bb).more bb.size)
    clear X4 W4 S4 K4 R4 M4 QS4 QK4 bb
    generalize w4.heap.size = gB at Y5 ⊢
    generalize w4.alloc (.cells #[.slice qS.A qS.n qS.c, .slice qK.A qK.n qK.c, .int .u64 q.e, .int .u64 q.f, .slice q.L.A q.L.n q.L.c, .slice q.P.A q.P.n q.P.c, .int .u64 q.h, .int .u64 q.t, .slice q.K.A q.K.n q.K.c, .slice q.X.A q.X.n q.X.c, .slice q.S.A q.S.n q.S.c] 35) = V5 at Y5 X5 W5 S5 K5 R5 M5 QS5 QK5 ⊢
    have hx5 := X5.out.cell
    have hy5 := Y5.out.cell
    go_wp2_with (go_at_call 13; (with_reducible refine (same3_yes _ r q s.m sS sK qS qK s.steps s.calls R5.out M5.out S5.out QS5.out K5.out QK5.out).mono ?_); rintro e w6 ⟨rfl, hb⟩; go_must (have W6 := Lib.hid (W5.out.trans (hb.mono W5.out.size))); clear hb)
    go_ret
    exact ⟨rfl, W6.out⟩

end Go.Proofs.Ytffppdcpiieapaa.Machc

namespace Go.Proofs.Ytffppdcpiieapaa.Opencfg
open Go.ChangeShapes Go.WideShapes Go.RowKit Go.Proofs.Ytffppdcpiieapaa.Memc Go.Proofs.Ytffppdcpiieapaa.Newc Go.Proofs.Ytffppdcpiieapaa.Wordc
set_option linter.unusedVariables false
set_option maxRecDepth 100000

theorem open_cfg {H : Type} {enc : TypeId × Value → H} {w : World} {base : Nat} {spare : Nat → Bool} {held : Bool} {r : Reach} {b0 : Nat} {v : Value} {d : DataW H} {p : List MemPlace}
    (hv : Value.okWide Try.prog w r b0 23 v) (h : DataW.Trod enc Try.prog w base spare held 23 v d p) :
    ∃ k K T M : Int, v = .agg #[.int .i64 k, .int .i64 K, .int .i64 T, .int .i64 M] ∧ (-9223372036854775808 ≤ k ∧ k ≤ 9223372036854775807) ∧ (-9223372036854775808 ≤ K ∧ K ≤ 9223372036854775807) ∧ (-9223372036854775808 ≤ T ∧ T ≤ 9223372036854775807) ∧ (-9223372036854775808 ≤ M ∧ M ≤ 9223372036854775807) := by
  obtain ⟨cs, rfl, hsz, n, hf⟩ := open_fields Try.underlying23 (by kernel_rfl) (by kernel_rfl) hv h
  obtain ⟨c0, y0, e0, t0⟩ := hf 0 _ rfl
  obtain ⟨c1, y1, e1, t1⟩ := hf 1 _ rfl
  obtain ⟨c2, y2, e2, t2⟩ := hf 2 _ rfl
  obtain ⟨c3, y3, e3, t3⟩ := hf 3 _ rfl
  obtain ⟨x0, rfl, w0⟩ := open_num Try.underlying3 t0
  obtain ⟨x1, rfl, w1⟩ := open_num Try.underlying3 t1
  obtain ⟨x2, rfl, w2⟩ := open_num Try.underlying3 t2
  obtain ⟨x3, rfl, w3⟩ := open_num Try.underlying3 t3
  refine ⟨x0, x1, x2, x3, ?_, fit_i64 w0, fit_i64 w1, fit_i64 w2, fit_i64 w3⟩
  have hs5 : cs.size = 4 := hsz
  congr 1
  apply Array.ext
  · simp [hs5]
  · intro i h1 h2
    have hi : i < 4 := by omega
    have hc : cs[i]? = some cs[i] := Array.getElem?_eq_getElem h1
    rcases (show i = 0 ∨ i = 1 ∨ i = 2 ∨ i = 3 by omega) with rfl | rfl | rfl | rfl
    · exact Option.some.inj (hc.symm.trans e0)
    · exact Option.some.inj (hc.symm.trans e1)
    · exact Option.some.inj (hc.symm.trans e2)
    · exact Option.some.inj (hc.symm.trans e3)
end Go.Proofs.Ytffppdcpiieapaa.Opencfg

namespace Go.Proofs.Ytffppdcpiieapaa.arenaRuns
open Go.ChangeShapes Go.WideShapes Go.ChangeAt Go.RowKit Go.Proofs.Ytffppdcpiieapaa.Memc Go.Proofs.Ytffppdcpiieapaa.Refc Go.Proofs.Ytffppdcpiieapaa.Newc Go.Proofs.Ytffppdcpiieapaa.Drivec Go.Proofs.Ytffppdcpiieapaa.Machc Go.Proofs.Ytffppdcpiieapaa.Arenac Go.Proofs.Ytffppdcpiieapaa.Opencfg
set_option linter.unusedVariables false
set_option maxRecDepth 100000

theorem own : ownKnob Try.prog.godebug = none := by kernel_rfl
theorem laidOut : laidOutB Try.prog = true := by kernel_rfl

theorem kind_not {l : List (Int × Int)} (hv : Val32 l) : l.all (Machc.kindOk 4 5 4294967295) = !(l.any fgn) := by
  induction l with
  | nil => rfl
  | cons o l ih =>
    have h0 := hv o (List.mem_cons_self ..)
    rw [List.all_cons, List.any_cons, ih (fun x hx => hv x (List.mem_cons_of_mem _ hx)), Bool.not_or]
    have e : Machc.kindOk 4 5 4294967295 o = !(fgn o) := by
      unfold Machc.kindOk fgn
      rw [decide_eq_true h0.2, Bool.and_true, Bool.not_and, Bool.not_not, Bool.not_not]
      by_cases h4 : o.1 = 4
      · rw [h4]; rfl
      · by_cases h5 : o.1 = 5
        · rw [h5]; rfl
        · have e1 : (o.1 == 4) = false := beq_false_of_ne h4
          have e2 : (o.1 == 5) = false := beq_false_of_ne h5
          rw [e1, e2]
          by_cases h : 4 ≤ o.1
          · rw [decide_eq_true h, decide_eq_false (show ¬ o.1 ≤ 5 by omega)]; rfl
          · rw [decide_eq_false h]; rfl
    rw [e]
theorem kinds_not {ls : List (List (Int × Int))} (hv : ∀ x ∈ ls, Val32 x) : (ls.all fun l => l.all (Machc.kindOk 4 5 4294967295)) = !(ls.any fun l => l.any fgn) := by
  induction ls with
  | nil => rfl
  | cons l ls ih =>
    rw [List.all_cons, List.any_cons, ih (fun x hx => hv x (List.mem_cons_of_mem _ hx)), Bool.not_or, kind_not (hv l (List.mem_cons_self ..))]
theorem walk (k K T M : Int) (s p : Sl) (ls : List (List (Int × Int))) (ps : List (Int × Int)) (w : World) (hl : RdLO w w.heap.size s ls) (hv : ∀ x ∈ ls, Val32 x) (hp : RdP w w.heap.size p ps) (hpv : Val32 ps) :
    Calls Try.prog 4 #[.agg #[.int .i64 k, .int .i64 K, .int .i64 T, .int .i64 M], .slice s.A s.n s.c, .slice p.A p.n p.c] w fun e w' => e = .returned (.bool true) ∧ Below w.heap.size w w' := by
  obtain ⟨sA, sn, sc⟩ := s
  obtain ⟨pA, pn, pc⟩ := p
  have hpm : pn ≤ maxLen := Nat.le_trans hp.2.1 hp.2.2.1
  have hln := Machc.RdLO.lens hl (Nat.le_refl _)
  have hup : ∀ W, Below w.heap.size w W → RdLO W W.heap.size ⟨sA, sn, sc⟩ ls := fun W hW => Arenac.RdLO.up (hl.below hW) hW.size
  have hpup : ∀ W, Below w.heap.size w W → RdP W W.heap.size ⟨pA, pn, pc⟩ ps := fun W hW => Arenac.RdP.up (hp.below hW) hW.size
  by_cases hk : (ls.all fun l => l.all (Machc.kindOk 4 5 4294967295)) = true
  · by_cases hm : (Cfg.mk k K T M).may ∧ (sn : Int) = T ∧ (ls.map List.length).any (fun x => decide (1000 < x)) = false ∧ pn ≤ 20000
    · obtain ⟨⟨⟨k1, k2⟩, ⟨a1, a2⟩, ⟨t1, t2⟩, ⟨m1, m2⟩⟩, hT, hany, hpn⟩ := hm
      simp only at k1 k2 a1 a2 t1 t2 m1 m2
      obtain ⟨K, rfl⟩ : ∃ n : Nat, K = n := ⟨K.toNat, by omega⟩
      obtain ⟨M, rfl⟩ : ∃ n : Nat, M = n := ⟨M.toNat, by omega⟩
      subst hT
      obtain ⟨b, off, hA, _⟩ := hl.2.2.2 (by show 0 < sn; omega)
      simp only at hA
      subst hA
      have hle : ∀ x ∈ ls, x.length ≤ 1000 := fun x hx => by
        rw [List.any_eq_false] at hany
        have := hany x.length (List.mem_map_of_mem hx)
        simpa using this
      have hpl : ps.length ≤ 20000 := by have := hp.1; simp only at this; omega
      have hls : ls.length = sn := hl.1.symm
      have hf : ∀ l ∈ ls, l.any fgn = false := fun l hl' => by
        have h1 := List.all_eq_true.1 hk l hl'
        rw [kind_not (hv l hl')] at h1
        simpa using h1
      have hops : ∀ q ∈ ps, OkOps okA ls q.2 := fun q _ i l n o hi hn => by
        have hlm := List.mem_of_getElem? hi
        have hom := List.mem_of_getElem? hn
        have h1 := List.any_eq_false.1 (hf l hlm) o hom
        refine ⟨?_, hv l hlm o hom⟩
        unfold fgn at h1
        by_cases e4 : o.1 = 4
        · exact .inl e4
        · by_cases e5 : o.1 = 5
          · exact .inr e5
          · exfalso
            apply h1
            simp [e4, e5]
      have hZ := ar_ok k K sn M (by omega) (by omega)
      have hRO : RunOk GA sn ls (runM (docZ k K sn M) ls (RS.first (newM k K sn M) sn) ps) := RunOk.run hZ hls ps _ (RunOk.first (newM_ok k K sn M (by omega)) hls) hops
      refine aruns_yes w k K M _ sn sc pA pn pc _ _ hln hpm hRO.steps (fun W hW => ?_) (fun W hW => ?_)
      · exact arun_c W k K sn M b off sc pA pn pc ls ps k1 k2 (by omega) (by omega) (by omega) (by omega) (by omega) (by omega) (hup W hW) hle (hpup W hW) hpl hf hv
      · exact ref4_yes W (docZ k K sn M) okA GA k K sn M b off sc pA pn pc ls ps k1 k2 (by omega) (by omega) (by omega) (by omega) (by omega) (by omega) (hup W hW) hle (hpup W hW) hpl hpv hZ hops (ar_docA k K sn M (by omega) (by omega)) (ar_docT k K sn M (by omega) (by omega)) (ar_docB k K sn M (by omega) (by omega) (by omega) (by omega)) hk
    · exact aruns_no w k K T M sA sn sc pA pn pc _ hln hpm (fun W hW => arun_no W k K T M sA sn sc ⟨pA, pn, pc⟩ ls (hup W hW) hpm (.inr hm)) (fun W hW => ref4_no W k K T M sA sn sc ⟨pA, pn, pc⟩ ls (hup W hW) hpm hk hm)
  · have hk' : (ls.all fun l => l.all (Machc.kindOk 4 5 4294967295)) = false := by simpa using hk
    have hany : (ls.any fun l => l.any fgn) = true := by
      have := kinds_not hv
      rw [hk'] at this
      simpa using this.symm
    exact aruns_no w k K T M sA sn sc pA pn pc _ hln hpm (fun W hW => arun_no W k K T M sA sn sc ⟨pA, pn, pc⟩ ls (hup W hW) hpm (.inl hany)) (fun W hW => ref4_kind W k K T M sA sn sc ⟨pA, pn, pc⟩ ls (hup W hW) hk')

/-! ### THE ROW's STEP -/
set_option maxRecDepth 100000 in
theorem lifted (os : Os) (started : os.Started) (H : Type) (enc : TypeId × Value → H) :
    ReturnsInHanded {} Try.checked os 4 .any (Rows.arenaRunsSpec.pre6 enc Try.prog Try.f4 Rows.arenaRunsRow.domain false) (Rows.arenaRunsSpec.post enc Try.prog Try.f4 false true false false) := by
  refine returnsInHanded_of_change (C := Try.checked) own started (by kernel_rfl) Try.func4
    (ChangeSpec.witness6 (enc := enc) (C := Try.checked) false ⟨#[], #[.agg #[.int .i64 0, .int .i64 0, .int .i64 0, .int .i64 0], .slice none 0 0, .slice none 0 0], []⟩ 8 (by kernel_rfl) (by kernel_rfl) (by kernel_rfl) (by kernel_rfl)) ?_
  intro W base args ds gs before hval0 hW hcnd _
  have hval : ∀ (j : Nat) t v, Try.f4.params[j]? = some t → args[j]? = some v → Value.okWide Try.prog W .any base t v := hval0
  have hW' := hW
  obtain ⟨p, q, hA0, hV, rfl, hfz, hnd⟩ := hW
  have hA : DataW.TrodAll enc Try.prog W 0 (fun _ => true) true Try.f4.params.toList args.toList ds p := hA0
  rw [Try.params4] at hA hval
  obtain ⟨v0, vs0, d0, ds0, p0, q0, hargs, rfl, rfl, h0, r0⟩ := trodAll_cons hA
  obtain ⟨v1, vs1, d1, ds1, p1, q1, rfl, rfl, rfl, h1, r1⟩ := trodAll_cons r0
  obtain ⟨v2, vs2, d2, ds2, p2, q2, rfl, rfl, rfl, h2, r2⟩ := trodAll_cons r1
  obtain ⟨rfl, rfl, rfl⟩ := trodAll_nil r2
  obtain rfl : args = #[v0, v1, v2] := by cases args; simp_all
  obtain ⟨rfl, rfl⟩ := trodVars_none hV
  have k0 := h0
  have lt0 : ∀ x ∈ p0, x.block < W.heap.size := by obtain ⟨m, hm⟩ := k0; exact DataW.trod_lt m _ _ _ hm
  have k1 := h1
  have lt1 : ∀ x ∈ p1, x.block < W.heap.size := by obtain ⟨m, hm⟩ := k1; exact DataW.trod_lt m _ _ _ hm
  have k2 := h2
  have lt2 : ∀ x ∈ p2, x.block < W.heap.size := by obtain ⟨m, hm⟩ := k2; exact DataW.trod_lt m _ _ _ hm
  obtain ⟨k, K, T, M, rfl, hk⟩ := open_cfg (hval 0 23 v0 rfl rfl) h0
  obtain ⟨s, ls, rfl, hl, hlv⟩ := open_ops (hval 1 44 v1 rfl rfl) h1
  obtain ⟨q, ps, rfl, hq, hqv⟩ := open_picks2 (hval 2 25 v2 rfl rfl) h2
  clear hA0 hval0
  refine (walk k K T M s q ls ps W hl hlv hq hqv).mono fun e W' ⟨he, bel⟩ => ?_
  subst he
  exact ⟨_, rfl, _, _, _, [], _, [], hW', trodAll_mk1 (shut_bool Try.underlying4 _), (trodAll_cons_mk (Below.trod laidOut (by kernel_rfl) (of_decide_eq_true (by kernel_rfl)) k0 bel lt0) (trodAll_cons_mk (Below.trod laidOut (by kernel_rfl) (of_decide_eq_true (by kernel_rfl)) k1 bel lt1) (trodAll_cons_mk (Below.trod laidOut (by kernel_rfl) (of_decide_eq_true (by kernel_rfl)) k2 bel lt2) trodAll_mk0))), rfl, bel.frame _, fun h => by cases h⟩

theorem over : Rows.arenaRunsRow.holds Try.pinned (OpenSpec.ofChange Rows.arenaRunsSpec) :=
  OpenClaim.holds_of_wide 4 Try.f4 rfl rfl rfl rfl rfl rfl rfl ⟨rfl, rfl, rfl, rfl, rfl⟩ rfl rfl rfl rfl rfl (by kernel_rfl) Try.func4 (by kernel_rfl)
    (of_decide_eq_true (by kernel_rfl)) (by unfold Func.isWrapper; first | (rw [if_pos (by decide +kernel)]; kernel_rfl) | (rw [if_neg (by decide +kernel)]; exact ⟨rfl, rfl⟩))
    (fun os started H enc _ => lifted os started H enc)

/-- ████ THE STATEMENT ████ -/
theorem proved : Rows.ArenaRunsSaid :=
  over
end Go.Proofs.Ytffppdcpiieapaa.arenaRuns
