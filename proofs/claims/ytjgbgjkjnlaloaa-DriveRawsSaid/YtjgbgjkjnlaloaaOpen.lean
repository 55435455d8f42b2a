/- Arguments opened: words and accesses that came in, as the walk wants them. -/
import Derived.Test.YtjgbgjkjnlaloaaHold
import Derived.Test.YtjgbgjkjnlaloaaWordS
import Derived.ProofKit
import Derived.OpenShut
import Derived.Deep.Fields
import Derived.Carry
namespace Go.Proofs.Ytjgbgjkjnlaloaa.Memc
open Go.ChangeShapes Go.WideShapes Go.RowKit Go.Deep Go.Proofs.Ytjgbgjkjnlaloaa.Wordc
set_option linter.unusedVariables false
set_option maxRecDepth 100000

section
variable {H : Type} {enc : TypeId × Value → H} {P : Program} {w : World} {base : Nat} {spare : Nat → Bool} {held : Bool}

/-- a struct's cells, each with its field's own reading -/
theorem open_fields {r : Reach} {b0 : Nat} {t : TypeId} {fs : Array Field} {v : Value} {d : DataW H} {p : List MemPlace} (hs : P.underlying t = some (.struct fs)) (hone : oneCellFields P fs = true) (hC : P.cellsOf t = fs.size)
    (hv : Value.okWide P w r b0 t v) (h : DataW.Trod enc P w base spare held t v d p) :
    ∃ cs : Array Value, v = .agg cs ∧ cs.size = fs.size ∧ ∃ n, ∀ (j : Nat) (f : Field), fs[j]? = some f → ∃ (c : Value) (y : DataW H × List MemPlace), cs[j]? = some c ∧ DataW.trod enc P w base spare held n f.type [c] = some y := by
  obtain ⟨cs, rfl, hsz⟩ := okWide_struct hs hv
  obtain ⟨fuel, hf⟩ := h
  obtain ⟨xs, n, _, _, hcl, hlen, hg⟩ := DataW.trod_struct hs hf
  refine ⟨cs, rfl, by rw [hsz, hC], n, fun j f hj => ?_⟩
  obtain ⟨ho, hk⟩ := hone_of hone j f hj
  have hjl : j < fs.size := (Array.getElem?_eq_some_iff.1 hj).1
  have h1 := hg j f hj
  have hjc : j < cs.size := by omega
  have hxs : xs[j]? = some (xs[j]'(by omega)) := List.getElem?_eq_getElem (by omega)
  rw [ho, hk, hxs] at h1
  refine ⟨cs[j], xs[j]'(by omega), Array.getElem?_eq_getElem hjc, ?_⟩
  have e : ((Value.agg cs).cells.toList.drop j).take 1 = [cs[j]] := by
    show (cs.toList.drop j).take 1 = [cs[j]]
    rw [List.drop_eq_getElem_cons (by simpa using hjc)]
    simp
  rw [← e]
  exact h1

theorem open_num {k : IntKind} {t : TypeId} {n : Nat} {c : Value} {y : DataW H × List MemPlace} (ht : P.underlying t = some (.int k)) (h : DataW.trod enc P w base spare held n t [c] = some y) : ∃ x : Int, c = .int k x ∧ (Lit.int k x).wf = true := by
  obtain ⟨x, hc, _, hw⟩ := DataW.trod_int ht h
  exact ⟨x, by simpa using hc, hw⟩

theorem block_lt {w : World} {p : Addr} {v : Value} (h : w.cell? p = some v) : p.block < w.heap.size := by
  rcases Nat.lt_or_ge p.block w.heap.size with hlt | hge
  · exact hlt
  · unfold World.cell? at h
    rw [Array.getElem?_eq_none hge] at h
    simp at h

/-- a slice of words -/
theorem open_words {t e : TypeId} {n : Nat} {c : Value} {y : DataW H × List MemPlace} (ht : P.underlying t = some (.slice e)) (he : P.underlying e = some (.int .u64)) (hc : P.cellsOf e = 1)
    (h : DataW.trod enc P w base spare held n t [c] = some y) : ∃ (s : Sl) (xs : List Int), c = .slice s.A s.n s.c ∧ Rd w w.heap.size s xs := by
  rcases open_ints ht he hc h with ⟨hcs, _⟩ | ⟨a, l, cap, zs, hcs, _, hl, hm, hz, _, hcell, hwz⟩
  · exact ⟨⟨none, 0, 0⟩, [], by simpa using hcs, Rd.nil _ _ _⟩
  · refine ⟨⟨some a, l, cap⟩, zs.take l, by simpa using hcs, ?_⟩
    have hlz : l ≤ zs.length := by rw [hz]; split <;> omega
    refine ⟨by simp; omega, hl, hm, fun x hx => fit_u64 (hwz x (List.mem_of_mem_take hx)), (fun h => by cases h), fun hn => ⟨a, rfl, ?_, fun j x hj => ?_⟩⟩
    · have := block_lt (hcell 0 (by simp only at hn; omega))
      rw [block_of_add] at this
      exact this
    · rw [List.getElem?_take] at hj
      split at hj
      · rename_i hjl
        have := hcell j (by omega)
        rw [List.getD_eq_getElem?_getD, hj] at this
        exact this
      · cases hj
end

theorem open_mem {H : Type} {enc : TypeId × Value → H} {w : World} {base : Nat} {spare : Nat → Bool} {held : Bool} {r : Reach} {b0 : Nat} {v : Value} {d : DataW H} {p : List MemPlace}
    (hv : Value.okWide Try.prog w r b0 25 v) (h : DataW.Trod enc Try.prog w base spare held 25 v d p) :
    ∃ (q : R) (m : M), v = .agg #[.int .u64 q.e, .int .u64 q.f, .slice q.L.A q.L.n q.L.c, .slice q.P.A q.P.n q.P.c, .int .u64 q.h, .int .u64 q.t, .slice q.K.A q.K.n q.K.c, .slice q.X.A q.X.n q.X.c, .slice q.S.A q.S.n q.S.c] ∧ Rm w w.heap.size q m := by
  obtain ⟨cs, rfl, hsz, n, hf⟩ := open_fields Try.underlying25 (by kernel_rfl) (by kernel_rfl) hv h
  obtain ⟨c0, y0, e0, t0⟩ := hf 0 _ rfl
  obtain ⟨c1, y1, e1, t1⟩ := hf 1 _ rfl
  obtain ⟨c2, y2, e2, t2⟩ := hf 2 _ rfl
  obtain ⟨c3, y3, e3, t3⟩ := hf 3 _ rfl
  obtain ⟨c4, y4, e4, t4⟩ := hf 4 _ rfl
  obtain ⟨c5, y5, e5, t5⟩ := hf 5 _ rfl
  obtain ⟨c6, y6, e6, t6⟩ := hf 6 _ rfl
  obtain ⟨c7, y7, e7, t7⟩ := hf 7 _ rfl
  obtain ⟨c8, y8, e8, t8⟩ := hf 8 _ rfl
  obtain ⟨x0, rfl, w0⟩ := open_num Try.underlying22 t0
  obtain ⟨x1, rfl, w1⟩ := open_num Try.underlying22 t1
  obtain ⟨s2, l2, rfl, r2⟩ := open_words Try.underlying23 Try.underlying22 (by kernel_rfl) t2
  obtain ⟨s3, l3, rfl, r3⟩ := open_words Try.underlying23 Try.underlying22 (by kernel_rfl) t3
  obtain ⟨x4, rfl, w4⟩ := open_num Try.underlying22 t4
  obtain ⟨x5, rfl, w5⟩ := open_num Try.underlying22 t5
  obtain ⟨s6, l6, rfl, r6⟩ := open_words Try.underlying23 Try.underlying22 (by kernel_rfl) t6
  obtain ⟨s7, l7, rfl, r7⟩ := open_words Try.underlying23 Try.underlying22 (by kernel_rfl) t7
  obtain ⟨s8, l8, rfl, r8⟩ := open_words Try.underlying23 Try.underlying22 (by kernel_rfl) t8
  refine ⟨⟨x0, x1, s2, s3, x4, x5, s6, s7, s8⟩, ⟨x0, x1, l2, l3, x4, x5, l6, l7, l8⟩, ?_, rfl, rfl, rfl, rfl, ?_, r2, r3, r6, r7, r8⟩
  · have hs9 : cs.size = 9 := hsz
    congr 1
    apply Array.ext
    · simp [hs9]
    · intro i h1 h2
      have hi : i < 9 := by omega
      have hc : cs[i]? = some cs[i] := Array.getElem?_eq_getElem h1
      rcases (show i = 0 ∨ i = 1 ∨ i = 2 ∨ i = 3 ∨ i = 4 ∨ i = 5 ∨ i = 6 ∨ i = 7 ∨ i = 8 by omega) with rfl | rfl | rfl | rfl | rfl | rfl | rfl | rfl | rfl
      · exact Option.some.inj (hc.symm.trans e0)
      · exact Option.some.inj (hc.symm.trans e1)
      · exact Option.some.inj (hc.symm.trans e2)
      · exact Option.some.inj (hc.symm.trans e3)
      · exact Option.some.inj (hc.symm.trans e4)
      · exact Option.some.inj (hc.symm.trans e5)
      · exact Option.some.inj (hc.symm.trans e6)
      · exact Option.some.inj (hc.symm.trans e7)
      · exact Option.some.inj (hc.symm.trans e8)
  · intro a
    by_cases ho : a < 1 ∨ 9 < a
    · rw [area_no _ _ ho]; exact u64s_nil
    · have one : ∀ x : Int, (Lit.int .u64 x).wf = true → u64s [x] := fun x hx y hy => by rw [List.mem_singleton.1 hy]; exact fit_u64 hx
      rcases nine ho with rfl | rfl | rfl | rfl | rfl | rfl | rfl | rfl | rfl
      · exact one _ w0
      · exact one _ w1
      · exact r2.2.2.2.1
      · exact r3.2.2.2.1
      · exact one _ w4
      · exact one _ w5
      · exact r6.2.2.2.1
      · exact r7.2.2.2.1
      · exact r8.2.2.2.1

theorem open_acc {H : Type} {enc : TypeId × Value → H} {w : World} {base : Nat} {spare : Nat → Bool} {held : Bool} {r : Reach} {b0 : Nat} {v : Value} {d : DataW H} {p : List MemPlace}
    (hv : Value.okWide Try.prog w r b0 27 v) (h : DataW.Trod enc Try.prog w base spare held 27 v d p) :
    ∃ c : Acc, v = .agg #[.int .i64 c.d, .int .i64 c.ar, .int .i64 c.at_, .int .u64 c.old, .int .u64 c.new] ∧ c.ok := by
  obtain ⟨cs, rfl, hsz, n, hf⟩ := open_fields Try.underlying27 (by kernel_rfl) (by kernel_rfl) hv h
  obtain ⟨c0, y0, e0, t0⟩ := hf 0 _ rfl
  obtain ⟨c1, y1, e1, t1⟩ := hf 1 _ rfl
  obtain ⟨c2, y2, e2, t2⟩ := hf 2 _ rfl
  obtain ⟨c3, y3, e3, t3⟩ := hf 3 _ rfl
  obtain ⟨c4, y4, e4, t4⟩ := hf 4 _ rfl
  obtain ⟨x0, rfl, w0⟩ := open_num Try.underlying3 t0
  obtain ⟨x1, rfl, w1⟩ := open_num Try.underlying3 t1
  obtain ⟨x2, rfl, w2⟩ := open_num Try.underlying3 t2
  obtain ⟨x3, rfl, w3⟩ := open_num Try.underlying22 t3
  obtain ⟨x4, rfl, w4⟩ := open_num Try.underlying22 t4
  refine ⟨⟨x0, x1, x2, x3, x4⟩, ?_, fit_i64 w0, fit_i64 w1, fit_i64 w2, fit_u64 w3, fit_u64 w4⟩
  have hs5 : cs.size = 5 := hsz
  congr 1
  apply Array.ext
  · simp [hs5]
  · intro i h1 h2
    have hi : i < 5 := by omega
    have hc : cs[i]? = some cs[i] := Array.getElem?_eq_getElem h1
    rcases (show i = 0 ∨ i = 1 ∨ i = 2 ∨ i = 3 ∨ i = 4 by omega) with rfl | rfl | rfl | rfl | rfl
    · exact Option.some.inj (hc.symm.trans e0)
    · exact Option.some.inj (hc.symm.trans e1)
    · exact Option.some.inj (hc.symm.trans e2)
    · exact Option.some.inj (hc.symm.trans e3)
    · exact Option.some.inj (hc.symm.trans e4)
end Go.Proofs.Ytjgbgjkjnlaloaa.Memc
