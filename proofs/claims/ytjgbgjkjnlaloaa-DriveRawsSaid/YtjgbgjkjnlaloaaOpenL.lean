/- Lists of accesses, lists of such lists, and picks: how they are read in memory when they are handed over. -/
import Derived.Test.YtjgbgjkjnlaloaaDrvI
namespace Go.Proofs.Ytjgbgjkjnlaloaa.Drivec
open Go.ChangeShapes Go.WideShapes Go.RowKit Go.Deep Go.Proofs.Ytjgbgjkjnlaloaa.Wordc Go.Proofs.Ytjgbgjkjnlaloaa.Memc Go.Proofs.Ytjgbgjkjnlaloaa.Procc
set_option linter.unusedVariables false
set_option maxRecDepth 100000

section
variable {H : Type} {enc : TypeId × Value → H} {w : World} {base : Nat} {spare : Nat → Bool} {held : Bool}
theorem open_rows {E : Type} {t e : TypeId} (ht : Try.prog.underlying t = some (.slice e)) (cells : E → List Value) (k : Nat) (hk : Try.prog.cellsOf e = k) (hk0 : 0 < k) (ok : E → Prop)
    (ho : ∀ n cs x, DataW.trod enc Try.prog w base spare held n e cs = some x → ∃ y : E, cs = cells y ∧ ok y) (hl : ∀ y, (cells y).length = k)
    {fuel : Nat} {cs : List Value} {x : DataW H × List MemPlace} (h : DataW.trod enc Try.prog w base spare held fuel t cs = some x) :
    ∃ (s : Sl) (l : List E), cs = [.slice s.A s.n s.c] ∧ s.n = l.length ∧ s.n ≤ s.c ∧ s.c ≤ maxLen ∧ (∀ y ∈ l, ok y) ∧
      (0 < s.n → ∃ b off, s.A = some ⟨b, off, none⟩ ∧ b < w.heap.size ∧ ∀ (i : Nat) (y : E), l[i]? = some y → ∀ (j : Nat) (v : Value), (cells y)[j]? = some v → w.cell? ⟨b, off + i * k + j, none⟩ = some v) := by
  rcases open_slice ht h with ⟨hcs, _⟩ | ⟨a, len, cap, m, n, D, Pl, hcs, hb, hlc, hm, hmm, _, hi⟩
  · exact ⟨⟨none, 0, 0⟩, [], hcs, rfl, Nat.le_refl _, Nat.zero_le _, (fun x hx => by cases hx), fun hn => absurd hn (by simp)⟩
  · have hlm : len ≤ m := by rw [hmm]; split <;> omega
    obtain ⟨l, hlen, hp⟩ := list_choose (P := fun i (s : E) => ok s ∧ ∀ (j : Nat) (v : Value), (cells s)[j]? = some v → w.cell? (a.add (i * k + j)) = some v) len fun i hil => by
      obtain ⟨cs', hc, ht⟩ := hi i (by omega)
      rw [hk] at hc
      obtain ⟨s, hs, hok⟩ := ho _ _ _ ht
      obtain ⟨_, hcl, hat⟩ := World.cells?_some hc
      refine ⟨s, hok, fun j v hj => ?_⟩
      rw [← hs] at hj
      have hj8 : j < k := by have h1 := (List.getElem?_eq_some_iff.1 hj).1; have h2 := hl s; rw [← hs] at h2; omega
      rw [← Go.Deep.add_add, hat j hj8, hj]
    refine ⟨⟨some a, len, cap⟩, l, hcs, hlen.symm, hlc, hm, fun x hx => ?_, fun hn => ?_⟩
    · obtain ⟨i, hi', rfl⟩ := List.getElem_of_mem hx
      exact (hp i _ (List.getElem?_eq_getElem hi')).1
    · have h0 : 0 < l.length := by simp only at hn; omega
      have hv0 : ∃ v, (cells l[0])[0]? = some v := ⟨_, List.getElem?_eq_getElem (by rw [hl]; exact hk0)⟩
      obtain ⟨v0, hv0⟩ := hv0
      have hc0 := (hp 0 _ (List.getElem?_eq_getElem h0)).2 0 _ hv0
      have hspot : a.spot = none := by
        have := World.cell?_spot hc0
        simpa [Addr.add] using this
      obtain ⟨b, off, sp⟩ := a
      simp only at hspot
      subst hspot
      have hblk := block_lt hc0
      rw [block_of_add] at hblk
      refine ⟨b, off, rfl, hblk, fun i x hx j v hj => ?_⟩
      have := (hp i x hx).2 j v hj
      have e : (⟨b, off, none⟩ : Addr).add (i * k + j) = ⟨b, off + i * k + j, none⟩ := by
        unfold Addr.add
        split
        · rename_i hz
          rw [show off + i * k + j = off by omega]
        · simp [Nat.add_assoc]
      rw [← e]; exact this

def acells (a : Acc) : List Value := [.int .i64 a.d, .int .i64 a.ar, .int .i64 a.at_, .int .u64 a.old, .int .u64 a.new]
theorem open_access {n : Nat} {cs : List Value} {x : DataW H × List MemPlace} (h : DataW.trod enc Try.prog w base spare held n 27 cs = some x) : ∃ a : Acc, cs = acells a ∧ a.ok := by
  obtain ⟨zs, n2, _, _, hcl2, hlen2, hg2⟩ := DataW.trod_struct Try.underlying27 h
  have hc5 : Try.prog.cellsOf 27 = 5 := by kernel_rfl
  have ki : Try.prog.cellsOf 3 = 1 := by kernel_rfl
  have ku : Try.prog.cellsOf 22 = 1 := by kernel_rfl
  rw [hc5] at hcl2
  match cs, hcl2 with
  | [a1, a2, a3, a4, a5], _ =>
    match zs, hlen2 with
    | [z0, z1, z2, z3, z4], _ =>
        have f0 : DataW.trod enc Try.prog w base spare held n2 3 (([a1, a2, a3, a4, a5].drop 0).take (Try.prog.cellsOf 3)) = some z0 := hg2 0 _ rfl
        rw [ki] at f0
        have f1 : DataW.trod enc Try.prog w base spare held n2 3 (([a1, a2, a3, a4, a5].drop 1).take (Try.prog.cellsOf 3)) = some z1 := hg2 1 _ rfl
        rw [ki] at f1
        have f2 : DataW.trod enc Try.prog w base spare held n2 3 (([a1, a2, a3, a4, a5].drop 2).take (Try.prog.cellsOf 3)) = some z2 := hg2 2 _ rfl
        rw [ki] at f2
        have f3 : DataW.trod enc Try.prog w base spare held n2 22 (([a1, a2, a3, a4, a5].drop 3).take (Try.prog.cellsOf 22)) = some z3 := hg2 3 _ rfl
        rw [ku] at f3
        have f4 : DataW.trod enc Try.prog w base spare held n2 22 (([a1, a2, a3, a4, a5].drop 4).take (Try.prog.cellsOf 22)) = some z4 := hg2 4 _ rfl
        rw [ku] at f4
        obtain ⟨x1, e1, w1⟩ := open_num Try.underlying3 f0
        obtain ⟨x2, e2, w2⟩ := open_num Try.underlying3 f1
        obtain ⟨x3, e3, w3⟩ := open_num Try.underlying3 f2
        obtain ⟨x4, e4, w4⟩ := open_num Try.underlying22 f3
        obtain ⟨x5, e5, w5⟩ := open_num Try.underlying22 f4
        exact ⟨⟨x1, x2, x3, x4, x5⟩, by simp [acells, e1, e2, e3, e4, e5], fit_i64 w1, fit_i64 w2, fit_i64 w3, fit_u64 w4, fit_u64 w5⟩

def pcells (p : Int × Int) : List Value := [.int .i64 p.1, .int .u32 p.2]
theorem open_pick {n : Nat} {cs : List Value} {x : DataW H × List MemPlace} (h : DataW.trod enc Try.prog w base spare held n 63 cs = some x) : ∃ p : Int × Int, cs = pcells p ∧ (-9223372036854775808 ≤ p.1 ∧ p.1 ≤ 9223372036854775807) := by
  obtain ⟨zs, n2, _, _, hcl2, hlen2, hg2⟩ := DataW.trod_struct Try.underlying63 h
  have hc2 : Try.prog.cellsOf 63 = 2 := by kernel_rfl
  have ki : Try.prog.cellsOf 3 = 1 := by kernel_rfl
  have ku : Try.prog.cellsOf 61 = 1 := by kernel_rfl
  rw [hc2] at hcl2
  match cs, hcl2 with
  | [a1, a2], _ =>
    match zs, hlen2 with
    | [z0, z1], _ =>
        have f0 : DataW.trod enc Try.prog w base spare held n2 3 (([a1, a2].drop 0).take (Try.prog.cellsOf 3)) = some z0 := hg2 0 _ rfl
        rw [ki] at f0
        have f1 : DataW.trod enc Try.prog w base spare held n2 61 (([a1, a2].drop 1).take (Try.prog.cellsOf 61)) = some z1 := hg2 1 _ rfl
        rw [ku] at f1
        obtain ⟨x1, e1, w1⟩ := open_num Try.underlying3 f0
        obtain ⟨x2, e2, w2⟩ := open_num Try.underlying61 f1
        exact ⟨⟨x1, x2⟩, by simp [pcells, e1, e2], fit_i64 w1⟩

theorem open_accs {n : Nat} {cs : List Value} {x : DataW H × List MemPlace} (h : DataW.trod enc Try.prog w base spare held n 51 cs = some x) : ∃ y : Sl × List Acc, cs = [.slice y.1.A y.1.n y.1.c] ∧ RdA w w.heap.size y.1 y.2 := by
  obtain ⟨s, l, hcs, h1, h2, h3, h4, h5⟩ := open_rows Try.underlying51 acells 5 (by kernel_rfl) (by omega) Acc.ok (fun n cs x h => open_access h) (fun _ => rfl) h
  refine ⟨⟨s, l⟩, hcs, h1, h2, h3, h4, fun hn => ?_⟩
  obtain ⟨b, off, e, hlt, hc⟩ := h5 hn
  exact ⟨b, off, e, hlt, fun i x hx => ⟨hc i x hx 0 _ rfl, hc i x hx 1 _ rfl, hc i x hx 2 _ rfl, hc i x hx 3 _ rfl, hc i x hx 4 _ rfl⟩⟩

theorem open_lists {r : Reach} {b0 : Nat} {v : Value} {d : DataW H} {p : List MemPlace} (hv : Value.okWide Try.prog w r b0 49 v) (h : DataW.Trod enc Try.prog w base spare held 49 v d p) :
    ∃ (s : Sl) (l : List (List Acc)), v = .slice s.A s.n s.c ∧ RdLA w w.heap.size s l := by
  obtain ⟨a0, len0, cap0, rfl⟩ := okWide_slice Try.underlying49 hv
  obtain ⟨fuel, hf⟩ := h
  obtain ⟨s, l, hcs, h1, h2, h3, h4, h5⟩ := open_rows Try.underlying49 (fun y : Sl × List Acc => [.slice y.1.A y.1.n y.1.c]) 1 (by kernel_rfl) (by omega) (fun y => RdA w w.heap.size y.1 y.2) (fun n cs x h => open_accs h) (fun _ => rfl) hf
  simp [Value.cells] at hcs
  obtain ⟨rfl, rfl, rfl⟩ := hcs
  refine ⟨s, l.map (·.2), rfl, by rw [List.length_map]; exact h1, h2, h3, fun hn => ?_⟩
  obtain ⟨b, off, e, hlt, hc⟩ := h5 hn
  refine ⟨b, off, e, hlt, fun i x hx => ?_⟩
  rw [List.getElem?_map] at hx
  rcases hy : l[i]? with _ | y
  · rw [hy] at hx; cases hx
  · rw [hy] at hx
    injection hx with hx
    subst hx
    have := hc i y hy 0 _ rfl
    rw [Nat.mul_one, Nat.add_zero] at this
    exact ⟨y.1, this, h4 y (List.mem_of_getElem? hy)⟩

theorem open_picks {r : Reach} {b0 : Nat} {v : Value} {d : DataW H} {p : List MemPlace} (hv : Value.okWide Try.prog w r b0 50 v) (h : DataW.Trod enc Try.prog w base spare held 50 v d p) :
    ∃ (s : Sl) (l : List (Int × Int)), v = .slice s.A s.n s.c ∧ RdP w w.heap.size s l := by
  obtain ⟨a0, len0, cap0, rfl⟩ := okWide_slice Try.underlying50 hv
  obtain ⟨fuel, hf⟩ := h
  obtain ⟨s, l, hcs, h1, h2, h3, h4, h5⟩ := open_rows Try.underlying50 pcells 2 (by kernel_rfl) (by omega) (fun p => -9223372036854775808 ≤ p.1 ∧ p.1 ≤ 9223372036854775807) (fun n cs x h => open_pick h) (fun _ => rfl) hf
  simp [Value.cells] at hcs
  obtain ⟨rfl, rfl, rfl⟩ := hcs
  refine ⟨s, l, rfl, h1, h2, h3, h4, fun hn => ?_⟩
  obtain ⟨b, off, e, hlt, hc⟩ := h5 hn
  exact ⟨b, off, e, hlt, fun i x hx => ⟨hc i x hx 0 _ rfl, hc i x hx 1 _ rfl⟩⟩
end
end Go.Proofs.Ytjgbgjkjnlaloaa.Drivec
