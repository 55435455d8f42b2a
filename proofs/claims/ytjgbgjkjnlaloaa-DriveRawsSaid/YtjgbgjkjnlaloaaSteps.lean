/- Steps: as mathematics, how they are read in memory, and what they are replayed to. -/
import Derived.Test.YtjgbgjkjnlaloaaOpen
import Derived.Deep.Slices
namespace Go.Proofs.Ytjgbgjkjnlaloaa.Memc
open Go.ChangeShapes Go.WideShapes Go.RowKit Go.Deep Go.Proofs.Ytjgbgjkjnlaloaa.Wordc
set_option linter.unusedVariables false
set_option maxRecDepth 100000

structure St where
  th : Int
  c : Acc
  was : Int
  dn : Bool
def St.cells (s : St) : List Value := [.int .i64 s.th, .int .i64 s.c.d, .int .i64 s.c.ar, .int .i64 s.c.at_, .int .u64 s.c.old, .int .u64 s.c.new, .int .u64 s.was, .bool s.dn]
def St.ok (s : St) : Prop := s.c.ok ∧ 0 ≤ s.was ∧ s.was ≤ 18446744073709551615

/-- a step fits the words -/
def fits (m : M) (s : St) : Prop := (acc m s.c).2.1 = s.was ∧ (acc m s.c).2.2 = s.dn
instance (m : M) (s : St) : Decidable (fits m s) := by unfold fits; infer_instance
/-- what steps are replayed to; none: one doesn't fit -/
def replay (m : M) : List St → Option M
  | [] => some m
  | s :: l => if fits m s then replay (acc m s.c).1 l else none
theorem replay_append (m : M) (l l' : List St) : replay m (l ++ l') = (replay m l).bind fun q => replay q l' := by
  induction l generalizing m with
  | nil => rfl
  | cons s l ih =>
    simp only [List.cons_append, replay]
    split
    · exact ih _
    · rfl
theorem replay_take {m q : M} {l : List St} {k : Nat} {s : St} (h : replay m (l.take k) = some q) (hs : l[k]? = some s) : replay m (l.take (k + 1)) = if fits q s then some (acc q s.c).1 else none := by
  have hk : k < l.length := (List.getElem?_eq_some_iff.1 hs).1
  rw [List.take_succ_eq_append_getElem hk, replay_append, h]
  have : l[k] = s := by rw [List.getElem?_eq_getElem hk] at hs; exact Option.some.inj hs
  simp [replay, this]
theorem replay_none {m : M} {l : List St} {k : Nat} (h : replay m (l.take k) = none) : replay m l = none := by
  rw [← List.take_append_drop k l, replay_append, h]
  rfl

/-- the slice (A, n, c) reads as the steps l, in memory below B -/
def RdS (w : World) (B : Nat) (s : Sl) (l : List St) : Prop :=
  s.n = l.length ∧ s.n ≤ s.c ∧ s.c ≤ maxLen ∧ (∀ x ∈ l, x.ok) ∧
  (0 < s.n → ∃ b off, s.A = some ⟨b, off, none⟩ ∧ b < B ∧ ∀ (i : Nat) (x : St), l[i]? = some x → ∀ (j : Nat) (v : Value), x.cells[j]? = some v → w.cell? ⟨b, off + i * 8 + j, none⟩ = some v)
theorem RdS.below {w w' : World} {B : Nat} {s : Sl} {l : List St} (h : RdS w B s l) (hb : Below B w w') : RdS w' B s l :=
  ⟨h.1, h.2.1, h.2.2.1, h.2.2.2.1, fun hn => by
    obtain ⟨b, off, e, hlt, hc⟩ := h.2.2.2.2 hn
    exact ⟨b, off, e, hlt, fun i x hx j v hv => (hb.cell (p := ⟨b, off + i * 8 + j, none⟩) hlt).trans (hc i x hx j v hv)⟩⟩
theorem RdS.more {w : World} {B B' : Nat} {s : Sl} {l : List St} (h : RdS w B s l) (hB : B ≤ B') : RdS w B' s l :=
  ⟨h.1, h.2.1, h.2.2.1, h.2.2.2.1, fun hn => by
    obtain ⟨b, off, e, hlt, hc⟩ := h.2.2.2.2 hn
    exact ⟨b, off, e, by omega, hc⟩⟩
theorem RdS.step {w : World} {B b off n c k : Nat} {l : List St} {x : St} (h : RdS w B ⟨some ⟨b, off, none⟩, n, c⟩ l) (hx : l[k]? = some x) :
    w.cell? ⟨b, off + k * 8, none⟩ = some (.int .i64 x.th) ∧ w.cell? ⟨b, off + k * 8 + 1, none⟩ = some (.int .i64 x.c.d) ∧ w.cell? ⟨b, off + k * 8 + 2, none⟩ = some (.int .i64 x.c.ar) ∧ w.cell? ⟨b, off + k * 8 + 3, none⟩ = some (.int .i64 x.c.at_) ∧
    w.cell? ⟨b, off + k * 8 + 4, none⟩ = some (.int .u64 x.c.old) ∧ w.cell? ⟨b, off + k * 8 + 5, none⟩ = some (.int .u64 x.c.new) ∧ w.cell? ⟨b, off + k * 8 + 6, none⟩ = some (.int .u64 x.was) ∧ w.cell? ⟨b, off + k * 8 + 7, none⟩ = some (.bool x.dn) := by
  obtain ⟨b', off', e, _, hc⟩ := h.2.2.2.2 (by show 0 < n; have := h.1; simp only at this; have := (List.getElem?_eq_some_iff.1 hx).1; omega)
  injection e with e
  injection e with e1 e2
  subst e1
  subst e2
  exact ⟨hc k x hx 0 _ rfl, hc k x hx 1 _ rfl, hc k x hx 2 _ rfl, hc k x hx 3 _ rfl, hc k x hx 4 _ rfl, hc k x hx 5 _ rfl, hc k x hx 6 _ rfl, hc k x hx 7 _ rfl⟩

section
variable {H : Type} {enc : TypeId × Value → H} {w : World} {base : Nat} {spare : Nat → Bool} {held : Bool}
/-- the eight cells of a step -/
theorem open_step {n : Nat} {cs : List Value} {x : DataW H × List MemPlace} (h : DataW.trod enc Try.prog w base spare held n 65 cs = some x) : ∃ s : St, cs = s.cells ∧ s.ok := by
  obtain ⟨xs, n', _, _, hcl, hlen, hg⟩ := DataW.trod_struct Try.underlying65 h
  have hc8 : Try.prog.cellsOf 65 = 8 := by kernel_rfl
  rw [hc8] at hcl
  match cs, hcl with
  | [a0, a1, a2, a3, a4, a5, a6, a7], _ =>
    match xs, hlen with
    | [y0, y1, y2, y3], _ =>
      have ki : Try.prog.cellsOf 3 = 1 := by kernel_rfl
      have ka : Try.prog.cellsOf 27 = 5 := by kernel_rfl
      have ku : Try.prog.cellsOf 22 = 1 := by kernel_rfl
      have kb : Try.prog.cellsOf 4 = 1 := by kernel_rfl
      have g0 : DataW.trod enc Try.prog w base spare held n' 3 (([a0, a1, a2, a3, a4, a5, a6, a7].drop 0).take (Try.prog.cellsOf 3)) = some y0 := hg 0 _ rfl
      have g1 : DataW.trod enc Try.prog w base spare held n' 27 (([a0, a1, a2, a3, a4, a5, a6, a7].drop 1).take (Try.prog.cellsOf 27)) = some y1 := hg 1 _ rfl
      have g2 : DataW.trod enc Try.prog w base spare held n' 22 (([a0, a1, a2, a3, a4, a5, a6, a7].drop 6).take (Try.prog.cellsOf 22)) = some y2 := hg 2 _ rfl
      have g3 : DataW.trod enc Try.prog w base spare held n' 4 (([a0, a1, a2, a3, a4, a5, a6, a7].drop 7).take (Try.prog.cellsOf 4)) = some y3 := hg 3 _ rfl
      rw [ki] at g0
      rw [ka] at g1
      rw [ku] at g2
      rw [kb] at g3
      obtain ⟨th, e0, w0⟩ := open_num Try.underlying3 g0
      obtain ⟨was, e6, w6⟩ := open_num Try.underlying22 g2
      obtain ⟨dn, e7, _⟩ := DataW.trod_bool Try.underlying4 g3
      obtain ⟨zs, n2, _, _, hcl2, hlen2, hg2⟩ := DataW.trod_struct Try.underlying27 g1
      match zs, hlen2 with
      | [z0, z1, z2, z3, z4], _ =>
        have f0 : DataW.trod enc Try.prog w base spare held n2 3 (([a1, a2, a3, a4, a5].drop 0).take (Try.prog.cellsOf 3)) = some z0 := hg2 0 _ rfl
        rw [ki] at f0
        have f1 : DataW.trod enc Try.prog w base spare held n2 3 (([a1, a2, a3, a4, a5].drop 1).take (Try.prog.cellsOf 3)) = some z1 := hg2 1 _ rfl
        rw [ki] at f1
        have f2 : DataW.trod enc Try.prog w base spare held n2 3 (([a1, a2, a3, a4, a5].drop 2).take (Try.prog.cellsOf 3)) = some z2 := hg2 2 _ rfl
        rw [ki] at f2
        have f3 : DataW.trod enc Try.prog w base spare held n2 22 (([a1, a2, a3, a4, a5].drop 3).take (Try.prog.cellsOf 22)) = some z3 := hg2 3 _ rfl
        rw [ku] at f3
        have f4 : DataW.trod enc Try.prog w base spare held n2 22 (([a1, a2, a3, a4, a5].drop 4).take (Try.prog.cellsOf 22)) = some z4 := hg2 4 _ rfl
        rw [ku] at f4
        obtain ⟨x1, e1, w1⟩ := open_num Try.underlying3 f0
        obtain ⟨x2, e2, w2⟩ := open_num Try.underlying3 f1
        obtain ⟨x3, e3, w3⟩ := open_num Try.underlying3 f2
        obtain ⟨x4, e4, w4⟩ := open_num Try.underlying22 f3
        obtain ⟨x5, e5, w5⟩ := open_num Try.underlying22 f4
        have e7' : a7 = .bool dn := by simpa using e7
        refine ⟨⟨th, ⟨x1, x2, x3, x4, x5⟩, was, dn⟩, by simp [St.cells, e0, e1, e2, e3, e4, e5, e6, e7'], ⟨fit_i64 w1, fit_i64 w2, fit_i64 w3, fit_u64 w4, fit_u64 w5⟩, fit_u64 w6⟩

theorem list_choose {α : Type} {P : Nat → α → Prop} : ∀ n : Nat, (∀ i, i < n → ∃ a, P i a) → ∃ l : List α, l.length = n ∧ ∀ i a, l[i]? = some a → P i a
  | 0, _ => ⟨[], rfl, fun i a h => by simp at h⟩
  | n + 1, h => by
    obtain ⟨l, hl, hp⟩ := list_choose n fun i hi => h i (by omega)
    obtain ⟨a, ha⟩ := h n (by omega)
    refine ⟨l ++ [a], by simp [hl], fun i b hb => ?_⟩
    rcases Nat.lt_or_ge i l.length with hlt | hge
    · rw [List.getElem?_append_left hlt] at hb; exact hp i b hb
    · rw [List.getElem?_append_right hge] at hb
      rcases (show i - l.length = 0 ∨ 0 < i - l.length by omega) with h0 | h0
      · rw [h0] at hb
        simp only [List.getElem?_cons_zero, Option.some.injEq] at hb
        subst hb
        obtain rfl : i = n := by omega
        exact ha
      · obtain ⟨k, hk⟩ : ∃ k, i - l.length = k + 1 := ⟨i - l.length - 1, by omega⟩
        rw [hk] at hb
        simp at hb

theorem open_steps {r : Reach} {b0 : Nat} {v : Value} {d : DataW H} {p : List MemPlace} (hv : Value.okWide Try.prog w r b0 37 v) (h : DataW.Trod enc Try.prog w base spare held 37 v d p) :
    ∃ (s : Sl) (l : List St), v = .slice s.A s.n s.c ∧ RdS w w.heap.size s l := by
  obtain ⟨a0, len0, cap0, rfl⟩ := okWide_slice Try.underlying37 hv
  obtain ⟨fuel, hf⟩ := h
  rcases open_slice Try.underlying37 hf with ⟨hcs, _⟩ | ⟨a, len, cap, m, n, D, Pl, hcs, hb, hl, hm, hmm, _, hi⟩
  · simp [Value.cells] at hcs
    obtain ⟨rfl, rfl, rfl⟩ := hcs
    exact ⟨⟨none, 0, 0⟩, [], rfl, rfl, Nat.le_refl _, Nat.zero_le _, (fun x hx => by cases hx), fun hn => absurd hn (by simp)⟩
  · simp [Value.cells] at hcs
    obtain ⟨rfl, rfl, rfl⟩ := hcs
    have hc8 : Try.prog.cellsOf 65 = 8 := by kernel_rfl
    have hlm : len0 ≤ m := by rw [hmm]; split <;> omega
    obtain ⟨l, hlen, hp⟩ := list_choose (P := fun i (s : St) => s.ok ∧ ∀ (j : Nat) (v : Value), s.cells[j]? = some v → w.cell? (a.add (i * 8 + j)) = some v) len0 fun i hil => by
      obtain ⟨cs', hc, ht⟩ := hi i (by omega)
      rw [hc8] at hc
      obtain ⟨s, hs, hok⟩ := open_step ht
      obtain ⟨_, hcl, hat⟩ := World.cells?_some hc
      refine ⟨s, hok, fun j v hj => ?_⟩
      rw [← hs] at hj
      have hj8 : j < 8 := by have := (List.getElem?_eq_some_iff.1 hj).1; omega
      rw [← Go.Deep.add_add, hat j hj8, hj]
    refine ⟨⟨some a, len0, cap0⟩, l, rfl, hlen.symm, hl, hm, fun x hx => ?_, fun hn => ?_⟩
    · obtain ⟨i, hi', rfl⟩ := List.getElem_of_mem hx
      exact (hp i _ (List.getElem?_eq_getElem hi')).1
    · have h0 : 0 < l.length := by simp only at hn; omega
      have hc0 := (hp 0 _ (List.getElem?_eq_getElem h0)).2 0 _ rfl
      have hspot : a.spot = none := by
        have := World.cell?_spot hc0
        simpa [Addr.add] using this
      obtain ⟨b, off, sp⟩ := a
      simp only at hspot
      subst hspot
      have hblk := block_lt hc0
      rw [block_of_add] at hblk
      refine ⟨b, off, rfl, hblk, fun i x hx j v hj => ?_⟩
      have := (hp i x hx).2 j v hj
      have e : (⟨b, off, none⟩ : Addr).add (i * 8 + j) = ⟨b, off + i * 8 + j, none⟩ := by
        unfold Addr.add
        split
        · rename_i hz
          rw [show off + i * 8 + j = off by omega]
        · simp [Nat.add_assoc]
      rw [← e]; exact this
end
end Go.Proofs.Ytjgbgjkjnlaloaa.Memc
