/- What the first picks of a run come to is the beginning of what all come to, as mathematics and in memory. -/
import Derived.Test.YtjgbgjkjnlaloaaDrvM
import Derived.Test.YtjgbgjkjnlaloaaR3S
namespace Go.Proofs.Ytjgbgjkjnlaloaa.Drivec
open Go.RowKit Go.Proofs.Ytjgbgjkjnlaloaa.Memc Go.Proofs.Ytjgbgjkjnlaloaa.Refc Go.Proofs.Ytjgbgjkjnlaloaa.Newc Go.Proofs.Ytjgbgjkjnlaloaa.Machc
set_option linter.unusedVariables false
set_option maxRecDepth 100000

def Cl.ck (c : Cl) : Ck := ⟨c.th, 0, 0, c.fr, c.fr, 0, c.out⟩
theorem turn_ext (s : D) (t : Int) : (∃ l, (turn s t).steps = s.steps ++ l) ∧ ∃ l, (turn s t).calls = s.calls ++ l := by
  unfold turn
  split
  · split
    · exact ⟨⟨_, rfl⟩, ⟨_, rfl⟩⟩
    · exact ⟨⟨[], by simp⟩, ⟨[], by simp⟩⟩
  · exact ⟨⟨[], by simp⟩, ⟨[], by simp⟩⟩
theorem runs_ext : ∀ (ps : List (Int × Int)) (s : D), (∃ l, (runs s ps).steps = s.steps ++ l) ∧ ∃ l, (runs s ps).calls = s.calls ++ l
  | [], s => ⟨⟨[], by simp [runs]⟩, ⟨[], by simp [runs]⟩⟩
  | p :: ps, s => by
    obtain ⟨⟨a, ha⟩, ⟨b, hb⟩⟩ := turn_ext s p.1
    obtain ⟨⟨c, hc⟩, ⟨d, hd⟩⟩ := runs_ext ps (turn s p.1)
    refine ⟨⟨a ++ c, ?_⟩, ⟨b ++ d, ?_⟩⟩
    · show (runs (turn s p.1) ps).steps = _
      rw [hc, ha, List.append_assoc]
    · show (runs (turn s p.1) ps).calls = _
      rw [hd, hb, List.append_assoc]
theorem runs_cut (s : D) (ps : List (Int × Int)) (k : Nat) : (∃ l, (runs s ps).steps = (runs s (ps.take k)).steps ++ l) ∧ ∃ l, (runs s ps).calls = (runs s (ps.take k)).calls ++ l := by
  have h := runs_ext (ps.drop k) (runs s (ps.take k))
  have e : runs (runs s (ps.take k)) (ps.drop k) = runs s ps := by
    unfold runs
    rw [← List.foldl_append, List.take_append_drop]
  rw [e] at h
  exact h
theorem RdP.take {w : World} {B : Nat} {A : Option Addr} {n c k : Nat} {l : List (Int × Int)} (h : RdP w B ⟨A, n, c⟩ l) (hk : k ≤ n) : RdP w B ⟨A, k, c⟩ (l.take k) := by
  obtain ⟨h1, h2, h3, h4, h5⟩ := h
  simp only at h1 h2 h3
  refine ⟨by simp only [List.length_take]; omega, by show k ≤ c; omega, h3, fun x hx => h4 x (List.mem_of_mem_take hx), fun hn => ?_⟩
  simp only at hn
  obtain ⟨b, off, e, hlt, hc⟩ := h5 (by show 0 < n; omega)
  exact ⟨b, off, e, hlt, fun i x hx => hc i x (by
    have hi := (List.getElem?_eq_some_iff.1 hx).1
    rw [List.length_take] at hi
    rw [List.getElem?_take_of_lt (by omega)] at hx
    exact hx)⟩
theorem RdS.take {w : World} {B : Nat} {A : Option Addr} {n c k : Nat} {l : List St} (h : RdS w B ⟨A, n, c⟩ l) (hk : k ≤ n) : RdS w B ⟨A, k, c⟩ (l.take k) := by
  obtain ⟨h1, h2, h3, h4, h5⟩ := h
  simp only at h1 h2 h3
  refine ⟨by simp only [List.length_take]; omega, by show k ≤ c; omega, h3, fun x hx => h4 x (List.mem_of_mem_take hx), fun hn => ?_⟩
  simp only at hn
  obtain ⟨b, off, e, hlt, hc⟩ := h5 (by show 0 < n; omega)
  exact ⟨b, off, e, hlt, fun i x hx => hc i x (by
    have hi := (List.getElem?_eq_some_iff.1 hx).1
    rw [List.length_take] at hi
    rw [List.getElem?_take_of_lt (by omega)] at hx
    exact hx)⟩
theorem RdK.take {w : World} {B : Nat} {A : Option Addr} {n c k : Nat} {l : List Ck} (h : RdK w B ⟨A, n, c⟩ l) (hk : k ≤ n) : RdK w B ⟨A, k, c⟩ (l.take k) := by
  obtain ⟨h1, h2, h3, h5⟩ := h
  simp only at h1 h2 h3
  refine ⟨by simp only [List.length_take]; omega, by show k ≤ c; omega, h3, fun hn => ?_⟩
  simp only at hn
  obtain ⟨b, off, e, hlt, hc⟩ := h5 (by show 0 < n; omega)
  exact ⟨b, off, e, hlt, fun i x hx => hc i x (by
    have hi := (List.getElem?_eq_some_iff.1 hx).1
    rw [List.length_take] at hi
    rw [List.getElem?_take_of_lt (by omega)] at hx
    exact hx)⟩
theorem cut_s {w : World} {B : Nat} {A : Option Addr} {n c k : Nat} {l l' : List St} (h : RdS w B ⟨A, n, c⟩ l) (he : ∃ t, l = l' ++ t) (hk : k = l'.length) : RdS w B ⟨A, k, c⟩ l' := by
  obtain ⟨t, rfl⟩ := he
  have hn := h.1
  simp only [List.length_append] at hn
  have := RdS.take h (k := k) (by omega)
  rw [List.take_left' hk.symm] at this
  exact this
theorem cut_k {w : World} {B : Nat} {A : Option Addr} {n c k : Nat} {l l' : List Ck} (h : RdK w B ⟨A, n, c⟩ l) (he : ∃ t, l = l' ++ t) (hk : k = l'.length) : RdK w B ⟨A, k, c⟩ l' := by
  obtain ⟨t, rfl⟩ := he
  have hn := h.1
  simp only [List.length_append] at hn
  have := RdK.take h (k := k) (by omega)
  rw [List.take_left' hk.symm] at this
  exact this
theorem row_rdk {w : World} {base : Nat} {s : Sl} {l : List Cl} (h : Row w base 67 7 s l.length (flatC l)) : RdK w w.heap.size s (l.map Cl.ck) := by
  refine ⟨by rw [List.length_map]; exact h.n_.1, h.n_.2.1, h.n_.2.2.1, fun hn => ?_⟩
  obtain ⟨g, hA, _, hlt, hc, _⟩ := h.at_ (by have := h.n_.1; omega)
  refine ⟨g, 0, hA, hlt, fun i x hx j v hj => ?_⟩
  rw [List.getElem?_map] at hx
  rcases hy : l[i]? with _ | y
  · rw [hy] at hx; cases hx
  · rw [hy] at hx
    injection hx with hx
    subst hx
    have hi : i < l.length := (List.getElem?_eq_some_iff.1 hy).1
    have hj7 : j < 7 := (List.getElem?_eq_some_iff.1 hj).1
    have h1 := hc (i * 7 + j) (by omega)
    rw [flatC_get l i y j v hy hj] at h1
    rw [Nat.zero_add]
    exact h1
theorem RdLA.more {w : World} {B B' : Nat} {s : Sl} {l : List (List Acc)} (h : RdLA w B s l) (hB : B ≤ B') : RdLA w B' s l := by
  refine ⟨h.1, h.2.1, h.2.2.1, fun hn => ?_⟩
  obtain ⟨b, off, e, hlt, hc⟩ := h.2.2.2 hn
  refine ⟨b, off, e, by omega, fun i x hx => ?_⟩
  obtain ⟨sa, h1, h2⟩ := hc i x hx
  exact ⟨sa, h1, h2.1, h2.2.1, h2.2.2.1, h2.2.2.2.1, fun hn => by
    obtain ⟨b', off', e', hlt', hc'⟩ := h2.2.2.2.2 hn
    exact ⟨b', off', e', by omega, hc'⟩⟩
theorem RdP.more {w : World} {B B' : Nat} {s : Sl} {l : List (Int × Int)} (h : RdP w B s l) (hB : B ≤ B') : RdP w B' s l :=
  ⟨h.1, h.2.1, h.2.2.1, h.2.2.2.1, fun hn => by
    obtain ⟨b, off, e, hlt, hc⟩ := h.2.2.2.2 hn
    exact ⟨b, off, e, by omega, hc⟩⟩

end Go.Proofs.Ytjgbgjkjnlaloaa.Drivec
