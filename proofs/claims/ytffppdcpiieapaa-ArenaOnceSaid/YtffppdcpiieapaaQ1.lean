/- The shared words as plain mathematics: a record of nine areas, an access to it, and when a value of the program reads as such words. No statement of the seed is proved here. · The words that a call of the store holds in memory of its own: a block of nine cells, and five rows apart from it and from each other; a word of them found; a word written. · The package word's Ref, and the document's, each by its contract: what it answers; the world stays as it was. Condition: the numbers fit their kinds. · Arguments opened: words and accesses that came in, as the walk wants them. · Steps: as mathematics, how they are read in memory, and what they are replayed to. · A region that draws its order, by what holds of the operations that have come up: one step for each operation, whatever the order. And what rows that are made in such a region own. -/
import Derived.Below
import Derived.Laws.OwnMore
import Derived.Laws.AppendOwn
import Derived.Deep.Draws
import Derived.Lib.Hide
import Derived.Laws.Rows
import Derived.Test.YtffppdcpiieapaaRows
import Derived.WalkKit
import Derived.IntWalk
import Derived.Laws.BitsLemmas
import Derived.ProofKit
import Derived.OpenShut
import Derived.Deep.Fields
import Derived.Carry
import Derived.Deep.Slices
import Derived.Deep.RegionHeld3
import Derived.Laws.MakeOwn
namespace Go.Proofs.Ytffppdcpiieapaa.Memc
open Go.RowKit
set_option linter.unusedVariables false
set_option maxRecDepth 100000

structure Sl where
  A : Option Addr
  n : Nat
  c : Nat

/-- all shared words -/
structure M where
  e : Int
  f : Int
  li : List Int
  pi : List Int
  h : Int
  t : Int
  lk : List Int
  nx : List Int
  sl : List Int

def M.area (m : M) (a : Int) : List Int :=
  if a = 1 then [m.e] else if a = 2 then [m.f] else if a = 3 then m.li else if a = 4 then m.pi else if a = 5 then [m.h] else
  if a = 6 then [m.t] else if a = 7 then m.lk else if a = 8 then m.nx else if a = 9 then m.sl else []
def M.put (m : M) (a : Int) (l : List Int) : M :=
  if a = 1 then { m with e := l.headD 0 } else if a = 2 then { m with f := l.headD 0 } else if a = 3 then { m with li := l } else
  if a = 4 then { m with pi := l } else if a = 5 then { m with h := l.headD 0 } else if a = 6 then { m with t := l.headD 0 } else
  if a = 7 then { m with lk := l } else if a = 8 then { m with nx := l } else if a = 9 then { m with sl := l } else m

theorem area_1 (m : M) : m.area 1 = [m.e] := rfl
theorem area_2 (m : M) : m.area 2 = [m.f] := rfl
theorem area_3 (m : M) : m.area 3 = m.li := rfl
theorem area_4 (m : M) : m.area 4 = m.pi := rfl
theorem area_5 (m : M) : m.area 5 = [m.h] := rfl
theorem area_6 (m : M) : m.area 6 = [m.t] := rfl
theorem area_7 (m : M) : m.area 7 = m.lk := rfl
theorem area_8 (m : M) : m.area 8 = m.nx := rfl
theorem area_9 (m : M) : m.area 9 = m.sl := rfl
theorem area_no (m : M) (a : Int) (h : a < 1 ∨ 9 < a) : m.area a = [] := by
  unfold M.area
  rw [if_neg (by omega), if_neg (by omega), if_neg (by omega), if_neg (by omega), if_neg (by omega), if_neg (by omega), if_neg (by omega), if_neg (by omega), if_neg (by omega)]

/-- what one of the nine areas is -/
theorem nine {a : Int} (h : ¬ (a < 1 ∨ 9 < a)) : a = 1 ∨ a = 2 ∨ a = 3 ∨ a = 4 ∨ a = 5 ∨ a = 6 ∨ a = 7 ∨ a = 8 ∨ a = 9 := by omega

theorem area_put_same (m : M) (a : Int) (l : List Int) (hl : l.length = (m.area a).length) : (m.put a l).area a = l := by
  by_cases h : a < 1 ∨ 9 < a
  · rw [area_no _ _ h] at hl ⊢
    exact (List.eq_nil_of_length_eq_zero (by simpa using hl)).symm
  · rcases nine h with rfl | rfl | rfl | rfl | rfl | rfl | rfl | rfl | rfl <;> first | rfl | skip
    all_goals
      simp only [area_1, area_2, area_5, area_6, List.length_singleton] at hl
      obtain ⟨x, rfl⟩ := List.length_eq_one_iff.1 hl
      rfl
theorem area_put_other (m : M) (a b : Int) (l : List Int) (hab : a ≠ b) : (m.put a l).area b = m.area b := by
  by_cases h : a < 1 ∨ 9 < a
  · unfold M.put
    rw [if_neg (by omega), if_neg (by omega), if_neg (by omega), if_neg (by omega), if_neg (by omega), if_neg (by omega), if_neg (by omega), if_neg (by omega), if_neg (by omega)]
  · by_cases h' : b < 1 ∨ 9 < b
    · rw [area_no _ _ h', area_no _ _ h']
    · rcases nine h with rfl | rfl | rfl | rfl | rfl | rfl | rfl | rfl | rfl <;> rcases nine h' with rfl | rfl | rfl | rfl | rfl | rfl | rfl | rfl | rfl <;> first | rfl | exact absurd rfl hab
/-- an access: how, which area, where, what must be there, what is put there -/
structure Acc where
  d : Int
  ar : Int
  at_ : Int
  old : Int
  new : Int

def there (m : M) (a i : Int) : Prop := 0 ≤ i ∧ i < (m.area a).length
def get (m : M) (a i : Int) : Int := (m.area a).getD i.toNat 0
def set (m : M) (a i v : Int) : M := m.put a ((m.area a).set i.toNat v)
instance (m : M) (a i : Int) : Decidable (there m a i) := by unfold there; infer_instance

/-- an access: the words behind it, what was there, whether something was put there -/
def acc (m : M) (c : Acc) : M × Int × Bool :=
  if there m c.ar c.at_ ∧ 1 ≤ c.d ∧ c.d ≤ 3 then
    if c.d = 1 ∨ (c.d = 3 ∧ get m c.ar c.at_ ≠ c.old) then (m, get m c.ar c.at_, false)
    else (set m c.ar c.at_ c.new, get m c.ar c.at_, true)
  else (m, 0, false)

/-- numbers of 64 bits -/
def u64s (l : List Int) : Prop := ∀ x ∈ l, 0 ≤ x ∧ x ≤ 18446744073709551615
/-- all words are numbers of 64 bits -/
def M.ok (m : M) : Prop := ∀ a : Int, u64s (m.area a)
def Acc.ok (c : Acc) : Prop := (-9223372036854775808 ≤ c.d ∧ c.d ≤ 9223372036854775807) ∧ (-9223372036854775808 ≤ c.ar ∧ c.ar ≤ 9223372036854775807) ∧
  (-9223372036854775808 ≤ c.at_ ∧ c.at_ ≤ 9223372036854775807) ∧ (0 ≤ c.old ∧ c.old ≤ 18446744073709551615) ∧ (0 ≤ c.new ∧ c.new ≤ 18446744073709551615)

theorem u64s_nil : u64s [] := fun x h => by cases h
theorem u64s_set {l : List Int} {i : Nat} {v : Int} (h : u64s l) (hv : 0 ≤ v ∧ v ≤ 18446744073709551615) : u64s (l.set i v) := by
  intro x hx
  rcases List.mem_or_eq_of_mem_set hx with h1 | h1
  · exact h x h1
  · rw [h1]; exact hv
theorem u64s_getD {l : List Int} (h : u64s l) (i : Nat) : 0 ≤ l.getD i 0 ∧ l.getD i 0 ≤ 18446744073709551615 := by
  rw [List.getD_eq_getElem?_getD]
  rcases hx : l[i]? with _ | x
  · exact ⟨by decide, by decide⟩
  · exact h x (List.mem_of_getElem? hx)
theorem get_ok {m : M} (h : m.ok) (a i : Int) : 0 ≤ get m a i ∧ get m a i ≤ 18446744073709551615 := u64s_getD (h a) _
theorem area_set_same (m : M) (a i v : Int) : (set m a i v).area a = (m.area a).set i.toNat v := area_put_same _ _ _ (by simp)
theorem area_set_other (m : M) (a b i v : Int) (h : a ≠ b) : (set m a i v).area b = m.area b := area_put_other _ _ _ _ h
theorem set_ok {m : M} (h : m.ok) (a i v : Int) (hv : 0 ≤ v ∧ v ≤ 18446744073709551615) : (set m a i v).ok := by
  intro b
  by_cases hab : a = b
  · subst hab; rw [area_set_same]; exact u64s_set (h a) hv
  · rw [area_set_other _ _ _ _ _ hab]; exact h b
theorem acc_ok {m : M} (h : m.ok) {c : Acc} (hc : c.ok) : (acc m c).1.ok := by
  unfold acc
  split
  · split
    · exact h
    · exact set_ok h _ _ _ hc.2.2.2.2
  · exact h
theorem len_set (m : M) (a b i v : Int) : ((set m a i v).area b).length = (m.area b).length := by
  by_cases hab : a = b
  · subst hab; rw [area_set_same]; simp
  · rw [area_set_other _ _ _ _ _ hab]
theorem len_acc (m : M) (c : Acc) (b : Int) : (((acc m c).1).area b).length = (m.area b).length := by
  unfold acc
  split
  · split
    · rfl
    · exact len_set _ _ _ _ _
  · rfl
theorem acc_was (m : M) (hm : m.ok) (c : Acc) : 0 ≤ (acc m c).2.1 ∧ (acc m c).2.1 ≤ 18446744073709551615 := by
  unfold acc
  split
  · split
    · exact get_ok hm _ _
    · exact get_ok hm _ _
  · exact ⟨Int.le_refl 0, by show (0 : Int) ≤ 18446744073709551615; omega⟩

/-! ### values that read as lists of words -/
theorem block_of_add (a : Addr) (n : Nat) : (a.add n).block = a.block := by unfold Addr.add; split <;> rfl

/-- the slice (A, n, c) of 64-bit numbers reads as xs, in memory below B -/
def Rd (w : World) (B : Nat) (s : Sl) (xs : List Int) : Prop :=
  s.n = xs.length ∧ s.n ≤ s.c ∧ s.c ≤ maxLen ∧ u64s xs ∧ (s.A = none → s.c = 0) ∧
  (0 < s.n → ∃ ad, s.A = some ad ∧ ad.block < B ∧ ∀ j x, xs[j]? = some x → w.cell? (ad.add j) = some (.int .u64 x))

section
variable {w w' : World} {B B' : Nat} {s : Sl} {xs : List Int}
theorem Rd.keep (h : Rd w B s xs) (hk : ∀ p : Addr, p.block < B → w'.cell? p = w.cell? p) : Rd w' B s xs :=
  ⟨h.1, h.2.1, h.2.2.1, h.2.2.2.1, h.2.2.2.2.1, fun hn => by
    obtain ⟨ad, e, hb, hc⟩ := h.2.2.2.2.2 hn
    exact ⟨ad, e, hb, fun j u hu => (hk _ (by rw [block_of_add]; exact hb)).trans (hc j u hu)⟩⟩
theorem Rd.more (h : Rd w B s xs) (hB : B ≤ B') : Rd w B' s xs :=
  ⟨h.1, h.2.1, h.2.2.1, h.2.2.2.1, h.2.2.2.2.1, fun hn => by
    obtain ⟨ad, e, hb, hc⟩ := h.2.2.2.2.2 hn
    exact ⟨ad, e, by omega, hc⟩⟩
theorem Rd.below (h : Rd w B s xs) (hb : Below B w w') : Rd w' B s xs := h.keep fun _ hp => hb.cell hp
theorem Rd.of_own {base : Nat} {t : TypeId} (h : w.ownsRow base t 1 (.slice s.A s.n s.c) xs.length (xs.map (Value.int .u64))) (hu : u64s xs) : Rd w w.heap.size s xs := by
  rcases h.2 with ⟨hv, hn⟩ | ⟨g, cap, cur, hv, hb, hg, hnc, hcm, hsz, htk⟩
  · injection hv with h1 h2 h3
    exact ⟨by omega, by omega, by rw [h3]; unfold maxLen; omega, hu, fun _ => h3, fun h => by omega⟩
  · injection hv with h1 h2 h3
    refine ⟨h2, by omega, by omega, hu, fun he => (by rw [h1] at he; cases he), fun hn => ⟨_, h1, ?_, fun j x hx => h.cells (g := g) (by rw [h1]; rfl) j _ ?_⟩⟩
    · rcases Nat.lt_or_ge g w.heap.size with hlt | hge
      · exact hlt
      · rw [Array.getElem?_eq_none hge] at hg; cases hg
    · rw [List.getElem?_map, hx]; rfl
end

/-- a value of the words: nine cells -/
structure R where
  e : Int
  f : Int
  L : Sl
  P : Sl
  h : Int
  t : Int
  K : Sl
  X : Sl
  S : Sl
def R.cells (r : R) : Array Value := #[.int .u64 r.e, .int .u64 r.f, .slice r.L.A r.L.n r.L.c, .slice r.P.A r.P.n r.P.c, .int .u64 r.h, .int .u64 r.t, .slice r.K.A r.K.n r.K.c, .slice r.X.A r.X.n r.X.c, .slice r.S.A r.S.n r.S.c]
def R.v (r : R) : Value := .agg r.cells
/-- the value r reads as the words m, in memory below B -/
def Rm (w : World) (B : Nat) (r : R) (m : M) : Prop :=
  r.e = m.e ∧ r.f = m.f ∧ r.h = m.h ∧ r.t = m.t ∧ m.ok ∧ Rd w B r.L m.li ∧ Rd w B r.P m.pi ∧ Rd w B r.K m.lk ∧ Rd w B r.X m.nx ∧ Rd w B r.S m.sl
section
variable {w w' : World} {B B' : Nat} {r : R} {m : M}
theorem Rm.keep (h : Rm w B r m) (hk : ∀ p : Addr, p.block < B → w'.cell? p = w.cell? p) : Rm w' B r m :=
  ⟨h.1, h.2.1, h.2.2.1, h.2.2.2.1, h.2.2.2.2.1, h.2.2.2.2.2.1.keep hk, h.2.2.2.2.2.2.1.keep hk, h.2.2.2.2.2.2.2.1.keep hk, h.2.2.2.2.2.2.2.2.1.keep hk, h.2.2.2.2.2.2.2.2.2.keep hk⟩
theorem Rm.more (h : Rm w B r m) (hB : B ≤ B') : Rm w B' r m :=
  ⟨h.1, h.2.1, h.2.2.1, h.2.2.2.1, h.2.2.2.2.1, h.2.2.2.2.2.1.more hB, h.2.2.2.2.2.2.1.more hB, h.2.2.2.2.2.2.2.1.more hB, h.2.2.2.2.2.2.2.2.1.more hB, h.2.2.2.2.2.2.2.2.2.more hB⟩
theorem Rm.below (h : Rm w B r m) (hb : Below B w w') : Rm w' B r m := h.keep fun _ hp => hb.cell hp
end
end Go.Proofs.Ytffppdcpiieapaa.Memc

namespace Go.Proofs.Ytffppdcpiieapaa.Memc
open Go.RowKit
set_option linter.unusedVariables false
set_option maxRecDepth 100000

/-- block g is just the cells cs of the type t; none of them is frozen -/
def Blk (w : World) (g : Nat) (t : TypeId) (cs : Array Value) : Prop := w.heap[g]? = some (.cells cs t (0, 0))
section
variable {w w' : World} {g : Nat} {t : TypeId} {cs : Array Value}
/-- a world in which the block is as it was -/
theorem Blk.moved (h : Blk w g t cs) (e : w'.heap[g]? = w.heap[g]?) : Blk w' g t cs := Eq.trans e h
theorem Blk.lt (h : Blk w g t cs) : g < w.heap.size := (Array.getElem?_eq_some_iff.1 h).1
theorem Blk.cell (h : Blk w g t cs) (i : Nat) : w.cell? ⟨g, i, none⟩ = cs[i]? := cell_of_row w g i cs t (0, 0) h
theorem Blk.frozen (h : Blk w g t cs) (i : Nat) : w.frozen? ⟨g, i, none⟩ = false := frozen_of_row w g i cs t h
theorem Blk.new (w : World) (t : TypeId) (cs : Array Value) : Blk (w.alloc (.cells cs t)) w.heap.size t cs := heap_alloc_new w _
theorem Blk.drew (h : Blk w g t cs) : Blk w.drew g t cs := h.moved rfl
theorem Blk.alloc (h : Blk w g t cs) (o : Obj) : Blk (w.alloc o) g t cs := h.moved (Below.heap_alloc w o g h.lt)
theorem Blk.far (h : Blk w g t cs) {p : Addr} (hp : g ≠ p.block) (u : Value) : Blk (w.setCell p u) g t cs := h.moved (Below.heap_setCell w p u g hp)
theorem Blk.below {B : Nat} (h : Blk w g t cs) (hb : Below B w w') (hg : g < B) : Blk w' g t cs := h.moved (hb.block g hg)
theorem Blk.grown {row : Option Nat} (h : Blk w g t cs) (hb : w.grownBy w' row) (hg : some g ≠ row) : Blk w' g t cs := h.moved (hb.block g h.lt hg)
/-- a store into the block -/
theorem Blk.set_ (h : Blk w g t cs) (i : Nat) (u : Value) : Blk (w.setCell ⟨g, i, none⟩ u) g t (cs.setIfInBounds i u) := heap_setCell_same w g i cs t u h
end
theorem blk_at {w : World} {g : Nat} {t : TypeId} {cs : Array Value} (hg : w.heap.size = g) : Blk (w.alloc (.cells cs t)) g t cs := by
  subst hg; exact Blk.new w t cs

/-- the slice s owns its row, which reads as xs and lies from base on -/
def Own (w : World) (base : Nat) (s : Sl) (xs : List Int) : Prop :=
  u64s xs ∧ w.ownsRow base 30 1 (.slice s.A s.n s.c) xs.length (xs.map (Value.int .u64))
section
variable {w w' : World} {base : Nat} {s : Sl} {xs : List Int}
theorem Own.n_ (h : Own w base s xs) : s.n = xs.length ∧ s.n ≤ s.c ∧ s.c ≤ maxLen ∧ (s.A = none → s.c = 0) := by
  rcases h.2.2 with ⟨hv, hn⟩ | ⟨g, cap, cur, hv, hb, hg, hnc, hcm, hsz, htk⟩
  · injection hv with h1 h2 h3
    exact ⟨by omega, by omega, by rw [h3]; exact Nat.zero_le _, fun _ => h3⟩
  · injection hv with h1 h2 h3
    exact ⟨h2, by omega, by omega, fun he => (by rw [h1] at he; cases he)⟩
theorem Own.lt (h : Own w base s xs) {ad : Addr} (ha : s.A = some ad) : base ≤ ad.block ∧ ad.block < w.heap.size :=
  h.2.lt ad.block (by rw [ha]; rfl)
theorem Own.alloc (h : Own w base s xs) (o : Obj) : Own (w.alloc o) base s xs := ⟨h.1, h.2.alloc o⟩
theorem Own.kept (h : Own w base s xs) (hk : ∀ ad, s.A = some ad → w'.heap[ad.block]? = w.heap[ad.block]?) : Own w' base s xs := by
  refine ⟨h.1, h.2.1, ?_⟩
  rcases h.2.2 with h1 | ⟨g, cap, cur, hv, hb, hg, hr⟩
  · exact .inl h1
  · refine .inr ⟨g, cap, cur, hv, hb, ?_, hr⟩
    injection hv with h1
    exact (hk _ h1).trans hg
theorem Own.below {B : Nat} (h : Own w base s xs) (hb : Below B w w') (hB : w.heap.size ≤ B) : Own w' base s xs :=
  h.kept fun ad ha => hb.block _ (by have := (h.lt ha).2; omega)
theorem Own.far (h : Own w base s xs) {p : Addr} (hp : ∀ ad, s.A = some ad → ad.block ≠ p.block) (u : Value) : Own (w.setCell p u) base s xs :=
  h.kept fun ad ha => Below.heap_setCell w p u _ (hp ad ha)
theorem Own.rd (h : Own w base s xs) : Rd w w.heap.size s xs := Rd.of_own h.2 h.1
/-- a word of the row -/
theorem Own.at_ {k : Nat} (h : Own w base s xs) (hk : k < xs.length) : ∃ g : Nat, s.A = some ⟨g, 0, none⟩ ∧ base ≤ g ∧ g < w.heap.size ∧ w.cell? ⟨g, k, none⟩ = some (.int .u64 (xs.getD k 0)) ∧ w.frozen? ⟨g, k, none⟩ = false := by
  rcases h.2.2 with ⟨hv, hn⟩ | ⟨g, cap, cur, hv, hb, hg, hnc, hcm, hsz, htk⟩
  · omega
  · injection hv with h1 h2 h3
    refine ⟨g, h1, hb, (h.lt h1).2, ?_, frozen_of_row w g k cur _ hg⟩
    have ho := h.2
    rw [h1, h2, h3] at ho
    rw [World.ownsRow.cellAt ho k (by omega), List.getElem?_map, List.getD_eq_getElem?_getD, List.getElem?_eq_getElem hk]; rfl
theorem Own.set_ {k g : Nat} (h : Own w base s xs) (hg : s.A = some ⟨g, 0, none⟩) (v : Int) (hv : 0 ≤ v ∧ v ≤ 18446744073709551615) : Own (w.setCell ⟨g, k, none⟩ (.int .u64 v)) base s (xs.set k v) := by
  have ho := h.2
  have hn := h.n_
  rw [hg, hn.1] at ho
  have := (World.ownsRow.stored ho k (.int .u64 v)).1
  refine ⟨u64s_set h.1 hv, ?_⟩
  rw [hg, hn.1, List.map_set, List.length_set]
  exact this
end

theorem Own.weaken {w : World} {base base' : Nat} {s : Sl} {xs : List Int} (h : Own w base s xs) (hb : base' ≤ base) : Own w base' s xs := by
  refine ⟨h.1, h.2.1, ?_⟩
  rcases h.2.2 with h1 | ⟨g, cap, cur, hv, hg, hr⟩
  · exact .inl h1
  · exact .inr ⟨g, cap, cur, hv, Nat.le_trans hb hg, hr⟩

theorem Own.step {W : World} {base b i : Nat} {s : Sl} {xs : List Int} (h : Own W base s xs) (hb : b < base) (v : Value) : Own (W.setCell ⟨b, i, none⟩ v) base s xs :=
  h.far (p := ⟨b, i, none⟩) (fun ad ha => by have := (h.lt ha).1; show ad.block ≠ b; omega) v
theorem size_set (w : World) (p : Addr) (v : Value) : (w.setCell p v).heap.size = w.heap.size := by simp [World.setCell]

theorem Own.nine {W : World} {base b : Nat} {s : Sl} {xs : List Int} (h : Own W base s xs) (hb : b < base) (v0 v1 v2 v3 v4 v5 v6 v7 v8 : Value) : Own (((((((((W.setCell ⟨b, 0, none⟩ v0).setCell ⟨b, 1, none⟩ v1).setCell ⟨b, 2, none⟩ v2).setCell ⟨b, 3, none⟩ v3).setCell ⟨b, 4, none⟩ v4).setCell ⟨b, 5, none⟩ v5).setCell ⟨b, 6, none⟩ v6).setCell ⟨b, 7, none⟩ v7).setCell ⟨b, 8, none⟩ v8) base s xs :=
  (((((((((h.step (b := b) (i := 0) hb v0).step (b := b) (i := 1) hb v1).step (b := b) (i := 2) hb v2).step (b := b) (i := 3) hb v3).step (b := b) (i := 4) hb v4).step (b := b) (i := 5) hb v5).step (b := b) (i := 6) hb v6).step (b := b) (i := 7) hb v7).step (b := b) (i := 8) hb v8)
theorem below_nine {B b : Nat} {w W : World} (h : Below B w W) (hb : B ≤ b) (v0 v1 v2 v3 v4 v5 v6 v7 v8 : Value) : Below B w (((((((((W.setCell ⟨b, 0, none⟩ v0).setCell ⟨b, 1, none⟩ v1).setCell ⟨b, 2, none⟩ v2).setCell ⟨b, 3, none⟩ v3).setCell ⟨b, 4, none⟩ v4).setCell ⟨b, 5, none⟩ v5).setCell ⟨b, 6, none⟩ v6).setCell ⟨b, 7, none⟩ v7).setCell ⟨b, 8, none⟩ v8) :=
  (((((((((h.setCell (p := ⟨b, 0, none⟩) hb v0).setCell (p := ⟨b, 1, none⟩) hb v1).setCell (p := ⟨b, 2, none⟩) hb v2).setCell (p := ⟨b, 3, none⟩) hb v3).setCell (p := ⟨b, 4, none⟩) hb v4).setCell (p := ⟨b, 5, none⟩) hb v5).setCell (p := ⟨b, 6, none⟩) hb v6).setCell (p := ⟨b, 7, none⟩) hb v7).setCell (p := ⟨b, 8, none⟩) hb v8)

/-- the areas that have a list of words -/
def la (a : Int) : Prop := a = 3 ∨ a = 4 ∨ a = 7 ∨ a = 8 ∨ a = 9
def R.sl (r : R) (a : Int) : Sl := if a = 3 then r.L else if a = 4 then r.P else if a = 7 then r.K else if a = 8 then r.X else r.S

/-- the words m are held by r: block g has their nine cells, whose five rows are apart -/
def Hold (w : World) (base g : Nat) (r : R) (m : M) : Prop :=
  Blk w g 33 r.cells ∧ base ≤ g ∧ r.e = m.e ∧ r.f = m.f ∧ r.h = m.h ∧ r.t = m.t ∧ m.ok ∧
    (∀ a, la a → Own w base (r.sl a) (m.area a)) ∧
    (∀ a, la a → ∀ ad, (r.sl a).A = some ad → ad.block ≠ g ∧ ∀ b, la b → b ≠ a → ∀ ad', (r.sl b).A = some ad' → ad'.block ≠ ad.block)

/-- a block of words: of the nine cells, or of a row -/
def Kin (w : World) (k : Nat) : Prop := ∃ t cs, Blk w k t cs ∧ (t = 33 ∨ t = 30)
theorem Kin.ne_ {w : World} {k b : Nat} {t : TypeId} {cs : Array Value} (h : Kin w k) (hb : Blk w b t cs) (h1 : t ≠ 33) (h2 : t ≠ 30) : b ≠ k := by
  rintro rfl
  obtain ⟨t', cs', hk, ht⟩ := h
  unfold Blk at hb hk
  rw [hb] at hk
  injection hk with hk
  injection hk with _ hk
  rcases ht with ht | ht
  · exact h1 (hk.trans ht)
  · exact h2 (hk.trans ht)
theorem Own.kin {w : World} {base : Nat} {s : Sl} {xs : List Int} (h : Own w base s xs) {ad : Addr} (ha : s.A = some ad) : Kin w ad.block := by
  rcases h.2.2 with ⟨hv, _⟩ | ⟨g, cap, cur, hv, hb, hg, _⟩
  · injection hv with h1
    rw [h1] at ha; cases ha
  · injection hv with h1
    rw [h1] at ha
    injection ha with ha
    subst ha
    exact ⟨_, _, hg, .inr rfl⟩

/-- the word (a, i) of the words m that r holds is at q, or it isn't there -/
def Lens (w : World) (base g : Nat) (r : R) (m : M) (a i : Int) : Option Addr → Prop
  | none => ¬ there m a i
  | some p => there m a i ∧ base ≤ p.block ∧ p.block < w.heap.size ∧ w.cell? p = some (.int .u64 (get m a i)) ∧ w.frozen? p = false ∧ Kin w p.block ∧
      ∀ w' : World, Hold w' base g r m → ∀ v : Int, 0 ≤ v ∧ v ≤ 18446744073709551615 → ∃ r', Hold (w'.setCell p (.int .u64 v)) base g r' (set m a i v)

section
variable {w w' : World} {base g : Nat} {r : R} {m : M}
theorem Hold.kept (h : Hold w base g r m) (hk : ∀ k, base ≤ k → k < w.heap.size → w'.heap[k]? = w.heap[k]?) : Hold w' base g r m := by
  obtain ⟨hb, hg, h1, h2, h3, h4, hm, ho, ha⟩ := h
  exact ⟨(hk g hg hb.lt).trans hb, hg, h1, h2, h3, h4, hm, fun a hl => (ho a hl).kept fun ad had => hk _ ((ho a hl).lt had).1 ((ho a hl).lt had).2, ha⟩
theorem Hold.alloc (h : Hold w base g r m) (o : Obj) : Hold (w.alloc o) base g r m := h.kept fun k _ hk => Below.heap_alloc w o k hk
theorem Hold.drew (h : Hold w base g r m) : Hold w.drew base g r m := h
theorem la_ne {a : Int} (h : la a) : a ≠ 1 ∧ a ≠ 2 ∧ a ≠ 5 ∧ a ≠ 6 := by unfold la at h; omega
theorem set_list (m : M) (a i v : Int) (h : la a) : (set m a i v).e = m.e ∧ (set m a i v).f = m.f ∧ (set m a i v).h = m.h ∧ (set m a i v).t = m.t := by
  have hh := la_ne h
  have e1 := area_set_other m a 1 i v hh.1
  have e2 := area_set_other m a 2 i v hh.2.1
  have e5 := area_set_other m a 5 i v hh.2.2.1
  have e6 := area_set_other m a 6 i v hh.2.2.2
  simp only [area_1, area_2, area_5, area_6, List.cons.injEq, and_true] at e1 e2 e5 e6
  exact ⟨e1, e2, e5, e6⟩

/-- a word of a list -/
theorem lens_list (h : Hold w base g r m) {a : Int} (hl : la a) {k : Nat} (hk : k < (m.area a).length) :
    ∃ b : Nat, (r.sl a).A = some ⟨b, 0, none⟩ ∧ Lens w base g r m a k (some ⟨b, k, none⟩) := by
  obtain ⟨hb, hg, h1, h2, h3, h4, hm, ho, ha⟩ := h
  obtain ⟨b, hA, hlo, hhi, hc, hf⟩ := (ho a hl).at_ hk
  refine ⟨b, hA, ⟨Int.natCast_nonneg k, by omega⟩, hlo, hhi, by simpa [get] using hc, hf, (show Kin w b from (ho a hl).kin (ad := ⟨b, 0, none⟩) hA), ?_⟩
  intro w' h' v hv
  obtain ⟨hb', _, _, _, _, _, _, ho', _⟩ := h'
  have hs := set_list m a k v hl
  refine ⟨r, hb'.far (p := ⟨b, k, none⟩) (fun e => (ha a hl _ hA).1 e.symm) _, hg, by rw [hs.1]; exact h1, by rw [hs.2.1]; exact h2, by rw [hs.2.2.1]; exact h3, by rw [hs.2.2.2]; exact h4, set_ok hm _ _ _ hv, ?_, ha⟩
  intro c hc'
  by_cases hca : a = c
  · subst hca
    rw [area_set_same]
    exact (ho' a hc').set_ (k := k) hA v hv
  · rw [area_set_other _ _ _ _ _ hca]
    exact (ho' c hc').far (p := ⟨b, k, none⟩) (fun ad had => (ha a hl _ hA).2 c hc' (fun e => hca e.symm) ad had) _

/-- a word that is alone in its area -/
theorem lens_1 (h : Hold w base g r m) : Lens w base g r m 1 0 (some ⟨g, 0, none⟩) := by
  have h0 := h
  obtain ⟨hb, hg, h1, h2, h3, h4, hm, ho, ha⟩ := h
  refine ⟨⟨Int.le_refl 0, by show (0 : Int) < 1; omega⟩, hg, hb.lt, ?_, hb.frozen 0, ⟨_, _, hb, .inl rfl⟩, ?_⟩
  · rw [hb.cell 0]; show some (Value.int .u64 r.e) = some (.int .u64 m.e); rw [h1]
  · intro w' h' v hv
    obtain ⟨hb', _, _, _, _, _, _, ho', _⟩ := h'
    refine ⟨{ r with e := v }, hb'.set_ 0 _, hg, rfl, h2, h3, h4, set_ok hm _ _ _ hv, fun a hl => ?_, ha⟩
    rw [area_set_other _ _ _ _ _ (la_ne hl).1.symm]
    exact (ho' a hl).far (p := ⟨g, 0, none⟩) (fun ad had => (ha a hl _ had).1) _
theorem lens_2 (h : Hold w base g r m) : Lens w base g r m 2 0 (some ⟨g, 1, none⟩) := by
  obtain ⟨hb, hg, h1, h2, h3, h4, hm, ho, ha⟩ := h
  refine ⟨⟨Int.le_refl 0, by show (0 : Int) < 1; omega⟩, hg, hb.lt, ?_, hb.frozen 1, ⟨_, _, hb, .inl rfl⟩, ?_⟩
  · rw [hb.cell 1]; show some (Value.int .u64 r.f) = some (.int .u64 m.f); rw [h2]
  · intro w' h' v hv
    obtain ⟨hb', _, _, _, _, _, _, ho', _⟩ := h'
    refine ⟨{ r with f := v }, hb'.set_ 1 _, hg, h1, rfl, h3, h4, set_ok hm _ _ _ hv, fun a hl => ?_, ha⟩
    rw [area_set_other _ _ _ _ _ (la_ne hl).2.1.symm]
    exact (ho' a hl).far (p := ⟨g, 1, none⟩) (fun ad had => (ha a hl _ had).1) _
theorem lens_5 (h : Hold w base g r m) : Lens w base g r m 5 0 (some ⟨g, 4, none⟩) := by
  obtain ⟨hb, hg, h1, h2, h3, h4, hm, ho, ha⟩ := h
  refine ⟨⟨Int.le_refl 0, by show (0 : Int) < 1; omega⟩, hg, hb.lt, ?_, hb.frozen 4, ⟨_, _, hb, .inl rfl⟩, ?_⟩
  · rw [hb.cell 4]; show some (Value.int .u64 r.h) = some (.int .u64 m.h); rw [h3]
  · intro w' h' v hv
    obtain ⟨hb', _, _, _, _, _, _, ho', _⟩ := h'
    refine ⟨{ r with h := v }, hb'.set_ 4 _, hg, h1, h2, rfl, h4, set_ok hm _ _ _ hv, fun a hl => ?_, ha⟩
    rw [area_set_other _ _ _ _ _ (la_ne hl).2.2.1.symm]
    exact (ho' a hl).far (p := ⟨g, 4, none⟩) (fun ad had => (ha a hl _ had).1) _
theorem lens_6 (h : Hold w base g r m) : Lens w base g r m 6 0 (some ⟨g, 5, none⟩) := by
  obtain ⟨hb, hg, h1, h2, h3, h4, hm, ho, ha⟩ := h
  refine ⟨⟨Int.le_refl 0, by show (0 : Int) < 1; omega⟩, hg, hb.lt, ?_, hb.frozen 5, ⟨_, _, hb, .inl rfl⟩, ?_⟩
  · rw [hb.cell 5]; show some (Value.int .u64 r.t) = some (.int .u64 m.t); rw [h4]
  · intro w' h' v hv
    obtain ⟨hb', _, _, _, _, _, _, ho', _⟩ := h'
    refine ⟨{ r with t := v }, hb'.set_ 5 _, hg, h1, h2, h3, rfl, set_ok hm _ _ _ hv, fun a hl => ?_, ha⟩
    rw [area_set_other _ _ _ _ _ (la_ne hl).2.2.2.symm]
    exact (ho' a hl).far (p := ⟨g, 5, none⟩) (fun ad had => (ha a hl _ had).1) _
end

/-- the five rows of r are apart -/
def Five (w : World) (base : Nat) (r : R) (m : M) : Prop :=
  (∀ a, la a → Own w base (r.sl a) (m.area a)) ∧ ∀ a, la a → ∀ b, la b → a ≠ b → ∀ ad, (r.sl a).A = some ad → ∀ ad', (r.sl b).A = some ad' → ad.block ≠ ad'.block

/-- nine cells stored, one behind the other, into a block -/
theorem blk_nine {W : World} {b : Nat} {r : R} {d0 d1 d2 d3 d4 d5 d6 d7 d8 : Value} (hb : Blk W b 33 #[d0, d1, d2, d3, d4, d5, d6, d7, d8]) : Blk (((((((((W.setCell ⟨b, 0, none⟩ (.int .u64 r.e)).setCell ⟨b, 1, none⟩ (.int .u64 r.f)).setCell ⟨b, 2, none⟩ (.slice r.L.A r.L.n r.L.c)).setCell ⟨b, 3, none⟩ (.slice r.P.A r.P.n r.P.c)).setCell ⟨b, 4, none⟩ (.int .u64 r.h)).setCell ⟨b, 5, none⟩ (.int .u64 r.t)).setCell ⟨b, 6, none⟩ (.slice r.K.A r.K.n r.K.c)).setCell ⟨b, 7, none⟩ (.slice r.X.A r.X.n r.X.c)).setCell ⟨b, 8, none⟩ (.slice r.S.A r.S.n r.S.c)) b 33 r.cells := by
  have h := (((((((((hb.set_ 0 (.int .u64 r.e)).set_ 1 (.int .u64 r.f)).set_ 2 (.slice r.L.A r.L.n r.L.c)).set_ 3 (.slice r.P.A r.P.n r.P.c)).set_ 4 (.int .u64 r.h)).set_ 5 (.int .u64 r.t)).set_ 6 (.slice r.K.A r.K.n r.K.c)).set_ 7 (.slice r.X.A r.X.n r.X.c)).set_ 8 (.slice r.S.A r.S.n r.S.c))
  simp only [List.setIfInBounds_toArray, List.set_cons_zero, List.set_cons_succ] at h
  exact h
theorem blk_nine_far {W : World} {b g : Nat} {r : R} {t : TypeId} {cs : Array Value} (hf : Blk W g t cs) (hne : g ≠ b) : Blk (((((((((W.setCell ⟨b, 0, none⟩ (.int .u64 r.e)).setCell ⟨b, 1, none⟩ (.int .u64 r.f)).setCell ⟨b, 2, none⟩ (.slice r.L.A r.L.n r.L.c)).setCell ⟨b, 3, none⟩ (.slice r.P.A r.P.n r.P.c)).setCell ⟨b, 4, none⟩ (.int .u64 r.h)).setCell ⟨b, 5, none⟩ (.int .u64 r.t)).setCell ⟨b, 6, none⟩ (.slice r.K.A r.K.n r.K.c)).setCell ⟨b, 7, none⟩ (.slice r.X.A r.X.n r.X.c)).setCell ⟨b, 8, none⟩ (.slice r.S.A r.S.n r.S.c)) g t cs :=
  (((((((((hf.far (p := ⟨b, 0, none⟩) hne (.int .u64 r.e)).far (p := ⟨b, 1, none⟩) hne (.int .u64 r.f)).far (p := ⟨b, 2, none⟩) hne (.slice r.L.A r.L.n r.L.c)).far (p := ⟨b, 3, none⟩) hne (.slice r.P.A r.P.n r.P.c)).far (p := ⟨b, 4, none⟩) hne (.int .u64 r.h)).far (p := ⟨b, 5, none⟩) hne (.int .u64 r.t)).far (p := ⟨b, 6, none⟩) hne (.slice r.K.A r.K.n r.K.c)).far (p := ⟨b, 7, none⟩) hne (.slice r.X.A r.X.n r.X.c)).far (p := ⟨b, 8, none⟩) hne (.slice r.S.A r.S.n r.S.c))
/-- the words are held where a value of them was stored -/
theorem hold_nine {W : World} {base base5 b : Nat} {r : R} {m : M} {d0 d1 d2 d3 d4 d5 d6 d7 d8 : Value} (hb : Blk W b 33 #[d0, d1, d2, d3, d4, d5, d6, d7, d8])
    (hs : r.e = m.e ∧ r.f = m.f ∧ r.h = m.h ∧ r.t = m.t) (hm : m.ok) (h5 : Five W base5 r m) (hbb : base ≤ b) (hb5 : b < base5) : Hold (((((((((W.setCell ⟨b, 0, none⟩ (.int .u64 r.e)).setCell ⟨b, 1, none⟩ (.int .u64 r.f)).setCell ⟨b, 2, none⟩ (.slice r.L.A r.L.n r.L.c)).setCell ⟨b, 3, none⟩ (.slice r.P.A r.P.n r.P.c)).setCell ⟨b, 4, none⟩ (.int .u64 r.h)).setCell ⟨b, 5, none⟩ (.int .u64 r.t)).setCell ⟨b, 6, none⟩ (.slice r.K.A r.K.n r.K.c)).setCell ⟨b, 7, none⟩ (.slice r.X.A r.X.n r.X.c)).setCell ⟨b, 8, none⟩ (.slice r.S.A r.S.n r.S.c)) base b r m := by
  refine ⟨blk_nine hb, hbb, hs.1, hs.2.1, hs.2.2.1, hs.2.2.2, hm, fun a hl => ?_, fun a hl ad had => ⟨?_, fun c hl' hne ad' had' => h5.2 c hl' a hl hne ad' had' ad had⟩⟩
  · exact ((h5.1 a hl).nine hb5 _ _ _ _ _ _ _ _ _).weaken (by omega)
  · have := ((h5.1 a hl).lt had).1; omega
/-- words that are held are read -/
theorem Hold.rm {w : World} {base g : Nat} {r : R} {m : M} (h : Hold w base g r m) : Rm w w.heap.size r m := by
  obtain ⟨hb, hg, h1, h2, h3, h4, hm, ho, ha⟩ := h
  exact ⟨h1, h2, h3, h4, hm, (ho 3 (.inl rfl)).rd, (ho 4 (.inr (.inl rfl))).rd, (ho 7 (.inr (.inr (.inl rfl)))).rd, (ho 8 (.inr (.inr (.inr (.inl rfl))))).rd, (ho 9 (.inr (.inr (.inr (.inr rfl))))).rd⟩
theorem Own.far_nine {W : World} {base b : Nat} {s : Sl} {xs : List Int} (h : Own W base s xs) (hne : ∀ ad, s.A = some ad → ad.block ≠ b) (r : R) : Own (((((((((W.setCell ⟨b, 0, none⟩ (.int .u64 r.e)).setCell ⟨b, 1, none⟩ (.int .u64 r.f)).setCell ⟨b, 2, none⟩ (.slice r.L.A r.L.n r.L.c)).setCell ⟨b, 3, none⟩ (.slice r.P.A r.P.n r.P.c)).setCell ⟨b, 4, none⟩ (.int .u64 r.h)).setCell ⟨b, 5, none⟩ (.int .u64 r.t)).setCell ⟨b, 6, none⟩ (.slice r.K.A r.K.n r.K.c)).setCell ⟨b, 7, none⟩ (.slice r.X.A r.X.n r.X.c)).setCell ⟨b, 8, none⟩ (.slice r.S.A r.S.n r.S.c)) base s xs :=
  (((((((((h.far (p := ⟨b, 0, none⟩) hne (.int .u64 r.e)).far (p := ⟨b, 1, none⟩) hne (.int .u64 r.f)).far (p := ⟨b, 2, none⟩) hne (.slice r.L.A r.L.n r.L.c)).far (p := ⟨b, 3, none⟩) hne (.slice r.P.A r.P.n r.P.c)).far (p := ⟨b, 4, none⟩) hne (.int .u64 r.h)).far (p := ⟨b, 5, none⟩) hne (.int .u64 r.t)).far (p := ⟨b, 6, none⟩) hne (.slice r.K.A r.K.n r.K.c)).far (p := ⟨b, 7, none⟩) hne (.slice r.X.A r.X.n r.X.c)).far (p := ⟨b, 8, none⟩) hne (.slice r.S.A r.S.n r.S.c))
/-- the words stored once more where they are held -/
theorem Hold.again {W : World} {base b : Nat} {r : R} {m : M} (h : Hold W base b r m) : Hold (((((((((W.setCell ⟨b, 0, none⟩ (.int .u64 r.e)).setCell ⟨b, 1, none⟩ (.int .u64 r.f)).setCell ⟨b, 2, none⟩ (.slice r.L.A r.L.n r.L.c)).setCell ⟨b, 3, none⟩ (.slice r.P.A r.P.n r.P.c)).setCell ⟨b, 4, none⟩ (.int .u64 r.h)).setCell ⟨b, 5, none⟩ (.int .u64 r.t)).setCell ⟨b, 6, none⟩ (.slice r.K.A r.K.n r.K.c)).setCell ⟨b, 7, none⟩ (.slice r.X.A r.X.n r.X.c)).setCell ⟨b, 8, none⟩ (.slice r.S.A r.S.n r.S.c)) base b r m := by
  obtain ⟨hb, hg, h1, h2, h3, h4, hm, ho, ha⟩ := h
  exact ⟨blk_nine hb, hg, h1, h2, h3, h4, hm, fun a hl => (ho a hl).far_nine (fun ad had => (ha a hl ad had).1) r, ha⟩
theorem cells5 {w : World} {b : Nat} {t : TypeId} {c0 c1 c2 c3 c4 : Value} (h : Blk w b t #[c0, c1, c2, c3, c4]) :
    w.cell? ⟨b, 0, none⟩ = some c0 ∧ w.cell? ⟨b, 1, none⟩ = some c1 ∧ w.cell? ⟨b, 2, none⟩ = some c2 ∧ w.cell? ⟨b, 3, none⟩ = some c3 ∧ w.cell? ⟨b, 4, none⟩ = some c4 :=
  ⟨h.cell 0, h.cell 1, h.cell 2, h.cell 3, h.cell 4⟩
/-- two blocks of cells are known behind a call that leaves what there was -/
theorem two_below {W W' : World} {b c : Nat} {t u : TypeId} {cs ds : Array Value} (hb : Below W.heap.size W W') (h0 : Blk W b t cs) (h1 : Blk W c u ds) : Blk W' b t cs ∧ Blk W' c u ds :=
  ⟨h0.below hb h0.lt, h1.below hb h1.lt⟩
theorem two_rules {W : World} {b c : Nat} {t u : TypeId} {cs ds : Array Value} (h0 : Blk W b t cs) (h1 : Blk W c u ds) :
    (∀ i, W.cell? ⟨b, i, none⟩ = cs[i]?) ∧ (∀ i, W.frozen? ⟨b, i, none⟩ = false) ∧ (∀ i, W.cell? ⟨c, i, none⟩ = ds[i]?) ∧ (∀ i, W.frozen? ⟨c, i, none⟩ = false) :=
  ⟨h0.cell, h0.frozen, h1.cell, h1.frozen⟩

end Go.Proofs.Ytffppdcpiieapaa.Memc

namespace Go.Proofs.Ytffppdcpiieapaa.Wordc
open Go.RowKit
set_option linter.unusedVariables false
set_option maxRecDepth 100000

theorem fit_u32 {a : Int} (h : (Lit.int .u32 a).wf = true) : 0 ≤ a ∧ a ≤ 4294967295 := by
  simp [Lit.wf, IntKind.min, IntKind.max, IntKind.bits, IntKind.signed] at h; omega
theorem fit_i64 {a : Int} (h : (Lit.int .i64 a).wf = true) : -9223372036854775808 ≤ a ∧ a ≤ 9223372036854775807 := by
  simp [Lit.wf, IntKind.min, IntKind.max, IntKind.bits, IntKind.signed] at h; omega
theorem ret_int {k : IntKind} {a b : Int} (h : a = b) : Ending.returned (.int k a) = .returned (.int k b) := by rw [h]
theorem wraps_u64 (n : Int) (h0 : 0 ≤ n) (h1 : n < 2 ^ 64) : IntKind.u64.wrap n = n := by
  simp [IntKind.wrap, IntKind.bits, IntKind.signed]; omega
theorem or_join (h l : Int) (h0 : 0 ≤ h) (h1 : h ≤ 4294967295) (l0 : 0 ≤ l) (l1 : l ≤ 4294967295) :
    bits BinOp.or IntKind.u64 (h * 4294967296) l = h * 4294967296 + l :=
  bits_join .u64 64 (by decide) wraps_u64 32 _ _ (by omega) (by omega) (by omega) l0 (by omega) (by omega)

theorem pack_c (h l : Int) (w : World) (h0 : 0 ≤ h) (h1 : h ≤ 4294967295) (l0 : 0 ≤ l) (l1 : l ≤ 4294967295) :
    Calls Try.prog 70 #[.int .u32 h, .int .u32 l] w fun e w' => e = .returned (.int .u64 (h * 4294967296 + l)) ∧ w = w' := by
  go_enter Try.func70, Try.ntmps70
  go_wp2
  go_ret
  exact ⟨ret_int (or_join h l h0 h1 l0 l1), rfl⟩

theorem half_c (x : Int) (w : World) (x0 : -9223372036854775808 ≤ x) (x1 : x ≤ 9223372036854775807) :
    Calls Try.prog 71 #[.int .i64 x] w fun e w' => e = .returned (.int .u32 (x % 4294967296)) ∧ w = w' := by
  go_enter Try.func71, Try.ntmps71
  go_wp2
  go_ret
  exact ⟨rfl, rfl⟩

theorem ref_c (h x : Int) (w : World) (h0 : 0 ≤ h) (h1 : h ≤ 4294967295) (x0 : -9223372036854775808 ≤ x) (x1 : x ≤ 9223372036854775807) :
    Calls Try.prog 39 #[.int .u32 h, .int .i64 x] w fun e w' => e = .returned (.int .u64 (h * 4294967296 + (x + 1) % 4294967296)) ∧ w = w' := by
  go_enter Try.func39, Try.ntmps39
  go_wp2_with (first | (go_at_call 71; refine (half_c _ _ (by omega) (by omega)).mono ?_; rintro e w' ⟨rfl, rfl⟩) | (go_at_call 70; refine (pack_c _ _ _ (by omega) (by omega) (by omega) (by omega)).mono ?_; rintro e w' ⟨rfl, rfl⟩))
  go_ret
  exact ⟨rfl, rfl⟩

end Go.Proofs.Ytffppdcpiieapaa.Wordc

namespace Go.Proofs.Ytffppdcpiieapaa.Memc
open Go.ChangeShapes Go.WideShapes Go.RowKit Go.Deep Go.Proofs.Ytffppdcpiieapaa.Wordc
set_option linter.unusedVariables false
set_option maxRecDepth 100000

section
variable {H : Type} {enc : TypeId × Value → H} {P : Program} {w : World} {base : Nat} {spare : Nat → Bool} {held : Bool}

/-- a struct's cells, each with its field's own reading -/
theorem open_fields {r : Reach} {b0 : Nat} {t : TypeId} {fs : Array Field} {v : Value} {d : DataW H} {p : List MemPlace} (hs : P.underlying t = some (.struct fs)) (hone : oneCellFields P fs = true) (hC : P.cellsOf t = fs.size)
    (hv : Value.okWide P w r b0 t v) (h : DataW.Trod enc P w base spare held t v d p) :
    ∃ cs : Array Value, v = .agg cs ∧ cs.size = fs.size ∧ ∃ n, ∀ (j : Nat) (f : Field), fs[j]? = some f → ∃ (c : Value) (y : DataW H × List MemPlace), cs[j]? = some c ∧ DataW.trod enc P w base spare held n f.type [c] = some y := by
  obtain ⟨cs, rfl, hsz⟩ := okWide_struct hs hv
  obtain ⟨fuel, hf⟩ := h
  obtain ⟨xs, n, _, _, hcl, hlen, hg⟩ := DataW.trod_struct hs hf
  refine ⟨cs, rfl, by rw [hsz, hC], n, fun j f hj => ?_⟩
  obtain ⟨ho, hk⟩ := hone_of hone j f hj
  have hjl : j < fs.size := (Array.getElem?_eq_some_iff.1 hj).1
  have h1 := hg j f hj
  have hjc : j < cs.size := by omega
  have hxs : xs[j]? = some (xs[j]'(by omega)) := List.getElem?_eq_getElem (by omega)
  rw [ho, hk, hxs] at h1
  refine ⟨cs[j], xs[j]'(by omega), Array.getElem?_eq_getElem hjc, ?_⟩
  have e : ((Value.agg cs).cells.toList.drop j).take 1 = [cs[j]] := by
    show (cs.toList.drop j).take 1 = [cs[j]]
    rw [List.drop_eq_getElem_cons (by simpa using hjc)]
    simp
  rw [← e]
  exact h1

theorem open_num {k : IntKind} {t : TypeId} {n : Nat} {c : Value} {y : DataW H × List MemPlace} (ht : P.underlying t = some (.int k)) (h : DataW.trod enc P w base spare held n t [c] = some y) : ∃ x : Int, c = .int k x ∧ (Lit.int k x).wf = true := by
  obtain ⟨x, hc, _, hw⟩ := DataW.trod_int ht h
  exact ⟨x, by simpa using hc, hw⟩

theorem block_lt {w : World} {p : Addr} {v : Value} (h : w.cell? p = some v) : p.block < w.heap.size := by
  rcases Nat.lt_or_ge p.block w.heap.size with hlt | hge
  · exact hlt
  · unfold World.cell? at h
    rw [Array.getElem?_eq_none hge] at h
    simp at h

end

end Go.Proofs.Ytffppdcpiieapaa.Memc

namespace Go.Proofs.Ytffppdcpiieapaa.Memc
open Go.ChangeShapes Go.WideShapes Go.RowKit Go.Deep Go.Proofs.Ytffppdcpiieapaa.Wordc
set_option linter.unusedVariables false
set_option maxRecDepth 100000

structure St where
  th : Int
  c : Acc
  was : Int
  dn : Bool
def St.cells (s : St) : List Value := [.int .i64 s.th, .int .i64 s.c.d, .int .i64 s.c.ar, .int .i64 s.c.at_, .int .u64 s.c.old, .int .u64 s.c.new, .int .u64 s.was, .bool s.dn]
def St.ok (s : St) : Prop := s.c.ok ∧ 0 ≤ s.was ∧ s.was ≤ 18446744073709551615

/-- a step fits the words -/
def fits (m : M) (s : St) : Prop := (acc m s.c).2.1 = s.was ∧ (acc m s.c).2.2 = s.dn
instance (m : M) (s : St) : Decidable (fits m s) := by unfold fits; infer_instance
/-- what steps are replayed to; none: one doesn't fit -/
def replay (m : M) : List St → Option M
  | [] => some m
  | s :: l => if fits m s then replay (acc m s.c).1 l else none
/-- the slice (A, n, c) reads as the steps l, in memory below B -/
def RdS (w : World) (B : Nat) (s : Sl) (l : List St) : Prop :=
  s.n = l.length ∧ s.n ≤ s.c ∧ s.c ≤ maxLen ∧ (∀ x ∈ l, x.ok) ∧
  (0 < s.n → ∃ b off, s.A = some ⟨b, off, none⟩ ∧ b < B ∧ ∀ (i : Nat) (x : St), l[i]? = some x → ∀ (j : Nat) (v : Value), x.cells[j]? = some v → w.cell? ⟨b, off + i * 8 + j, none⟩ = some v)
section
variable {H : Type} {enc : TypeId × Value → H} {w : World} {base : Nat} {spare : Nat → Bool} {held : Bool}
theorem list_choose {α : Type} {P : Nat → α → Prop} : ∀ n : Nat, (∀ i, i < n → ∃ a, P i a) → ∃ l : List α, l.length = n ∧ ∀ i a, l[i]? = some a → P i a
  | 0, _ => ⟨[], rfl, fun i a h => by simp at h⟩
  | n + 1, h => by
    obtain ⟨l, hl, hp⟩ := list_choose n fun i hi => h i (by omega)
    obtain ⟨a, ha⟩ := h n (by omega)
    refine ⟨l ++ [a], by simp [hl], fun i b hb => ?_⟩
    rcases Nat.lt_or_ge i l.length with hlt | hge
    · rw [List.getElem?_append_left hlt] at hb; exact hp i b hb
    · rw [List.getElem?_append_right hge] at hb
      rcases (show i - l.length = 0 ∨ 0 < i - l.length by omega) with h0 | h0
      · rw [h0] at hb
        simp only [List.getElem?_cons_zero, Option.some.injEq] at hb
        subst hb
        obtain rfl : i = n := by omega
        exact ha
      · obtain ⟨k, hk⟩ : ∃ k, i - l.length = k + 1 := ⟨i - l.length - 1, by omega⟩
        rw [hk] at hb
        simp at hb

end
end Go.Proofs.Ytffppdcpiieapaa.Memc

namespace Go.Proofs.Ytffppdcpiieapaa.Memc
open Go.RowKit
set_option linter.unusedVariables false
set_option maxRecDepth 100000

/-- how many operations haven't come up yet -/
def left : List Bool → Nat
  | [] => 0
  | true :: l => left l
  | false :: l => left l + 1
theorem left_set : ∀ (l : List Bool) (i : Nat), l[i]? = some false → left (l.set i true) + 1 = left l
  | [], i, h => by simp at h
  | b :: l, 0, h => by
    simp only [List.getElem?_cons_zero, Option.some.injEq] at h
    subst h
    simp [left]
  | true :: l, i + 1, h => by
    have ih := left_set l i (by simpa using h)
    simpa [left] using ih
  | false :: l, i + 1, h => by
    have ih := left_set l i (by simpa using h)
    simp only [List.set_cons_succ, left]
    omega

section
variable {P : Program} {md : Region.Mode} {ops : Array Oper} {Q : Exit → Act → World → Prop} {S : World → Prop}
theorem ready_false {listed : Array Bool} {i : Nat} (h : i ∈ Region.ready md ops listed) : listed.toList[i]? = some false := by
  have h1 := (mem_ready.1 h).1
  rcases hx : listed[i]? with _ | b
  · simp [hx] at h1
  · simp [hx] at h1
    subst h1
    simpa using hx

theorem ordered (I : Array Bool → Act → World → Prop)
    (step : ∀ (listed : Array Bool) (a : Act) (w : World) (i : Nat), I listed a w → S w → i ∈ Region.ready md ops listed → wpOp P ops Q i (fun a' w' => S w' ∧ I (listed.setIfInBounds i true) a' w') a w)
    (done : ∀ (listed : Array Bool) (a : Act) (w : World), I listed a w → S w → Region.ready md ops listed = [] → Q .normal a w) :
    ∀ (fuel : Nat) (listed : Array Bool) (a : Act) (w : World), left listed.toList ≤ fuel → I listed a w → S w → wpAnyH P md ops Q S fuel listed a w
  | 0, listed, a, w, hl, hI, hS => by
    have hr : Region.ready md ops listed = [] := by
      rcases hx : Region.ready md ops listed with _ | ⟨i, r⟩
      · rfl
      · have h1 := ready_false (md := md) (ops := ops) (listed := listed) (i := i) (by rw [hx]; exact List.mem_cons_self)
        have := left_set _ _ h1
        omega
    exact ⟨hr, done _ _ _ hI hS hr⟩
  | fuel + 1, listed, a, w, hl, hI, hS =>
    ⟨fun h => done _ _ _ hI hS h, fun i hi => wpOp_mono (fun a' w' ⟨hS', hI'⟩ =>
      ⟨hS', ordered I step done fuel _ _ _ (by
        have := left_set _ _ (ready_false hi)
        rw [Array.toList_setIfInBounds]
        omega) hI' hS'⟩) (step _ _ _ _ hI hS hi)⟩
end

/-! ### five rows of nothing and a variable, made in whatever order -/
def zeros (n : Nat) : Array Value := Array.replicate n (.int .u64 0)
def blank : Array Value := #[.int .u64 0, .int .u64 0, .slice none 0 0, .slice none 0 0, .int .u64 0, .int .u64 0, .slice none 0 0, .slice none 0 0, .slice none 0 0]
def upd {α : Type} (x : Nat → α) (j : Nat) (v : α) : Nat → α := fun i => if i = j then v else x i
theorem upd_same {α : Type} (x : Nat → α) (j : Nat) (v : α) : upd x j v j = v := by simp [upd]
theorem upd_other {α : Type} (x : Nat → α) (j i : Nat) (v : α) (h : i ≠ j) : upd x j v i = x i := by simp [upd, h]

theorem madeCells_zero (n : Nat) : madeCells (Value.int .u64 0).cells (n * 1) = zeros n := by
  apply Array.ext
  · simp [madeCells, zeros]
  · intro i h1 h2
    have h0 : i % 1 = 0 := Nat.mod_one i
    simp [madeCells, zeros, Value.cells, h0]

theorem run_mk (n : Nat) (v : Int) (hv : v = n) (hn : n ≤ 100000) (w : World) :
    (Instr.makeSlice 31 (.int .i64 v) (.int .i64 v)).run Try.prog w = .ok (.slice (some ⟨w.heap.size, 0, none⟩) n n) (w.alloc (.cells (zeros n) 30)) := by
  have hinfo : (Try.prog.info? 30).map (fun i => (i.zero, i.size, i.bytes)) = some (some (.int .u64 0), 1, 8) := by kernel_rfl
  obtain ⟨i0, hi0, hz0, hz1, hz2⟩ := info_parts hinfo
  subst hv
  have hr := run_make (P := Try.prog) w 31 30 i0 _ Try.underlying31 hi0 hz0 .i64 .i64 n n (by omega) (Int.le_refl _) (by rw [hz2]; omega) (by omega)
  rw [hz1] at hr
  simp only [Int.toNat_natCast, madeCells_zero] at hr
  exact hr

/-- what has been made: the block of each -/
structure Made (w : World) (H0 : Nat) (N : Nat → Nat) (x : Nat → Nat) (L : Nat → Bool) : Prop where
  row : ∀ j, j < 5 → L j = true → H0 ≤ x j ∧ Blk w (x j) 30 (zeros (N j))
  old : L 5 = true → H0 ≤ x 5 ∧ x 5 < w.heap.size
  apart : ∀ i j, i < 6 → j < 6 → i ≠ j → L i = true → L j = true → x i ≠ x j

section
variable {w : World} {H0 : Nat} {N x : Nat → Nat} {L : Nat → Bool}
theorem Made.start (w : World) (H0 : Nat) (N x : Nat → Nat) : Made w H0 N x (fun _ => false) := ⟨fun _ _ h => by simp at h, fun h => by simp at h, fun _ _ _ _ _ h => by simp at h⟩
theorem Made.lt (h : Made w H0 N x L) {j : Nat} (hj : j < 6) (hl : L j = true) : x j < w.heap.size := by
  rcases (show j < 5 ∨ j = 5 by omega) with h5 | h5
  · exact (h.row j h5 hl).2.lt
  · subst h5; exact (h.old hl).2
theorem Made.more (h : Made w H0 N x L) (hH : H0 ≤ w.heap.size) (j : Nat) (hj : j < 5) (o : Obj) (ho : o = .cells (zeros (N j)) 30) :
    Made (w.alloc o) H0 N (upd x j w.heap.size) (upd L j true) := by
  subst ho
  refine ⟨fun i hi hl => ?_, fun hl => ?_, fun i k hi hk hne hl hl' => ?_⟩
  · by_cases hij : i = j
    · subst hij; rw [upd_same]; exact ⟨hH, Blk.new _ _ _⟩
    · rw [upd_other _ _ _ _ hij] at hl ⊢
      exact ⟨(h.row i hi hl).1, (h.row i hi hl).2.alloc _⟩
  · rw [upd_other _ _ _ _ (by omega)] at hl ⊢
    exact ⟨(h.old hl).1, by have := (h.old hl).2; simp; omega⟩
  · by_cases hij : i = j
    · subst hij
      rw [upd_same, upd_other _ _ _ _ (by omega)]
      rw [upd_other _ _ _ _ (by omega)] at hl'
      have := h.lt hk hl'
      omega
    · rw [upd_other _ _ _ _ hij] at hl ⊢
      by_cases hkj : k = j
      · subst hkj
        rw [upd_same]
        have := h.lt hi hl
        omega
      · rw [upd_other _ _ _ _ hkj] at hl' ⊢
        exact h.apart i k hi hk hne hl hl'
theorem Made.var (h : Made w H0 N x L) (hH : H0 ≤ w.heap.size) (o : Obj) : Made (w.alloc o) H0 N (upd x 5 w.heap.size) (upd L 5 true) := by
  refine ⟨fun i hi hl => ?_, fun hl => ?_, fun i k hi hk hne hl hl' => ?_⟩
  · rw [upd_other _ _ _ _ (by omega)] at hl ⊢
    exact ⟨(h.row i hi hl).1, (h.row i hi hl).2.alloc _⟩
  · rw [upd_same]; exact ⟨hH, by simp⟩
  · by_cases hij : i = 5
    · subst hij
      rw [upd_same, upd_other _ _ _ _ (by omega)]
      rw [upd_other _ _ _ _ (by omega)] at hl'
      have := h.lt hk hl'
      omega
    · rw [upd_other _ _ _ _ hij] at hl ⊢
      by_cases hkj : k = 5
      · subst hkj
        rw [upd_same]
        have := h.lt hi hl
        omega
      · rw [upd_other _ _ _ _ hkj] at hl' ⊢
        exact h.apart i k hi hk hne hl hl'
/-- a store into the variable -/
theorem Made.stored (h : Made w H0 N x L) (hl5 : L 5 = true) (i : Nat) (v : Value) : Made (w.setCell ⟨x 5, i, none⟩ v) H0 N x L :=
  ⟨fun j hj hl => ⟨(h.row j hj hl).1, (h.row j hj hl).2.far (p := ⟨x 5, i, none⟩) (h.apart j 5 (by omega) (by omega) (by omega) hl hl5) v⟩, fun hl => ⟨(h.old hl).1, by rw [size_set]; exact (h.old hl).2⟩, h.apart⟩
end

/-- nothing is left: an operation whose forerunners have come up has come up -/
theorem all_up {md : Region.Mode} {ops : Array Oper} {listed : Array Bool} (hr : Region.ready md ops listed = []) (j : Nat) {o : Oper} (ho : ops[j]? = some o)
    (hd : ∀ e ∈ o.after, Region.binds md e = true → listed.getD e.on false = true) : listed.getD j true = true := by
  cases h : listed.getD j true
  · have := (mem_ready (md := md) (ops := ops) (listed := listed) (j := j)).2 ⟨h, o, ho, hd⟩
    rw [hr] at this
    cases this
  · rfl

/-- an operation taken first, its slot being named -/
theorem take_at {P : Program} {md : Region.Mode} {ops : Array Oper} {Q : Exit → Act → World → Prop} {S : World → Prop} (i d : Nat) {oi : Oper} {v : Value} {fuel : Nat} {listed : Array Bool} {tmps : Array Value} {w : World}
    (hi : ops[i]? = some oi) (hd : oi.dst = some d) (hs : Region.noSelect ops = true) (hf : Region.free md ops listed i = true) (hr : (Region.ready md ops listed).contains i = true)
    (hQ : ∀ c a w, Q (.panic c) (a.put oi.dst v) w → Q (.panic c) a w) (hS : S w) (hy : YieldsIf P ops S oi v ⟨tmps, []⟩)
    (h : wpAnyH P md ops Q S fuel (listed.setIfInBounds i true) ⟨tmps.setIfInBounds d v, []⟩ w) : wpAnyH P md ops Q S (fuel + 1) listed ⟨tmps, []⟩ w := by
  refine wpAnyH_take hi hs hf hr hQ hy hS ?_
  rw [hd]
  exact h

/-- an operation without a guard, what follows being a letter -/
theorem wpOp_run {P : Program} {ops : Array Oper} {Q : Exit → Act → World → Prop} {i : Nat} {o : Oper} {K : Act → World → Prop} {a : Act} {w : World} (ho : ops[i]? = some o) (hg : o.guard = none)
    (h : ∀ K' : Act → World → Prop, Hid (∀ a' w', K a' w' → K' a' w') → Oper.wp P o a w K' Q) : wpOp P ops Q i K a w := by
  unfold wpOp
  rw [ho]
  have hw : Region.wanted o (yielded ops a.tmps) = true := by simp [Region.wanted, hg]
  simp only [hw, if_true]
  exact .inl (h K (Lib.hid fun _ _ h => h))

theorem mul_in (M K : Nat) (h : M * K ≤ 4096) : IntKind.i64.wrap ((M : Int) * (K : Int)) = (M : Int) * (K : Int) := by
  have h1 : ((M * K : Nat) : Int) ≤ 4096 := by omega
  rw [Int.natCast_mul] at h1
  have h0 : (0 : Int) ≤ (M : Int) * (K : Int) := Int.mul_nonneg (by omega) (by omega)
  exact IntWalk.i64_in _ (by omega)

theorem keep3 {W W' : World} {H : Nat} {a b c : Option Value} (h : W.cell? ⟨H, 1, none⟩ = a ∧ W.cell? ⟨H, 2, none⟩ = b ∧ W.cell? ⟨H, 3, none⟩ = c) (hk : W'.heap[H]? = W.heap[H]?) :
    W'.cell? ⟨H, 1, none⟩ = a ∧ W'.cell? ⟨H, 2, none⟩ = b ∧ W'.cell? ⟨H, 3, none⟩ = c :=
  ⟨(World.cell?_of_block (a := ⟨H, 1, none⟩) hk).trans h.1, (World.cell?_of_block (a := ⟨H, 2, none⟩) hk).trans h.2.1, (World.cell?_of_block (a := ⟨H, 3, none⟩) hk).trans h.2.2⟩

def nn (T M K : Nat) (j : Nat) : Nat := if j = 0 then 3 else if j = 1 then T else if j = 4 then M * K else M
def sv (L : Nat → Bool) (x N : Nat → Nat) (j : Nat) : Value := if L j = true then .slice (some ⟨x j, 0, none⟩) (N j) (N j) else undef
def pv (L : Nat → Bool) (x : Nat → Nat) : Value := if L 5 = true then .pointer (some ⟨x 5, 0, none⟩) else undef
def news (x N : Nat → Nat) : Array Value := #[.int .u64 0, .int .u64 0, .slice (some ⟨x 0, 0, none⟩) (N 0) (N 0), .slice (some ⟨x 1, 0, none⟩) (N 1) (N 1), .int .u64 0, .int .u64 0, .slice (some ⟨x 2, 0, none⟩) (N 2) (N 2), .slice (some ⟨x 3, 0, none⟩) (N 3) (N 3), .slice (some ⟨x 4, 0, none⟩) (N 4) (N 4)]
def bv (b : Bool) (x N : Nat → Nat) : Value := if b = true then .agg (news x N) else undef

/-- what holds of the region's operations that have come up: L: the five rows and the variable; b: the value built; d: the value stored -/
structure State (w1 : World) (N x : Nat → Nat) (L : Nat → Bool) (b d : Bool) (W : World) : Prop where
  made : Made W w1.heap.size N x L
  below : Below w1.heap.size w1 W
  built : b = true → ∀ j, j < 5 → L j = true
  put_ : d = true → b = true ∧ L 5 = true
  var : L 5 = true → Blk W (x 5) 33 (if d = true then news x N else blank)

section
variable {w1 W : World} {N x : Nat → Nat} {L : Nat → Bool} {b d : Bool}
theorem State.start (w1 : World) (N x : Nat → Nat) : State w1 N x (fun _ => false) false false w1.drew :=
  ⟨Made.start _ _ _ _, (Below.refl _ _).drew, fun h => by simp at h, fun h => by simp at h, fun h => by simp at h⟩
theorem State.no (h : State w1 N x L b d W) (j : Nat) (hj : j < 5) (hl : L j = false) : b = false ∧ d = false := by
  have hb : b = false := by
    cases hb : b
    · rfl
    · have := h.built hb j hj
      rw [hl] at this; cases this
  refine ⟨hb, ?_⟩
  cases hd : d
  · rfl
  · have := (h.put_ hd).1
    rw [hb] at this; cases this
theorem State.row (h : State w1 N x L b d W) (j : Nat) (hj : j < 5) (hl : L j = false) : State w1 N (upd x j W.heap.size) (upd L j true) false false (W.alloc (.cells (zeros (N j)) 30)) := by
  refine ⟨h.made.more h.below.size j hj _ rfl, h.below.alloc h.below.size _, fun h => by simp at h, fun h => by simp at h, fun h5 => ?_⟩
  rw [upd_other _ _ _ _ (by omega)] at h5 ⊢
  have hd : d = false := by
    cases hd : d
    · rfl
    · have := h.built (h.put_ hd).1 j hj
      rw [hl] at this; cases this
  have := h.var h5
  rw [hd] at this
  exact this.alloc _
theorem State.new (h : State w1 N x L b d W) (hl : L 5 = false) : State w1 N (upd x 5 W.heap.size) (upd L 5 true) b false (W.alloc (.cells blank 33)) := by
  refine ⟨h.made.var h.below.size _, h.below.alloc h.below.size _, fun hb j hj => ?_, fun h => by simp at h, fun h5 => ?_⟩
  · rw [upd_other _ _ _ _ (by omega)]; exact h.built hb j hj
  · rw [upd_same]; exact Blk.new _ _ _
theorem State.build (h : State w1 N x L b d W) (hb : b = false) (hl : ∀ j, j < 5 → L j = true) : State w1 N x L true false W := by
  refine ⟨h.made, h.below, fun _ => hl, fun h => by simp at h, fun h5 => ?_⟩
  have hd : d = false := by
    cases hd : d
    · rfl
    · have := (h.put_ hd).1
      rw [hb] at this; cases this
  have := h.var h5
  rw [hd] at this
  exact this
theorem State.store (h : State w1 N x L true false W) (hl : L 5 = true) : State w1 N x L true true (((((((((W.setCell ⟨x 5, 0, none⟩ (.int .u64 0)).setCell ⟨x 5, 1, none⟩ (.int .u64 0)).setCell ⟨x 5, 2, none⟩ (.slice (some ⟨x 0, 0, none⟩) (N 0) (N 0))).setCell ⟨x 5, 3, none⟩ (.slice (some ⟨x 1, 0, none⟩) (N 1) (N 1))).setCell ⟨x 5, 4, none⟩ (.int .u64 0)).setCell ⟨x 5, 5, none⟩ (.int .u64 0)).setCell ⟨x 5, 6, none⟩ (.slice (some ⟨x 2, 0, none⟩) (N 2) (N 2))).setCell ⟨x 5, 7, none⟩ (.slice (some ⟨x 3, 0, none⟩) (N 3) (N 3))).setCell ⟨x 5, 8, none⟩ (.slice (some ⟨x 4, 0, none⟩) (N 4) (N 4))) := by
  have h5 := h.made.old hl
  have hv : Blk W (x 5) 33 blank := h.var hl
  refine ⟨(((((((((h.made.stored hl 0 (.int .u64 0)).stored hl 1 (.int .u64 0)).stored hl 2 (.slice (some ⟨x 0, 0, none⟩) (N 0) (N 0))).stored hl 3 (.slice (some ⟨x 1, 0, none⟩) (N 1) (N 1))).stored hl 4 (.int .u64 0)).stored hl 5 (.int .u64 0)).stored hl 6 (.slice (some ⟨x 2, 0, none⟩) (N 2) (N 2))).stored hl 7 (.slice (some ⟨x 3, 0, none⟩) (N 3) (N 3))).stored hl 8 (.slice (some ⟨x 4, 0, none⟩) (N 4) (N 4))), (((((((((h.below.setCell (p := ⟨x 5, 0, none⟩) h5.1 (.int .u64 0)).setCell (p := ⟨x 5, 1, none⟩) h5.1 (.int .u64 0)).setCell (p := ⟨x 5, 2, none⟩) h5.1 (.slice (some ⟨x 0, 0, none⟩) (N 0) (N 0))).setCell (p := ⟨x 5, 3, none⟩) h5.1 (.slice (some ⟨x 1, 0, none⟩) (N 1) (N 1))).setCell (p := ⟨x 5, 4, none⟩) h5.1 (.int .u64 0)).setCell (p := ⟨x 5, 5, none⟩) h5.1 (.int .u64 0)).setCell (p := ⟨x 5, 6, none⟩) h5.1 (.slice (some ⟨x 2, 0, none⟩) (N 2) (N 2))).setCell (p := ⟨x 5, 7, none⟩) h5.1 (.slice (some ⟨x 3, 0, none⟩) (N 3) (N 3))).setCell (p := ⟨x 5, 8, none⟩) h5.1 (.slice (some ⟨x 4, 0, none⟩) (N 4) (N 4))), h.built, fun _ => ⟨rfl, hl⟩, fun _ => ?_⟩
  have hb := (((((((((hv.set_ 0 (.int .u64 0)).set_ 1 (.int .u64 0)).set_ 2 (.slice (some ⟨x 0, 0, none⟩) (N 0) (N 0))).set_ 3 (.slice (some ⟨x 1, 0, none⟩) (N 1) (N 1))).set_ 4 (.int .u64 0)).set_ 5 (.int .u64 0)).set_ 6 (.slice (some ⟨x 2, 0, none⟩) (N 2) (N 2))).set_ 7 (.slice (some ⟨x 3, 0, none⟩) (N 3) (N 3))).set_ 8 (.slice (some ⟨x 4, 0, none⟩) (N 4) (N 4)))
  simp only [blank, List.setIfInBounds_toArray, List.set_cons_zero, List.set_cons_succ] at hb
  exact hb
theorem State.d_false (h : State w1 N x L b d W) (hl : L 5 = false) : d = false := by
  cases hd : d
  · rfl
  · have := (h.put_ hd).2
    rw [hl] at this; cases this
/-- when all has come up, the words are held -/
theorem State.hold (h : State w1 N x L b true W) (hl : ∀ j, j < 6 → L j = true) (m : M) (he : m.e = 0 ∧ m.f = 0 ∧ m.h = 0 ∧ m.t = 0)
    (hm : m.li = List.replicate (N 0) 0 ∧ m.pi = List.replicate (N 1) 0 ∧ m.lk = List.replicate (N 2) 0 ∧ m.nx = List.replicate (N 3) 0 ∧ m.sl = List.replicate (N 4) 0) (hN : ∀ j, N j ≤ maxLen) :
    Hold W w1.heap.size (x 5) ⟨0, 0, ⟨some ⟨x 0, 0, none⟩, N 0, N 0⟩, ⟨some ⟨x 1, 0, none⟩, N 1, N 1⟩, 0, 0, ⟨some ⟨x 2, 0, none⟩, N 2, N 2⟩, ⟨some ⟨x 3, 0, none⟩, N 3, N 3⟩, ⟨some ⟨x 4, 0, none⟩, N 4, N 4⟩⟩ m := by
  have hz : ∀ n : Nat, u64s (List.replicate n 0) := fun n y hy => by rw [List.eq_of_mem_replicate hy]; exact ⟨Int.le_refl 0, by decide⟩
  have own : ∀ j, j < 5 → Own W w1.heap.size ⟨some ⟨x j, 0, none⟩, N j, N j⟩ (List.replicate (N j) 0) := fun j hj => by
    obtain ⟨h1, h2⟩ := h.made.row j hj (hl j (by omega))
    refine ⟨hz _, by simp, .inr ⟨x j, N j, zeros (N j), by simp, h1, h2, by simp, hN j, by simp [zeros], by simp [zeros]⟩⟩
  obtain ⟨e1, e2, e3, e4⟩ := he
  obtain ⟨q1, q2, q3, q4, q5⟩ := hm
  have hv := h.var (hl 5 (by omega))
  refine ⟨hv, (h.made.old (hl 5 (by omega))).1, e1.symm, e2.symm, e3.symm, e4.symm, ?_, ?_, ?_⟩
  · intro a
    by_cases ho : a < 1 ∨ 9 < a
    · rw [area_no _ _ ho]; exact u64s_nil
    · have one : u64s [0] := hz 1
      rcases nine ho with rfl | rfl | rfl | rfl | rfl | rfl | rfl | rfl | rfl
      · rw [area_1, e1]; exact one
      · rw [area_2, e2]; exact one
      · rw [area_3, q1]; exact hz _
      · rw [area_4, q2]; exact hz _
      · rw [area_5, e3]; exact one
      · rw [area_6, e4]; exact one
      · rw [area_7, q3]; exact hz _
      · rw [area_8, q4]; exact hz _
      · rw [area_9, q5]; exact hz _
  · intro a ha
    rcases ha with rfl | rfl | rfl | rfl | rfl
    · rw [area_3, q1]; exact own 0 (by omega)
    · rw [area_4, q2]; exact own 1 (by omega)
    · rw [area_7, q3]; exact own 2 (by omega)
    · rw [area_8, q4]; exact own 3 (by omega)
    · rw [area_9, q5]; exact own 4 (by omega)
  · have ap : ∀ i j, i < 6 → j < 6 → i ≠ j → x i ≠ x j := fun i j hi hj hne => h.made.apart i j hi hj hne (hl i hi) (hl j hj)
    intro a ha ad had
    have key : ∀ a, la a → ∃ j, j < 5 ∧ (R.sl ⟨0, 0, ⟨some ⟨x 0, 0, none⟩, N 0, N 0⟩, ⟨some ⟨x 1, 0, none⟩, N 1, N 1⟩, 0, 0, ⟨some ⟨x 2, 0, none⟩, N 2, N 2⟩, ⟨some ⟨x 3, 0, none⟩, N 3, N 3⟩, ⟨some ⟨x 4, 0, none⟩, N 4, N 4⟩⟩ a).A = some ⟨x j, 0, none⟩ ∧ (a = 3 ∧ j = 0 ∨ a = 4 ∧ j = 1 ∨ a = 7 ∧ j = 2 ∨ a = 8 ∧ j = 3 ∨ a = 9 ∧ j = 4) := fun a ha => by
      rcases ha with rfl | rfl | rfl | rfl | rfl
      · exact ⟨0, by omega, rfl, by omega⟩
      · exact ⟨1, by omega, rfl, by omega⟩
      · exact ⟨2, by omega, rfl, by omega⟩
      · exact ⟨3, by omega, rfl, by omega⟩
      · exact ⟨4, by omega, rfl, by omega⟩
    obtain ⟨j, hj, hA, hja⟩ := key a ha
    rw [hA] at had
    injection had with had
    subst had
    refine ⟨ap j 5 (by omega) (by omega) (by omega), fun c hc hne ad' had' => ?_⟩
    obtain ⟨j', hj', hA', hja'⟩ := key c hc
    rw [hA'] at had'
    injection had' with had'
    subst had'
    exact ap j' j (by omega) (by omega) (by omega)
end
end Go.Proofs.Ytffppdcpiieapaa.Memc
