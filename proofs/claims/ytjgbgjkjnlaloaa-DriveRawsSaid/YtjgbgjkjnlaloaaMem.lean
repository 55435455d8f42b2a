/- The shared words as plain mathematics: a record of nine areas, an access to it, and when a value of the program reads as such words. No statement of the seed is proved here. -/
import Derived.Below
import Derived.Laws.OwnMore
import Derived.Laws.AppendOwn
import Derived.Deep.Draws
import Derived.Lib.Hide
namespace Go.Proofs.Ytjgbgjkjnlaloaa.Memc
open Go.RowKit
set_option linter.unusedVariables false
set_option maxRecDepth 100000

structure Sl where
  A : Option Addr
  n : Nat
  c : Nat

/-- all shared words -/
structure M where
  e : Int
  f : Int
  li : List Int
  pi : List Int
  h : Int
  t : Int
  lk : List Int
  nx : List Int
  sl : List Int

def M.area (m : M) (a : Int) : List Int :=
  if a = 1 then [m.e] else if a = 2 then [m.f] else if a = 3 then m.li else if a = 4 then m.pi else if a = 5 then [m.h] else
  if a = 6 then [m.t] else if a = 7 then m.lk else if a = 8 then m.nx else if a = 9 then m.sl else []
def M.put (m : M) (a : Int) (l : List Int) : M :=
  if a = 1 then { m with e := l.headD 0 } else if a = 2 then { m with f := l.headD 0 } else if a = 3 then { m with li := l } else
  if a = 4 then { m with pi := l } else if a = 5 then { m with h := l.headD 0 } else if a = 6 then { m with t := l.headD 0 } else
  if a = 7 then { m with lk := l } else if a = 8 then { m with nx := l } else if a = 9 then { m with sl := l } else m

theorem area_1 (m : M) : m.area 1 = [m.e] := rfl
theorem area_2 (m : M) : m.area 2 = [m.f] := rfl
theorem area_3 (m : M) : m.area 3 = m.li := rfl
theorem area_4 (m : M) : m.area 4 = m.pi := rfl
theorem area_5 (m : M) : m.area 5 = [m.h] := rfl
theorem area_6 (m : M) : m.area 6 = [m.t] := rfl
theorem area_7 (m : M) : m.area 7 = m.lk := rfl
theorem area_8 (m : M) : m.area 8 = m.nx := rfl
theorem area_9 (m : M) : m.area 9 = m.sl := rfl
theorem area_no (m : M) (a : Int) (h : a < 1 ∨ 9 < a) : m.area a = [] := by
  unfold M.area
  rw [if_neg (by omega), if_neg (by omega), if_neg (by omega), if_neg (by omega), if_neg (by omega), if_neg (by omega), if_neg (by omega), if_neg (by omega), if_neg (by omega)]

/-- what one of the nine areas is -/
theorem nine {a : Int} (h : ¬ (a < 1 ∨ 9 < a)) : a = 1 ∨ a = 2 ∨ a = 3 ∨ a = 4 ∨ a = 5 ∨ a = 6 ∨ a = 7 ∨ a = 8 ∨ a = 9 := by omega

theorem area_put_same (m : M) (a : Int) (l : List Int) (hl : l.length = (m.area a).length) : (m.put a l).area a = l := by
  by_cases h : a < 1 ∨ 9 < a
  · rw [area_no _ _ h] at hl ⊢
    exact (List.eq_nil_of_length_eq_zero (by simpa using hl)).symm
  · rcases nine h with rfl | rfl | rfl | rfl | rfl | rfl | rfl | rfl | rfl <;> first | rfl | skip
    all_goals
      simp only [area_1, area_2, area_5, area_6, List.length_singleton] at hl
      obtain ⟨x, rfl⟩ := List.length_eq_one_iff.1 hl
      rfl
theorem area_put_other (m : M) (a b : Int) (l : List Int) (hab : a ≠ b) : (m.put a l).area b = m.area b := by
  by_cases h : a < 1 ∨ 9 < a
  · unfold M.put
    rw [if_neg (by omega), if_neg (by omega), if_neg (by omega), if_neg (by omega), if_neg (by omega), if_neg (by omega), if_neg (by omega), if_neg (by omega), if_neg (by omega)]
  · by_cases h' : b < 1 ∨ 9 < b
    · rw [area_no _ _ h', area_no _ _ h']
    · rcases nine h with rfl | rfl | rfl | rfl | rfl | rfl | rfl | rfl | rfl <;> rcases nine h' with rfl | rfl | rfl | rfl | rfl | rfl | rfl | rfl | rfl <;> first | rfl | exact absurd rfl hab
theorem M.ext_area {m m' : M} (h : ∀ a : Int, m.area a = m'.area a) : m = m' := by
  have h1 := h 1; have h2 := h 2; have h3 := h 3; have h4 := h 4; have h5 := h 5; have h6 := h 6; have h7 := h 7; have h8 := h 8; have h9 := h 9
  simp only [area_1, area_2, area_3, area_4, area_5, area_6, area_7, area_8, area_9, List.cons.injEq, and_true] at h1 h2 h3 h4 h5 h6 h7 h8 h9
  cases m; cases m'; simp_all

/-- an access: how, which area, where, what must be there, what is put there -/
structure Acc where
  d : Int
  ar : Int
  at_ : Int
  old : Int
  new : Int

def there (m : M) (a i : Int) : Prop := 0 ≤ i ∧ i < (m.area a).length
def get (m : M) (a i : Int) : Int := (m.area a).getD i.toNat 0
def set (m : M) (a i v : Int) : M := m.put a ((m.area a).set i.toNat v)
instance (m : M) (a i : Int) : Decidable (there m a i) := by unfold there; infer_instance

/-- an access: the words behind it, what was there, whether something was put there -/
def acc (m : M) (c : Acc) : M × Int × Bool :=
  if there m c.ar c.at_ ∧ 1 ≤ c.d ∧ c.d ≤ 3 then
    if c.d = 1 ∨ (c.d = 3 ∧ get m c.ar c.at_ ≠ c.old) then (m, get m c.ar c.at_, false)
    else (set m c.ar c.at_ c.new, get m c.ar c.at_, true)
  else (m, 0, false)

/-- numbers of 64 bits -/
def u64s (l : List Int) : Prop := ∀ x ∈ l, 0 ≤ x ∧ x ≤ 18446744073709551615
/-- all words are numbers of 64 bits -/
def M.ok (m : M) : Prop := ∀ a : Int, u64s (m.area a)
def Acc.ok (c : Acc) : Prop := (-9223372036854775808 ≤ c.d ∧ c.d ≤ 9223372036854775807) ∧ (-9223372036854775808 ≤ c.ar ∧ c.ar ≤ 9223372036854775807) ∧
  (-9223372036854775808 ≤ c.at_ ∧ c.at_ ≤ 9223372036854775807) ∧ (0 ≤ c.old ∧ c.old ≤ 18446744073709551615) ∧ (0 ≤ c.new ∧ c.new ≤ 18446744073709551615)

theorem u64s_nil : u64s [] := fun x h => by cases h
theorem u64s_set {l : List Int} {i : Nat} {v : Int} (h : u64s l) (hv : 0 ≤ v ∧ v ≤ 18446744073709551615) : u64s (l.set i v) := by
  intro x hx
  rcases List.mem_or_eq_of_mem_set hx with h1 | h1
  · exact h x h1
  · rw [h1]; exact hv
theorem u64s_getD {l : List Int} (h : u64s l) (i : Nat) : 0 ≤ l.getD i 0 ∧ l.getD i 0 ≤ 18446744073709551615 := by
  rw [List.getD_eq_getElem?_getD]
  rcases hx : l[i]? with _ | x
  · exact ⟨by decide, by decide⟩
  · exact h x (List.mem_of_getElem? hx)
theorem get_ok {m : M} (h : m.ok) (a i : Int) : 0 ≤ get m a i ∧ get m a i ≤ 18446744073709551615 := u64s_getD (h a) _
theorem area_set_same (m : M) (a i v : Int) : (set m a i v).area a = (m.area a).set i.toNat v := area_put_same _ _ _ (by simp)
theorem area_set_other (m : M) (a b i v : Int) (h : a ≠ b) : (set m a i v).area b = m.area b := area_put_other _ _ _ _ h
theorem set_ok {m : M} (h : m.ok) (a i v : Int) (hv : 0 ≤ v ∧ v ≤ 18446744073709551615) : (set m a i v).ok := by
  intro b
  by_cases hab : a = b
  · subst hab; rw [area_set_same]; exact u64s_set (h a) hv
  · rw [area_set_other _ _ _ _ _ hab]; exact h b
theorem acc_ok {m : M} (h : m.ok) {c : Acc} (hc : c.ok) : (acc m c).1.ok := by
  unfold acc
  split
  · split
    · exact h
    · exact set_ok h _ _ _ hc.2.2.2.2
  · exact h
theorem len_set (m : M) (a b i v : Int) : ((set m a i v).area b).length = (m.area b).length := by
  by_cases hab : a = b
  · subst hab; rw [area_set_same]; simp
  · rw [area_set_other _ _ _ _ _ hab]
theorem len_acc (m : M) (c : Acc) (b : Int) : (((acc m c).1).area b).length = (m.area b).length := by
  unfold acc
  split
  · split
    · rfl
    · exact len_set _ _ _ _ _
  · rfl
theorem acc_was (m : M) (hm : m.ok) (c : Acc) : 0 ≤ (acc m c).2.1 ∧ (acc m c).2.1 ≤ 18446744073709551615 := by
  unfold acc
  split
  · split
    · exact get_ok hm _ _
    · exact get_ok hm _ _
  · exact ⟨Int.le_refl 0, by show (0 : Int) ≤ 18446744073709551615; omega⟩

/-! ### values that read as lists of words -/
theorem block_of_add (a : Addr) (n : Nat) : (a.add n).block = a.block := by unfold Addr.add; split <;> rfl

/-- the slice (A, n, c) of 64-bit numbers reads as xs, in memory below B -/
def Rd (w : World) (B : Nat) (s : Sl) (xs : List Int) : Prop :=
  s.n = xs.length ∧ s.n ≤ s.c ∧ s.c ≤ maxLen ∧ u64s xs ∧ (s.A = none → s.c = 0) ∧
  (0 < s.n → ∃ ad, s.A = some ad ∧ ad.block < B ∧ ∀ j x, xs[j]? = some x → w.cell? (ad.add j) = some (.int .u64 x))

section
variable {w w' : World} {B B' : Nat} {s : Sl} {xs : List Int}
theorem Rd.keep (h : Rd w B s xs) (hk : ∀ p : Addr, p.block < B → w'.cell? p = w.cell? p) : Rd w' B s xs :=
  ⟨h.1, h.2.1, h.2.2.1, h.2.2.2.1, h.2.2.2.2.1, fun hn => by
    obtain ⟨ad, e, hb, hc⟩ := h.2.2.2.2.2 hn
    exact ⟨ad, e, hb, fun j u hu => (hk _ (by rw [block_of_add]; exact hb)).trans (hc j u hu)⟩⟩
theorem Rd.more (h : Rd w B s xs) (hB : B ≤ B') : Rd w B' s xs :=
  ⟨h.1, h.2.1, h.2.2.1, h.2.2.2.1, h.2.2.2.2.1, fun hn => by
    obtain ⟨ad, e, hb, hc⟩ := h.2.2.2.2.2 hn
    exact ⟨ad, e, by omega, hc⟩⟩
theorem Rd.below (h : Rd w B s xs) (hb : Below B w w') : Rd w' B s xs := h.keep fun _ hp => hb.cell hp
theorem Rd.drew (h : Rd w B s xs) : Rd w.drew B s xs := h
theorem Rd.drewN (h : Rd w B s xs) (k : Nat) : Rd (w.drewN k) B s xs := h
theorem Rd.alloc (h : Rd w B s xs) (hB : B ≤ w.heap.size) (o : Obj) : Rd (w.alloc o) B s xs := h.keep fun p hp => World.cell?_alloc_lt w o p (by omega)
theorem Rd.setCell (h : Rd w B s xs) {p : Addr} (hB : B ≤ p.block) (u : Value) : Rd (w.setCell p u) B s xs :=
  h.keep fun q hq => World.cell?_setCell_other w p q u (fun e => by subst e; omega)
theorem Rd.len (h : Rd w B s xs) : xs.length ≤ maxLen := by have := h.1; have := h.2.1; have := h.2.2.1; omega
theorem Rd.at_ {k : Nat} (h : Rd w B s xs) (hk : k < xs.length) : ∃ ad, s.A = some ad ∧ ad.block < B ∧ w.cell? (ad.add k) = some (.int .u64 (xs.getD k 0)) := by
  obtain ⟨ad, e, hb, hc⟩ := h.2.2.2.2.2 (by rw [h.1]; omega)
  exact ⟨ad, e, hb, hc k _ (by rw [List.getD_eq_getElem?_getD, List.getElem?_eq_getElem hk]; rfl)⟩
theorem Rd.nil (w : World) (B : Nat) (A : Option Addr) : Rd w B ⟨A, 0, 0⟩ [] := ⟨rfl, Nat.le_refl _, Nat.zero_le _, u64s_nil, fun _ => rfl, fun h => absurd h (by simp)⟩
theorem Rd.of_own {base : Nat} {t : TypeId} (h : w.ownsRow base t 1 (.slice s.A s.n s.c) xs.length (xs.map (Value.int .u64))) (hu : u64s xs) : Rd w w.heap.size s xs := by
  rcases h.2 with ⟨hv, hn⟩ | ⟨g, cap, cur, hv, hb, hg, hnc, hcm, hsz, htk⟩
  · injection hv with h1 h2 h3
    exact ⟨by omega, by omega, by rw [h3]; unfold maxLen; omega, hu, fun _ => h3, fun h => by omega⟩
  · injection hv with h1 h2 h3
    refine ⟨h2, by omega, by omega, hu, fun he => (by rw [h1] at he; cases he), fun hn => ⟨_, h1, ?_, fun j x hx => h.cells (g := g) (by rw [h1]; rfl) j _ ?_⟩⟩
    · rcases Nat.lt_or_ge g w.heap.size with hlt | hge
      · exact hlt
      · rw [Array.getElem?_eq_none hge] at hg; cases hg
    · rw [List.getElem?_map, hx]; rfl
end

/-- a value of the words: nine cells -/
structure R where
  e : Int
  f : Int
  L : Sl
  P : Sl
  h : Int
  t : Int
  K : Sl
  X : Sl
  S : Sl
def R.cells (r : R) : Array Value := #[.int .u64 r.e, .int .u64 r.f, .slice r.L.A r.L.n r.L.c, .slice r.P.A r.P.n r.P.c, .int .u64 r.h, .int .u64 r.t, .slice r.K.A r.K.n r.K.c, .slice r.X.A r.X.n r.X.c, .slice r.S.A r.S.n r.S.c]
def R.v (r : R) : Value := .agg r.cells
/-- the value r reads as the words m, in memory below B -/
def Rm (w : World) (B : Nat) (r : R) (m : M) : Prop :=
  r.e = m.e ∧ r.f = m.f ∧ r.h = m.h ∧ r.t = m.t ∧ m.ok ∧ Rd w B r.L m.li ∧ Rd w B r.P m.pi ∧ Rd w B r.K m.lk ∧ Rd w B r.X m.nx ∧ Rd w B r.S m.sl
section
variable {w w' : World} {B B' : Nat} {r : R} {m : M}
theorem Rm.keep (h : Rm w B r m) (hk : ∀ p : Addr, p.block < B → w'.cell? p = w.cell? p) : Rm w' B r m :=
  ⟨h.1, h.2.1, h.2.2.1, h.2.2.2.1, h.2.2.2.2.1, h.2.2.2.2.2.1.keep hk, h.2.2.2.2.2.2.1.keep hk, h.2.2.2.2.2.2.2.1.keep hk, h.2.2.2.2.2.2.2.2.1.keep hk, h.2.2.2.2.2.2.2.2.2.keep hk⟩
theorem Rm.more (h : Rm w B r m) (hB : B ≤ B') : Rm w B' r m :=
  ⟨h.1, h.2.1, h.2.2.1, h.2.2.2.1, h.2.2.2.2.1, h.2.2.2.2.2.1.more hB, h.2.2.2.2.2.2.1.more hB, h.2.2.2.2.2.2.2.1.more hB, h.2.2.2.2.2.2.2.2.1.more hB, h.2.2.2.2.2.2.2.2.2.more hB⟩
theorem Rm.below (h : Rm w B r m) (hb : Below B w w') : Rm w' B r m := h.keep fun _ hp => hb.cell hp
theorem Rm.drew (h : Rm w B r m) : Rm w.drew B r m := h
theorem Rm.drewN (h : Rm w B r m) (k : Nat) : Rm (w.drewN k) B r m := h
theorem Rm.alloc (h : Rm w B r m) (hB : B ≤ w.heap.size) (o : Obj) : Rm (w.alloc o) B r m := h.keep fun p hp => World.cell?_alloc_lt w o p (by omega)
theorem Rm.setCell (h : Rm w B r m) {p : Addr} (hB : B ≤ p.block) (u : Value) : Rm (w.setCell p u) B r m :=
  h.keep fun q hq => World.cell?_setCell_other w p q u (fun e => by subst e; omega)
end
end Go.Proofs.Ytjgbgjkjnlaloaa.Memc
