/- A part of the proof. -/
import Derived.Below
import Derived.Laws.OwnMore
import Derived.Laws.AppendOwn
import Derived.Deep.Draws
import Derived.Lib.Hide
import Derived.Laws.Rows
import Derived.Test.YtffppdcpiieapaaGreatRows
import Derived.WalkKit
import Derived.IntWalk
import Derived.Laws.BitsLemmas
import Derived.ProofKit
import Derived.OpenShut
import Derived.Deep.Fields
import Derived.Carry
import Derived.Deep.Slices
namespace Go.Proofs.YtffppdcpiieapaaGreat
open Go.RowKit
theorem sA {α : Type _} {l : List α} {i : Nat} {a : α} : l.toArray.setIfInBounds i a = (l.set i a).toArray := by simp only [List.setIfInBounds_toArray]
theorem sZ {α : Type _} {l : List α} {a b : α} : (a :: l).set 0 b = b :: l := rfl
theorem sC {α : Type _} {l : List α} {n : Nat} {a b : α} : (a :: l).set (n + 1) b = a :: l.set n b := rfl
theorem lh {p : Prop} (h : p) : Hid p := Lib.hid h
abbrev zF : Array Value := #[.int .i64 0, .int .u32 0, .int .i64 0, .int .i64 0, .int .i64 0, .int .u64 0, .int .u64 0, .int .u64 0, .int .u64 0, .int .i64 0, .slice none 0 0, .bool false, .int .u64 0, .int .u64 0, .int .i64 0, .int .u32 0, .int .i64 0, .int .i64 0, .int .i64 0, .int .i64 0, .int .u64 0, .int .u64 0, .int .i64 0, .int .u32 0]
abbrev zT : Array Value := #[.slice none 0 0, .slice none 0 0, .int .u64 0, .int .u64 0, .slice none 0 0, .slice none 0 0, .int .u64 0, .int .u64 0, .slice none 0 0, .slice none 0 0, .slice none 0 0]
abbrev zM : Array Value := #[.int .u64 0, .int .u64 0, .slice none 0 0, .slice none 0 0, .int .u64 0, .int .u64 0, .slice none 0 0, .slice none 0 0, .slice none 0 0]
end Go.Proofs.YtffppdcpiieapaaGreat
namespace Go.Proofs.YtffppdcpiieapaaGreat.Memc
open Go.RowKit
set_option linter.unusedVariables false
set_option maxRecDepth 100000

structure Sl where
 A : Option Addr
 n : Nat
 c : Nat

structure M where
 e : Int
 f : Int
 li : List Int
 pi : List Int
 h : Int
 t : Int
 lk : List Int
 nx : List Int
 sl : List Int

def M.area (m : M) (a : Int) : List Int :=
 if a = 1 then [m.e] else if a = 2 then [m.f] else if a = 3 then m.li else if a = 4 then m.pi else if a = 5 then [m.h] else
 if a = 6 then [m.t] else if a = 7 then m.lk else if a = 8 then m.nx else if a = 9 then m.sl else []
def M.put (m : M) (a : Int) (l : List Int) : M :=
 if a = 1 then { m with e := l.headD 0 } else if a = 2 then { m with f := l.headD 0 } else if a = 3 then { m with li := l } else
 if a = 4 then { m with pi := l } else if a = 5 then { m with h := l.headD 0 } else if a = 6 then { m with t := l.headD 0 } else
 if a = 7 then { m with lk := l } else if a = 8 then { m with nx := l } else if a = 9 then { m with sl := l } else m

theorem area_1 (m : M) : m.area 1 = [m.e] := rfl
theorem area_2 (m : M) : m.area 2 = [m.f] := rfl
theorem area_3 (m : M) : m.area 3 = m.li := rfl
theorem area_4 (m : M) : m.area 4 = m.pi := rfl
theorem area_5 (m : M) : m.area 5 = [m.h] := rfl
theorem area_6 (m : M) : m.area 6 = [m.t] := rfl
theorem area_7 (m : M) : m.area 7 = m.lk := rfl
theorem area_8 (m : M) : m.area 8 = m.nx := rfl
theorem area_9 (m : M) : m.area 9 = m.sl := rfl
theorem area_no (m : M) (a : Int) (h : a < 1 \/ 9 < a) : m.area a = [] := by
 unfold M.area
 rw [if_neg (by omega), if_neg (by omega), if_neg (by omega), if_neg (by omega), if_neg (by omega), if_neg (by omega), if_neg (by omega), if_neg (by omega), if_neg (by omega)]

theorem nine {a : Int} (h : ¬ (a < 1 \/ 9 < a)) : a = 1 \/ a = 2 \/ a = 3 \/ a = 4 \/ a = 5 \/ a = 6 \/ a = 7 \/ a = 8 \/ a = 9 := by omega

theorem area_put_same (m : M) (a : Int) (l : List Int) (hl : l.length = (m.area a).length) : (m.put a l).area a = l := by
 by_cases h : a < 1 \/ 9 < a
 · rw [area_no _ _ h] at hl ⊢
   exact (List.eq_nil_of_length_eq_zero (by simpa using hl)).symm
 · rcases nine h with rfl | rfl | rfl | rfl | rfl | rfl | rfl | rfl | rfl <;> first | rfl | skip
   all_goals
     simp only [area_1, area_2, area_5, area_6, List.length_singleton] at hl
     obtain ⟨x, rfl⟩ := List.length_eq_one_iff.1 hl
     rfl
theorem area_put_other (m : M) (a b : Int) (l : List Int) (hab : a ≠ b) : (m.put a l).area b = m.area b := by
 by_cases h : a < 1 \/ 9 < a
 · unfold M.put
   rw [if_neg (by omega), if_neg (by omega), if_neg (by omega), if_neg (by omega), if_neg (by omega), if_neg (by omega), if_neg (by omega), if_neg (by omega), if_neg (by omega)]
 · by_cases h' : b < 1 \/ 9 < b
   · rw [area_no _ _ h', area_no _ _ h']
   · rcases nine h with rfl | rfl | rfl | rfl | rfl | rfl | rfl | rfl | rfl <;> rcases nine h' with rfl | rfl | rfl | rfl | rfl | rfl | rfl | rfl | rfl <;> first | rfl | exact absurd rfl hab
structure Acc where
 d : Int
 ar : Int
 at_ : Int
 old : Int
 new : Int

def there (m : M) (a i : Int) : Prop := 0 <= i /\ i < (m.area a).length
def get (m : M) (a i : Int) : Int := (m.area a).getD i.toNat 0
def set (m : M) (a i v : Int) : M := m.put a ((m.area a).set i.toNat v)
instance (m : M) (a i : Int) : Decidable (there m a i) := by unfold there; infer_instance

def acc (m : M) (c : Acc) : M × Int × Bool :=
 if there m c.ar c.at_ /\ 1 <= c.d /\ c.d <= 3 then
   if c.d = 1 \/ (c.d = 3 /\ get m c.ar c.at_ ≠ c.old) then (m, get m c.ar c.at_, false)
   else (set m c.ar c.at_ c.new, get m c.ar c.at_, true)
 else (m, 0, false)

def u64s (l : List Int) : Prop := ∀ x ∈ l, 0 <= x /\ x <= 18446744073709551615
def M.ok (m : M) : Prop := ∀ a : Int, u64s (m.area a)
def Acc.ok (c : Acc) : Prop := (-9223372036854775808 <= c.d /\ c.d <= 9223372036854775807) /\ (-9223372036854775808 <= c.ar /\ c.ar <= 9223372036854775807) /\
 (-9223372036854775808 <= c.at_ /\ c.at_ <= 9223372036854775807) /\ (0 <= c.old /\ c.old <= 18446744073709551615) /\ (0 <= c.new /\ c.new <= 18446744073709551615)

theorem u64s_nil : u64s [] := fun x h => by cases h
theorem u64s_set {l : List Int} {i : Nat} {v : Int} (h : u64s l) (hv : 0 <= v /\ v <= 18446744073709551615) : u64s (l.set i v) := by
 intro x hx
 rcases List.mem_or_eq_of_mem_set hx with h1 | h1
 · exact h x h1
 · rw [h1]; exact hv
theorem u64s_getD {l : List Int} (h : u64s l) (i : Nat) : 0 <= l.getD i 0 /\ l.getD i 0 <= 18446744073709551615 := by
 rw [List.getD_eq_getElem?_getD]
 rcases hx : l[i]? with _ | x
 · exact ⟨by decide, by decide⟩
 · exact h x (List.mem_of_getElem? hx)
theorem get_ok {m : M} (h : m.ok) (a i : Int) : 0 <= get m a i /\ get m a i <= 18446744073709551615 := u64s_getD (h a) _
theorem area_set_same (m : M) (a i v : Int) : (set m a i v).area a = (m.area a).set i.toNat v := area_put_same _ _ _ (by simp)
theorem area_set_other (m : M) (a b i v : Int) (h : a ≠ b) : (set m a i v).area b = m.area b := area_put_other _ _ _ _ h
theorem set_ok {m : M} (h : m.ok) (a i v : Int) (hv : 0 <= v /\ v <= 18446744073709551615) : (set m a i v).ok := by
 intro b
 by_cases hab : a = b
 · subst hab; rw [area_set_same]; exact u64s_set (h a) hv
 · rw [area_set_other _ _ _ _ _ hab]; exact h b
theorem acc_ok {m : M} (h : m.ok) {c : Acc} (hc : c.ok) : (acc m c).1.ok := by
 unfold acc
 split
 · split
   · exact h
   · exact set_ok h _ _ _ hc.2.2.2.2
 · exact h
theorem len_set (m : M) (a b i v : Int) : ((set m a i v).area b).length = (m.area b).length := by
 by_cases hab : a = b
 · subst hab; rw [area_set_same]; simp
 · rw [area_set_other _ _ _ _ _ hab]
theorem len_acc (m : M) (c : Acc) (b : Int) : (((acc m c).1).area b).length = (m.area b).length := by
 unfold acc
 split
 · split
   · rfl
   · exact len_set _ _ _ _ _
 · rfl
theorem acc_was (m : M) (hm : m.ok) (c : Acc) : 0 <= (acc m c).2.1 /\ (acc m c).2.1 <= 18446744073709551615 := by
 unfold acc
 split
 · split
   · exact get_ok hm _ _
   · exact get_ok hm _ _
 · exact ⟨Int.le_refl 0, by show (0 : Int) <= 18446744073709551615; omega⟩

/-! ### values that read as lists of words -/
theorem block_of_add (a : Addr) (n : Nat) : (a.add n).block = a.block := by unfold Addr.add; split <;> rfl

def Rd (w : World) (B : Nat) (s : Sl) (xs : List Int) : Prop :=
 s.n = xs.length /\ s.n <= s.c /\ s.c <= maxLen /\ u64s xs /\ (s.A = none -> s.c = 0) /\
 (0 < s.n -> ∃ ad, s.A = some ad /\ ad.block < B /\ ∀ j x, xs[j]? = some x -> w.cell? (ad.add j) = some (.int .u64 x))

section
variable {w w' : World} {B B' : Nat} {s : Sl} {xs : List Int}
theorem Rd.keep (h : Rd w B s xs) (hk : ∀ p : Addr, p.block < B -> w'.cell? p = w.cell? p) : Rd w' B s xs :=
 ⟨h.1, h.2.1, h.2.2.1, h.2.2.2.1, h.2.2.2.2.1, fun hn => by
   obtain ⟨ad, e, hb, hc⟩ := h.2.2.2.2.2 hn
   exact ⟨ad, e, hb, fun j u hu => (hk _ (by rw [block_of_add]; exact hb)).trans (hc j u hu)⟩⟩
theorem Rd.more (h : Rd w B s xs) (hB : B <= B') : Rd w B' s xs :=
 ⟨h.1, h.2.1, h.2.2.1, h.2.2.2.1, h.2.2.2.2.1, fun hn => by
   obtain ⟨ad, e, hb, hc⟩ := h.2.2.2.2.2 hn
   exact ⟨ad, e, by omega, hc⟩⟩
theorem Rd.below (h : Rd w B s xs) (hb : Below B w w') : Rd w' B s xs := h.keep fun _ hp => hb.cell hp
theorem Rd.alloc (h : Rd w B s xs) (hB : B <= w.heap.size) (o : Obj) : Rd (w.alloc o) B s xs := h.keep fun p hp => World.cell?_alloc_lt w o p (by omega)
theorem Rd.at_ {k : Nat} (h : Rd w B s xs) (hk : k < xs.length) : ∃ ad, s.A = some ad /\ ad.block < B /\ w.cell? (ad.add k) = some (.int .u64 (xs.getD k 0)) := by
 obtain ⟨ad, e, hb, hc⟩ := h.2.2.2.2.2 (by rw [h.1]; omega)
 exact ⟨ad, e, hb, hc k _ (by rw [List.getD_eq_getElem?_getD, List.getElem?_eq_getElem hk]; rfl)⟩
theorem Rd.nil (w : World) (B : Nat) (A : Option Addr) : Rd w B ⟨A, 0, 0⟩ [] := ⟨rfl, Nat.le_refl _, Nat.zero_le _, u64s_nil, fun _ => rfl, fun h => absurd h (by simp)⟩
theorem Rd.of_own {base : Nat} {t : TypeId} (h : w.ownsRow base t 1 (.slice s.A s.n s.c) xs.length (xs.map (Value.int .u64))) (hu : u64s xs) : Rd w w.heap.size s xs := by
 rcases h.2 with ⟨hv, hn⟩ | ⟨g, cap, cur, hv, hb, hg, hnc, hcm, hsz, htk⟩
 · injection hv with h1 h2 h3
   exact ⟨by omega, by omega, by rw [h3]; unfold maxLen; omega, hu, fun _ => h3, fun h => by omega⟩
 · injection hv with h1 h2 h3
   refine ⟨h2, by omega, by omega, hu, fun he => (by rw [h1] at he; cases he), fun hn => ⟨_, h1, ?_, fun j x hx => h.cells (g := g) (by rw [h1]; rfl) j _ ?_⟩⟩
   · rcases Nat.lt_or_ge g w.heap.size with hlt | hge
     · exact hlt
     · rw [Array.getElem?_eq_none hge] at hg; cases hg
   · rw [List.getElem?_map, hx]; rfl
end

structure R where
 e : Int
 f : Int
 L : Sl
 P : Sl
 h : Int
 t : Int
 K : Sl
 X : Sl
 S : Sl
def R.cells (r : R) : Array Value := #[.int .u64 r.e, .int .u64 r.f, .slice r.L.A r.L.n r.L.c, .slice r.P.A r.P.n r.P.c, .int .u64 r.h, .int .u64 r.t, .slice r.K.A r.K.n r.K.c, .slice r.X.A r.X.n r.X.c, .slice r.S.A r.S.n r.S.c]
def R.v (r : R) : Value := .agg r.cells
def Rm (w : World) (B : Nat) (r : R) (m : M) : Prop :=
 r.e = m.e /\ r.f = m.f /\ r.h = m.h /\ r.t = m.t /\ m.ok /\ Rd w B r.L m.li /\ Rd w B r.P m.pi /\ Rd w B r.K m.lk /\ Rd w B r.X m.nx /\ Rd w B r.S m.sl
section
variable {w w' : World} {B B' : Nat} {r : R} {m : M}
theorem Rm.keep (h : Rm w B r m) (hk : ∀ p : Addr, p.block < B -> w'.cell? p = w.cell? p) : Rm w' B r m :=
 ⟨h.1, h.2.1, h.2.2.1, h.2.2.2.1, h.2.2.2.2.1, h.2.2.2.2.2.1.keep hk, h.2.2.2.2.2.2.1.keep hk, h.2.2.2.2.2.2.2.1.keep hk, h.2.2.2.2.2.2.2.2.1.keep hk, h.2.2.2.2.2.2.2.2.2.keep hk⟩
theorem Rm.more (h : Rm w B r m) (hB : B <= B') : Rm w B' r m :=
 ⟨h.1, h.2.1, h.2.2.1, h.2.2.2.1, h.2.2.2.2.1, h.2.2.2.2.2.1.more hB, h.2.2.2.2.2.2.1.more hB, h.2.2.2.2.2.2.2.1.more hB, h.2.2.2.2.2.2.2.2.1.more hB, h.2.2.2.2.2.2.2.2.2.more hB⟩
theorem Rm.below (h : Rm w B r m) (hb : Below B w w') : Rm w' B r m := h.keep fun _ hp => hb.cell hp
theorem Rm.alloc (h : Rm w B r m) (hB : B <= w.heap.size) (o : Obj) : Rm (w.alloc o) B r m := h.keep fun p hp => World.cell?_alloc_lt w o p (by omega)
theorem Rm.setCell (h : Rm w B r m) {p : Addr} (hB : B <= p.block) (u : Value) : Rm (w.setCell p u) B r m :=
 h.keep fun q hq => World.cell?_setCell_other w p q u (fun e => by subst e; omega)
end
end Go.Proofs.YtffppdcpiieapaaGreat.Memc

namespace Go.Proofs.YtffppdcpiieapaaGreat.Memc
open Go.RowKit
set_option linter.unusedVariables false
set_option maxRecDepth 100000

def Blk (w : World) (g : Nat) (t : TypeId) (cs : Array Value) : Prop := w.heap[g]? = some (.cells cs t (0, 0))
section
variable {w w' : World} {g : Nat} {t : TypeId} {cs : Array Value}
theorem Blk.moved (h : Blk w g t cs) (e : w'.heap[g]? = w.heap[g]?) : Blk w' g t cs := Eq.trans e h
theorem Blk.lt (h : Blk w g t cs) : g < w.heap.size := (Array.getElem?_eq_some_iff.1 h).1
theorem Blk.cell (h : Blk w g t cs) (i : Nat) : w.cell? ⟨g, i, none⟩ = cs[i]? := cell_of_row w g i cs t (0, 0) h
theorem Blk.frozen (h : Blk w g t cs) (i : Nat) : w.frozen? ⟨g, i, none⟩ = false := frozen_of_row w g i cs t h
theorem Blk.new (w : World) (t : TypeId) (cs : Array Value) : Blk (w.alloc (.cells cs t)) w.heap.size t cs := heap_alloc_new w _
theorem Blk.drew (h : Blk w g t cs) : Blk w.drew g t cs := h.moved rfl
theorem Blk.alloc (h : Blk w g t cs) (o : Obj) : Blk (w.alloc o) g t cs := h.moved (Below.heap_alloc w o g h.lt)
theorem Blk.far (h : Blk w g t cs) {p : Addr} (hp : g ≠ p.block) (u : Value) : Blk (w.setCell p u) g t cs := h.moved (Below.heap_setCell w p u g hp)
theorem Blk.below {B : Nat} (h : Blk w g t cs) (hb : Below B w w') (hg : g < B) : Blk w' g t cs := h.moved (hb.block g hg)
theorem Blk.grown {row : Option Nat} (h : Blk w g t cs) (hb : w.grownBy w' row) (hg : some g ≠ row) : Blk w' g t cs := h.moved (hb.block g h.lt hg)
theorem Blk.set_ (h : Blk w g t cs) (i : Nat) (u : Value) : Blk (w.setCell ⟨g, i, none⟩ u) g t (cs.setIfInBounds i u) := heap_setCell_same w g i cs t u h
end
theorem blk_at {w : World} {g : Nat} {t : TypeId} {cs : Array Value} (hg : w.heap.size = g) : Blk (w.alloc (.cells cs t)) g t cs := by
 subst hg; exact Blk.new w t cs

def Own (w : World) (base : Nat) (s : Sl) (xs : List Int) : Prop :=
 u64s xs /\ w.ownsRow base 30 1 (.slice s.A s.n s.c) xs.length (xs.map (Value.int .u64))
section
variable {w w' : World} {base : Nat} {s : Sl} {xs : List Int}
theorem Own.n_ (h : Own w base s xs) : s.n = xs.length /\ s.n <= s.c /\ s.c <= maxLen /\ (s.A = none -> s.c = 0) := by
 rcases h.2.2 with ⟨hv, hn⟩ | ⟨g, cap, cur, hv, hb, hg, hnc, hcm, hsz, htk⟩
 · injection hv with h1 h2 h3
   exact ⟨by omega, by omega, by rw [h3]; exact Nat.zero_le _, fun _ => h3⟩
 · injection hv with h1 h2 h3
   exact ⟨h2, by omega, by omega, fun he => (by rw [h1] at he; cases he)⟩
theorem Own.lt (h : Own w base s xs) {ad : Addr} (ha : s.A = some ad) : base <= ad.block /\ ad.block < w.heap.size :=
 h.2.lt ad.block (by rw [ha]; rfl)
theorem Own.alloc (h : Own w base s xs) (o : Obj) : Own (w.alloc o) base s xs := ⟨h.1, h.2.alloc o⟩
theorem Own.kept (h : Own w base s xs) (hk : ∀ ad, s.A = some ad -> w'.heap[ad.block]? = w.heap[ad.block]?) : Own w' base s xs := by
 refine ⟨h.1, h.2.1, ?_⟩
 rcases h.2.2 with h1 | ⟨g, cap, cur, hv, hb, hg, hr⟩
 · exact .inl h1
 · refine .inr ⟨g, cap, cur, hv, hb, ?_, hr⟩
   injection hv with h1
   exact (hk _ h1).trans hg
theorem Own.below {B : Nat} (h : Own w base s xs) (hb : Below B w w') (hB : w.heap.size <= B) : Own w' base s xs :=
 h.kept fun ad ha => hb.block _ (by have := (h.lt ha).2; omega)
theorem Own.far (h : Own w base s xs) {p : Addr} (hp : ∀ ad, s.A = some ad -> ad.block ≠ p.block) (u : Value) : Own (w.setCell p u) base s xs :=
 h.kept fun ad ha => Below.heap_setCell w p u _ (hp ad ha)
theorem Own.rd (h : Own w base s xs) : Rd w w.heap.size s xs := Rd.of_own h.2 h.1
theorem Own.at_ {k : Nat} (h : Own w base s xs) (hk : k < xs.length) : ∃ g : Nat, s.A = some ⟨g, 0, none⟩ /\ base <= g /\ g < w.heap.size /\ w.cell? ⟨g, k, none⟩ = some (.int .u64 (xs.getD k 0)) /\ w.frozen? ⟨g, k, none⟩ = false := by
 rcases h.2.2 with ⟨hv, hn⟩ | ⟨g, cap, cur, hv, hb, hg, hnc, hcm, hsz, htk⟩
 · omega
 · injection hv with h1 h2 h3
   refine ⟨g, h1, hb, (h.lt h1).2, ?_, frozen_of_row w g k cur _ hg⟩
   have ho := h.2
   rw [h1, h2, h3] at ho
   rw [World.ownsRow.cellAt ho k (by omega), List.getElem?_map, List.getD_eq_getElem?_getD, List.getElem?_eq_getElem hk]; rfl
theorem Own.set_ {k g : Nat} (h : Own w base s xs) (hg : s.A = some ⟨g, 0, none⟩) (v : Int) (hv : 0 <= v /\ v <= 18446744073709551615) : Own (w.setCell ⟨g, k, none⟩ (.int .u64 v)) base s (xs.set k v) := by
 have ho := h.2
 have hn := h.n_
 rw [hg, hn.1] at ho
 have := (World.ownsRow.stored ho k (.int .u64 v)).1
 refine ⟨u64s_set h.1 hv, ?_⟩
 rw [hg, hn.1, List.map_set, List.length_set]
 exact this
end

theorem Own.weaken {w : World} {base base' : Nat} {s : Sl} {xs : List Int} (h : Own w base s xs) (hb : base' <= base) : Own w base' s xs := by
 refine ⟨h.1, h.2.1, ?_⟩
 rcases h.2.2 with h1 | ⟨g, cap, cur, hv, hg, hr⟩
 · exact .inl h1
 · exact .inr ⟨g, cap, cur, hv, Nat.le_trans hb hg, hr⟩

theorem Own.step {W : World} {base b i : Nat} {s : Sl} {xs : List Int} (h : Own W base s xs) (hb : b < base) (v : Value) : Own (W.setCell ⟨b, i, none⟩ v) base s xs :=
 h.far (p := ⟨b, i, none⟩) (fun ad ha => by have := (h.lt ha).1; show ad.block ≠ b; omega) v
theorem size_set (w : World) (p : Addr) (v : Value) : (w.setCell p v).heap.size = w.heap.size := by simp [World.setCell]

theorem Own.nine {W : World} {base b : Nat} {s : Sl} {xs : List Int} (h : Own W base s xs) (hb : b < base) (v0 v1 v2 v3 v4 v5 v6 v7 v8 : Value) : Own (((((((((W.setCell ⟨b, 0, none⟩ v0).setCell ⟨b, 1, none⟩ v1).setCell ⟨b, 2, none⟩ v2).setCell ⟨b, 3, none⟩ v3).setCell ⟨b, 4, none⟩ v4).setCell ⟨b, 5, none⟩ v5).setCell ⟨b, 6, none⟩ v6).setCell ⟨b, 7, none⟩ v7).setCell ⟨b, 8, none⟩ v8) base s xs :=
 (((((((((h.step (b := b) (i := 0) hb v0).step (b := b) (i := 1) hb v1).step (b := b) (i := 2) hb v2).step (b := b) (i := 3) hb v3).step (b := b) (i := 4) hb v4).step (b := b) (i := 5) hb v5).step (b := b) (i := 6) hb v6).step (b := b) (i := 7) hb v7).step (b := b) (i := 8) hb v8)
theorem below_nine {B b : Nat} {w W : World} (h : Below B w W) (hb : B <= b) (v0 v1 v2 v3 v4 v5 v6 v7 v8 : Value) : Below B w (((((((((W.setCell ⟨b, 0, none⟩ v0).setCell ⟨b, 1, none⟩ v1).setCell ⟨b, 2, none⟩ v2).setCell ⟨b, 3, none⟩ v3).setCell ⟨b, 4, none⟩ v4).setCell ⟨b, 5, none⟩ v5).setCell ⟨b, 6, none⟩ v6).setCell ⟨b, 7, none⟩ v7).setCell ⟨b, 8, none⟩ v8) :=
 (((((((((h.setCell (p := ⟨b, 0, none⟩) hb v0).setCell (p := ⟨b, 1, none⟩) hb v1).setCell (p := ⟨b, 2, none⟩) hb v2).setCell (p := ⟨b, 3, none⟩) hb v3).setCell (p := ⟨b, 4, none⟩) hb v4).setCell (p := ⟨b, 5, none⟩) hb v5).setCell (p := ⟨b, 6, none⟩) hb v6).setCell (p := ⟨b, 7, none⟩) hb v7).setCell (p := ⟨b, 8, none⟩) hb v8)

def la (a : Int) : Prop := a = 3 \/ a = 4 \/ a = 7 \/ a = 8 \/ a = 9
def R.sl (r : R) (a : Int) : Sl := if a = 3 then r.L else if a = 4 then r.P else if a = 7 then r.K else if a = 8 then r.X else r.S

def Hold (w : World) (base g : Nat) (r : R) (m : M) : Prop :=
 Blk w g 33 r.cells /\ base <= g /\ r.e = m.e /\ r.f = m.f /\ r.h = m.h /\ r.t = m.t /\ m.ok /\
   (∀ a, la a -> Own w base (r.sl a) (m.area a)) /\
   (∀ a, la a -> ∀ ad, (r.sl a).A = some ad -> ad.block ≠ g /\ ∀ b, la b -> b ≠ a -> ∀ ad', (r.sl b).A = some ad' -> ad'.block ≠ ad.block)

def Kin (w : World) (k : Nat) : Prop := ∃ t cs, Blk w k t cs /\ (t = 33 \/ t = 30)
theorem Kin.ne_ {w : World} {k b : Nat} {t : TypeId} {cs : Array Value} (h : Kin w k) (hb : Blk w b t cs) (h1 : t ≠ 33) (h2 : t ≠ 30) : b ≠ k := by
 rintro rfl
 obtain ⟨t', cs', hk, ht⟩ := h
 unfold Blk at hb hk
 rw [hb] at hk
 injection hk with hk
 injection hk with _ hk
 rcases ht with ht | ht
 · exact h1 (hk.trans ht)
 · exact h2 (hk.trans ht)
theorem Own.kin {w : World} {base : Nat} {s : Sl} {xs : List Int} (h : Own w base s xs) {ad : Addr} (ha : s.A = some ad) : Kin w ad.block := by
 rcases h.2.2 with ⟨hv, _⟩ | ⟨g, cap, cur, hv, hb, hg, _⟩
 · injection hv with h1
   rw [h1] at ha; cases ha
 · injection hv with h1
   rw [h1] at ha
   injection ha with ha
   subst ha
   exact ⟨_, _, hg, .inr rfl⟩

def Lens (w : World) (base g : Nat) (r : R) (m : M) (a i : Int) : Option Addr -> Prop
 | none => ¬ there m a i
 | some p => there m a i /\ base <= p.block /\ p.block < w.heap.size /\ w.cell? p = some (.int .u64 (get m a i)) /\ w.frozen? p = false /\ Kin w p.block /\
     ∀ w' : World, Hold w' base g r m -> ∀ v : Int, 0 <= v /\ v <= 18446744073709551615 -> ∃ r', Hold (w'.setCell p (.int .u64 v)) base g r' (set m a i v)

section
variable {w w' : World} {base g : Nat} {r : R} {m : M}
theorem Hold.kept (h : Hold w base g r m) (hk : ∀ k, base <= k -> k < w.heap.size -> w'.heap[k]? = w.heap[k]?) : Hold w' base g r m := by
 obtain ⟨hb, hg, h1, h2, h3, h4, hm, ho, ha⟩ := h
 exact ⟨(hk g hg hb.lt).trans hb, hg, h1, h2, h3, h4, hm, fun a hl => (ho a hl).kept fun ad had => hk _ ((ho a hl).lt had).1 ((ho a hl).lt had).2, ha⟩
theorem Hold.alloc (h : Hold w base g r m) (o : Obj) : Hold (w.alloc o) base g r m := h.kept fun k _ hk => Below.heap_alloc w o k hk
theorem Hold.drew (h : Hold w base g r m) : Hold w.drew base g r m := h
theorem la_ne {a : Int} (h : la a) : a ≠ 1 /\ a ≠ 2 /\ a ≠ 5 /\ a ≠ 6 := by unfold la at h; omega
theorem set_list (m : M) (a i v : Int) (h : la a) : (set m a i v).e = m.e /\ (set m a i v).f = m.f /\ (set m a i v).h = m.h /\ (set m a i v).t = m.t := by
 have hh := la_ne h
 have e1 := area_set_other m a 1 i v hh.1
 have e2 := area_set_other m a 2 i v hh.2.1
 have e5 := area_set_other m a 5 i v hh.2.2.1
 have e6 := area_set_other m a 6 i v hh.2.2.2
 simp only [area_1, area_2, area_5, area_6, List.cons.injEq, and_true] at e1 e2 e5 e6
 exact ⟨e1, e2, e5, e6⟩

theorem lens_list (h : Hold w base g r m) {a : Int} (hl : la a) {k : Nat} (hk : k < (m.area a).length) :
   ∃ b : Nat, (r.sl a).A = some ⟨b, 0, none⟩ /\ Lens w base g r m a k (some ⟨b, k, none⟩) := by
 obtain ⟨hb, hg, h1, h2, h3, h4, hm, ho, ha⟩ := h
 obtain ⟨b, hA, hlo, hhi, hc, hf⟩ := (ho a hl).at_ hk
 refine ⟨b, hA, ⟨Int.natCast_nonneg k, by omega⟩, hlo, hhi, by simpa [get] using hc, hf, (show Kin w b from (ho a hl).kin (ad := ⟨b, 0, none⟩) hA), ?_⟩
 intro w' h' v hv
 obtain ⟨hb', _, _, _, _, _, _, ho', _⟩ := h'
 have hs := set_list m a k v hl
 refine ⟨r, hb'.far (p := ⟨b, k, none⟩) (fun e => (ha a hl _ hA).1 e.symm) _, hg, by rw [hs.1]; exact h1, by rw [hs.2.1]; exact h2, by rw [hs.2.2.1]; exact h3, by rw [hs.2.2.2]; exact h4, set_ok hm _ _ _ hv, ?_, ha⟩
 intro c hc'
 by_cases hca : a = c
 · subst hca
   rw [area_set_same]
   exact (ho' a hc').set_ (k := k) hA v hv
 · rw [area_set_other _ _ _ _ _ hca]
   exact (ho' c hc').far (p := ⟨b, k, none⟩) (fun ad had => (ha a hl _ hA).2 c hc' (fun e => hca e.symm) ad had) _

theorem lens_1 (h : Hold w base g r m) : Lens w base g r m 1 0 (some ⟨g, 0, none⟩) := by
 have h0 := h
 obtain ⟨hb, hg, h1, h2, h3, h4, hm, ho, ha⟩ := h
 refine ⟨⟨Int.le_refl 0, by show (0 : Int) < 1; omega⟩, hg, hb.lt, ?_, hb.frozen 0, ⟨_, _, hb, .inl rfl⟩, ?_⟩
 · rw [hb.cell 0]; show some (Value.int .u64 r.e) = some (.int .u64 m.e); rw [h1]
 · intro w' h' v hv
   obtain ⟨hb', _, _, _, _, _, _, ho', _⟩ := h'
   refine ⟨{ r with e := v }, hb'.set_ 0 _, hg, rfl, h2, h3, h4, set_ok hm _ _ _ hv, fun a hl => ?_, ha⟩
   rw [area_set_other _ _ _ _ _ (la_ne hl).1.symm]
   exact (ho' a hl).far (p := ⟨g, 0, none⟩) (fun ad had => (ha a hl _ had).1) _
theorem lens_2 (h : Hold w base g r m) : Lens w base g r m 2 0 (some ⟨g, 1, none⟩) := by
 obtain ⟨hb, hg, h1, h2, h3, h4, hm, ho, ha⟩ := h
 refine ⟨⟨Int.le_refl 0, by show (0 : Int) < 1; omega⟩, hg, hb.lt, ?_, hb.frozen 1, ⟨_, _, hb, .inl rfl⟩, ?_⟩
 · rw [hb.cell 1]; show some (Value.int .u64 r.f) = some (.int .u64 m.f); rw [h2]
 · intro w' h' v hv
   obtain ⟨hb', _, _, _, _, _, _, ho', _⟩ := h'
   refine ⟨{ r with f := v }, hb'.set_ 1 _, hg, h1, rfl, h3, h4, set_ok hm _ _ _ hv, fun a hl => ?_, ha⟩
   rw [area_set_other _ _ _ _ _ (la_ne hl).2.1.symm]
   exact (ho' a hl).far (p := ⟨g, 1, none⟩) (fun ad had => (ha a hl _ had).1) _
theorem lens_5 (h : Hold w base g r m) : Lens w base g r m 5 0 (some ⟨g, 4, none⟩) := by
 obtain ⟨hb, hg, h1, h2, h3, h4, hm, ho, ha⟩ := h
 refine ⟨⟨Int.le_refl 0, by show (0 : Int) < 1; omega⟩, hg, hb.lt, ?_, hb.frozen 4, ⟨_, _, hb, .inl rfl⟩, ?_⟩
 · rw [hb.cell 4]; show some (Value.int .u64 r.h) = some (.int .u64 m.h); rw [h3]
 · intro w' h' v hv
   obtain ⟨hb', _, _, _, _, _, _, ho', _⟩ := h'
   refine ⟨{ r with h := v }, hb'.set_ 4 _, hg, h1, h2, rfl, h4, set_ok hm _ _ _ hv, fun a hl => ?_, ha⟩
   rw [area_set_other _ _ _ _ _ (la_ne hl).2.2.1.symm]
   exact (ho' a hl).far (p := ⟨g, 4, none⟩) (fun ad had => (ha a hl _ had).1) _
theorem lens_6 (h : Hold w base g r m) : Lens w base g r m 6 0 (some ⟨g, 5, none⟩) := by
 obtain ⟨hb, hg, h1, h2, h3, h4, hm, ho, ha⟩ := h
 refine ⟨⟨Int.le_refl 0, by show (0 : Int) < 1; omega⟩, hg, hb.lt, ?_, hb.frozen 5, ⟨_, _, hb, .inl rfl⟩, ?_⟩
 · rw [hb.cell 5]; show some (Value.int .u64 r.t) = some (.int .u64 m.t); rw [h4]
 · intro w' h' v hv
   obtain ⟨hb', _, _, _, _, _, _, ho', _⟩ := h'
   refine ⟨{ r with t := v }, hb'.set_ 5 _, hg, h1, h2, h3, rfl, set_ok hm _ _ _ hv, fun a hl => ?_, ha⟩
   rw [area_set_other _ _ _ _ _ (la_ne hl).2.2.2.symm]
   exact (ho' a hl).far (p := ⟨g, 5, none⟩) (fun ad had => (ha a hl _ had).1) _
end

def Five (w : World) (base : Nat) (r : R) (m : M) : Prop :=
 (∀ a, la a -> Own w base (r.sl a) (m.area a)) /\ ∀ a, la a -> ∀ b, la b -> a ≠ b -> ∀ ad, (r.sl a).A = some ad -> ∀ ad', (r.sl b).A = some ad' -> ad.block ≠ ad'.block

theorem blk_nine {W : World} {b : Nat} {r : R} {d0 d1 d2 d3 d4 d5 d6 d7 d8 : Value} (hb : Blk W b 33 #[d0, d1, d2, d3, d4, d5, d6, d7, d8]) : Blk (((((((((W.setCell ⟨b, 0, none⟩ (.int .u64 r.e)).setCell ⟨b, 1, none⟩ (.int .u64 r.f)).setCell ⟨b, 2, none⟩ (.slice r.L.A r.L.n r.L.c)).setCell ⟨b, 3, none⟩ (.slice r.P.A r.P.n r.P.c)).setCell ⟨b, 4, none⟩ (.int .u64 r.h)).setCell ⟨b, 5, none⟩ (.int .u64 r.t)).setCell ⟨b, 6, none⟩ (.slice r.K.A r.K.n r.K.c)).setCell ⟨b, 7, none⟩ (.slice r.X.A r.X.n r.X.c)).setCell ⟨b, 8, none⟩ (.slice r.S.A r.S.n r.S.c)) b 33 r.cells := by
 have h := (((((((((hb.set_ 0 (.int .u64 r.e)).set_ 1 (.int .u64 r.f)).set_ 2 (.slice r.L.A r.L.n r.L.c)).set_ 3 (.slice r.P.A r.P.n r.P.c)).set_ 4 (.int .u64 r.h)).set_ 5 (.int .u64 r.t)).set_ 6 (.slice r.K.A r.K.n r.K.c)).set_ 7 (.slice r.X.A r.X.n r.X.c)).set_ 8 (.slice r.S.A r.S.n r.S.c))
 simp only [sA, sZ, sC] at h
 exact h
theorem blk_nine_far {W : World} {b g : Nat} {r : R} {t : TypeId} {cs : Array Value} (hf : Blk W g t cs) (hne : g ≠ b) : Blk (((((((((W.setCell ⟨b, 0, none⟩ (.int .u64 r.e)).setCell ⟨b, 1, none⟩ (.int .u64 r.f)).setCell ⟨b, 2, none⟩ (.slice r.L.A r.L.n r.L.c)).setCell ⟨b, 3, none⟩ (.slice r.P.A r.P.n r.P.c)).setCell ⟨b, 4, none⟩ (.int .u64 r.h)).setCell ⟨b, 5, none⟩ (.int .u64 r.t)).setCell ⟨b, 6, none⟩ (.slice r.K.A r.K.n r.K.c)).setCell ⟨b, 7, none⟩ (.slice r.X.A r.X.n r.X.c)).setCell ⟨b, 8, none⟩ (.slice r.S.A r.S.n r.S.c)) g t cs :=
 (((((((((hf.far (p := ⟨b, 0, none⟩) hne (.int .u64 r.e)).far (p := ⟨b, 1, none⟩) hne (.int .u64 r.f)).far (p := ⟨b, 2, none⟩) hne (.slice r.L.A r.L.n r.L.c)).far (p := ⟨b, 3, none⟩) hne (.slice r.P.A r.P.n r.P.c)).far (p := ⟨b, 4, none⟩) hne (.int .u64 r.h)).far (p := ⟨b, 5, none⟩) hne (.int .u64 r.t)).far (p := ⟨b, 6, none⟩) hne (.slice r.K.A r.K.n r.K.c)).far (p := ⟨b, 7, none⟩) hne (.slice r.X.A r.X.n r.X.c)).far (p := ⟨b, 8, none⟩) hne (.slice r.S.A r.S.n r.S.c))
theorem hold_nine {W : World} {base base5 b : Nat} {r : R} {m : M} {d0 d1 d2 d3 d4 d5 d6 d7 d8 : Value} (hb : Blk W b 33 #[d0, d1, d2, d3, d4, d5, d6, d7, d8])
   (hs : r.e = m.e /\ r.f = m.f /\ r.h = m.h /\ r.t = m.t) (hm : m.ok) (h5 : Five W base5 r m) (hbb : base <= b) (hb5 : b < base5) : Hold (((((((((W.setCell ⟨b, 0, none⟩ (.int .u64 r.e)).setCell ⟨b, 1, none⟩ (.int .u64 r.f)).setCell ⟨b, 2, none⟩ (.slice r.L.A r.L.n r.L.c)).setCell ⟨b, 3, none⟩ (.slice r.P.A r.P.n r.P.c)).setCell ⟨b, 4, none⟩ (.int .u64 r.h)).setCell ⟨b, 5, none⟩ (.int .u64 r.t)).setCell ⟨b, 6, none⟩ (.slice r.K.A r.K.n r.K.c)).setCell ⟨b, 7, none⟩ (.slice r.X.A r.X.n r.X.c)).setCell ⟨b, 8, none⟩ (.slice r.S.A r.S.n r.S.c)) base b r m := by
 refine ⟨blk_nine hb, hbb, hs.1, hs.2.1, hs.2.2.1, hs.2.2.2, hm, fun a hl => ?_, fun a hl ad had => ⟨?_, fun c hl' hne ad' had' => h5.2 c hl' a hl hne ad' had' ad had⟩⟩
 · exact ((h5.1 a hl).nine hb5 _ _ _ _ _ _ _ _ _).weaken (by omega)
 · have := ((h5.1 a hl).lt had).1; omega
theorem Hold.rm {w : World} {base g : Nat} {r : R} {m : M} (h : Hold w base g r m) : Rm w w.heap.size r m := by
 obtain ⟨hb, hg, h1, h2, h3, h4, hm, ho, ha⟩ := h
 exact ⟨h1, h2, h3, h4, hm, (ho 3 (.inl rfl)).rd, (ho 4 (.inr (.inl rfl))).rd, (ho 7 (.inr (.inr (.inl rfl)))).rd, (ho 8 (.inr (.inr (.inr (.inl rfl))))).rd, (ho 9 (.inr (.inr (.inr (.inr rfl))))).rd⟩
theorem Five.rm {w : World} {base : Nat} {r : R} {m : M} (h : Five w base r m) (hs : r.e = m.e /\ r.f = m.f /\ r.h = m.h /\ r.t = m.t) (hm : m.ok) : Rm w w.heap.size r m :=
 ⟨hs.1, hs.2.1, hs.2.2.1, hs.2.2.2, hm, (h.1 3 (.inl rfl)).rd, (h.1 4 (.inr (.inl rfl))).rd, (h.1 7 (.inr (.inr (.inl rfl)))).rd, (h.1 8 (.inr (.inr (.inr (.inl rfl))))).rd, (h.1 9 (.inr (.inr (.inr (.inr rfl))))).rd⟩

theorem Own.far_nine {W : World} {base b : Nat} {s : Sl} {xs : List Int} (h : Own W base s xs) (hne : ∀ ad, s.A = some ad -> ad.block ≠ b) (r : R) : Own (((((((((W.setCell ⟨b, 0, none⟩ (.int .u64 r.e)).setCell ⟨b, 1, none⟩ (.int .u64 r.f)).setCell ⟨b, 2, none⟩ (.slice r.L.A r.L.n r.L.c)).setCell ⟨b, 3, none⟩ (.slice r.P.A r.P.n r.P.c)).setCell ⟨b, 4, none⟩ (.int .u64 r.h)).setCell ⟨b, 5, none⟩ (.int .u64 r.t)).setCell ⟨b, 6, none⟩ (.slice r.K.A r.K.n r.K.c)).setCell ⟨b, 7, none⟩ (.slice r.X.A r.X.n r.X.c)).setCell ⟨b, 8, none⟩ (.slice r.S.A r.S.n r.S.c)) base s xs :=
 (((((((((h.far (p := ⟨b, 0, none⟩) hne (.int .u64 r.e)).far (p := ⟨b, 1, none⟩) hne (.int .u64 r.f)).far (p := ⟨b, 2, none⟩) hne (.slice r.L.A r.L.n r.L.c)).far (p := ⟨b, 3, none⟩) hne (.slice r.P.A r.P.n r.P.c)).far (p := ⟨b, 4, none⟩) hne (.int .u64 r.h)).far (p := ⟨b, 5, none⟩) hne (.int .u64 r.t)).far (p := ⟨b, 6, none⟩) hne (.slice r.K.A r.K.n r.K.c)).far (p := ⟨b, 7, none⟩) hne (.slice r.X.A r.X.n r.X.c)).far (p := ⟨b, 8, none⟩) hne (.slice r.S.A r.S.n r.S.c))
theorem Hold.again {W : World} {base b : Nat} {r : R} {m : M} (h : Hold W base b r m) : Hold (((((((((W.setCell ⟨b, 0, none⟩ (.int .u64 r.e)).setCell ⟨b, 1, none⟩ (.int .u64 r.f)).setCell ⟨b, 2, none⟩ (.slice r.L.A r.L.n r.L.c)).setCell ⟨b, 3, none⟩ (.slice r.P.A r.P.n r.P.c)).setCell ⟨b, 4, none⟩ (.int .u64 r.h)).setCell ⟨b, 5, none⟩ (.int .u64 r.t)).setCell ⟨b, 6, none⟩ (.slice r.K.A r.K.n r.K.c)).setCell ⟨b, 7, none⟩ (.slice r.X.A r.X.n r.X.c)).setCell ⟨b, 8, none⟩ (.slice r.S.A r.S.n r.S.c)) base b r m := by
 obtain ⟨hb, hg, h1, h2, h3, h4, hm, ho, ha⟩ := h
 exact ⟨blk_nine hb, hg, h1, h2, h3, h4, hm, fun a hl => (ho a hl).far_nine (fun ad had => (ha a hl ad had).1) r, ha⟩
theorem cells5 {w : World} {b : Nat} {t : TypeId} {c0 c1 c2 c3 c4 : Value} (h : Blk w b t #[c0, c1, c2, c3, c4]) :
   w.cell? ⟨b, 0, none⟩ = some c0 /\ w.cell? ⟨b, 1, none⟩ = some c1 /\ w.cell? ⟨b, 2, none⟩ = some c2 /\ w.cell? ⟨b, 3, none⟩ = some c3 /\ w.cell? ⟨b, 4, none⟩ = some c4 :=
 ⟨h.cell 0, h.cell 1, h.cell 2, h.cell 3, h.cell 4⟩
theorem two_below {W W' : World} {b c : Nat} {t u : TypeId} {cs ds : Array Value} (hb : Below W.heap.size W W') (h0 : Blk W b t cs) (h1 : Blk W c u ds) : Blk W' b t cs /\ Blk W' c u ds :=
 ⟨h0.below hb h0.lt, h1.below hb h1.lt⟩
theorem two_rules {W : World} {b c : Nat} {t u : TypeId} {cs ds : Array Value} (h0 : Blk W b t cs) (h1 : Blk W c u ds) :
   (∀ i, W.cell? ⟨b, i, none⟩ = cs[i]?) /\ (∀ i, W.frozen? ⟨b, i, none⟩ = false) /\ (∀ i, W.cell? ⟨c, i, none⟩ = ds[i]?) /\ (∀ i, W.frozen? ⟨c, i, none⟩ = false) :=
 ⟨h0.cell, h0.frozen, h1.cell, h1.frozen⟩

end Go.Proofs.YtffppdcpiieapaaGreat.Memc

namespace Go.Proofs.YtffppdcpiieapaaGreat.Wordc
open Go.RowKit
set_option linter.unusedVariables false
set_option maxRecDepth 100000

theorem fit_u32 {a : Int} (h : (Lit.int .u32 a).wf = true) : 0 <= a /\ a <= 4294967295 := by
 simp [Lit.wf, IntKind.min, IntKind.max, IntKind.bits, IntKind.signed] at h; omega
theorem fit_i64 {a : Int} (h : (Lit.int .i64 a).wf = true) : -9223372036854775808 <= a /\ a <= 9223372036854775807 := by
 simp [Lit.wf, IntKind.min, IntKind.max, IntKind.bits, IntKind.signed] at h; omega
theorem ret_int {k : IntKind} {a b : Int} (h : a = b) : Ending.returned (.int k a) = .returned (.int k b) := by rw [h]
theorem wraps_u64 (n : Int) (h0 : 0 <= n) (h1 : n < 2 ^ 64) : IntKind.u64.wrap n = n := by
 simp [IntKind.wrap, IntKind.bits, IntKind.signed]; omega
theorem or_join (h l : Int) (h0 : 0 <= h) (h1 : h <= 4294967295) (l0 : 0 <= l) (l1 : l <= 4294967295) :
   bits BinOp.or IntKind.u64 (h * 4294967296) l = h * 4294967296 + l :=
 bits_join .u64 64 (by decide) wraps_u64 32 _ _ (by omega) (by omega) (by omega) l0 (by omega) (by omega)

theorem pack_c (h l : Int) (w : World) (h0 : 0 <= h) (h1 : h <= 4294967295) (l0 : 0 <= l) (l1 : l <= 4294967295) :
   Calls Tryz.prog 40 #[.int .u32 h, .int .u32 l] w fun e w' => e = .returned (.int .u64 (h * 4294967296 + l)) /\ w = w' := by
 go_enter Tryz.func40, Tryz.ntmps40
 go_wp2
 go_ret
 exact ⟨ret_int (or_join h l h0 h1 l0 l1), rfl⟩

theorem half_c (x : Int) (w : World) (x0 : -9223372036854775808 <= x) (x1 : x <= 9223372036854775807) :
   Calls Tryz.prog 42 #[.int .i64 x] w fun e w' => e = .returned (.int .u32 (x % 4294967296)) /\ w = w' := by
 go_enter Tryz.func42, Tryz.ntmps42
 go_wp2
 go_ret
 exact ⟨rfl, rfl⟩

theorem ref_c (h x : Int) (w : World) (h0 : 0 <= h) (h1 : h <= 4294967295) (x0 : -9223372036854775808 <= x) (x1 : x <= 9223372036854775807) :
   Calls Tryz.prog 20 #[.int .u32 h, .int .i64 x] w fun e w' => e = .returned (.int .u64 (h * 4294967296 + (x + 1) % 4294967296)) /\ w = w' := by
 go_enter Tryz.func20, Tryz.ntmps20
 go_wp2_with (first | (go_at_call 42; refine (half_c _ _ (by omega) (by omega)).mono ?_; rintro e w' ⟨rfl, rfl⟩) | (go_at_call 40; refine (pack_c _ _ _ (by omega) (by omega) (by omega) (by omega)).mono ?_; rintro e w' ⟨rfl, rfl⟩))
 go_ret
 exact ⟨rfl, rfl⟩

theorem pack_r (h l : Int) (w : World) (h0 : 0 <= h) (h1 : h <= 4294967295) (l0 : 0 <= l) (l1 : l <= 4294967295) :
   Calls Tryz.prog 88 #[.int .u32 h, .int .u32 l] w fun e w' => e = .returned (.int .u64 (h * 4294967296 + l)) /\ w = w' := by
 go_enter Tryz.func88, Tryz.ntmps88
 go_wp2
 go_ret
 exact ⟨rfl, rfl⟩

theorem more_r (x : Int) (w : World) (x0 : 0 <= x) (x1 : x <= 4294967295) :
   Calls Tryz.prog 71 #[.int .u32 x] w fun e w' => e = .returned (.int .u32 ((x + 1) % 4294967296)) /\ w = w' := by
 go_enter Tryz.func71, Tryz.ntmps71
 go_wp2
 go_ret
 exact ⟨rfl, rfl⟩

theorem tm (x : Int) : x.tmod 4294967296 = if 0 <= x then x % 4294967296 else -((-x) % 4294967296) := by
 split
 · exact Int.tmod_eq_emod_of_nonneg ‹_›
 · have e : x = -(-x) := by omega
   rw [e, Int.neg_tmod, Int.tmod_eq_emod_of_nonneg (by omega)]; simp

theorem w64 (n : Int) (h : -9223372036854775808 <= n /\ n <= 9223372036854775807) : wrap64 n = n := by unfold wrap64; omega

theorem tm_neg (h x : Int) (hx : x.tmod 4294967296 < 0) : h * 4294967296 + (wrap64 (x.tmod 4294967296 + 4294967296) + 1) % 4294967296 = h * 4294967296 + (x + 1) % 4294967296 := by
 have e := tm x
 rw [w64 _ (by split at e <;> omega)]
 split at e <;> omega

theorem tm_pos (h x : Int) (hx : 0 <= x.tmod 4294967296) : h * 4294967296 + (x.tmod 4294967296 + 1) % 4294967296 = h * 4294967296 + (x + 1) % 4294967296 := by
 have e := tm x
 split at e <;> omega

theorem ref_r (h x : Int) (w : World) (h0 : 0 <= h) (h1 : h <= 4294967295) (x0 : -9223372036854775808 <= x) (x1 : x <= 9223372036854775807) :
   Calls Tryz.prog 63 #[.int .u32 h, .int .i64 x] w fun e w' => e = .returned (.int .u64 (h * 4294967296 + (x + 1) % 4294967296)) /\ w = w' := by
 go_enter Tryz.func63, Tryz.ntmps63
 go_wp2_with (first | (go_at_call 71; refine (more_r _ _ (by omega) (by omega)).mono ?_; rintro e w' ⟨rfl, rfl⟩) | (go_at_call 88; refine (pack_r _ _ _ (by omega) (by omega) (by omega) (by omega)).mono ?_; rintro e w' ⟨rfl, rfl⟩))
 · go_ret
   exact ⟨ret_int (tm_neg _ _ ‹_›), rfl⟩
 go_ret
 exact ⟨ret_int (tm_pos _ _ ‹_›), rfl⟩

end Go.Proofs.YtffppdcpiieapaaGreat.Wordc

namespace Go.Proofs.YtffppdcpiieapaaGreat.Memc
open Go.ChangeShapes Go.WideShapes Go.RowKit Go.Deep Wordc
set_option linter.unusedVariables false
set_option maxRecDepth 100000

section
variable {H : Type} {enc : TypeId × Value -> H} {P : Program} {w : World} {base : Nat} {spare : Nat -> Bool} {held : Bool}

theorem open_fields {r : Reach} {b0 : Nat} {t : TypeId} {fs : Array Field} {v : Value} {d : DataW H} {p : List MemPlace} (hs : P.underlying t = some (.struct fs)) (hone : oneCellFields P fs = true) (hC : P.cellsOf t = fs.size)
   (hv : Value.okWide P w r b0 t v) (h : DataW.Trod enc P w base spare held t v d p) :
   ∃ cs : Array Value, v = .agg cs /\ cs.size = fs.size /\ ∃ n, ∀ (j : Nat) (f : Field), fs[j]? = some f -> ∃ (c : Value) (y : DataW H × List MemPlace), cs[j]? = some c /\ DataW.trod enc P w base spare held n f.type [c] = some y := by
 obtain ⟨cs, rfl, hsz⟩ := okWide_struct hs hv
 obtain ⟨fuel, hf⟩ := h
 obtain ⟨xs, n, _, _, hcl, hlen, hg⟩ := DataW.trod_struct hs hf
 refine ⟨cs, rfl, by rw [hsz, hC], n, fun j f hj => ?_⟩
 obtain ⟨ho, hk⟩ := hone_of hone j f hj
 have hjl : j < fs.size := (Array.getElem?_eq_some_iff.1 hj).1
 have h1 := hg j f hj
 have hjc : j < cs.size := by omega
 have hxs : xs[j]? = some (xs[j]'(by omega)) := List.getElem?_eq_getElem (by omega)
 rw [ho, hk, hxs] at h1
 refine ⟨cs[j], xs[j]'(by omega), Array.getElem?_eq_getElem hjc, ?_⟩
 have e : ((Value.agg cs).cells.toList.drop j).take 1 = [cs[j]] := by
   show (cs.toList.drop j).take 1 = [cs[j]]
   rw [List.drop_eq_getElem_cons (by simpa using hjc)]
   simp
 rw [<- e]
 exact h1

theorem open_num {k : IntKind} {t : TypeId} {n : Nat} {c : Value} {y : DataW H × List MemPlace} (ht : P.underlying t = some (.int k)) (h : DataW.trod enc P w base spare held n t [c] = some y) : ∃ x : Int, c = .int k x /\ (Lit.int k x).wf = true := by
 obtain ⟨x, hc, _, hw⟩ := DataW.trod_int ht h
 exact ⟨x, by simpa using hc, hw⟩

theorem block_lt {w : World} {p : Addr} {v : Value} (h : w.cell? p = some v) : p.block < w.heap.size := by
 rcases Nat.lt_or_ge p.block w.heap.size with hlt | hge
 · exact hlt
 · unfold World.cell? at h
   rw [Array.getElem?_eq_none hge] at h
   simp at h

end

end Go.Proofs.YtffppdcpiieapaaGreat.Memc

namespace Go.Proofs.YtffppdcpiieapaaGreat.Memc
open Go.ChangeShapes Go.WideShapes Go.RowKit Go.Deep Wordc
set_option linter.unusedVariables false
set_option maxRecDepth 100000

structure St where
 th : Int
 c : Acc
 was : Int
 dn : Bool
def St.cells (s : St) : List Value := [.int .i64 s.th, .int .i64 s.c.d, .int .i64 s.c.ar, .int .i64 s.c.at_, .int .u64 s.c.old, .int .u64 s.c.new, .int .u64 s.was, .bool s.dn]
def St.ok (s : St) : Prop := s.c.ok /\ 0 <= s.was /\ s.was <= 18446744073709551615

def fits (m : M) (s : St) : Prop := (acc m s.c).2.1 = s.was /\ (acc m s.c).2.2 = s.dn
instance (m : M) (s : St) : Decidable (fits m s) := by unfold fits; infer_instance
def replay (m : M) : List St -> Option M
 | [] => some m
 | s :: l => if fits m s then replay (acc m s.c).1 l else none
def RdS (w : World) (B : Nat) (s : Sl) (l : List St) : Prop :=
 s.n = l.length /\ s.n <= s.c /\ s.c <= maxLen /\ (∀ x ∈ l, x.ok) /\
 (0 < s.n -> ∃ b off, s.A = some ⟨b, off, none⟩ /\ b < B /\ ∀ (i : Nat) (x : St), l[i]? = some x -> ∀ (j : Nat) (v : Value), x.cells[j]? = some v -> w.cell? ⟨b, off + i * 8 + j, none⟩ = some v)
theorem RdS.below {w w' : World} {B : Nat} {s : Sl} {l : List St} (h : RdS w B s l) (hb : Below B w w') : RdS w' B s l :=
 ⟨h.1, h.2.1, h.2.2.1, h.2.2.2.1, fun hn => by
   obtain ⟨b, off, e, hlt, hc⟩ := h.2.2.2.2 hn
   exact ⟨b, off, e, hlt, fun i x hx j v hv => (hb.cell (p := ⟨b, off + i * 8 + j, none⟩) hlt).trans (hc i x hx j v hv)⟩⟩
theorem RdS.more {w : World} {B B' : Nat} {s : Sl} {l : List St} (h : RdS w B s l) (hB : B <= B') : RdS w B' s l :=
 ⟨h.1, h.2.1, h.2.2.1, h.2.2.2.1, fun hn => by
   obtain ⟨b, off, e, hlt, hc⟩ := h.2.2.2.2 hn
   exact ⟨b, off, e, by omega, hc⟩⟩
theorem RdS.step {w : World} {B b off n c k : Nat} {l : List St} {x : St} (h : RdS w B ⟨some ⟨b, off, none⟩, n, c⟩ l) (hx : l[k]? = some x) :
   w.cell? ⟨b, off + k * 8, none⟩ = some (.int .i64 x.th) /\ w.cell? ⟨b, off + k * 8 + 1, none⟩ = some (.int .i64 x.c.d) /\ w.cell? ⟨b, off + k * 8 + 2, none⟩ = some (.int .i64 x.c.ar) /\ w.cell? ⟨b, off + k * 8 + 3, none⟩ = some (.int .i64 x.c.at_) /\
   w.cell? ⟨b, off + k * 8 + 4, none⟩ = some (.int .u64 x.c.old) /\ w.cell? ⟨b, off + k * 8 + 5, none⟩ = some (.int .u64 x.c.new) /\ w.cell? ⟨b, off + k * 8 + 6, none⟩ = some (.int .u64 x.was) /\ w.cell? ⟨b, off + k * 8 + 7, none⟩ = some (.bool x.dn) := by
 obtain ⟨b', off', e, _, hc⟩ := h.2.2.2.2 (by show 0 < n; have := h.1; simp only at this; have := (List.getElem?_eq_some_iff.1 hx).1; omega)
 injection e with e
 injection e with e1 e2
 subst e1
 subst e2
 exact ⟨hc k x hx 0 _ rfl, hc k x hx 1 _ rfl, hc k x hx 2 _ rfl, hc k x hx 3 _ rfl, hc k x hx 4 _ rfl, hc k x hx 5 _ rfl, hc k x hx 6 _ rfl, hc k x hx 7 _ rfl⟩

section
variable {H : Type} {enc : TypeId × Value -> H} {w : World} {base : Nat} {spare : Nat -> Bool} {held : Bool}
theorem list_choose {α : Type} {P : Nat -> α -> Prop} : ∀ n : Nat, (∀ i, i < n -> ∃ a, P i a) -> ∃ l : List α, l.length = n /\ ∀ i a, l[i]? = some a -> P i a
 | 0, _ => ⟨[], rfl, fun i a h => by simp at h⟩
 | n + 1, h => by
   obtain ⟨l, hl, hp⟩ := list_choose n fun i hi => h i (by omega)
   obtain ⟨a, ha⟩ := h n (by omega)
   refine ⟨l ++ [a], by simp [hl], fun i b hb => ?_⟩
   rcases Nat.lt_or_ge i l.length with hlt | hge
   · rw [List.getElem?_append_left hlt] at hb; exact hp i b hb
   · rw [List.getElem?_append_right hge] at hb
     rcases (show i - l.length = 0 \/ 0 < i - l.length by omega) with h0 | h0
     · rw [h0] at hb
       simp only [List.getElem?_cons_zero, Option.some.injEq] at hb
       subst hb
       obtain rfl : i = n := by omega
       exact ha
     · obtain ⟨k, hk⟩ : ∃ k, i - l.length = k + 1 := ⟨i - l.length - 1, by omega⟩
       rw [hk] at hb
       simp at hb

end
end Go.Proofs.YtffppdcpiieapaaGreat.Memc
