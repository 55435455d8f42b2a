/- The words that a call of the store holds in memory of its own: a block of nine cells, and five rows apart from it and from each other; a word of them found; a word written. -/
import Derived.Test.YtjgbgjkjnlaloaaMem
import Derived.Laws.Rows
namespace Go.Proofs.Ytjgbgjkjnlaloaa.Memc
open Go.RowKit
set_option linter.unusedVariables false
set_option maxRecDepth 100000

/-- block g is just the cells cs of the type t; none of them is frozen -/
def Blk (w : World) (g : Nat) (t : TypeId) (cs : Array Value) : Prop := w.heap[g]? = some (.cells cs t (0, 0))
section
variable {w w' : World} {g : Nat} {t : TypeId} {cs : Array Value}
/-- a world in which the block is as it was -/
theorem Blk.moved (h : Blk w g t cs) (e : w'.heap[g]? = w.heap[g]?) : Blk w' g t cs := Eq.trans e h
theorem Blk.lt (h : Blk w g t cs) : g < w.heap.size := (Array.getElem?_eq_some_iff.1 h).1
theorem Blk.cell (h : Blk w g t cs) (i : Nat) : w.cell? ⟨g, i, none⟩ = cs[i]? := cell_of_row w g i cs t (0, 0) h
theorem Blk.frozen (h : Blk w g t cs) (i : Nat) : w.frozen? ⟨g, i, none⟩ = false := frozen_of_row w g i cs t h
theorem Blk.new (w : World) (t : TypeId) (cs : Array Value) : Blk (w.alloc (.cells cs t)) w.heap.size t cs := heap_alloc_new w _
theorem Blk.drew (h : Blk w g t cs) : Blk w.drew g t cs := h.moved rfl
theorem Blk.alloc (h : Blk w g t cs) (o : Obj) : Blk (w.alloc o) g t cs := h.moved (Below.heap_alloc w o g h.lt)
theorem Blk.far (h : Blk w g t cs) {p : Addr} (hp : g ≠ p.block) (u : Value) : Blk (w.setCell p u) g t cs := h.moved (Below.heap_setCell w p u g hp)
theorem Blk.below {B : Nat} (h : Blk w g t cs) (hb : Below B w w') (hg : g < B) : Blk w' g t cs := h.moved (hb.block g hg)
theorem Blk.grown {row : Option Nat} (h : Blk w g t cs) (hb : w.grownBy w' row) (hg : some g ≠ row) : Blk w' g t cs := h.moved (hb.block g h.lt hg)
/-- a store into the block -/
theorem Blk.set_ (h : Blk w g t cs) (i : Nat) (u : Value) : Blk (w.setCell ⟨g, i, none⟩ u) g t (cs.setIfInBounds i u) := heap_setCell_same w g i cs t u h
end
theorem blk_at {w : World} {g : Nat} {t : TypeId} {cs : Array Value} (hg : w.heap.size = g) : Blk (w.alloc (.cells cs t)) g t cs := by
  subst hg; exact Blk.new w t cs

/-- the slice s owns its row, which reads as xs and lies from base on -/
def Own (w : World) (base : Nat) (s : Sl) (xs : List Int) : Prop :=
  u64s xs ∧ w.ownsRow base 22 1 (.slice s.A s.n s.c) xs.length (xs.map (Value.int .u64))
section
variable {w w' : World} {base : Nat} {s : Sl} {xs : List Int}
theorem Own.n_ (h : Own w base s xs) : s.n = xs.length ∧ s.n ≤ s.c ∧ s.c ≤ maxLen ∧ (s.A = none → s.c = 0) := by
  rcases h.2.2 with ⟨hv, hn⟩ | ⟨g, cap, cur, hv, hb, hg, hnc, hcm, hsz, htk⟩
  · injection hv with h1 h2 h3
    exact ⟨by omega, by omega, by rw [h3]; exact Nat.zero_le _, fun _ => h3⟩
  · injection hv with h1 h2 h3
    exact ⟨h2, by omega, by omega, fun he => (by rw [h1] at he; cases he)⟩
theorem Own.lt (h : Own w base s xs) {ad : Addr} (ha : s.A = some ad) : base ≤ ad.block ∧ ad.block < w.heap.size :=
  h.2.lt ad.block (by rw [ha]; rfl)
theorem Own.alloc (h : Own w base s xs) (o : Obj) : Own (w.alloc o) base s xs := ⟨h.1, h.2.alloc o⟩
theorem Own.drew (h : Own w base s xs) : Own w.drew base s xs := h
theorem Own.drewN (h : Own w base s xs) (n : Nat) : Own (w.drewN n) base s xs := h
theorem Own.kept (h : Own w base s xs) (hk : ∀ ad, s.A = some ad → w'.heap[ad.block]? = w.heap[ad.block]?) : Own w' base s xs := by
  refine ⟨h.1, h.2.1, ?_⟩
  rcases h.2.2 with h1 | ⟨g, cap, cur, hv, hb, hg, hr⟩
  · exact .inl h1
  · refine .inr ⟨g, cap, cur, hv, hb, ?_, hr⟩
    injection hv with h1
    exact (hk _ h1).trans hg
theorem Own.below {B : Nat} (h : Own w base s xs) (hb : Below B w w') (hB : w.heap.size ≤ B) : Own w' base s xs :=
  h.kept fun ad ha => hb.block _ (by have := (h.lt ha).2; omega)
theorem Own.far (h : Own w base s xs) {p : Addr} (hp : ∀ ad, s.A = some ad → ad.block ≠ p.block) (u : Value) : Own (w.setCell p u) base s xs :=
  h.kept fun ad ha => Below.heap_setCell w p u _ (hp ad ha)
theorem Own.rd (h : Own w base s xs) : Rd w w.heap.size s xs := Rd.of_own h.2 h.1
/-- a word of the row -/
theorem Own.at_ {k : Nat} (h : Own w base s xs) (hk : k < xs.length) : ∃ g : Nat, s.A = some ⟨g, 0, none⟩ ∧ base ≤ g ∧ g < w.heap.size ∧ w.cell? ⟨g, k, none⟩ = some (.int .u64 (xs.getD k 0)) ∧ w.frozen? ⟨g, k, none⟩ = false := by
  rcases h.2.2 with ⟨hv, hn⟩ | ⟨g, cap, cur, hv, hb, hg, hnc, hcm, hsz, htk⟩
  · omega
  · injection hv with h1 h2 h3
    refine ⟨g, h1, hb, (h.lt h1).2, ?_, frozen_of_row w g k cur _ hg⟩
    have ho := h.2
    rw [h1, h2, h3] at ho
    rw [World.ownsRow.cellAt ho k (by omega), List.getElem?_map, List.getD_eq_getElem?_getD, List.getElem?_eq_getElem hk]; rfl
theorem Own.set_ {k g : Nat} (h : Own w base s xs) (hg : s.A = some ⟨g, 0, none⟩) (v : Int) (hv : 0 ≤ v ∧ v ≤ 18446744073709551615) : Own (w.setCell ⟨g, k, none⟩ (.int .u64 v)) base s (xs.set k v) := by
  have ho := h.2
  have hn := h.n_
  rw [hg, hn.1] at ho
  have := (World.ownsRow.stored ho k (.int .u64 v)).1
  refine ⟨u64s_set h.1 hv, ?_⟩
  rw [hg, hn.1, List.map_set, List.length_set]
  exact this
end

theorem Own.weaken {w : World} {base base' : Nat} {s : Sl} {xs : List Int} (h : Own w base s xs) (hb : base' ≤ base) : Own w base' s xs := by
  refine ⟨h.1, h.2.1, ?_⟩
  rcases h.2.2 with h1 | ⟨g, cap, cur, hv, hg, hr⟩
  · exact .inl h1
  · exact .inr ⟨g, cap, cur, hv, Nat.le_trans hb hg, hr⟩

theorem Own.step {W : World} {base b i : Nat} {s : Sl} {xs : List Int} (h : Own W base s xs) (hb : b < base) (v : Value) : Own (W.setCell ⟨b, i, none⟩ v) base s xs :=
  h.far (p := ⟨b, i, none⟩) (fun ad ha => by have := (h.lt ha).1; show ad.block ≠ b; omega) v
theorem size_set (w : World) (p : Addr) (v : Value) : (w.setCell p v).heap.size = w.heap.size := by simp [World.setCell]

theorem Own.nine {W : World} {base b : Nat} {s : Sl} {xs : List Int} (h : Own W base s xs) (hb : b < base) (v0 v1 v2 v3 v4 v5 v6 v7 v8 : Value) : Own (((((((((W.setCell ⟨b, 0, none⟩ v0).setCell ⟨b, 1, none⟩ v1).setCell ⟨b, 2, none⟩ v2).setCell ⟨b, 3, none⟩ v3).setCell ⟨b, 4, none⟩ v4).setCell ⟨b, 5, none⟩ v5).setCell ⟨b, 6, none⟩ v6).setCell ⟨b, 7, none⟩ v7).setCell ⟨b, 8, none⟩ v8) base s xs :=
  (((((((((h.step (b := b) (i := 0) hb v0).step (b := b) (i := 1) hb v1).step (b := b) (i := 2) hb v2).step (b := b) (i := 3) hb v3).step (b := b) (i := 4) hb v4).step (b := b) (i := 5) hb v5).step (b := b) (i := 6) hb v6).step (b := b) (i := 7) hb v7).step (b := b) (i := 8) hb v8)
theorem below_nine {B b : Nat} {w W : World} (h : Below B w W) (hb : B ≤ b) (v0 v1 v2 v3 v4 v5 v6 v7 v8 : Value) : Below B w (((((((((W.setCell ⟨b, 0, none⟩ v0).setCell ⟨b, 1, none⟩ v1).setCell ⟨b, 2, none⟩ v2).setCell ⟨b, 3, none⟩ v3).setCell ⟨b, 4, none⟩ v4).setCell ⟨b, 5, none⟩ v5).setCell ⟨b, 6, none⟩ v6).setCell ⟨b, 7, none⟩ v7).setCell ⟨b, 8, none⟩ v8) :=
  (((((((((h.setCell (p := ⟨b, 0, none⟩) hb v0).setCell (p := ⟨b, 1, none⟩) hb v1).setCell (p := ⟨b, 2, none⟩) hb v2).setCell (p := ⟨b, 3, none⟩) hb v3).setCell (p := ⟨b, 4, none⟩) hb v4).setCell (p := ⟨b, 5, none⟩) hb v5).setCell (p := ⟨b, 6, none⟩) hb v6).setCell (p := ⟨b, 7, none⟩) hb v7).setCell (p := ⟨b, 8, none⟩) hb v8)

/-- the areas that have a list of words -/
def la (a : Int) : Prop := a = 3 ∨ a = 4 ∨ a = 7 ∨ a = 8 ∨ a = 9
def R.sl (r : R) (a : Int) : Sl := if a = 3 then r.L else if a = 4 then r.P else if a = 7 then r.K else if a = 8 then r.X else r.S

/-- the words m are held by r: block g has their nine cells, whose five rows are apart -/
def Hold (w : World) (base g : Nat) (r : R) (m : M) : Prop :=
  Blk w g 25 r.cells ∧ base ≤ g ∧ r.e = m.e ∧ r.f = m.f ∧ r.h = m.h ∧ r.t = m.t ∧ m.ok ∧
    (∀ a, la a → Own w base (r.sl a) (m.area a)) ∧
    (∀ a, la a → ∀ ad, (r.sl a).A = some ad → ad.block ≠ g ∧ ∀ b, la b → b ≠ a → ∀ ad', (r.sl b).A = some ad' → ad'.block ≠ ad.block)

/-- a block of words: of the nine cells, or of a row -/
def Kin (w : World) (k : Nat) : Prop := ∃ t cs, Blk w k t cs ∧ (t = 25 ∨ t = 22)
theorem Kin.ne_ {w : World} {k b : Nat} {t : TypeId} {cs : Array Value} (h : Kin w k) (hb : Blk w b t cs) (h1 : t ≠ 25) (h2 : t ≠ 22) : b ≠ k := by
  rintro rfl
  obtain ⟨t', cs', hk, ht⟩ := h
  unfold Blk at hb hk
  rw [hb] at hk
  injection hk with hk
  injection hk with _ hk
  rcases ht with ht | ht
  · exact h1 (hk.trans ht)
  · exact h2 (hk.trans ht)
theorem Own.kin {w : World} {base : Nat} {s : Sl} {xs : List Int} (h : Own w base s xs) {ad : Addr} (ha : s.A = some ad) : Kin w ad.block := by
  rcases h.2.2 with ⟨hv, _⟩ | ⟨g, cap, cur, hv, hb, hg, _⟩
  · injection hv with h1
    rw [h1] at ha; cases ha
  · injection hv with h1
    rw [h1] at ha
    injection ha with ha
    subst ha
    exact ⟨_, _, hg, .inr rfl⟩

/-- the word (a, i) of the words m that r holds is at q, or it isn't there -/
def Lens (w : World) (base g : Nat) (r : R) (m : M) (a i : Int) : Option Addr → Prop
  | none => ¬ there m a i
  | some p => there m a i ∧ base ≤ p.block ∧ p.block < w.heap.size ∧ w.cell? p = some (.int .u64 (get m a i)) ∧ w.frozen? p = false ∧ Kin w p.block ∧
      ∀ w' : World, Hold w' base g r m → ∀ v : Int, 0 ≤ v ∧ v ≤ 18446744073709551615 → ∃ r', Hold (w'.setCell p (.int .u64 v)) base g r' (set m a i v)

section
variable {w w' : World} {base g : Nat} {r : R} {m : M}
theorem Hold.kept (h : Hold w base g r m) (hk : ∀ k, base ≤ k → k < w.heap.size → w'.heap[k]? = w.heap[k]?) : Hold w' base g r m := by
  obtain ⟨hb, hg, h1, h2, h3, h4, hm, ho, ha⟩ := h
  exact ⟨(hk g hg hb.lt).trans hb, hg, h1, h2, h3, h4, hm, fun a hl => (ho a hl).kept fun ad had => hk _ ((ho a hl).lt had).1 ((ho a hl).lt had).2, ha⟩
theorem Hold.below {B : Nat} (h : Hold w base g r m) (hb : Below B w w') (hB : w.heap.size ≤ B) : Hold w' base g r m :=
  h.kept fun k _ hk => hb.block k (by omega)
theorem Hold.alloc (h : Hold w base g r m) (o : Obj) : Hold (w.alloc o) base g r m := h.kept fun k _ hk => Below.heap_alloc w o k hk
theorem Hold.drew (h : Hold w base g r m) : Hold w.drew base g r m := h
theorem Hold.drewN (h : Hold w base g r m) (n : Nat) : Hold (w.drewN n) base g r m := h

theorem lens_no {a i : Int} (hn : ¬ there m a i) : Lens w base g r m a i none := hn

theorem la_ne {a : Int} (h : la a) : a ≠ 1 ∧ a ≠ 2 ∧ a ≠ 5 ∧ a ≠ 6 := by unfold la at h; omega
theorem set_list (m : M) (a i v : Int) (h : la a) : (set m a i v).e = m.e ∧ (set m a i v).f = m.f ∧ (set m a i v).h = m.h ∧ (set m a i v).t = m.t := by
  have hh := la_ne h
  have e1 := area_set_other m a 1 i v hh.1
  have e2 := area_set_other m a 2 i v hh.2.1
  have e5 := area_set_other m a 5 i v hh.2.2.1
  have e6 := area_set_other m a 6 i v hh.2.2.2
  simp only [area_1, area_2, area_5, area_6, List.cons.injEq, and_true] at e1 e2 e5 e6
  exact ⟨e1, e2, e5, e6⟩

/-- a word of a list -/
theorem lens_list (h : Hold w base g r m) {a : Int} (hl : la a) {k : Nat} (hk : k < (m.area a).length) :
    ∃ b : Nat, (r.sl a).A = some ⟨b, 0, none⟩ ∧ Lens w base g r m a k (some ⟨b, k, none⟩) := by
  obtain ⟨hb, hg, h1, h2, h3, h4, hm, ho, ha⟩ := h
  obtain ⟨b, hA, hlo, hhi, hc, hf⟩ := (ho a hl).at_ hk
  refine ⟨b, hA, ⟨Int.natCast_nonneg k, by omega⟩, hlo, hhi, by simpa [get] using hc, hf, (show Kin w b from (ho a hl).kin (ad := ⟨b, 0, none⟩) hA), ?_⟩
  intro w' h' v hv
  obtain ⟨hb', _, _, _, _, _, _, ho', _⟩ := h'
  have hs := set_list m a k v hl
  refine ⟨r, hb'.far (p := ⟨b, k, none⟩) (fun e => (ha a hl _ hA).1 e.symm) _, hg, by rw [hs.1]; exact h1, by rw [hs.2.1]; exact h2, by rw [hs.2.2.1]; exact h3, by rw [hs.2.2.2]; exact h4, set_ok hm _ _ _ hv, ?_, ha⟩
  intro c hc'
  by_cases hca : a = c
  · subst hca
    rw [area_set_same]
    exact (ho' a hc').set_ (k := k) hA v hv
  · rw [area_set_other _ _ _ _ _ hca]
    exact (ho' c hc').far (p := ⟨b, k, none⟩) (fun ad had => (ha a hl _ hA).2 c hc' (fun e => hca e.symm) ad had) _

theorem sl_e (r : R) (x : Int) (a : Int) : ({ r with e := x } : R).sl a = r.sl a := rfl
theorem sl_f (r : R) (x : Int) (a : Int) : ({ r with f := x } : R).sl a = r.sl a := rfl
theorem sl_h (r : R) (x : Int) (a : Int) : ({ r with h := x } : R).sl a = r.sl a := rfl
theorem sl_t (r : R) (x : Int) (a : Int) : ({ r with t := x } : R).sl a = r.sl a := rfl

/-- a word that is alone in its area -/
theorem lens_1 (h : Hold w base g r m) : Lens w base g r m 1 0 (some ⟨g, 0, none⟩) := by
  have h0 := h
  obtain ⟨hb, hg, h1, h2, h3, h4, hm, ho, ha⟩ := h
  refine ⟨⟨Int.le_refl 0, by show (0 : Int) < 1; omega⟩, hg, hb.lt, ?_, hb.frozen 0, ⟨_, _, hb, .inl rfl⟩, ?_⟩
  · rw [hb.cell 0]; show some (Value.int .u64 r.e) = some (.int .u64 m.e); rw [h1]
  · intro w' h' v hv
    obtain ⟨hb', _, _, _, _, _, _, ho', _⟩ := h'
    refine ⟨{ r with e := v }, hb'.set_ 0 _, hg, rfl, h2, h3, h4, set_ok hm _ _ _ hv, fun a hl => ?_, ha⟩
    rw [area_set_other _ _ _ _ _ (la_ne hl).1.symm]
    exact (ho' a hl).far (p := ⟨g, 0, none⟩) (fun ad had => (ha a hl _ had).1) _
theorem lens_2 (h : Hold w base g r m) : Lens w base g r m 2 0 (some ⟨g, 1, none⟩) := by
  obtain ⟨hb, hg, h1, h2, h3, h4, hm, ho, ha⟩ := h
  refine ⟨⟨Int.le_refl 0, by show (0 : Int) < 1; omega⟩, hg, hb.lt, ?_, hb.frozen 1, ⟨_, _, hb, .inl rfl⟩, ?_⟩
  · rw [hb.cell 1]; show some (Value.int .u64 r.f) = some (.int .u64 m.f); rw [h2]
  · intro w' h' v hv
    obtain ⟨hb', _, _, _, _, _, _, ho', _⟩ := h'
    refine ⟨{ r with f := v }, hb'.set_ 1 _, hg, h1, rfl, h3, h4, set_ok hm _ _ _ hv, fun a hl => ?_, ha⟩
    rw [area_set_other _ _ _ _ _ (la_ne hl).2.1.symm]
    exact (ho' a hl).far (p := ⟨g, 1, none⟩) (fun ad had => (ha a hl _ had).1) _
theorem lens_5 (h : Hold w base g r m) : Lens w base g r m 5 0 (some ⟨g, 4, none⟩) := by
  obtain ⟨hb, hg, h1, h2, h3, h4, hm, ho, ha⟩ := h
  refine ⟨⟨Int.le_refl 0, by show (0 : Int) < 1; omega⟩, hg, hb.lt, ?_, hb.frozen 4, ⟨_, _, hb, .inl rfl⟩, ?_⟩
  · rw [hb.cell 4]; show some (Value.int .u64 r.h) = some (.int .u64 m.h); rw [h3]
  · intro w' h' v hv
    obtain ⟨hb', _, _, _, _, _, _, ho', _⟩ := h'
    refine ⟨{ r with h := v }, hb'.set_ 4 _, hg, h1, h2, rfl, h4, set_ok hm _ _ _ hv, fun a hl => ?_, ha⟩
    rw [area_set_other _ _ _ _ _ (la_ne hl).2.2.1.symm]
    exact (ho' a hl).far (p := ⟨g, 4, none⟩) (fun ad had => (ha a hl _ had).1) _
theorem lens_6 (h : Hold w base g r m) : Lens w base g r m 6 0 (some ⟨g, 5, none⟩) := by
  obtain ⟨hb, hg, h1, h2, h3, h4, hm, ho, ha⟩ := h
  refine ⟨⟨Int.le_refl 0, by show (0 : Int) < 1; omega⟩, hg, hb.lt, ?_, hb.frozen 5, ⟨_, _, hb, .inl rfl⟩, ?_⟩
  · rw [hb.cell 5]; show some (Value.int .u64 r.t) = some (.int .u64 m.t); rw [h4]
  · intro w' h' v hv
    obtain ⟨hb', _, _, _, _, _, _, ho', _⟩ := h'
    refine ⟨{ r with t := v }, hb'.set_ 5 _, hg, h1, h2, h3, rfl, set_ok hm _ _ _ hv, fun a hl => ?_, ha⟩
    rw [area_set_other _ _ _ _ _ (la_ne hl).2.2.2.symm]
    exact (ho' a hl).far (p := ⟨g, 5, none⟩) (fun ad had => (ha a hl _ had).1) _
end

/-- the five rows of r are apart -/
def Five (w : World) (base : Nat) (r : R) (m : M) : Prop :=
  (∀ a, la a → Own w base (r.sl a) (m.area a)) ∧ ∀ a, la a → ∀ b, la b → a ≠ b → ∀ ad, (r.sl a).A = some ad → ∀ ad', (r.sl b).A = some ad' → ad.block ≠ ad'.block

/-- nine cells stored, one behind the other, into a block -/
theorem blk_nine {W : World} {b : Nat} {r : R} {d0 d1 d2 d3 d4 d5 d6 d7 d8 : Value} (hb : Blk W b 25 #[d0, d1, d2, d3, d4, d5, d6, d7, d8]) : Blk (((((((((W.setCell ⟨b, 0, none⟩ (.int .u64 r.e)).setCell ⟨b, 1, none⟩ (.int .u64 r.f)).setCell ⟨b, 2, none⟩ (.slice r.L.A r.L.n r.L.c)).setCell ⟨b, 3, none⟩ (.slice r.P.A r.P.n r.P.c)).setCell ⟨b, 4, none⟩ (.int .u64 r.h)).setCell ⟨b, 5, none⟩ (.int .u64 r.t)).setCell ⟨b, 6, none⟩ (.slice r.K.A r.K.n r.K.c)).setCell ⟨b, 7, none⟩ (.slice r.X.A r.X.n r.X.c)).setCell ⟨b, 8, none⟩ (.slice r.S.A r.S.n r.S.c)) b 25 r.cells := by
  have h := (((((((((hb.set_ 0 (.int .u64 r.e)).set_ 1 (.int .u64 r.f)).set_ 2 (.slice r.L.A r.L.n r.L.c)).set_ 3 (.slice r.P.A r.P.n r.P.c)).set_ 4 (.int .u64 r.h)).set_ 5 (.int .u64 r.t)).set_ 6 (.slice r.K.A r.K.n r.K.c)).set_ 7 (.slice r.X.A r.X.n r.X.c)).set_ 8 (.slice r.S.A r.S.n r.S.c))
  simp only [List.setIfInBounds_toArray, List.set_cons_zero, List.set_cons_succ] at h
  exact h
theorem blk_nine_far {W : World} {b g : Nat} {r : R} {t : TypeId} {cs : Array Value} (hf : Blk W g t cs) (hne : g ≠ b) : Blk (((((((((W.setCell ⟨b, 0, none⟩ (.int .u64 r.e)).setCell ⟨b, 1, none⟩ (.int .u64 r.f)).setCell ⟨b, 2, none⟩ (.slice r.L.A r.L.n r.L.c)).setCell ⟨b, 3, none⟩ (.slice r.P.A r.P.n r.P.c)).setCell ⟨b, 4, none⟩ (.int .u64 r.h)).setCell ⟨b, 5, none⟩ (.int .u64 r.t)).setCell ⟨b, 6, none⟩ (.slice r.K.A r.K.n r.K.c)).setCell ⟨b, 7, none⟩ (.slice r.X.A r.X.n r.X.c)).setCell ⟨b, 8, none⟩ (.slice r.S.A r.S.n r.S.c)) g t cs :=
  (((((((((hf.far (p := ⟨b, 0, none⟩) hne (.int .u64 r.e)).far (p := ⟨b, 1, none⟩) hne (.int .u64 r.f)).far (p := ⟨b, 2, none⟩) hne (.slice r.L.A r.L.n r.L.c)).far (p := ⟨b, 3, none⟩) hne (.slice r.P.A r.P.n r.P.c)).far (p := ⟨b, 4, none⟩) hne (.int .u64 r.h)).far (p := ⟨b, 5, none⟩) hne (.int .u64 r.t)).far (p := ⟨b, 6, none⟩) hne (.slice r.K.A r.K.n r.K.c)).far (p := ⟨b, 7, none⟩) hne (.slice r.X.A r.X.n r.X.c)).far (p := ⟨b, 8, none⟩) hne (.slice r.S.A r.S.n r.S.c))
/-- the words are held where a value of them was stored -/
theorem hold_nine {W : World} {base base5 b : Nat} {r : R} {m : M} {d0 d1 d2 d3 d4 d5 d6 d7 d8 : Value} (hb : Blk W b 25 #[d0, d1, d2, d3, d4, d5, d6, d7, d8])
    (hs : r.e = m.e ∧ r.f = m.f ∧ r.h = m.h ∧ r.t = m.t) (hm : m.ok) (h5 : Five W base5 r m) (hbb : base ≤ b) (hb5 : b < base5) : Hold (((((((((W.setCell ⟨b, 0, none⟩ (.int .u64 r.e)).setCell ⟨b, 1, none⟩ (.int .u64 r.f)).setCell ⟨b, 2, none⟩ (.slice r.L.A r.L.n r.L.c)).setCell ⟨b, 3, none⟩ (.slice r.P.A r.P.n r.P.c)).setCell ⟨b, 4, none⟩ (.int .u64 r.h)).setCell ⟨b, 5, none⟩ (.int .u64 r.t)).setCell ⟨b, 6, none⟩ (.slice r.K.A r.K.n r.K.c)).setCell ⟨b, 7, none⟩ (.slice r.X.A r.X.n r.X.c)).setCell ⟨b, 8, none⟩ (.slice r.S.A r.S.n r.S.c)) base b r m := by
  refine ⟨blk_nine hb, hbb, hs.1, hs.2.1, hs.2.2.1, hs.2.2.2, hm, fun a hl => ?_, fun a hl ad had => ⟨?_, fun c hl' hne ad' had' => h5.2 c hl' a hl hne ad' had' ad had⟩⟩
  · exact ((h5.1 a hl).nine hb5 _ _ _ _ _ _ _ _ _).weaken (by omega)
  · have := ((h5.1 a hl).lt had).1; omega
/-- words that are held are read -/
theorem Hold.rm {w : World} {base g : Nat} {r : R} {m : M} (h : Hold w base g r m) : Rm w w.heap.size r m := by
  obtain ⟨hb, hg, h1, h2, h3, h4, hm, ho, ha⟩ := h
  exact ⟨h1, h2, h3, h4, hm, (ho 3 (.inl rfl)).rd, (ho 4 (.inr (.inl rfl))).rd, (ho 7 (.inr (.inr (.inl rfl)))).rd, (ho 8 (.inr (.inr (.inr (.inl rfl))))).rd, (ho 9 (.inr (.inr (.inr (.inr rfl))))).rd⟩
/-- rows apart are read -/
theorem Five.rm {w : World} {base : Nat} {r : R} {m : M} (h : Five w base r m) (hs : r.e = m.e ∧ r.f = m.f ∧ r.h = m.h ∧ r.t = m.t) (hm : m.ok) : Rm w w.heap.size r m :=
  ⟨hs.1, hs.2.1, hs.2.2.1, hs.2.2.2, hm, (h.1 3 (.inl rfl)).rd, (h.1 4 (.inr (.inl rfl))).rd, (h.1 7 (.inr (.inr (.inl rfl)))).rd, (h.1 8 (.inr (.inr (.inr (.inl rfl))))).rd, (h.1 9 (.inr (.inr (.inr (.inr rfl))))).rd⟩

theorem Own.far_nine {W : World} {base b : Nat} {s : Sl} {xs : List Int} (h : Own W base s xs) (hne : ∀ ad, s.A = some ad → ad.block ≠ b) (r : R) : Own (((((((((W.setCell ⟨b, 0, none⟩ (.int .u64 r.e)).setCell ⟨b, 1, none⟩ (.int .u64 r.f)).setCell ⟨b, 2, none⟩ (.slice r.L.A r.L.n r.L.c)).setCell ⟨b, 3, none⟩ (.slice r.P.A r.P.n r.P.c)).setCell ⟨b, 4, none⟩ (.int .u64 r.h)).setCell ⟨b, 5, none⟩ (.int .u64 r.t)).setCell ⟨b, 6, none⟩ (.slice r.K.A r.K.n r.K.c)).setCell ⟨b, 7, none⟩ (.slice r.X.A r.X.n r.X.c)).setCell ⟨b, 8, none⟩ (.slice r.S.A r.S.n r.S.c)) base s xs :=
  (((((((((h.far (p := ⟨b, 0, none⟩) hne (.int .u64 r.e)).far (p := ⟨b, 1, none⟩) hne (.int .u64 r.f)).far (p := ⟨b, 2, none⟩) hne (.slice r.L.A r.L.n r.L.c)).far (p := ⟨b, 3, none⟩) hne (.slice r.P.A r.P.n r.P.c)).far (p := ⟨b, 4, none⟩) hne (.int .u64 r.h)).far (p := ⟨b, 5, none⟩) hne (.int .u64 r.t)).far (p := ⟨b, 6, none⟩) hne (.slice r.K.A r.K.n r.K.c)).far (p := ⟨b, 7, none⟩) hne (.slice r.X.A r.X.n r.X.c)).far (p := ⟨b, 8, none⟩) hne (.slice r.S.A r.S.n r.S.c))
/-- the words stored once more where they are held -/
theorem Hold.again {W : World} {base b : Nat} {r : R} {m : M} (h : Hold W base b r m) : Hold (((((((((W.setCell ⟨b, 0, none⟩ (.int .u64 r.e)).setCell ⟨b, 1, none⟩ (.int .u64 r.f)).setCell ⟨b, 2, none⟩ (.slice r.L.A r.L.n r.L.c)).setCell ⟨b, 3, none⟩ (.slice r.P.A r.P.n r.P.c)).setCell ⟨b, 4, none⟩ (.int .u64 r.h)).setCell ⟨b, 5, none⟩ (.int .u64 r.t)).setCell ⟨b, 6, none⟩ (.slice r.K.A r.K.n r.K.c)).setCell ⟨b, 7, none⟩ (.slice r.X.A r.X.n r.X.c)).setCell ⟨b, 8, none⟩ (.slice r.S.A r.S.n r.S.c)) base b r m := by
  obtain ⟨hb, hg, h1, h2, h3, h4, hm, ho, ha⟩ := h
  exact ⟨blk_nine hb, hg, h1, h2, h3, h4, hm, fun a hl => (ho a hl).far_nine (fun ad had => (ha a hl ad had).1) r, ha⟩
theorem cells5 {w : World} {b : Nat} {t : TypeId} {c0 c1 c2 c3 c4 : Value} (h : Blk w b t #[c0, c1, c2, c3, c4]) :
    w.cell? ⟨b, 0, none⟩ = some c0 ∧ w.cell? ⟨b, 1, none⟩ = some c1 ∧ w.cell? ⟨b, 2, none⟩ = some c2 ∧ w.cell? ⟨b, 3, none⟩ = some c3 ∧ w.cell? ⟨b, 4, none⟩ = some c4 :=
  ⟨h.cell 0, h.cell 1, h.cell 2, h.cell 3, h.cell 4⟩
/-- two blocks of cells are known behind a call that leaves what there was -/
theorem two_below {W W' : World} {b c : Nat} {t u : TypeId} {cs ds : Array Value} (hb : Below W.heap.size W W') (h0 : Blk W b t cs) (h1 : Blk W c u ds) : Blk W' b t cs ∧ Blk W' c u ds :=
  ⟨h0.below hb h0.lt, h1.below hb h1.lt⟩
theorem two_rules {W : World} {b c : Nat} {t u : TypeId} {cs ds : Array Value} (h0 : Blk W b t cs) (h1 : Blk W c u ds) :
    (∀ i, W.cell? ⟨b, i, none⟩ = cs[i]?) ∧ (∀ i, W.frozen? ⟨b, i, none⟩ = false) ∧ (∀ i, W.cell? ⟨c, i, none⟩ = ds[i]?) ∧ (∀ i, W.frozen? ⟨c, i, none⟩ = false) :=
  ⟨h0.cell, h0.frozen, h1.cell, h1.frozen⟩

end Go.Proofs.Ytjgbgjkjnlaloaa.Memc
