/- A region in which a call and an allocation race: either may come up first. · One more element of a slice that the call made, and where it lies then: where it lay, or in a block that wasn't there. · A region that draws its order, whose last operations write what others of it have read, and wait for those by others between. -/
import Derived.Test.YtjgbgjkjnlaloaaHeldZ
import Derived.Test.YtjgbgjkjnlaloaaRow
namespace Go.Proofs.Ytjgbgjkjnlaloaa.Zreg
open Go Go.RowKit
set_option linter.unusedVariables false
set_option maxRecDepth 100000
section
variable {P : Program} {ops : Array Oper} {Q : Exit → Act → World → Prop} {md : Region.Mode} {S : World → Prop} {zs : List Nat}
/-- either of two may come up now -/
theorem two (i j : Nat) {o o' : Oper} {n : Nat} {listed : Array Bool} {a : Act} {w : World} (hr : Region.ready md ops listed = [i, j]) (hi : ops[i]? = some o) (hj : ops[j]? = some o') (hg : o.guard = none) (hg' : o'.guard = none)
    (h : ∀ K : Act → World → Prop, Hid (∀ b v, (past zs (listed.setIfInBounds i true) = true ∨ S v) → ((past zs (listed.setIfInBounds i true) = true ∨ S v) → After P md ops Q S zs n (listed.setIfInBounds i true) b v) → K b v) → Oper.wp P o a w K Q)
    (h' : ∀ K : Act → World → Prop, Hid (∀ b v, (past zs (listed.setIfInBounds j true) = true ∨ S v) → ((past zs (listed.setIfInBounds j true) = true ∨ S v) → After P md ops Q S zs n (listed.setIfInBounds j true) b v) → K b v) → Oper.wp P o' a w K Q) : After P md ops Q S zs (n + 1) listed a w := by
  refine ⟨(fun h0 => (by rw [hr] at h0; cases h0)), fun k hk => ?_⟩
  rw [hr] at hk
  have hk' : k = i ∨ k = j := by simpa using hk
  rcases hk' with hk' | hk'
  · subst hk'
    unfold wpOp
    rw [hi]
    have hw : Region.wanted o (yielded ops a.tmps) = true := by simp [Region.wanted, hg]
    simp only [hw, if_true]
    exact .inl (h _ (Lib.hid fun b v hS hh => ⟨hS, hh hS⟩))
  · subst hk'
    unfold wpOp
    rw [hj]
    have hw : Region.wanted o' (yielded ops a.tmps) = true := by simp [Region.wanted, hg']
    simp only [hw, if_true]
    exact .inl (h' _ (Lib.hid fun b v hS hh => ⟨hS, hh hS⟩))
end
end Go.Proofs.Ytjgbgjkjnlaloaa.Zreg

namespace Go.Proofs.Ytjgbgjkjnlaloaa.Memc
open Go.RowKit
set_option linter.unusedVariables false
set_option maxRecDepth 100000

theorem append_where {P : Program} (w : World) (base : Nat) (t ty e : TypeId) (i : TypeInfo) (z : Value) (size bytes : Nat) (ht : P.underlying t = some (.slice e)) (hi : P.info? e = some i) (hz : i.zero = some z)
    (hsize : i.size = size) (hby : i.bytes = bytes) (hzs : z.cells.size = size) (hsz : 0 < size)
    (v : Value) (n : Nat) (xs : List Value) (hown : w.ownsRow base e size v n xs)
    (a : Addr) (c : Nat) (news : List Value) (hl : news.length = 1 * size) (hnews : ∀ j u, news[j]? = some u → w.cell? (a.add j) = some u) (h1 : ∀ u ∈ news, u.oneCell' = true)
    (h63 : n + 1 ≤ maxLen) (hbytes : (n + 1) * bytes ≤ 140737488355328) {v' : Value} {w' : World}
    (hr : (Builtin.append_ #[t, t] ty #[v, .slice (some a) 1 c]).run P w = .ok v' w') : ∀ g, v'.ownBlock = some g → v.ownBlock = some g ∨ g = w.heap.size := by
  subst hsize
  subst hby
  have hsmall : n + 1 ≤ 9223372036854775807 := by simp only [maxLen] at h63; omega
  rcases hown.2 with ⟨rfl, rfl⟩ | ⟨g, cap, cur, rfl, hbg, hg, hnc, hcm, hcs, htake⟩
  · have hq := run_append_nil (P := P) w t ty e i z ht hi hz a 1 c news hl hnews (by omega) (by omega) (by have hb := hbytes; simp only [Nat.zero_add] at hb; omega)
    rw [hq] at hr
    injection hr with hv hw
    subst hv
    intro g hg
    simp only [Value.ownBlock] at hg
    injection hg with hg
    exact .inr hg.symm
  · by_cases hroom : n + 1 ≤ cap
    · have hfit : n * i.size + news.length ≤ cur.size := by rw [hl, hcs, ← Nat.add_mul]; exact Nat.mul_le_mul_right _ hroom
      have hq := run_append_room (P := P) w t ty e i ht hi g n cap cur hg a 1 c news hl hnews h1 hroom hfit
      rw [hq] at hr
      injection hr with hv hw
      subst hv
      intro g' hg'
      exact .inl hg'
    · have holds : ∀ j u, xs[j]? = some u → w.cell? ((⟨g, 0, none⟩ : Addr).add j) = some u := hown.cells (g := g) rfl
      have hq := run_append_grow (P := P) w t ty e i z ht hi hz ⟨g, 0, none⟩ n cap xs hown.1 holds a 1 c news hl hnews (by omega) (by omega) (growslice_fits (by omega) hbytes)
      rw [hq] at hr
      injection hr with hv hw
      subst hv
      intro g' hg'
      simp only [Value.ownBlock] at hg'
      injection hg' with hg'
      exact .inr hg'.symm

theorem bl_own {s : Sl} {g : Nat} : bl s g ↔ (Value.slice s.A s.n s.c).ownBlock = some g := by
  obtain ⟨A, n, c⟩ := s
  cases A with
  | none => exact ⟨(fun ⟨ad, h, _⟩ => by cases h), (fun h => by cases h)⟩
  | some ad => exact ⟨(fun ⟨ad', h, he⟩ => by injection h with h; subst h; subst he; rfl), (fun h => by injection h with h; exact ⟨ad, rfl, h.symm⟩)⟩

/-- one more element -/
theorem wp_app2 {w : World} {o : Oper} {a : Act} {K : Act → World → Prop} {Q : Exit → Act → World → Prop} (x y : Operand) (t : TypeId) (ho : o.op = .call { callee := .builtin .append, args := #[x, y], argTypes := #[t, t] })
    (base : Nat) (E : TypeId) (i : TypeInfo) (z : Value) (size bytes : Nat) (ht : Try.prog.underlying t = some (.slice E)) (hi : Try.prog.info? E = some i) (hz : i.zero = some z) (hsize : i.size = size) (hby : i.bytes = bytes) (hzs : z.cells.size = size) (hsz : 0 < size)
    (s : Sl) (n : Nat) (xs : List Value) (hx : a.eval x = .slice s.A s.n s.c) (hown : Row w base E size s n xs) (gy : Nat) (news : List Value) (hy : a.eval y = .slice (some ⟨gy, 0, none⟩) 1 1) (hl : news.length = size)
    (hnews : ∀ j u, news[j]? = some u → w.cell? ⟨gy, j, none⟩ = some u) (h1 : ∀ u ∈ news, u.oneCell' = true) (h63 : n < 1000000) (hb1 : bytes ≤ 1000) (hb : base ≤ w.heap.size)
    (hk : ∀ s' w', Row w' base E size s' (n + 1) (xs ++ news) → Only (bl s) w w' → (∀ g, bl s' g → bl s g ∨ g = w.heap.size) → K (a.put o.dst (.slice s'.A s'.n s'.c)) w') : o.wp Try.prog a w K Q := by
  have hbb : (n + 1) * bytes ≤ 140737488355328 := Nat.le_trans (Nat.mul_le_mul (show n + 1 ≤ 1000000 by omega) hb1) (by omega)
  have hm63 : n + 1 ≤ maxLen := by unfold maxLen; omega
  have hnw : ∀ j u, news[j]? = some u → w.cell? ((⟨gy, 0, none⟩ : Addr).add j) = some u := fun j u hj => by
    rw [Addr.add_lit]
    simpa using hnews j u hj
  obtain ⟨v', w', hr, h2, h3, h4⟩ := run_append_own (P := Try.prog) w base t o.type E i z size bytes ht hi hz hsize hby hzs hsz _ n xs hown ⟨gy, 0, none⟩ 1 1 news (by omega) hnw h1 hm63 hbb hb
  have hwh := append_where (P := Try.prog) w base t o.type E i z size bytes ht hi hz hsize hby hzs hsz _ n xs hown ⟨gy, 0, none⟩ 1 news (by omega) hnw h1 hm63 hbb hr
  unfold Oper.wp execOp
  simp only [ho, resolve, invoke, builtin, Sem.run_bind, Sem.run_pure, Result.andThen_ok, List.map_toArray, List.map_cons, List.map_nil, hx, hy, hr]
  obtain ⟨s', rfl, hs'⟩ := row_sl h2
  exact hk s' w' hs' (only_grown h3) (fun g hg => (hwh g (bl_own.1 hg)).imp_left bl_own.2)
end Go.Proofs.Ytjgbgjkjnlaloaa.Memc

namespace Go.Proofs.Ytjgbgjkjnlaloaa.Zreg
open Go Go.RowKit
set_option linter.unusedVariables false
set_option maxRecDepth 100000
section
variable {P : Program} {ops : Array Oper} {Q : Exit → Act → World → Prop} {md : Region.Mode} {S : World → Prop} {zs : List Nat}

/-- number z waits for number i, by others between -/
def reach (md : Region.Mode) (ops : Array Oper) : Nat → Nat → Nat → Bool
  | 0, _, _ => false
  | f + 1, z, i => match ops[z]? with
    | none => false
    | some o => o.after.toList.any fun e => Region.binds md e && (e.on == i || reach md ops f e.on i)
def Closed (md : Region.Mode) (ops : Array Oper) (listed : Array Bool) : Prop :=
  ∀ y o, ops[y]? = some o → listed.getD y false = true → ∀ e ∈ o.after, Region.binds md e = true → listed.getD e.on false = true
def closedB (md : Region.Mode) (ops : Array Oper) (listed : Array Bool) : Bool :=
  (List.range ops.size).all fun y => !(listed.getD y false) || (match ops[y]? with
    | none => true
    | some o => o.after.all fun e => !(Region.binds md e) || listed.getD e.on false)
theorem closed_of {listed : Array Bool} (h : closedB md ops listed = true) : Closed md ops listed := fun y o ho hy e he hb => by
  have hlt : y < ops.size := (Array.getElem?_eq_some_iff.1 ho).1
  have h1 := List.all_eq_true.1 h y (List.mem_range.2 hlt)
  rw [ho, hy] at h1
  simp only [Bool.not_true, Bool.false_or] at h1
  have h2 := (Array.all_eq_true_iff_forall_mem.1 h1) e he
  rw [hb] at h2
  simpa using h2
theorem getD_set_false {listed : Array Bool} {i k : Nat} (h : listed.getD k false = true) : (listed.setIfInBounds i true).getD k false = true := by
  by_cases hik : i = k
  · subst hik
    rw [Array.getD_eq_getD_getElem?] at *
    have hlt : i < listed.size := by
      rcases Nat.lt_or_ge i listed.size with h1 | h1
      · exact h1
      · rw [Array.getElem?_eq_none h1] at h; cases h
    rw [Array.getElem?_setIfInBounds_self_of_lt hlt]; rfl
  · rw [getD_set_ne false hik]; exact h
theorem Closed.set {listed : Array Bool} {j : Nat} {oj : Oper} (h : Closed md ops listed) (hoj : ops[j]? = some oj) (hall : ∀ e ∈ oj.after, Region.binds md e = true → listed.getD e.on false = true) : Closed md ops (listed.setIfInBounds j true) := fun y o ho hy e he hb => by
  by_cases hyj : j = y
  · subst hyj
    rw [hoj] at ho
    injection ho with ho
    subst ho
    exact getD_set_false (hall e he hb)
  · rw [getD_set_ne false hyj] at hy
    exact getD_set_false (h y o ho hy e he hb)
theorem reach_listed {listed : Array Bool} (h : Closed md ops listed) (i : Nat) : ∀ (f z : Nat) (o : Oper), ops[z]? = some o → reach md ops f z i = true → (∀ e ∈ o.after, Region.binds md e = true → listed.getD e.on false = true) → listed.getD i false = true
  | 0, z, o, _, hr, _ => by cases hr
  | f + 1, z, o, ho, hr, hall => by
    unfold reach at hr
    rw [ho] at hr
    simp only [List.any_eq_true, Bool.and_eq_true, Bool.or_eq_true, beq_iff_eq, Array.mem_toList_iff] at hr
    obtain ⟨e, he, hb, h1 | h1⟩ := hr
    · rw [← h1]; exact hall e he hb
    · have hl := hall e he hb
      cases f with
      | zero => cases h1
      | succ f =>
        rcases hoy : ops[e.on]? with _ | oy
        · unfold reach at h1
          rw [hoy] at h1
          cases h1
        · exact reach_listed h i (f + 1) e.on oy hoy h1 (fun e' he' hb' => h e.on oy hoy hl e' he' hb')
theorem After.firstD {i : Nat} {o : Oper} {x : Value} (hi : ops[i]? = some o) (hiz : i ∉ zs) (hsel : Region.noSelect ops = true) (hQ : ∀ c a w, Q (.panic c) (a.put o.dst x) w → Q (.panic c) a w) (hzr : ∀ z ∈ zs, reach md ops ops.size z i = true) :
    ∀ (n : Nat) (listed : Array Bool) (a : Act) (w : World), Closed md ops listed → past zs listed = false →
      (∀ j oj, ops[j]? = some oj → j ≠ i → listed.getD j true = false → (∀ e ∈ oj.after, Region.binds md e = true → e.on ≠ i) → o.apart ops oj = true) →
      i ∈ Region.ready md ops listed → YieldsIf P ops S o x a → (past zs listed = true ∨ S w) → After P md ops Q S zs n (listed.setIfInBounds i true) (a.put o.dst x) w → After P md ops Q S zs (n + 1) listed a w
  | n, listed, a, w, hcl, hp, hfree, hr, hy, hS, h => by
    have hS' := hS.resolve_left (by rw [hp]; decide)
    refine ⟨(fun h0 => (by rw [h0] at hr; cases hr)), fun j hj => ?_⟩
    by_cases hji : j = i
    · subst hji
      exact hy.wpOp hi hS' ⟨hS.imp_left past_mono, h⟩
    · obtain ⟨hun, oj, hoj, hall⟩ := mem_ready.1 hj
      have hno := not_waits hr hoj hall
      match n, h with
      | 0, h =>
        have := ready_mono hj hji
        rw [h.1] at this
        cases this
      | n + 1, h =>
        have h1 := h.2 j (ready_mono hj hji)
        have h2 := wpOp_putIf hoj (hfree j oj hoj hji hun hno) (fun cs b => Region.noSelect_spec hsel i o cs b hi) (fun cs b => Region.noSelect_spec hsel j oj cs b hoj) hQ hy h1
        refine wpOp_mono (fun b v h3 => ?_) h2
        have hSv : past zs (listed.setIfInBounds j true) = true ∨ S v := by
          have h4 := h3.2.1
          rw [Array.setIfInBounds_comm _ _ (Ne.symm hji)] at h4
          exact h4.imp_left (past_of_set hiz)
        have hp' : past zs (listed.setIfInBounds j true) = false := past_set hp (fun hjz => by
          have h5 := reach_listed hcl i ops.size j oj hoj (hzr j hjz) hall
          have h6 := (mem_ready.1 hr).1
          rw [Array.getD_eq_getD_getElem?] at h5 h6
          rcases hx : listed[i]? with _ | y
          · rw [hx] at h5; cases h5
          · rw [hx] at h5 h6
            simp only [Option.getD_some] at h5 h6
            rw [h5] at h6; cases h6)
        have hS'v : S v := hSv.resolve_left (by rw [hp']; decide)
        refine ⟨hSv, After.firstD hi hiz hsel hQ hzr n (listed.setIfInBounds j true) b v (hcl.set hoj hall) hp' (fun k ok hk hki hku hkn => ?_) (ready_mono hr (Ne.symm hji)) h3.1 hSv ?_⟩
        · refine hfree k ok hk hki ?_ hkn
          by_cases hjk : j = k
          · subst hjk; exact hun
          · rw [getD_set_ne true hjk] at hku; exact hku
        · rw [Array.setIfInBounds_comm _ _ hji]
          exact h3.2.2
/-- take number i first, which reads what S tells; zs wait for it by others between -/
theorem takeD (i d : Nat) {o : Oper} {x : Value} {n : Nat} {listed : Array Bool} {tmps : Array Value} {w : World}
    (hi : ops[i]? = some o) (hd : o.dst = some d) (hs : Region.noSelect ops = true) (hf : Region.free md ops listed i = true) (hr : (Region.ready md ops listed).contains i = true) (hiz : zs.contains i = false) (hz : zs.all (fun z => reach md ops ops.size z i) = true) (hp : past zs listed = false) (hcl : closedB md ops listed = true)
    (hQ : ∀ c a w, Q (.panic c) (a.put o.dst x) w → Q (.panic c) a w) (hS : past zs listed = true ∨ S w) (hy : YieldsIf P ops S o x ⟨tmps, []⟩)
    (h : After P md ops Q S zs n (listed.setIfInBounds i true) ⟨tmps.setIfInBounds d x, []⟩ w) : After P md ops Q S zs (n + 1) listed ⟨tmps, []⟩ w := by
  refine After.firstD hi (by simpa using hiz) hs hQ (fun z hz' => List.all_eq_true.1 hz z hz') n listed _ w (closed_of hcl) hp (fun j oj hj hne hun hno => Region.free_spec hi hf j oj hj hne hun hno) (by simpa using hr) hy hS ?_
  rw [hd]
  exact h
end
end Go.Proofs.Ytjgbgjkjnlaloaa.Zreg
