/- ArenaOnce as mathematics: what a run of calls that only take comes to. · ArenaBack as mathematics: one thread alone takes all segments, gives them back, and takes them anew. · Lists of calls, lists of such lists, and picks with what is drawn: how they are read in memory when they are handed over. · A config: how it is read when it is handed over. -/
import Derived.Test.YtffppdcpiieapaaQ8
import Derived.Test.YtffppdcpiieapaaQ14
import Derived.Test.YtffppdcpiieapaaQ17
import Derived.Test.YtffppdcpiieapaaQ18
set_option maxRecDepth 100000
namespace Go.Proofs.Ytffppdcpiieapaa.Machc
open Go.Proofs.Ytffppdcpiieapaa.Memc Go.Proofs.Ytffppdcpiieapaa.Newc Go.Proofs.Ytffppdcpiieapaa.Drivec Go.Proofs.Ytffppdcpiieapaa.Procc Go.Proofs.Ytffppdcpiieapaa.Arenac
set_option linter.unusedVariables false

/-! ### ArenaOnce: where calls only take -/
/-- the word of the free list's beginning behind so many takes -/
def frW (h M n : Nat) : Int := n * 4294967296 + (if h + n < M then ((h + n : Nat) : Int) + 1 else 0)
def lkW (M j : Nat) : Int := if j + 1 < M then (j : Int) + 2 else 0
structure OnceM (h M n : Nat) (m : Memc.M) : Prop where
  f : m.f = frW h M n
  l : m.lk = Newc.linked h M M
  n : h + n ≤ M
def OnceF (h M n : Nat) (f : FS) : Prop :=
  f.kd = 4 ∧ f.code = 0 ∧ (f.pc = 90 ∨ (f.pc = 91 ∧ ∃ q, q ≤ n ∧ h + q < M ∧ f.w = frW h M q) ∨ (f.pc = 92 ∧ ∃ q, q ≤ n ∧ h + q < M ∧ f.w = frW h M q ∧ f.l = lkW M (h + q)))
theorem OnceF.mono {h M n n' : Nat} {f : FS} (hf : OnceF h M n f) (hn : n ≤ n') : OnceF h M n' f := by
  obtain ⟨h1, h2, hp⟩ := hf
  refine ⟨h1, h2, ?_⟩
  rcases hp with hp | ⟨hp, q, a, b⟩ | ⟨hp, q, a, b⟩
  · exact .inl hp
  · exact .inr (.inl ⟨hp, q, by omega, b⟩)
  · exact .inr (.inr ⟨hp, q, by omega, b⟩)
theorem lo_frW {h M n : Nat} (hM : M ≤ 64) (hh : h + n < M) : lo (frW h M n) = ((h + n : Nat) : Int) + 1 := by unfold lo frW; rw [if_pos hh]; omega
theorem lo_frW0 {h M n : Nat} (hh : ¬ h + n < M) : lo (frW h M n) = 0 := by unfold lo frW; rw [if_neg hh]; omega
theorem hi_frW {h M n : Nat} (hM : M ≤ 64) : hi (frW h M n) = n := by unfold hi frW; split <;> omega
theorem once_step {h k' K T M n : Nat} {k : Int} {m : Memc.M} {f : FS} (hM : M ≤ 64) (hm : OnceM h M n m) (hf : OnceF h M n f) :
    (OnceM h M n (acc m (docAsk k K M f)).1 ∧ ¬ (docTell k K T M f (acc m (docAsk k K M f)).2.1 (acc m (docAsk k K M f)).2.2).pc = 0 ∧ OnceF h M n (docTell k K T M f (acc m (docAsk k K M f)).2.1 (acc m (docAsk k K M f)).2.2)) ∨
    (OnceM h M n (acc m (docAsk k K M f)).1 ∧ (docTell k K T M f (acc m (docAsk k K M f)).2.1 (acc m (docAsk k K M f)).2.2).pc = 0 ∧ (docTell k K T M f (acc m (docAsk k K M f)).2.1 (acc m (docAsk k K M f)).2.2).code = 4 ∧ lo (acc m (docAsk k K M f)).2.1 = 0) ∨
    (OnceM h M (n + 1) (acc m (docAsk k K M f)).1 ∧ (docTell k K T M f (acc m (docAsk k K M f)).2.1 (acc m (docAsk k K M f)).2.2).pc = 0 ∧ (docTell k K T M f (acc m (docAsk k K M f)).2.1 (acc m (docAsk k K M f)).2.2).code = 0 ∧ (docTell k K T M f (acc m (docAsk k K M f)).2.1 (acc m (docAsk k K M f)).2.2).out = ((h + n : Nat) : Int)) := by
  obtain ⟨hk, hc, hp⟩ := hf
  rcases hp with hp | ⟨hp, q, q1, q2, hw⟩ | ⟨hp, q, q1, q2, hw, hl⟩
  · rw [ask90 hp, acc_read, tell90 _ _ hp]
    have e1 : (if there m 2 0 then get m 2 0 else 0) = m.f := rfl
    rw [e1]
    dsimp only
    by_cases hz : lo m.f = 0
    · rw [if_pos hz]
      refine .inr (.inl ⟨hm, ?_, rfl, hz⟩)
      show (if ¬ f.hold = 0 ∧ ¬ f.kd = 4 then (19 : Int) else if k = 2 ∨ f.kd = 4 then 0 else 4) = 0
      rw [if_neg (fun x => x.2 hk), if_pos (.inr hk)]
    · rw [if_neg hz]
      have hn : h + n < M := by
        rcases Nat.lt_or_ge (h + n) M with h1 | h1
        · exact h1
        · exact absurd (by rw [hm.f]; exact lo_frW0 (by omega)) hz
      exact .inl ⟨hm, (by show ¬ (91 : Int) = 0; decide), hk, hc, .inr (.inl ⟨rfl, n, Nat.le_refl _, hn, hm.f⟩)⟩
  · rw [ask91 hp, acc_read, tell91 _ _ hp]
    dsimp only
    refine .inl ⟨hm, by decide, hk, hc, .inr (.inr ⟨rfl, q, q1, q2, hw, ?_⟩)⟩
    have e1 : hnd f.w = ((h + q : Nat) : Int) := by unfold hnd; rw [hw, lo_frW hM q2]; omega
    have hlen : m.lk.length = M := by rw [hm.l]; exact linked_len _ _ _
    show (if there m 7 (hnd f.w) then get m 7 (hnd f.w) else 0) = lkW M (h + q)
    rw [if_pos (by rw [e1]; refine ⟨by omega, ?_⟩; show _ < ((m.lk.length : Nat) : Int); omega), e1]
    show m.lk.getD (((h + q : Nat) : Int)).toNat 0 = _
    rw [Int.toNat_natCast, hm.l, List.getD_eq_getElem?_getD, List.getElem?_eq_getElem (by rw [linked_len]; omega)]
    simp only [Newc.linked, List.getElem_map, List.getElem_range, Option.getD_some, lkW]
    by_cases h9 : h + q + 1 < M
    · rw [if_pos ⟨by omega, h9⟩, if_pos h9]
    · rw [if_neg (fun x => h9 x.2), if_neg h9]
  · rw [ask92 hp, tell92 _ _ hp]
    obtain ⟨s1, s2, s3⟩ := acc_swap m 2 0 f.w (pk (up (hi f.w)) (lo f.l))
    rw [s1, s3]
    have e0 : there m 2 0 := ⟨by decide, by show (0 : Int) < 1; decide⟩
    have e1 : get m 2 0 = m.f := rfl
    rw [e1]
    by_cases he : m.f = f.w
    · rw [if_pos ⟨e0, he⟩, decide_eq_true ⟨e0, he⟩, if_pos rfl, if_pos hk]
      have hq : q = n := by
        have := congrArg hi he
        rw [hm.f, hw, hi_frW hM, hi_frW hM] at this
        omega
      subst hq
      refine .inr (.inr ⟨⟨?_, hm.l, by omega⟩, rfl, hc, ?_⟩)
      · show pk (up (hi f.w)) (lo f.l) = frW h M (q + 1)
        rw [hw, hl, hi_frW hM]
        unfold pk up lo lkW frW
        by_cases h9 : h + q + 1 < M
        · rw [if_pos h9, if_pos (by omega)]; omega
        · rw [if_neg h9, if_neg (by omega)]; omega
      · show dec (lo f.w) = _
        rw [hw, lo_frW hM q2]
        unfold dec
        omega
    · rw [if_neg (fun x => he x.2), decide_eq_false (fun x => he x.2), if_neg (by decide)]
      exact .inl ⟨hm, (by show ¬ (90 : Int) = 0; decide), hk, hc, .inl rfl⟩
/-- what the calls that are over, and came out OK, told -/
def outOf (c : Ck) : Option Int := if c.to < 0 ∨ ¬ c.cd = 0 then none else some c.ou
def outsOf (l : List Ck) : List Int := l.filterMap outOf
theorem outsOf_set : ∀ {l : List Ck} {j : Nat} {c c' : Ck}, l[j]? = some c → outOf c = none → (outsOf (l.set j c')).Perm ((outOf c').toList ++ outsOf l)
  | [], j, c, c', h, _ => by cases h
  | x :: l, 0, c, c', h, hn => by
    injection h with h
    subst h
    unfold outsOf
    rw [List.set_cons_zero, List.filterMap_cons, List.filterMap_cons, hn]
    cases outOf c' <;> exact List.Perm.refl _
  | x :: l, j + 1, c, c', h, hn => by
    have ih := outsOf_set (l := l) (j := j) (c' := c') h hn
    unfold outsOf at ih ⊢
    rw [List.set_cons_succ, List.filterMap_cons, List.filterMap_cons]
    cases outOf x with
    | none => exact ih
    | some v =>
      refine (List.Perm.cons v ih).trans ?_
      cases outOf c' with
      | none => exact List.Perm.refl _
      | some v' => exact List.Perm.swap _ _ _
def intsFrom (h n : Nat) : List Int := (List.range' h n).map Int.ofNat
theorem intsFrom_succ (h n : Nat) : intsFrom h (n + 1) = intsFrom h n ++ [((h + n : Nat) : Int)] := by
  unfold intsFrom
  rw [List.range'_1_concat, List.map_append]
  rfl
/-- the run -/
structure OnceR (h T M n : Nat) (s : RS) : Prop where
  m : OnceM h M n s.m
  lon : s.on.length = T
  lcall : s.call.length = T
  on : ∀ i, i < T → ¬ s.call.getD i (-1) < 0 → OnceF h M n (s.on.getD i FS.none) ∧ ∃ c, s.calls[(s.call.getD i (-1)).toNat]? = some c ∧ c.to = -1
  inj : ∀ i j, i < T → j < T → ¬ s.call.getD i (-1) < 0 → s.call.getD i (-1) = s.call.getD j (-1) → i = j
  ends : ∀ c, c ∈ s.calls → c.to = -1 ∨ (0 ≤ c.to ∧ c.cd = 0) ∨ (0 ≤ c.to ∧ c.cd = 4 ∧ ∃ st, s.steps[c.to.toNat]? = some st ∧ lo st.was = 0)
  outs : (outsOf s.calls).Perm (intsFrom h n)
theorem OnceR.beg {h T M n : Nat} {s : RS} (hs : OnceR h T M n s) {i : Nat} (hi : i < T) {f : FS} (hf : OnceF h M n f) (kd vl : Int) : OnceR h T M n (begR s i f kd vl) ∧ ¬ (begR s i f kd vl).call.getD i (-1) < 0 := by
  have hlc := hs.lcall
  have hlo := hs.lon
  have hold : ∀ j, j < T → ¬ s.call.getD j (-1) < 0 → (s.call.getD j (-1)).toNat < s.calls.length := fun j hj hc => by
    obtain ⟨c, hc, _⟩ := (hs.on j hj hc).2
    exact (List.getElem?_eq_some_iff.1 hc).1
  refine ⟨⟨hs.m, by show (s.on.set i f).length = T; rw [List.length_set]; exact hlo, by show (s.call.set i _).length = T; rw [List.length_set]; exact hlc, fun j hj hc => ?_, fun a b ha hb hc he => ?_, fun c hc => ?_, ?_⟩, ?_⟩
  · change ¬ (s.call.set i (s.calls.length : Int)).getD j (-1) < 0 at hc
    show OnceF h M n ((s.on.set i f).getD j FS.none) ∧ ∃ c, (s.calls ++ [_])[((s.call.set i (s.calls.length : Int)).getD j (-1)).toNat]? = some c ∧ _
    by_cases hij : i = j
    · subst hij
      rw [getD_set_self (by omega), getD_set_self (by omega), Int.toNat_natCast]
      exact ⟨hf, _, List.getElem?_concat_length, rfl⟩
    · rw [getD_set_ne hij] at hc
      rw [getD_set_ne hij, getD_set_ne hij, List.getElem?_append_left (hold j hj hc)]
      exact hs.on j hj hc
  · change ¬ (s.call.set i (s.calls.length : Int)).getD a (-1) < 0 at hc
    change (s.call.set i (s.calls.length : Int)).getD a (-1) = (s.call.set i (s.calls.length : Int)).getD b (-1) at he
    by_cases hia : i = a
    · by_cases hib : i = b
      · omega
      · subst hia
        rw [getD_set_self (by omega), getD_set_ne hib] at he
        have := hold b hb (by omega)
        omega
    · rw [getD_set_ne hia] at hc he
      by_cases hib : i = b
      · subst hib
        rw [getD_set_self (by omega)] at he
        have := hold a ha hc
        omega
      · rw [getD_set_ne hib] at he
        exact hs.inj a b ha hb hc he
  · rcases List.mem_append.1 (show c ∈ s.calls ++ [_] from hc) with hc | hc
    · exact hs.ends c hc
    · rw [List.mem_singleton.1 hc]; exact .inl rfl
  · show (outsOf (s.calls ++ [_])).Perm _
    unfold outsOf
    rw [List.filterMap_append]
    have e : List.filterMap outOf [(⟨i, kd, vl, s.steps.length, -1, 0, 0⟩ : Ck)] = [] := rfl
    rw [e, List.append_nil]
    exact hs.outs
  · show ¬ (s.call.set i (s.calls.length : Int)).getD i (-1) < 0
    rw [getD_set_self (by omega)]
    omega
theorem OnceR.go {h K T M n : Nat} {k : Int} {s : RS} (hM : M ≤ 64) (hs : OnceR h T M n s) {i : Nat} (hi : i < T) (hc : ¬ s.call.getD i (-1) < 0) : ∃ n', OnceR h T M n' (goR (docAsk k K M) (docTell k K T M) s i) := by
  have hlc := hs.lcall
  have hlo := hs.lon
  obtain ⟨hf, c, hcc, hct⟩ := hs.on i hi hc
  have hst := once_step (k' := 0) (k := k) (K := K) (T := T) hM hs.m hf
  have e0 : s.call.getD i 0 = s.call.getD i (-1) := by
    rw [List.getD_eq_getElem?_getD, List.getD_eq_getElem?_getD, List.getElem?_eq_getElem (by omega)]; rfl
  unfold goR
  simp only
  rw [e0]
  generalize s.on.getD i FS.none = f at hst hf ⊢
  generalize docAsk k K M f = a at hst ⊢
  generalize acc s.m a = x at hst ⊢
  generalize docTell k K T M f x.2.1 x.2.2 = f' at hst ⊢
  have hends : ∀ c', c' ∈ s.calls → c'.to = -1 ∨ (0 ≤ c'.to ∧ c'.cd = 0) ∨ (0 ≤ c'.to ∧ c'.cd = 4 ∧ ∃ st, (s.steps ++ [⟨(i : Int), a, x.2.1, x.2.2⟩])[c'.to.toNat]? = some st ∧ lo st.was = 0) := fun c' hc' => by
    rcases hs.ends c' hc' with h1 | h1 | ⟨h1, h2, st, h3, h4⟩
    · exact .inl h1
    · exact .inr (.inl h1)
    · exact .inr (.inr ⟨h1, h2, st, by rw [List.getElem?_append_left (List.getElem?_eq_some_iff.1 h3).1]; exact h3, h4⟩)
  -- a call that is over
  have hover : ∀ n' : Nat, n ≤ n' → OnceM h M n' x.1 → f'.pc = 0 → ((f'.code = 0 ∧ n' = n + 1 ∧ f'.out = ((h + n : Nat) : Int)) ∨ (f'.code = 4 ∧ n' = n ∧ lo x.2.1 = 0)) → OnceR h T M n' ⟨x.1, s.on.set i f', if f'.pc = 0 then s.call.set i (-1) else s.call, s.at_, s.steps ++ [⟨(i : Int), a, x.2.1, x.2.2⟩], if f'.pc = 0 then s.calls.set (s.call.getD i (-1)).toNat (endK (s.calls.getD (s.call.getD i (-1)).toNat ⟨0, 0, 0, 0, 0, 0, 0⟩) s.steps.length f') else s.calls⟩ := fun n' hn hm hp hw => by
    rw [if_pos hp, if_pos hp]
    generalize hck : endK (s.calls.getD (s.call.getD i (-1)).toNat ⟨0, 0, 0, 0, 0, 0, 0⟩) s.steps.length f' = ck
    have hkt : ck.to = s.steps.length := by rw [← hck]; rfl
    have hkc : ck.cd = f'.code := by rw [← hck]; rfl
    have hko : ck.ou = f'.out := by rw [← hck]; rfl
    refine ⟨hm, by rw [List.length_set]; exact hlo, by rw [List.length_set]; exact hlc, fun j hj hc2 => ?_, fun a b ha hb hc2 he => ?_, fun c' hc' => ?_, ?_⟩
    · dsimp only at hc2 ⊢
      by_cases hij : i = j
      · subst hij
        rw [getD_set_self (by omega)] at hc2
        exact absurd (by decide) hc2
      · rw [getD_set_ne hij] at hc2
        rw [getD_set_ne hij, getD_set_ne hij]
        obtain ⟨g1, c2, g2, g3⟩ := hs.on j hj hc2
        refine ⟨g1.mono hn, c2, ?_, g3⟩
        rw [List.getElem?_set_ne (fun e => hij (hs.inj i j hi hj hc (by omega)))]
        exact g2
    · dsimp only at hc2 he
      by_cases hia : i = a
      · subst hia
        rw [getD_set_self (by omega)] at hc2
        exact absurd (by decide) hc2
      · rw [getD_set_ne hia] at hc2 he
        by_cases hib : i = b
        · subst hib
          rw [getD_set_self (by omega)] at he
          omega
        · rw [getD_set_ne hib] at he
          exact hs.inj a b ha hb hc2 he
    · rcases List.mem_or_eq_of_mem_set hc' with h1 | h1
      · exact hends c' h1
      · rw [h1, hkt, hkc]
        rcases hw with ⟨h2, _, _⟩ | ⟨h2, _, h3⟩
        · exact .inr (.inl ⟨by omega, h2⟩)
        · exact .inr (.inr ⟨by omega, h2, _, by rw [Int.toNat_natCast]; exact List.getElem?_concat_length, h3⟩)
    · have hno : outOf c = none := by unfold outOf; rw [if_pos (.inl (by omega))]
      refine (outsOf_set hcc hno).trans ?_
      rcases hw with ⟨h2, rfl, h3⟩ | ⟨h2, rfl, h3⟩
      · have e : outOf ck = some ((h + n : Nat) : Int) := by
          unfold outOf
          rw [if_neg (by rw [hkt, hkc, h2]; omega), hko, h3]
        rw [e, intsFrom_succ]
        exact (List.Perm.cons _ hs.outs).trans (List.perm_append_singleton _ _).symm
      · have e : outOf ck = none := by
          unfold outOf
          rw [if_pos (.inr (by rw [hkc, h2]; decide))]
        rw [e]
        exact hs.outs
  rcases hst with ⟨hm, hp, hf'⟩ | ⟨hm, hp, h2, h3⟩ | ⟨hm, hp, h2, h3⟩
  · refine ⟨n, ?_⟩
    rw [if_neg hp, if_neg hp]
    refine ⟨hm, by rw [List.length_set]; exact hlo, hlc, fun j hj hc2 => ?_, hs.inj, hends, hs.outs⟩
    dsimp only at hc2 ⊢
    by_cases hij : i = j
    · subst hij
      rw [getD_set_self (by omega)]
      exact ⟨hf', c, hcc, hct⟩
    · rw [getD_set_ne hij]
      exact hs.on j hj hc2
  · exact ⟨n, hover n (Nat.le_refl _) hm hp (.inr ⟨h2, rfl, h3⟩)⟩
  · exact ⟨n + 1, hover (n + 1) (Nat.le_succ _) hm hp (.inl ⟨h2, rfl, h3⟩)⟩
theorem once_bg {h K M n i : Nat} {k vl d : Int} : OnceF h M n (docBg k K M i 4 vl d) := ⟨rfl, rfl, .inl rfl⟩
theorem once_turn {h K T M : Nat} {k : Int} {ls : List (List (Int × Int))} (hM : M ≤ 64) (hT : ls.length = T) (hl : ∀ l, l ∈ ls → ∀ o, o ∈ l → o.1 = 4) (s : RS) (t d : Int) (hs : ∃ n, OnceR h T M n s) : ∃ n, OnceR h T M n (turnM (docZ k K T M) ls s t d) := by
  obtain ⟨n, hs⟩ := hs
  refine turnM_ind (P := fun s => ∃ n, OnceR h T M n s) ⟨n, hs⟩ (fun i l o d hl1 ho hc => ?_) (fun i hi hc => ?_) t d
  · have hiT : i < T := by rw [← hT]; exact (List.getElem?_eq_some_iff.1 hl1).1
    have h4 := hl l (List.mem_of_getElem? hl1) o (List.mem_of_getElem? ho)
    have hf : OnceF h M n ((docZ k K T M).bg i o.1 o.2 d) := by rw [h4]; exact once_bg (k := k)
    have h5 := hs.beg hiT hf o.1 o.2
    exact h5.1.go hM hiT h5.2
  · exact hs.go hM (by omega) hc
theorem once_run {K T M : Nat} {k : Int} {ls : List (List (Int × Int))} (hk : k = 1 ∨ k = 3) (m1 : 2 ≤ M) (hM : M ≤ 64) (hT : ls.length = T) (hl : ∀ l, l ∈ ls → ∀ o, o ∈ l → o.1 = 4) (ps : List (Int × Int)) :
    ∃ n, OnceR (if k = 1 then 1 else 0) T M n (runM (docZ k K T M) ls (RS.first (newM k K T M) T) ps) := by
  refine runM_ind (P := fun s => ∃ n, OnceR (if k = 1 then 1 else 0) T M n s) (fun s t d h => once_turn hM hT hl s t d h) ps _ ⟨0, ?_⟩
  have hc : ∀ i, (RS.first (newM k K T M) T).call.getD i (-1) < 0 := fun i => by
    show (List.replicate T (-1 : Int)).getD i (-1) < 0
    rw [List.getD_eq_getElem?_getD, List.getElem?_replicate]
    split <;> decide
  refine OnceR.mk ⟨?_, ?_, ?_⟩ (by simp [RS.first]) (by simp [RS.first]) (fun i hi h => absurd (hc i) h) (fun i j _ _ h => absurd (hc i) h) (fun c hc => by cases hc) ?_
  · rcases hk with rfl | rfl
    · show (2 : Int) = frW 1 M 0
      unfold frW; rw [if_pos (by omega)]; rfl
    · show (1 : Int) = frW 0 M 0
      unfold frW; rw [if_pos (by omega)]; rfl
  · rcases hk with rfl | rfl <;> rfl
  · rcases hk with rfl | rfl
    · show 1 + 0 ≤ M; omega
    · show 0 + 0 ≤ M; omega
  · exact List.Perm.refl _
/-- the free list behind so many takes -/
theorem once_free {h M : Nat} (hM : M ≤ 64) : ∀ (r n fuel : Nat), h + n + r = M → r < fuel → listN fuel (Newc.linked h M M) (if h + n < M then ((h + n : Nat) : Int) + 1 else 0) = intsFrom (h + n) r
  | 0, n, fuel, e, _ => by
    rw [if_neg (by omega)]
    exact listN_end (f := 0) (fun x => absurd x.1 (by decide))
  | r + 1, n, fuel, e, hr => by
    obtain ⟨fuel, rfl⟩ : ∃ q, fuel = q + 1 := ⟨fuel - 1, by omega⟩
    have ih := once_free (h := h) hM r (n + 1) fuel (by omega) (by omega)
    rw [if_pos (by omega), listN_go (lk := Newc.linked h M M) (f := ((h + n : Nat) : Int) + 1) (by omega) (by rw [linked_len]; omega)]
    have e1 : (((h + n : Nat) : Int) + 1 - 1).toNat = h + n := by omega
    have e2 : lo ((Newc.linked h M M).getD (h + n) 0) = if h + (n + 1) < M then ((h + (n + 1) : Nat) : Int) + 1 else 0 := by
      rw [List.getD_eq_getElem?_getD, List.getElem?_eq_getElem (by rw [linked_len]; omega)]
      simp only [Newc.linked, List.getElem_map, List.getElem_range, Option.getD_some]
      unfold lo
      by_cases h9 : h + (n + 1) < M
      · rw [if_pos ⟨by omega, by omega⟩, if_pos h9]; omega
      · rw [if_neg (fun x => h9 (by omega)), if_neg h9]; rfl
    rw [e1, e2, ih]
    have e3 : ((h + n : Nat) : Int) + 1 - 1 = ((h + n : Nat) : Int) := by omega
    rw [e3]
    rfl
/-- what ArenaOnce asks of a run -/
structure OnceE (h M : Nat) (s : RS) (fl : List Int) : Prop where
  free : listN 100 s.m.lk (lo s.m.f) = fl
  all : (fl ++ outsOf s.calls).Perm (intsFrom h (M - h))
  ends : ∀ c, c ∈ s.calls → c.to = -1 ∨ (0 ≤ c.to ∧ c.cd = 0) ∨ (0 ≤ c.to ∧ c.cd = 4 ∧ ∃ st, s.steps[c.to.toNat]? = some st ∧ lo st.was = 0)
theorem OnceR.fin {h T M n : Nat} {s : RS} (hM : M ≤ 64) (hs : OnceR h T M n s) : OnceE h M s (intsFrom (h + n) (M - (h + n))) := by
  refine ⟨?_, ?_, hs.ends⟩
  · have e : lo s.m.f = if h + n < M then ((h + n : Nat) : Int) + 1 else 0 := by
      rw [hs.m.f]
      by_cases h9 : h + n < M
      · rw [if_pos h9, lo_frW hM h9]
      · rw [if_neg h9, lo_frW0 h9]
    rw [hs.m.l, e]
    have := hs.m.n
    exact once_free hM _ _ _ (by omega) (by omega)
  · have := hs.m.n
    refine (List.Perm.append_left _ hs.outs).trans (List.perm_append_comm.trans ?_)
    unfold intsFrom
    rw [← List.map_append, show h + n = h + 1 * n by omega, List.range'_append, show n + (M - (h + 1 * n)) = M - h by omega]
theorem outs_take {l : List Ck} {i : Nat} {c : Ck} (h : l[i]? = some c) : outsOf (l.take (i + 1)) = outsOf (l.take i) ++ (outOf c).toList := by
  unfold outsOf
  rw [List.take_add_one, h, List.filterMap_append]
  show _ ++ List.filterMap outOf [c] = _
  rw [List.filterMap_cons]
  cases outOf c <;> rfl
theorem intsFrom_nodup (h n : Nat) : (intsFrom h n).Nodup := by
  unfold intsFrom
  refine List.Pairwise.map _ (fun a b hab e => hab (Int.ofNat.inj e)) (List.nodup_range' (step := 1))
theorem mem_intsFrom {h n : Nat} {v : Int} (hv : v ∈ intsFrom h n) : 0 ≤ v ∧ v < h + n := by
  unfold intsFrom at hv
  obtain ⟨a, ha, rfl⟩ := List.mem_map.1 hv
  have := List.mem_range'_1.1 ha
  show (0 : Int) ≤ (a : Int) ∧ (a : Int) < _
  omega
section
variable {h M : Nat} {s : RS} {fl : List Int}
theorem OnceE.nodup (hE : OnceE h M s fl) : (fl ++ outsOf s.calls).Nodup := hE.all.nodup_iff.2 (intsFrom_nodup _ _)
theorem OnceE.mem (hE : OnceE h M s fl) (hh : h ≤ M) {v : Int} (hv : v ∈ fl ++ outsOf s.calls) : 0 ≤ v ∧ v < M := by
  have := mem_intsFrom (hE.all.mem_iff.1 hv)
  omega
theorem OnceE.len (hE : OnceE h M s fl) : fl.length + (outsOf s.calls).length = M - h := by
  have := hE.all.length_eq
  rw [List.length_append] at this
  rw [this]
  simp [intsFrom]
theorem OnceE.fl_new (hE : OnceE h M s fl) {i : Nat} {v : Int} (hv : fl[i]? = some v) : v ∉ fl.take i := by
  intro hm
  have hn : fl.Nodup := (List.nodup_append.1 hE.nodup).1
  obtain ⟨j, hj⟩ := List.getElem?_of_mem hm
  have hji : j < i := by have := (List.getElem?_eq_some_iff.1 hj).1; rw [List.length_take] at this; omega
  rw [List.getElem?_take_of_lt hji] at hj
  have h1 := (List.getElem?_eq_some_iff.1 hv)
  obtain ⟨a1, a2⟩ := h1
  obtain ⟨b1, b2⟩ := List.getElem?_eq_some_iff.1 hj
  have := (List.pairwise_iff_getElem.1 hn) j i b1 a1 hji
  exact this (by rw [a2, b2])
theorem OnceE.out_new (hE : OnceE h M s fl) {i : Nat} {c : Ck} {v : Int} (hc : s.calls[i]? = some c) (hv : outOf c = some v) : v ∉ fl ++ outsOf (s.calls.take i) ∧ v ∈ fl ++ outsOf s.calls := by
  have e : s.calls = s.calls.take i ++ (c :: s.calls.drop (i + 1)) := by
    have h1 := (List.take_append_drop i s.calls).symm
    rw [List.drop_eq_getElem_cons (List.getElem?_eq_some_iff.1 hc).1, (List.getElem?_eq_some_iff.1 hc).2] at h1
    exact h1
  have e2 : outsOf s.calls = outsOf (s.calls.take i) ++ (v :: outsOf (s.calls.drop (i + 1))) := by
    rw [e]
    unfold outsOf
    rw [List.filterMap_append, List.filterMap_cons, hv]
    congr 1
    · rw [← e]
    · rw [← e]
  have hn := hE.nodup
  rw [e2, ← List.append_assoc] at hn
  constructor
  · intro hm
    have h1 := (List.nodup_append.1 hn).2.2 v hm v (by simp)
    exact h1 rfl
  · rw [e2]; simp
end
end Go.Proofs.Ytffppdcpiieapaa.Machc

set_option maxRecDepth 100000
namespace Go.Proofs.Ytffppdcpiieapaa.Machc
open Go.Proofs.Ytffppdcpiieapaa.Memc Go.Proofs.Ytffppdcpiieapaa.Newc Go.Proofs.Ytffppdcpiieapaa.Drivec Go.Proofs.Ytffppdcpiieapaa.Procc Go.Proofs.Ytffppdcpiieapaa.Arenac
set_option linter.unusedVariables false

/-! ### ArenaBack: one thread alone -/
/-- what of a call is asked for -/
def Ck.key (c : Ck) : Int × Int × Int × Int := (c.kd, c.vl, c.cd, c.ou)
/-- no call is on -/
structure SIdle (m : Memc.M) (a : Nat) (cs : List (Int × Int × Int × Int)) (s : RS) : Prop where
  m : s.m = m
  on : s.on.length = 1
  call : s.call = [-1]
  at_ : s.at_ = [(a : Int)]
  calls : s.calls.map Ck.key = cs
/-- a call is on -/
structure SBusy (m : Memc.M) (f : FS) (a : Nat) (cs : List (Int × Int × Int × Int)) (kd vl : Int) (s : RS) : Prop where
  m : s.m = m
  on : s.on = [f]
  call : s.call = [(cs.length : Int)]
  at_ : s.at_ = [(a : Int)]
  calls : ∃ l c, s.calls = l ++ [c] ∧ l.map Ck.key = cs ∧ c.kd = kd ∧ c.vl = vl
theorem sbusy_go {Z : Mac} {m : Memc.M} {f : FS} {a : Nat} {cs : List (Int × Int × Int × Int)} {kd vl : Int} {s : RS} (h : SBusy m f a cs kd vl s) {x : Memc.M × Int × Bool} (hx : acc m (Z.ask f) = x) {f' : FS} (hf : Z.tell f x.2.1 x.2.2 = f') :
    (¬ f'.pc = 0 → SBusy x.1 f' a cs kd vl (goR Z.ask Z.tell s 0)) ∧ (f'.pc = 0 → SIdle x.1 a (cs ++ [(kd, vl, f'.code, f'.out)]) (goR Z.ask Z.tell s 0)) := by
  obtain ⟨sm, son, scall, sat, sst, scs⟩ := s
  obtain ⟨rfl, rfl, rfl, rfl, l, c, rfl, hl, hk, hv⟩ := h
  have hll : cs.length = l.length := by rw [← hl, List.length_map]
  unfold goR
  simp only [List.getD_cons_zero, hx, hf]
  constructor
  · intro hp
    rw [if_neg hp, if_neg hp]
    exact ⟨rfl, rfl, rfl, rfl, l, c, rfl, hl, hk, hv⟩
  · intro hp
    rw [if_pos hp, if_pos hp]
    refine ⟨rfl, rfl, rfl, rfl, ?_⟩
    show ((l ++ [c]).set _ _).map Ck.key = _
    have e1 : ((cs.length : Int)).toNat = l.length := by omega
    rw [e1, List.set_append_right _ _ (Nat.le_refl _), Nat.sub_self, List.set_cons_zero, List.map_append, hl]
    congr 1
    have e2 : (l ++ [c]).getD l.length ⟨0, 0, 0, 0, 0, 0, 0⟩ = c := by
      rw [List.getD_eq_getElem?_getD, List.getElem?_concat_length]; rfl
    rw [e2]
    simp [Ck.key, endK, hk, hv]
theorem sidle_beg {m : Memc.M} {a : Nat} {cs : List (Int × Int × Int × Int)} {s : RS} (h : SIdle m a cs s) (f : FS) (kd vl : Int) : SBusy m f (a + 1) cs kd vl (begR s 0 f kd vl) := by
  obtain ⟨sm, son, scall, sat, sst, scs⟩ := s
  obtain ⟨rfl, h1, rfl, rfl, rfl⟩ := h
  simp only at h1
  obtain ⟨x, rfl⟩ := List.length_eq_one_iff.1 h1
  refine ⟨rfl, rfl, ?_, ?_, scs, _, rfl, rfl, rfl, rfl⟩
  · show [((scs.length : Nat) : Int)] = _
    rw [List.length_map]
  · show [((a : Nat) : Int) + 1] = [((a + 1 : Nat) : Int)]
    rw [Int.natCast_succ]
section
variable {Z : Mac} {ops : List (Int × Int)} {m : Memc.M} {f : FS} {a : Nat} {cs : List (Int × Int × Int × Int)} {kd vl : Int} {s : RS}
theorem sidle_turn (h : SIdle m a cs s) (ho : ops[a]? = some (kd, vl)) : turnM Z [ops] s 0 0 = goR Z.ask Z.tell (begR s 0 (Z.bg 0 kd vl 0) kd vl) 0 := by
  have hb := turnM_beg (Z := Z) (ls := [ops]) (s := s) (i := 0) (n := a) (l := ops) (o := (kd, vl)) 0 rfl (by rw [h.call]; rfl) (by rw [h.at_]; rfl) ho
  exact hb
theorem sidle_stay (h : SIdle m a cs s) (ho : ops.length ≤ a) : turnM Z [ops] s 0 0 = s := turnM_none (Z := Z) (ls := [ops]) (s := s) (i := 0) (n := a) (l := ops) 0 rfl (by rw [h.call]; rfl) (by rw [h.at_]; rfl) ho
theorem sbusy_turn (h : SBusy m f a cs kd vl s) : turnM Z [ops] s 0 0 = goR Z.ask Z.tell s 0 := turnM_on (Z := Z) (ls := [ops]) (s := s) (i := 0) (k := cs.length) 0 (by simp) (by rw [h.call]; rfl)
end
theorem acc_free (m : Memc.M) (n : Int) : acc m ⟨3, 2, 0, m.f, n⟩ = ({ m with f := n }, m.f, true) := by
  obtain ⟨s1, s2, s3⟩ := acc_swap m 2 0 m.f n
  have e0 : there m 2 0 := ⟨by decide, by show (0 : Int) < 1; decide⟩
  have e1 : get m 2 0 = m.f := rfl
  refine Prod.ext ?_ (Prod.ext ?_ ?_)
  · rw [s1, if_pos ⟨e0, e1⟩]; rfl
  · rw [s2, if_pos e0]; rfl
  · rw [s3]; exact decide_eq_true ⟨e0, e1⟩
/-- so many turns of the one thread -/
def solo (Z : Mac) (ops : List (Int × Int)) (q : Nat) (s : RS) : RS := runM Z [ops] s (List.replicate q (0, 0))
theorem solo_add (Z : Mac) (ops : List (Int × Int)) (a b : Nat) (s : RS) : solo Z ops (a + b) s = solo Z ops b (solo Z ops a s) := by
  unfold solo
  rw [← List.replicate_append_replicate, runM_app]
theorem solo_one (Z : Mac) (ops : List (Int × Int)) (s : RS) : solo Z ops 1 s = turnM Z [ops] s 0 0 := rfl
theorem solo_three (Z : Mac) (ops : List (Int × Int)) (s : RS) : solo Z ops 3 s = turnM Z [ops] (turnM Z [ops] (turnM Z [ops] s 0 0) 0 0) 0 0 := by
  rw [show (3 : Nat) = 1 + 1 + 1 from rfl, solo_add, solo_add, solo_one, solo_one, solo_one]
/-- a list of segments, by their links: the number of the first, and 1; nought: none -/
def chainL (lk : List Int) : Int → List Nat → Prop
  | v, [] => v = 0
  | v, x :: l => v = (x : Int) + 1 ∧ ∃ y, lk[x]? = some y ∧ chainL lk (lo y) l
theorem chainL_set {lk : List Int} {p : Nat} {u : Int} : ∀ {v : Int} {l : List Nat}, p ∉ l → chainL lk v l → chainL (lk.set p u) v l
  | v, [], _, h => h
  | v, x :: l, hp, ⟨h1, y, h2, h3⟩ => by
    refine ⟨h1, y, ?_, chainL_set (fun h => hp (List.mem_cons_of_mem _ h)) h3⟩
    rw [List.getElem?_set_ne (fun e => hp (by rw [e]; exact List.mem_cons_self))]
    exact h2
theorem lo_pk {h x : Int} : lo (pk h (lo x)) = lo x := by unfold lo pk; omega
theorem solo_take {k : Int} {K M : Nat} {ops : List (Int × Int)} {m : Memc.M} {a : Nat} {cs : List (Int × Int × Int × Int)} {s : RS} {x : Nat} {l : List Nat} (hx : x < 1000) (h : SIdle m a cs s) (ho : ops[a]? = some (4, 0)) (hc : chainL m.lk (lo m.f) (x :: l)) :
    ∃ m', SIdle m' (a + 1) (cs ++ [(4, 0, 0, (x : Int))]) (solo (docZ k K 1 M) ops 3 s) ∧ chainL m'.lk (lo m'.f) l ∧ m'.lk.length = m.lk.length := by
  obtain ⟨h1, y, h2, h3⟩ := hc
  have hxl : x < m.lk.length := (List.getElem?_eq_some_iff.1 h2).1
  obtain ⟨f0, hf0, p0, p1, p2, p3⟩ : ∃ f0 : FS, (docZ k K 1 M).bg 0 4 0 0 = f0 ∧ f0.pc = 90 ∧ f0.kd = 4 ∧ f0.code = 0 ∧ f0.out = 0 := ⟨_, rfl, rfl, rfl, rfl, rfl⟩
  obtain ⟨f1, hf1, q0, q1, q2, q3⟩ : ∃ f1 : FS, ({ f0 with w := m.f, pc := 91 } : FS) = f1 ∧ f1.pc = 91 ∧ f1.w = m.f ∧ f1.kd = 4 ∧ f1.code = 0 := ⟨_, rfl, rfl, rfl, p1, p2⟩
  obtain ⟨f2, hf2, r0, r1, r2, r3, r4⟩ : ∃ f2 : FS, ({ f1 with l := y, pc := 92 } : FS) = f2 ∧ f2.pc = 92 ∧ f2.w = m.f ∧ f2.kd = 4 ∧ f2.code = 0 ∧ f2.l = y := ⟨_, rfl, rfl, q1, q2, q3, rfl⟩
  obtain ⟨f3, hf3, u0, u1, u2⟩ : ∃ f3 : FS, ({ f2 with hold := pk (hi f2.l) (lo f2.w), out := dec (lo f2.w), pc := 0 } : FS) = f3 ∧ f3.pc = 0 ∧ f3.code = 0 ∧ f3.out = dec (lo f2.w) := ⟨_, rfl, rfl, r3, rfl⟩
  have b0 := sidle_beg h f0 4 0
  have x0 : acc m ((docZ k K 1 M).ask f0) = (m, m.f, false) := by
    show acc m (docAsk k K M f0) = _
    rw [ask90 p0, acc_read]; rfl
  have t0 : (docZ k K 1 M).tell f0 m.f false = f1 := by
    show docTell k K 1 M f0 m.f false = _
    rw [tell90 _ _ p0, if_neg (by omega)]; exact hf1
  have b1 := (sbusy_go b0 x0 t0).1 (by rw [q0]; decide)
  have x1 : acc m ((docZ k K 1 M).ask f1) = (m, y, false) := by
    show acc m (docAsk k K M f1) = _
    rw [ask91 q0, acc_read]
    have e : hnd f1.w = (x : Int) := by unfold hnd; rw [q1]; omega
    rw [e, if_pos ⟨by omega, by show (x : Int) < ((m.lk.length : Nat) : Int); omega⟩]
    have e2 : get m 7 (x : Int) = y := by
      show m.lk.getD ((x : Int)).toNat 0 = y
      rw [Int.toNat_natCast, List.getD_eq_getElem?_getD, h2]; rfl
    rw [e2]
  have t1 : (docZ k K 1 M).tell f1 y false = f2 := by
    rw [← hf2]
    exact tell91 (k := k) (K := K) (T := 1) (M := M) (f := f1) y false q0
  have b2 := (sbusy_go b1 x1 t1).1 (by rw [r0]; decide)
  have x2 : acc m ((docZ k K 1 M).ask f2) = ({ m with f := pk (up (hi m.f)) (lo y) }, m.f, true) := by
    show acc m (docAsk k K M f2) = _
    rw [ask92 r0, r1, r4]
    exact acc_free m _
  have t2 : (docZ k K 1 M).tell f2 m.f true = f3 := by
    show docTell k K 1 M f2 m.f true = _
    rw [tell92 _ _ r0, if_pos rfl, if_pos r2]; exact hf3
  have b3 := (sbusy_go b2 x2 t2).2 u0
  refine ⟨{ m with f := pk (up (hi m.f)) (lo y) }, ?_, ?_, rfl⟩
  · have e : solo (docZ k K 1 M) ops 3 s = goR (docZ k K 1 M).ask (docZ k K 1 M).tell (goR (docZ k K 1 M).ask (docZ k K 1 M).tell (goR (docZ k K 1 M).ask (docZ k K 1 M).tell (begR s 0 f0 4 0) 0) 0) 0 := by
      rw [solo_three, sidle_turn h ho, hf0]
      change turnM (docZ k K 1 M) [ops] (turnM (docZ k K 1 M) [ops] (goR (docZ k K 1 M).ask (docZ k K 1 M).tell (begR s 0 f0 4 0) 0) 0 0) 0 0 = _
      rw [sbusy_turn b1, sbusy_turn b2]
    rw [e]
    have e3 : (0, f3.out) = ((0 : Int), (x : Int)) := by
      rw [u2, r1]
      unfold dec
      rw [h1]
      congr 1
      omega
    have e4 : f3.code = 0 := u1
    rw [e4, e3] at b3
    exact b3
  · show chainL m.lk (lo (pk (up (hi m.f)) (lo y))) l
    rw [lo_pk]
    exact h3
theorem solo_give {k : Int} {K M : Nat} {ops : List (Int × Int)} {m : Memc.M} {a : Nat} {cs : List (Int × Int × Int × Int)} {s : RS} {v : Nat} {l : List Nat} (hM : M ≤ 64) (hlk : m.lk.length = M) (hv : v < M) (hvl : v ∉ l) (h : SIdle m a cs s) (ho : ops[a]? = some (5, (v : Int))) (hc : chainL m.lk (lo m.f) l) :
    ∃ m', SIdle m' (a + 1) (cs ++ [(5, (v : Int), 0, 0)]) (solo (docZ k K 1 M) ops 3 s) ∧ chainL m'.lk (lo m'.f) (v :: l) ∧ m'.lk.length = m.lk.length := by
  have hvm : (v : Int) % M = v := Int.emod_eq_of_lt (by omega) (by omega)
  obtain ⟨f0, hf0, p0, p1, p2, p3, p4⟩ : ∃ f0 : FS, (docZ k K 1 M).bg 0 5 (v : Int) 0 = f0 ∧ f0.pc = 95 ∧ f0.give = (v : Int) % M + 1 ∧ f0.code = 0 ∧ f0.out = 0 ∧ f0.back = 0 := ⟨_, rfl, rfl, rfl, rfl, rfl, rfl⟩
  let f1 : FS := { f0 with w := m.f, pc := 96 }
  let f2 : FS := { f1 with pc := 97 }
  let f3 : FS := { f2 with pc := f2.back }
  have hg : f0.give = (v : Int) + 1 := by rw [p1, hvm]
  have b0 := sidle_beg h f0 5 (v : Int)
  have x0 : acc m ((docZ k K 1 M).ask f0) = (m, m.f, false) := by
    show acc m (docAsk k K M f0) = _
    rw [ask95 p0, acc_read]; rfl
  have t0 : (docZ k K 1 M).tell f0 m.f false = f1 := tell95 (k := k) (K := K) (T := 1) (M := M) (f := f0) m.f false p0
  have b1 := (sbusy_go b0 x0 t0).1 (by show ¬ (96 : Int) = 0; decide)
  have x1 : (acc m ((docZ k K 1 M).ask f1)).1 = { m with lk := m.lk.set v (pk (hi f0.give) (lo m.f)) } := by
    show (acc m (docAsk k K M f1)).1 = _
    rw [ask96 rfl, acc_write]
    have e : hnd f1.give = (v : Int) := by show lo f0.give - 1 = _; rw [hg]; unfold lo; omega
    rw [e, if_pos ⟨by omega, by show (v : Int) < ((m.lk.length : Nat) : Int); omega⟩]
    show { m with lk := m.lk.set ((v : Int)).toNat _ } = _
    rw [Int.toNat_natCast]
  have t1 : (docZ k K 1 M).tell f1 (acc m ((docZ k K 1 M).ask f1)).2.1 (acc m ((docZ k K 1 M).ask f1)).2.2 = f2 := tell96 (k := k) (K := K) (T := 1) (M := M) (f := f1) (acc m ((docZ k K 1 M).ask f1)).2.1 (acc m ((docZ k K 1 M).ask f1)).2.2 rfl
  have b2 := (sbusy_go b1 rfl t1).1 (by show ¬ (97 : Int) = 0; decide)
  rw [x1] at b2
  have x2 : acc { m with lk := m.lk.set v (pk (hi f0.give) (lo m.f)) } ((docZ k K 1 M).ask f2) = ({ m with lk := m.lk.set v (pk (hi f0.give) (lo m.f)), f := pk (up (hi m.f)) (lo f0.give) }, m.f, true) := by
    show acc _ (docAsk k K M f2) = _
    rw [ask97 rfl]
    exact acc_free { m with lk := m.lk.set v (pk (hi f0.give) (lo m.f)) } _
  have t2 : (docZ k K 1 M).tell f2 m.f true = f3 := by
    show docTell k K 1 M f2 m.f true = _
    rw [tell97 _ _ rfl, if_pos rfl, if_neg (show ¬ f2.back = 87 from (by show ¬ f0.back = 87; rw [p4]; decide))]
  have b3 := (sbusy_go b2 x2 t2).2 p4
  refine ⟨{ m with lk := m.lk.set v (pk (hi f0.give) (lo m.f)), f := pk (up (hi m.f)) (lo f0.give) }, ?_, ?_, by simp⟩
  · have e : solo (docZ k K 1 M) ops 3 s = goR (docZ k K 1 M).ask (docZ k K 1 M).tell (goR (docZ k K 1 M).ask (docZ k K 1 M).tell (goR (docZ k K 1 M).ask (docZ k K 1 M).tell (begR s 0 f0 5 (v : Int)) 0) 0) 0 := by
      rw [solo_three, sidle_turn h ho, hf0]
      change turnM (docZ k K 1 M) [ops] (turnM (docZ k K 1 M) [ops] (goR (docZ k K 1 M).ask (docZ k K 1 M).tell (begR s 0 f0 5 (v : Int)) 0) 0 0) 0 0 = _
      rw [sbusy_turn b1, sbusy_turn b2]
    rw [e]
    have e5 : f3.code = 0 := p2
    have e6 : f3.out = 0 := p3
    rw [e5, e6] at b3
    exact b3
  · show chainL (m.lk.set v (pk (hi f0.give) (lo m.f))) (lo (pk (up (hi m.f)) (lo f0.give))) (v :: l)
    refine ⟨?_, pk (hi f0.give) (lo m.f), List.getElem?_set_self (by omega), ?_⟩
    · rw [lo_pk, hg]; unfold lo; omega
    · rw [lo_pk]
      exact chainL_set hvl hc
theorem solo_nomem {k : Int} {K M : Nat} {ops : List (Int × Int)} {m : Memc.M} {a : Nat} {cs : List (Int × Int × Int × Int)} {s : RS} (h : SIdle m a cs s) (ho : ops[a]? = some (4, 0)) (hc : chainL m.lk (lo m.f) []) :
    SIdle m (a + 1) (cs ++ [(4, 0, 4, 0)]) (solo (docZ k K 1 M) ops 1 s) := by
  obtain ⟨f0, hf0, p0, p1, p2, p3⟩ : ∃ f0 : FS, (docZ k K 1 M).bg 0 4 0 0 = f0 ∧ f0.pc = 90 ∧ f0.kd = 4 ∧ f0.code = 0 ∧ f0.out = 0 := ⟨_, rfl, rfl, rfl, rfl, rfl⟩
  have b0 := sidle_beg h f0 4 0
  have x0 : acc m ((docZ k K 1 M).ask f0) = (m, m.f, false) := by
    show acc m (docAsk k K M f0) = _
    rw [ask90 p0, acc_read]; rfl
  have t0 : (docZ k K 1 M).tell f0 m.f false = f0.ends k 4 := by
    show docTell k K 1 M f0 m.f false = _
    rw [tell90 _ _ p0, if_pos (show lo m.f = 0 from hc)]
  have b1 := (sbusy_go b0 x0 t0).2 (by
    show (if ¬ f0.hold = 0 ∧ ¬ f0.kd = 4 then (19 : Int) else if k = 2 ∨ f0.kd = 4 then 0 else 4) = 0
    rw [if_neg (fun x => x.2 p1), if_pos (.inr p1)])
  rw [solo_one, sidle_turn h ho, hf0]
  have e5 : (f0.ends k 4).code = 4 := rfl
  have e6 : (f0.ends k 4).out = 0 := p3
  rw [e5, e6] at b1
  exact b1
theorem solo_takes {k : Int} {K M : Nat} {ops : List (Int × Int)} {r : List Nat} : ∀ (l : List Nat) (m : Memc.M) (a : Nat) (cs : List (Int × Int × Int × Int)) (s : RS), (∀ x ∈ l, x < 1000) → SIdle m a cs s → (∀ j, j < l.length → ops[a + j]? = some (4, 0)) → chainL m.lk (lo m.f) (l ++ r) →
    ∃ m', SIdle m' (a + l.length) (cs ++ l.map fun x : Nat => ((4 : Int), (0 : Int), (0 : Int), (x : Int))) (solo (docZ k K 1 M) ops (3 * l.length) s) ∧ chainL m'.lk (lo m'.f) r ∧ m'.lk.length = m.lk.length
  | [], m, a, cs, s, _, h, _, hc => ⟨m, by rw [List.map_nil, List.append_nil]; exact h, hc, rfl⟩
  | x :: l, m, a, cs, s, hx, h, ho, hc => by
    obtain ⟨m1, h1, c1, n1⟩ := solo_take (k := k) (K := K) (M := M) (hx x List.mem_cons_self) h (ho 0 (by simp)) hc
    obtain ⟨m2, h2, c2, n2⟩ := solo_takes (k := k) (K := K) (M := M) (r := r) l m1 (a + 1) _ _ (fun y hy => hx y (List.mem_cons_of_mem _ hy)) h1 (fun j hj => by
      have := ho (j + 1) (by rw [List.length_cons]; omega)
      rw [show a + 1 + j = a + (j + 1) by omega]; exact this) c1
    refine ⟨m2, ?_, c2, by rw [n2, n1]⟩
    rw [List.length_cons, show 3 * (l.length + 1) = 3 + 3 * l.length by omega, solo_add, List.map_cons, show a + (l.length + 1) = a + 1 + l.length by omega]
    rw [List.append_assoc] at h2
    exact h2
theorem solo_gives {k : Int} {K M : Nat} {ops : List (Int × Int)} (hM : M ≤ 64) : ∀ (l r : List Nat) (m : Memc.M) (a : Nat) (cs : List (Int × Int × Int × Int)) (s : RS), m.lk.length = M → (∀ x ∈ l, x < M) → (l.reverse ++ r).Nodup → SIdle m a cs s → (∀ (j v : Nat), l[j]? = some v → ops[a + j]? = some (5, (v : Int))) → chainL m.lk (lo m.f) r →
    ∃ m', SIdle m' (a + l.length) (cs ++ l.map fun x : Nat => ((5 : Int), (x : Int), (0 : Int), (0 : Int))) (solo (docZ k K 1 M) ops (3 * l.length) s) ∧ chainL m'.lk (lo m'.f) (l.reverse ++ r) ∧ m'.lk.length = M
  | [], r, m, a, cs, s, hlk, _, _, h, _, hc => ⟨m, by rw [List.map_nil, List.append_nil]; exact h, hc, hlk⟩
  | x :: l, r, m, a, cs, s, hlk, hx, hn, h, ho, hc => by
    rw [List.reverse_cons, List.append_assoc] at hn
    have hxr : x ∉ r := by
      have h1 := (List.nodup_append.1 hn).2.1
      exact (List.nodup_cons.1 h1).1
    obtain ⟨m1, h1, c1, n1⟩ := solo_give (k := k) (K := K) (M := M) hM hlk (hx x List.mem_cons_self) hxr h (ho 0 x rfl) hc
    obtain ⟨m2, h2, c2, n2⟩ := solo_gives (k := k) (K := K) (M := M) hM l (x :: r) m1 (a + 1) _ _ (by rw [n1]; exact hlk) (fun y hy => hx y (List.mem_cons_of_mem _ hy)) hn h1 (fun j v hj => by
      have := ho (j + 1) v hj
      rw [show a + 1 + j = a + (j + 1) by omega]; exact this) c1
    refine ⟨m2, ?_, ?_, n2⟩
    · rw [List.length_cons, show 3 * (l.length + 1) = 3 + 3 * l.length by omega, solo_add, List.map_cons, show a + (l.length + 1) = a + 1 + l.length by omega]
      rw [List.append_assoc] at h2
      exact h2
    · rw [List.reverse_cons, List.append_assoc]
      exact c2
theorem solo_stay {Z : Mac} {ops : List (Int × Int)} {m : Memc.M} {a : Nat} {cs : List (Int × Int × Int × Int)} {s : RS} (h : SIdle m a cs s) (ho : ops.length ≤ a) : ∀ q, solo Z ops q s = s
  | 0 => rfl
  | q + 1 => by
    rw [show q + 1 = 1 + q by omega, solo_add, solo_one, sidle_stay h ho]
    exact solo_stay h ho q
/-- the segments at first, as a chain -/
theorem chain_first {h M : Nat} (hM : M ≤ 64) : ∀ (r j : Nat), h ≤ j → j + r = M → chainL (Newc.linked h M M) (if 0 < r then (j : Int) + 1 else 0) (List.range' j r)
  | 0, j, _, _ => rfl
  | r + 1, j, hj, e => by
    rw [if_pos (by omega)]
    refine ⟨rfl, _, List.getElem?_eq_getElem (by rw [linked_len]; omega), ?_⟩
    have ih := chain_first (h := h) hM r (j + 1) (by omega) (by omega)
    simp only [Newc.linked, List.getElem_map, List.getElem_range]
    have e1 : lo (if h ≤ j ∧ j + 1 < M then (j : Int) + 2 else 0) = if 0 < r then ((j + 1 : Nat) : Int) + 1 else 0 := by
      by_cases h9 : j + 1 < M
      · rw [if_pos ⟨hj, h9⟩, if_pos (by omega)]; unfold lo; omega
      · rw [if_neg (fun x => h9 x.2), if_neg (by omega)]; rfl
    rw [e1]
    exact ih
/-- the calls: so many are taken, given back in an order, and taken anew, and one more -/
def backOps (n : Nat) (g : List Nat) : List (Int × Int) := List.replicate n (4, 0) ++ (g.map fun v : Nat => ((5 : Int), (v : Int))) ++ List.replicate (n + 1) (4, 0)
def backKeys (h n : Nat) (g : List Nat) : List (Int × Int × Int × Int) := ((List.range' h n).map fun x : Nat => ((4 : Int), (0 : Int), (0 : Int), (x : Int))) ++ (g.map fun x : Nat => ((5 : Int), (x : Int), (0 : Int), (0 : Int))) ++ (g.reverse.map fun x : Nat => ((4 : Int), (0 : Int), (0 : Int), (x : Int))) ++ [(4, 0, 4, 0)]
theorem back_run {k : Int} {K M n : Nat} {g : List Nat} (hk : k = 1 ∨ k = 3) (m1 : 2 ≤ M) (hM : M ≤ 64) (hn : (if k = 1 then 1 else 0) + n = M) (hg : g.length = n) (hgM : ∀ x ∈ g, x < M) (hgn : g.Nodup) :
    ∃ s, runM (docZ k K 1 M) [backOps n g] (RS.first (newM k K 1 M) 1) (List.replicate (9 * n + 9) (0, 0)) = s ∧ s.calls.map Ck.key = backKeys (if k = 1 then 1 else 0) n g ∧ lo s.m.f = 0 := by
  have h0 : SIdle (newM k K 1 M) 0 [] (RS.first (newM k K 1 M) 1) := ⟨rfl, rfl, rfl, rfl, rfl⟩
  have c0 : chainL (newM k K 1 M).lk (lo (newM k K 1 M).f) (List.range' (if k = 1 then 1 else 0) n ++ []) := by
    rw [List.append_nil]
    rcases hk with rfl | rfl
    · have := chain_first (h := 1) (M := M) hM n 1 (Nat.le_refl _) hn
      rw [if_pos (by have : 1 + n = M := hn; omega)] at this
      exact this
    · have := chain_first (h := 0) (M := M) hM n 0 (Nat.le_refl _) hn
      rw [if_pos (by have : 0 + n = M := hn; omega)] at this
      exact this
  have l0 : (newM k K 1 M).lk.length = M := linked_len _ _ _
  have hlen : (backOps n g).length = 3 * n + 1 := by unfold backOps; simp [hg]; omega
  obtain ⟨a1, i1, c1, n1⟩ := solo_takes (k := k) (K := K) (M := M) (ops := backOps n g) (r := []) (List.range' (if k = 1 then 1 else 0) n) _ 0 [] _ (fun x hx => by have := List.mem_range'_1.1 hx; omega) h0 (fun j hj => by
    rw [List.length_range'] at hj
    unfold backOps
    rw [Nat.zero_add, List.append_assoc, List.getElem?_append_left (by rw [List.length_replicate]; exact hj), List.getElem?_replicate, if_pos hj]) c0
  rw [List.length_range'] at i1
  obtain ⟨a2, i2, c2, n2⟩ := solo_gives (k := k) (K := K) (M := M) (ops := backOps n g) hM g [] a1 (0 + n) _ _ (by rw [n1]; exact l0) hgM (by rw [List.append_nil]; exact List.pairwise_reverse.2 (hgn.imp Ne.symm)) i1 (fun j v hj => by
    have hjl := (List.getElem?_eq_some_iff.1 hj).1
    unfold backOps
    rw [List.append_assoc, List.getElem?_append_right (by rw [List.length_replicate]; omega), List.length_replicate, show 0 + n + j - n = j by omega, List.getElem?_append_left (by rw [List.length_map]; exact hjl), List.getElem?_map, hj]
    rfl) c1
  have ho3 : ∀ j, j < n + 1 → (backOps n g)[n + n + j]? = some (4, 0) := fun j hj => by
    unfold backOps
    rw [List.getElem?_append_right (by rw [List.length_append, List.length_replicate, List.length_map]; omega), List.length_append, List.length_replicate, List.length_map, hg, show n + n + j - (n + n) = j by omega, List.getElem?_replicate, if_pos hj]
  obtain ⟨a3, i3, c3, n3⟩ := solo_takes (k := k) (K := K) (M := M) (ops := backOps n g) (r := []) g.reverse a2 _ _ _ (fun x hx => by have := hgM x (List.mem_reverse.1 hx); omega) i2 (fun j hj => by
    rw [List.length_reverse, hg] at hj
    have := ho3 j (by omega)
    rw [hg, Nat.zero_add]
    exact this) c2
  have i4 := solo_nomem (k := k) (K := K) (M := M) (ops := backOps n g) i3 (by
    have := ho3 n (by omega)
    rw [List.length_reverse, hg, Nat.zero_add]
    exact this) c3
  have i5 := solo_stay (Z := docZ k K 1 M) (ops := backOps n g) i4 (by rw [hlen, List.length_reverse, hg]; omega) 8
  refine ⟨_, rfl, ?_⟩
  have e : runM (docZ k K 1 M) [backOps n g] (RS.first (newM k K 1 M) 1) (List.replicate (9 * n + 9) (0, 0)) = solo (docZ k K 1 M) (backOps n g) 8 (solo (docZ k K 1 M) (backOps n g) 1 (solo (docZ k K 1 M) (backOps n g) (3 * g.reverse.length) (solo (docZ k K 1 M) (backOps n g) (3 * g.length) (solo (docZ k K 1 M) (backOps n g) (3 * n) (RS.first (newM k K 1 M) 1))))) := by
    rw [← solo_add, ← solo_add, ← solo_add, ← solo_add, List.length_reverse, hg, show 3 * n + (3 * n + (3 * n + (1 + 8))) = 9 * n + 9 by omega]
    rfl
  rw [e, i5]
  refine ⟨?_, ?_⟩
  · rw [i4.calls]
    rfl
  · rw [i4.m]
    exact c3
end Go.Proofs.Ytffppdcpiieapaa.Machc

namespace Go.Proofs.Ytffppdcpiieapaa.Drivec
open Go.ChangeShapes Go.WideShapes Go.RowKit Go.Deep Go.Proofs.Ytffppdcpiieapaa.Wordc Go.Proofs.Ytffppdcpiieapaa.Memc Go.Proofs.Ytffppdcpiieapaa.Procc
set_option linter.unusedVariables false
set_option maxRecDepth 100000

section
variable {H : Type} {enc : TypeId × Value → H} {w : World} {base : Nat} {spare : Nat → Bool} {held : Bool}
theorem open_op {n : Nat} {cs : List Value} {x : DataW H × List MemPlace} (h : DataW.trod enc Try.prog w base spare held n 63 cs = some x) : ∃ p : Int × Int, cs = pcells p ∧ (-9223372036854775808 ≤ p.1 ∧ p.1 ≤ 9223372036854775807) ∧ (0 ≤ p.2 ∧ p.2 ≤ 4294967295) := by
  obtain ⟨zs, n2, _, _, hcl2, hlen2, hg2⟩ := DataW.trod_struct Try.underlying63 h
  have hc2 : Try.prog.cellsOf 63 = 2 := by kernel_rfl
  have ki : Try.prog.cellsOf 3 = 1 := by kernel_rfl
  have ku : Try.prog.cellsOf 50 = 1 := by kernel_rfl
  rw [hc2] at hcl2
  match cs, hcl2 with
  | [a1, a2], _ =>
    match zs, hlen2 with
    | [z0, z1], _ =>
        have f0 : DataW.trod enc Try.prog w base spare held n2 3 (([a1, a2].drop 0).take (Try.prog.cellsOf 3)) = some z0 := hg2 0 _ rfl
        rw [ki] at f0
        have f1 : DataW.trod enc Try.prog w base spare held n2 50 (([a1, a2].drop 1).take (Try.prog.cellsOf 50)) = some z1 := hg2 1 _ rfl
        rw [ku] at f1
        obtain ⟨x1, e1, w1⟩ := open_num Try.underlying3 f0
        obtain ⟨x2, e2, w2⟩ := open_num Try.underlying50 f1
        exact ⟨⟨x1, x2⟩, by simp [pcells, e1, e2], fit_i64 w1, fit_u32 w2⟩
theorem open_pick2 {n : Nat} {cs : List Value} {x : DataW H × List MemPlace} (h : DataW.trod enc Try.prog w base spare held n 65 cs = some x) : ∃ p : Int × Int, cs = pcells p ∧ (-9223372036854775808 ≤ p.1 ∧ p.1 ≤ 9223372036854775807) ∧ (0 ≤ p.2 ∧ p.2 ≤ 4294967295) := by
  obtain ⟨zs, n2, _, _, hcl2, hlen2, hg2⟩ := DataW.trod_struct Try.underlying65 h
  have hc2 : Try.prog.cellsOf 65 = 2 := by kernel_rfl
  have ki : Try.prog.cellsOf 3 = 1 := by kernel_rfl
  have ku : Try.prog.cellsOf 50 = 1 := by kernel_rfl
  rw [hc2] at hcl2
  match cs, hcl2 with
  | [a1, a2], _ =>
    match zs, hlen2 with
    | [z0, z1], _ =>
        have f0 : DataW.trod enc Try.prog w base spare held n2 3 (([a1, a2].drop 0).take (Try.prog.cellsOf 3)) = some z0 := hg2 0 _ rfl
        rw [ki] at f0
        have f1 : DataW.trod enc Try.prog w base spare held n2 50 (([a1, a2].drop 1).take (Try.prog.cellsOf 50)) = some z1 := hg2 1 _ rfl
        rw [ku] at f1
        obtain ⟨x1, e1, w1⟩ := open_num Try.underlying3 f0
        obtain ⟨x2, e2, w2⟩ := open_num Try.underlying50 f1
        exact ⟨⟨x1, x2⟩, by simp [pcells, e1, e2], fit_i64 w1, fit_u32 w2⟩
/-- values that are numbers of 32 bits -/
def Val32 (l : List (Int × Int)) : Prop := ∀ o ∈ l, 0 ≤ o.2 ∧ o.2 ≤ 4294967295
theorem open_opl {n : Nat} {cs : List Value} {x : DataW H × List MemPlace} (h : DataW.trod enc Try.prog w base spare held n 61 cs = some x) : ∃ y : Sl × List (Int × Int), cs = [.slice y.1.A y.1.n y.1.c] ∧ RdO w w.heap.size y.1 y.2 ∧ Val32 y.2 := by
  obtain ⟨s, l, hcs, h1, h2, h3, h4, h5⟩ := open_rows Try.underlying61 pcells 2 (by kernel_rfl) (by omega) (fun p => (-9223372036854775808 ≤ p.1 ∧ p.1 ≤ 9223372036854775807) ∧ (0 ≤ p.2 ∧ p.2 ≤ 4294967295)) (fun n cs x h => open_op h) (fun _ => rfl) h
  refine ⟨⟨s, l⟩, hcs, ⟨h1, h2, h3, fun hn => ?_⟩, fun o ho => (h4 o ho).2⟩
  obtain ⟨b, off, e, hlt, hc⟩ := h5 hn
  exact ⟨b, off, e, hlt, fun i x hx => ⟨hc i x hx 0 _ rfl, hc i x hx 1 _ rfl⟩⟩
theorem open_ops {r : Reach} {b0 : Nat} {v : Value} {d : DataW H} {p : List MemPlace} (hv : Value.okWide Try.prog w r b0 44 v) (h : DataW.Trod enc Try.prog w base spare held 44 v d p) :
    ∃ (s : Sl) (l : List (List (Int × Int))), v = .slice s.A s.n s.c ∧ RdLO w w.heap.size s l ∧ ∀ x ∈ l, Val32 x := by
  obtain ⟨a0, len0, cap0, rfl⟩ := okWide_slice Try.underlying44 hv
  obtain ⟨fuel, hf⟩ := h
  obtain ⟨s, l, hcs, h1, h2, h3, h4, h5⟩ := open_rows Try.underlying44 (fun y : Sl × List (Int × Int) => [.slice y.1.A y.1.n y.1.c]) 1 (by kernel_rfl) (by omega) (fun y => RdO w w.heap.size y.1 y.2 ∧ Val32 y.2) (fun n cs x h => open_opl h) (fun _ => rfl) hf
  simp [Value.cells] at hcs
  obtain ⟨rfl, rfl, rfl⟩ := hcs
  refine ⟨s, l.map (·.2), rfl, ⟨by rw [List.length_map]; exact h1, h2, h3, fun hn => ?_⟩, fun x hx => ?_⟩
  · obtain ⟨b, off, e, hlt, hc⟩ := h5 hn
    refine ⟨b, off, e, hlt, fun i x hx => ?_⟩
    rw [List.getElem?_map] at hx
    rcases hy : l[i]? with _ | y
    · rw [hy] at hx; cases hx
    · rw [hy] at hx
      injection hx with hx
      subst hx
      have := hc i y hy 0 _ rfl
      rw [Nat.mul_one, Nat.add_zero] at this
      exact ⟨y.1, this, (h4 y (List.mem_of_getElem? hy)).1⟩
  · obtain ⟨y, hy, rfl⟩ := List.mem_map.1 hx
    exact (h4 y hy).2
theorem open_picks2 {r : Reach} {b0 : Nat} {v : Value} {d : DataW H} {p : List MemPlace} (hv : Value.okWide Try.prog w r b0 25 v) (h : DataW.Trod enc Try.prog w base spare held 25 v d p) :
    ∃ (s : Sl) (l : List (Int × Int)), v = .slice s.A s.n s.c ∧ RdP w w.heap.size s l ∧ Val32 l := by
  obtain ⟨a0, len0, cap0, rfl⟩ := okWide_slice Try.underlying25 hv
  obtain ⟨fuel, hf⟩ := h
  obtain ⟨s, l, hcs, h1, h2, h3, h4, h5⟩ := open_rows Try.underlying25 pcells 2 (by kernel_rfl) (by omega) (fun p => (-9223372036854775808 ≤ p.1 ∧ p.1 ≤ 9223372036854775807) ∧ (0 ≤ p.2 ∧ p.2 ≤ 4294967295)) (fun n cs x h => open_pick2 h) (fun _ => rfl) hf
  simp [Value.cells] at hcs
  obtain ⟨rfl, rfl, rfl⟩ := hcs
  refine ⟨s, l, rfl, ⟨h1, h2, h3, fun x hx => (h4 x hx).1, fun hn => ?_⟩, fun x hx => (h4 x hx).2⟩
  obtain ⟨b, off, e, hlt, hc⟩ := h5 hn
  exact ⟨b, off, e, hlt, fun i x hx => ⟨hc i x hx 0 _ rfl, hc i x hx 1 _ rfl⟩⟩
end
end Go.Proofs.Ytffppdcpiieapaa.Drivec

namespace Go.Proofs.Ytffppdcpiieapaa.Opencfg
open Go.ChangeShapes Go.WideShapes Go.RowKit Go.Proofs.Ytffppdcpiieapaa.Memc Go.Proofs.Ytffppdcpiieapaa.Newc Go.Proofs.Ytffppdcpiieapaa.Wordc
set_option linter.unusedVariables false
set_option maxRecDepth 100000

theorem open_cfg {H : Type} {enc : TypeId × Value → H} {w : World} {base : Nat} {spare : Nat → Bool} {held : Bool} {r : Reach} {b0 : Nat} {v : Value} {d : DataW H} {p : List MemPlace}
    (hv : Value.okWide Try.prog w r b0 23 v) (h : DataW.Trod enc Try.prog w base spare held 23 v d p) :
    ∃ k K T M : Int, v = .agg #[.int .i64 k, .int .i64 K, .int .i64 T, .int .i64 M] ∧ (-9223372036854775808 ≤ k ∧ k ≤ 9223372036854775807) ∧ (-9223372036854775808 ≤ K ∧ K ≤ 9223372036854775807) ∧ (-9223372036854775808 ≤ T ∧ T ≤ 9223372036854775807) ∧ (-9223372036854775808 ≤ M ∧ M ≤ 9223372036854775807) := by
  obtain ⟨cs, rfl, hsz, n, hf⟩ := open_fields Try.underlying23 (by kernel_rfl) (by kernel_rfl) hv h
  obtain ⟨c0, y0, e0, t0⟩ := hf 0 _ rfl
  obtain ⟨c1, y1, e1, t1⟩ := hf 1 _ rfl
  obtain ⟨c2, y2, e2, t2⟩ := hf 2 _ rfl
  obtain ⟨c3, y3, e3, t3⟩ := hf 3 _ rfl
  obtain ⟨x0, rfl, w0⟩ := open_num Try.underlying3 t0
  obtain ⟨x1, rfl, w1⟩ := open_num Try.underlying3 t1
  obtain ⟨x2, rfl, w2⟩ := open_num Try.underlying3 t2
  obtain ⟨x3, rfl, w3⟩ := open_num Try.underlying3 t3
  refine ⟨x0, x1, x2, x3, ?_, fit_i64 w0, fit_i64 w1, fit_i64 w2, fit_i64 w3⟩
  have hs5 : cs.size = 4 := hsz
  congr 1
  apply Array.ext
  · simp [hs5]
  · intro i h1 h2
    have hi : i < 4 := by omega
    have hc : cs[i]? = some cs[i] := Array.getElem?_eq_getElem h1
    rcases (show i = 0 ∨ i = 1 ∨ i = 2 ∨ i = 3 by omega) with rfl | rfl | rfl | rfl
    · exact Option.some.inj (hc.symm.trans e0)
    · exact Option.some.inj (hc.symm.trans e1)
    · exact Option.some.inj (hc.symm.trans e2)
    · exact Option.some.inj (hc.symm.trans e3)
end Go.Proofs.Ytffppdcpiieapaa.Opencfg
